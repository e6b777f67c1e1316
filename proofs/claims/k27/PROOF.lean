import PyProof.Rows.All
import Wide.All
import OpenK.AllK
import Wide.FinOn
import HandS.ForMost
import HandS.Wide
import HandS.IsInst
import HandS.ClsMeth
import HandS.Property
import HandS.FStr
import HandS.Defaults
import HandS.MakeKw
import HandS.MakeKwOnly
import HandS.Style
import HandS.StrMore
import PyProof.ReprRoads
import HandS.ForExc
import HandS.ExcIs
import HandS.ExcField
import HandS.ExcInit
import HandS.ExcValue
import HandS.Set
import HandS.Strs
import HandS.Zip
import HandS.SetBool
import HandS.DictComp
import HandS.Walk
import HandS.Dict
import KE.DataMinMax
import HandS.SortKw
import HandS.Deep
import HandS.SetFor
import HandS.OwnEq
import HandS.NamedTupSort
import PyProof.NeKinds
import PyProof.InstEq
import PyProof.ReprBulk
import PySem.Challenge.RW_indexlogs_k27_certificates_judged
set_option Elab.async false
set_option linter.all false
set_option maxRecDepth 100000
set_option maxHeartbeats 4000000
/-! Own layer: more rules over the hand layer. -/
namespace L2
open ClX
open PySem PySem.Spec PyProof.Rows

/-! ### operators of more than one kind -/
section
variable {X : Cx}
def rAddX : R2 := fun x y H Q => rI0 (fun i j => .int (i + j)) x y H Q ∨ (∃ i j, x = .str i ∧ y = .str j ∧ i.length + j.length ≤ sizeLine ∧ Q (.str (i ++ j)) H) ∨ rCat x y H Q
theorem op_addX : OpR X (binaryOp .Add) rAddX := op_add.or (op_add_str.or op_cat)
def rMulX : R2 := fun x y H Q => rI CMulW (fun i j => .int (i * j)) x y H Q ∨ rRep x y H Q
theorem op_mulX : OpR X (binaryOp .Mult) rMulX := op_mulW.or op_rep
def CPowW (i j : Int) : Prop := 0 ≤ j ∧ j ≤ 1000 ∧ i.natAbs.log2 < 2000
theorem op_powX : OpR X (binaryOp .Pow) (rI CPowW fun i j => .int (i ^ j.toNat)) := opI fun i j _ _ _ _ _ hc q => by
  obtain ⟨h0, h1, h2⟩ := hc
  have b : Builtin.Int.intBits i ≤ 2000 := by
    unfold Builtin.Int.intBits
    split <;> omega
  refine pow_int h0 ?_ q
  have hh : Builtin.Int.intBits i * j.toNat ≤ 2000 * 1000 := Nat.mul_le_mul b (by omega)
  have : ((Builtin.Int.intBits i : Nat) : Int) * j = ((Builtin.Int.intBits i * j.toNat : Nat) : Int) := by
    rw [Int.natCast_mul, Int.toNat_of_nonneg h0]
  rw [this]
  omega
theorem cpow {i j : Int} {b : Nat} (h0 : 0 ≤ j) (h1 : j ≤ 1000) (hb : i.natAbs < 2 ^ b) (hp : 0 < b) (h : b ≤ 2000) : CPowW i j :=
  ⟨h0, h1, Nat.lt_of_lt_of_le (PySem.Flt.log2_lt_of hp hb) h⟩
def rFdivX : R2 := rI CDivW fun i j => .int (i / j)
theorem op_fdivX : OpR X (binaryOp .FloorDiv) rFdivX := op_fdivW
/-- scalars, or data of any depth -/
def rEqX (K : PySem.W.Frag) : R2 := fun x y H Q => rEq x y H Q ∨ rEqD K x y H Q
def rNeX (K : PySem.W.Frag) : R2 := fun x y H Q => rNe x y H Q ∨ rNeD K x y H Q
theorem op_eqX {k : Nat} (hr : Room k X.A) : OpR X (compareOp .Eq) (rEqX X.K) := op_eq.or (op_eqD hr.units)
theorem op_neX {k : Nat} (hr : Room k X.A) : OpR X (compareOp .NotEq) (rNeX X.K) := op_ne.or (op_neD hr.units)
end
section
variable {σ : St} {H : Hp} {Q : VK} {i j : Int} {x y : Str}
theorem addI (h : Q (.int (i + j)) H) : rAddX (.int i) (.int j) H Q := .inl ⟨i, j, rfl, rfl, h⟩
theorem addS (h0 : x.length + y.length ≤ sizeLine) (h : Q (.str (x ++ y)) H) : rAddX (.str x) (.str y) H Q := .inr (.inl ⟨x, y, rfl, rfl, h0, h⟩)
theorem mulI (h0 : CMulW i j) (h : Q (.int (i * j)) H) : rMulX (.int i) (.int j) H Q := .inl ⟨i, j, rfl, rfl, h0, h⟩
theorem eqS {K : PySem.W.Frag} {a b : V} (h0 : scal a b = true) (h : Q (.bl (decide (a = b))) H) : rEqX K a b H Q := .inl ⟨h0, h⟩
theorem neS {K : PySem.W.Frag} {a b : V} (h0 : scal a b = true) (h : Q (.bl (!decide (a = b))) H) : rNeX K a b H Q := .inl ⟨h0, h⟩
end

/-! ### names of the module, constants of a class -/
section
variable {X : Cx} {x f : Str} {pos : Pos} {i : Int} {t : Tok}
theorem pe_globC (hm : ∃ t, X.mg x = some (.int i t)) (hg : Gl X x := by rfl) (hd : (x == ("__debug__" : Str)) = false := by decide) : PE X (.Name x pos) (tC (.int i)) := by
  obtain ⟨t, hm⟩ := hm
  exact pe_glob hg hm ⟨_, rfl⟩ hd
/-- C.f, the class by its name, a constant of the class -/
theorem pe_clsv {C : Addr} {v : V} {e : Expr} (c : ∃ mc u, CRead X.K C mc ∧ CVal X.K C mc f v u) (he : PE X e (tC (.ref C))) (hab : attributeBase e f X.env (eval e X.env) = eval e X.env := by rfl) :
    PE X (.Attribute e f pos) (tC v) := by
  refine ⟨fun pins s σ H Q I h => (pe_cval (pos := pos) he hab).run pins s σ H Q I ?_⟩
  obtain ⟨mc, u, c1, c2⟩ := c
  exact ⟨C, mc, v, u, rfl, c1, c2, h⟩
end

/-! ### o.m(.., k = v) -/
def tMethK (C : Addr) (m : Str) (sp : Sp) (gV : List V → List V → List V) (E : XK) (ta : TE) (t tk : TA) : TE := fun σ H Q => ta σ H fun x H1 => ∃ a dx fs, x = .ref a ∧ H1 a = some (.ins C dx fs) ∧ fs.lookup m = none ∧
  t σ H1 fun vs H2 => tk σ H2 fun zs H3 => sp (gV (x :: vs) zs) H3 Q E
section
variable {X : Cx} {CX : CXT} {k : Nat} {f C : Addr} {fd : FuncData} {ps ks : List Str} {sp : Sp} {E : XK} {m : Str} {pos apos : Pos} {o : Expr} {kws : List Keyword} {ta : TE} {t tk : TA} {g : List Value → List Value → List Value} {gV : List V → List V → List V}
theorem pe_methK0 {pl : Sem Bool} (he : PE X o ta) (c : Cls X.K C) (hm : Meth X.K C m f) (F : FnOk X.prog X.w X.K X.mg X.base CX k f fd ps sp) (hr : Room k X.A) (hb : KBinds X.K fd ps ks g gV) (hx : Passes CX X E)
    (hkw : PK X kws tk) (hall : (backToKw pos (keywordEach kws X.env)).all (·.1.isSome) = true := by rfl) (hks : (backToKw pos (keywordEach kws X.env)).filterMap (·.1) = ks := by rfl)
    (hpl : ((backTo pos (starEach [] X.env)).any (·.1) || (backToKw pos (keywordEach kws X.env)).any (·.1.isNone)) = false := by rfl)
    (ht : eval (.Call (.Attribute o m apos) [] kws pos) X.env = (do
      let ov ← eval o X.env
      standAt apos.atName
      let (f, first) ← holding [ov] (getMethod ov m pl)
      callWith pos f first (backTo pos (starEach [] X.env)) (backToKw pos (keywordEach kws X.env))) := by rfl) :
    PE X (.Call (.Attribute o m apos) [] kws pos) (tMethK C m sp gV E ta tNil tk) := by
  refine ⟨fun pins s σ H Q I h => ?_⟩
  refine PySem.W.methodCall_KW (pl := pl) (thn (he.run pins s σ H _ I h) fun u s1 ⟨x, H1, I1, rx, a, dx, fs, ex, ea, l, q⟩ => ?_) ht
  subst ex
  obtain rfl : u = Value.ref a := rx
  refine getmeth_ok I1 ea c hm l ?_
  refine PySem.W.callWith_KW0 (first := [.ref a]) (h₀ := X.base) I.ok.mod.kin hm.kp hall ?_ hpl
  refine thn (hkw.run pos pins s1 σ H1 _ I1 q) fun ws s2 ⟨zs, H2, I2, rz, q2⟩ => ⟨I2.kIn, ?_⟩
  rw [hks]
  exact run_fnk (us := [.ref a]) (vs := [.ref a]) F hr hb hx I2 (.cons rfl .nil) rz q2
end
section
variable {K : PySem.W.Frag}
/-- how a call by keywords binds (no defaults) -/
theorem Fun.kbinds {x qual : Str} {st : Stmt} {f : Addr} {fd : FuncData} {ps : List Str} (F : Fun K x qual st f fd) (n : Nat) (ks : List Str) (g : {α : Type} → List α → List α → List α) (hlen : ∀ {α : Type} (us ws : List α), (g us ws).length = ps.length → us.length = n ∧ ws.length = ks.length)
    (hrel : ∀ {vs : List V} {us : List Value} {zs : List V} {ws : List Value}, Vals vs us → Vals zs ws → Vals (g vs zs) (g us ws))
    (h : ∀ (kV doc pm : Value) (an : Option Addr) (cdv ct : Value) (us ws : List Value), us.length = n → ws.length = ks.length → bindArgs (PySem.W.fnOf x qual (defArgs st) (defBody st) (defScope st) .none kV doc pm an cdv ct) ⟨us, ks.zip ws⟩ = pure (ps.zip (g us ws))) :
    KBinds K fd ps ks (fun us ws => g us ws) (fun vs zs => g vs zs) := by
  obtain ⟨oc, od, kV, doc, pm, an, cdv, ct, osl, rfl, lk, hcd⟩ := F.ex
  refine ⟨fun s us ws _ hl => .of_eq ?_, hrel⟩
  obtain ⟨h1, h2⟩ := hlen us ws hl
  exact h kV doc pm an cdv ct us ws h1 h2
end
end L2

namespace L2
open ClX
open PySem PySem.Spec PyProof.Rows

/-! ### a def of the text behind the top; its promise, without naming its record -/
structure FnT (K : PySem.W.Frag) (x qual : Str) (st : Stmt) (f : Addr) : Prop where
  ex : ∃ fd, Fun K x qual st f fd
theorem FnT.kp {K : PySem.W.Frag} {x qual : Str} {st : Stmt} {f : Addr} (h : FnT K x qual st f) : PySem.W.keepIn K (.ref f) = true := h.ex.elim fun _ F => F.kp
theorem fnT_mk {K : PySem.W.Frag} {x qual : Str} {st : Stmt} {f : Addr} {oc : Value} {od an : Option Addr} {osl : Array (Option Value)} {kV doc pm cdv ct : Value}
    (l : K.lookup f = some ⟨oc, od, .func (PySem.W.fnOf x qual (defArgs st) (defBody st) (defScope st) .none kV doc pm an cdv ct), osl⟩)
    (c : PySem.W.codeIn K cdv qual = true) (k : PySem.W.keepIn K (.ref f) = true) : FnT K x qual st f := ⟨_, fun_mk l c k⟩
theorem gconst_mk {K : PySem.W.Frag} {x : Str} {u : Value} {n : Int} (h : PySem.W.nsIn K mainGlobals x = some (some u)) (e : ∃ t, u = .int n t) : ∃ t, PySem.W.nsIn K mainGlobals x = some (some (.int n t)) := by
  obtain ⟨t, rfl⟩ := e
  exact ⟨t, h⟩
/-- called by positions -/
structure Ok1 (P : Program) (w : World) (K : PySem.W.Frag) (mg : Str → Option Value) (base : Heap) (k : Nat) (f : Addr) (ps : List Str) (sp : Sp) : Prop where
  ex : ∃ fd, FnOk P w K mg base CX0 k f fd ps sp ∧ Binds K fd ps []
  kp : PySem.W.keepIn K (.ref f) = true
section
variable {P : Program} {w : World} {K : PySem.W.Frag} {mg : Str → Option Value} {base : Heap}
/-- how no defaults bind: for a def of at most six parameters -/
def BindsAll (st : Stmt) (x qual : Str) (ps : List Str) : Prop :=
  ∀ (kV doc pm : Value) (an : Option Addr) (cdv ct : Value) (us : List Value), us.length = ps.length → bindArgs (PySem.W.fnOf x qual (defArgs st) (defBody st) (defScope st) .none kV doc pm an cdv ct) ⟨us, []⟩ = pure (ps.zip us)
theorem FnT.ok {x qual : Str} {st : Stmt} {f : Addr} {N ps : List Str} {k : Nat} {sp : Sp} (h : FnT K x qual st f) (S : FnScope N ps (defScope st)) (hb : BindsAll st x qual ps)
    (len : ∀ vs H Q E, sp vs H Q E → vs.length = ps.length)
    (body : ∀ (cdv : Value) (A : Around) (outer : List Env) (s : Shared) (H : Hp) (vs : List V) (Q : VK) (E : XK), Room k (A.deeper (envOfC qual (defScope st) s.heap.objs.size f cdv)) → sp vs H Q E →
      ∃ t, PSs (cxOf CX0 P w K mg base N qual (defScope st) f cdv A outer s H E).nox (defBody st) t ∧ t { nx := fun _ H' => Q .non H', rt := Q } (start N vs) H) :
    Ok1 P w K mg base (k + 1) f ps sp := by
  obtain ⟨fd, F⟩ := h.ex
  exact ⟨⟨fd, F.ok S len body, F.binds hb⟩, F.kp⟩
theorem Ok1.mono {j k : Nat} {f : Addr} {ps : List Str} {sp : Sp} (h : Ok1 P w K mg base j f ps sp) (le : j ≤ k) : Ok1 P w K mg base k f ps sp := by
  obtain ⟨⟨fd, F, b⟩, kp⟩ := h
  exact ⟨⟨fd, F.mono le, b⟩, kp⟩
theorem Ok1.imp {k : Nat} {f : Addr} {ps : List Str} {sp sp' : Sp} (h : Ok1 P w K mg base k f ps sp) (i : ∀ vs H Q E, sp' vs H Q E → sp vs H Q E) : Ok1 P w K mg base k f ps sp' := by
  obtain ⟨⟨fd, F, b⟩, kp⟩ := h
  exact ⟨⟨fd, F.imp i, b⟩, kp⟩
end
section
variable {X : Cx} {k : Nat} {f C : Addr} {ps : List Str} {sp : Sp} {x m : Str} {p pos apos : Pos} {e o : Expr} {es : List Expr} {ta : TE} {t : TA}
theorem po_call (G : Ok1 X.prog X.w X.K X.mg X.base k f ps sp) (hr : Room k X.A) (hm : X.mg x = some (.ref f)) (ha : PA X (e :: es) t) (hg : Gl X x := by rfl)
    (hdb : (x == ("__debug__" : Str)) = false := by decide) (he : starEach (e :: es) X.env = (false, eval e X.env) :: starEach es X.env := by rfl) (hpl : (backTo pos (starEach es X.env)).any (·.1) = false := by rfl) :
    PE X (.Call (.Name x p) (e :: es) [] pos) (tCall sp [] E0 t) := by
  obtain ⟨⟨fd, F, b⟩, kp⟩ := G
  exact pe_call F hr hg hm kp b .nil pass0 ha hdb he hpl
theorem po_call0 (G : Ok1 X.prog X.w X.K X.mg X.base k f ps sp) (hr : Room k X.A) (hm : X.mg x = some (.ref f)) (hg : Gl X x := by rfl)
    (hdb : (x == ("__debug__" : Str)) = false := by decide) : PE X (.Call (.Name x p) [] [] pos) (tCall sp [] E0 tNil) := by
  obtain ⟨⟨fd, F, b⟩, kp⟩ := G
  exact pe_call0 F hr hg hm kp b .nil pass0 hdb
theorem po_make (M : Mk X.K C f) (G : Ok1 X.prog X.w X.K X.mg X.base k f ps sp) (hr : Room (k + 1) X.A) (hm : X.mg x = some (.ref C)) (ha : PA X (e :: es) t) (hg : Gl X x := by rfl)
    (hdb : (x == ("__debug__" : Str)) = false := by decide) (he : starEach (e :: es) X.env = (false, eval e X.env) :: starEach es X.env := by rfl) (hpl : (backTo pos (starEach es X.env)).any (·.1) = false := by rfl) :
    PE X (.Call (.Name x p) (e :: es) [] pos) (tMake C sp [] E0 t) := by
  obtain ⟨⟨fd, F, b⟩, kp⟩ := G
  exact pe_make M F hr hg hm b .nil pass0 ha hdb he hpl
theorem po_meth {pl : Sem Bool} (c : Cls X.K C) (hm : Meth X.K C m f) (G : Ok1 X.prog X.w X.K X.mg X.base k f ps sp) (hr : Room k X.A) (he : PE X o ta) (ha : PA X (e :: es) t)
    (hst : starEach (e :: es) X.env = (false, eval e X.env) :: starEach es X.env := by rfl) (hpl : (backTo pos (starEach es X.env)).any (·.1) = false := by rfl)
    (ht : eval (.Call (.Attribute o m apos) (e :: es) [] pos) X.env = (do
      let ov ← eval o X.env
      standAt apos.atName
      let (f, first) ← holding [ov] (getMethod ov m pl)
      callWith pos f first (backTo pos (starEach (e :: es) X.env)) (backToKw pos (keywordEach [] X.env))) := by rfl) :
    PE X (.Call (.Attribute o m apos) (e :: es) [] pos) (tMeth C m sp [] E0 ta t) := by
  obtain ⟨⟨fd, F, b⟩, kp⟩ := G
  exact pe_meth he c hm F hr b .nil pass0 ha hst hpl ht
end

/-! ### promises of defs that show data (repr): nothing is being shown around them -/
structure OkG (P : Program) (w : World) (K : PySem.W.Frag) (mg : Str → Option Value) (base : Heap) (k : Nat) (f : Addr) (ps : List Str) (sp : Sp) : Prop where
  kp : PySem.W.keepIn K (.ref f) = true
  go : ∀ (B : Around) (up : List Env) (s : Shared) (H : Hp) (us : List Value) (vs : List V) (Q : VK), Room k B → B.guards = some [] → Env0 P w K mg base B up s H → Vals vs us → sp vs H Q E0 →
    codeAny (model P w) B (.call (.ref f) ⟨us, []⟩) (CR CX0 up P w H s Q E0) s
section
variable {P : Program} {w : World} {K : PySem.W.Frag} {mg : Str → Option Value} {base : Heap}
theorem Ok1.toG {k : Nat} {f : Addr} {ps : List Str} {sp : Sp} (h : Ok1 P w K mg base k f ps sp) : OkG P w K mg base k f ps sp := by
  obtain ⟨⟨fd, F, b⟩, kp⟩ := h
  refine ⟨kp, fun B up s H us vs Q room _ e0 rv q => ?_⟩
  have n : (us ++ []).length = ps.length := by
    rw [List.append_nil, ← rv.length]
    exact F.len _ _ _ _ q
  have bt := b s us (e0.mod.kin.keeps fun c o z => (e0.bs c o z).1) n
  rw [List.append_nil] at bt
  exact F.run B up s H ⟨us, []⟩ us vs Q E0 room e0 bt rv q
theorem FnT.okG {x qual : Str} {st : Stmt} {f : Addr} {N ps : List Str} {k : Nat} {sp : Sp} (h : FnT K x qual st f) (S : FnScope N ps (defScope st)) (hb : BindsAll st x qual ps)
    (len : ∀ vs H Q E, sp vs H Q E → vs.length = ps.length)
    (body : ∀ (cdv : Value) (A : Around) (outer : List Env) (s : Shared) (H : Hp) (vs : List V) (Q : VK), Room k (A.deeper (envOfC qual (defScope st) s.heap.objs.size f cdv)) → A.guards = some [] → sp vs H Q E0 →
      ∃ t, PSs (cxOf CX0 P w K mg base N qual (defScope st) f cdv A outer s H E0).nox (defBody st) t ∧ t { nx := fun _ H' => Q .non H', rt := Q } (start N vs) H) :
    OkG P w K mg base (k + 1) f ps sp := by
  obtain ⟨fd, F⟩ := h.ex
  have kp := F.kp
  have bd := F.binds hb
  obtain ⟨oc, od, kV, dc, pm, an, cv, ct, sl, rfl, lk, cd⟩ := F.ex
  refine ⟨kp, fun B up s H us vs Q room gd e0 rv q => ?_⟩
  have n := len _ _ _ _ q
  have KH : K.In s.heap := e0.mod.kin.keeps fun c o z => (e0.bs c o z).1
  have noLim : s.heap.NoLimit := e0.mod.nolimit.keeps fun c o z => (e0.bs c o z).1
  have bt := bd s us KH (by rw [List.append_nil, ← rv.length]; exact n)
  rw [List.append_nil] at bt
  refine codeAny_call_function room.depth (KH _ _ lk) rfl S.co S.gen rfl (PySem.W.codeRec_of KH cd) (bt _ _ _ _ ?_)
  refine wpAny_newFunctionEnv_cells S.kind (fun ⟨y, v⟩ hy => ?_) fun en eq s1 ic => ?_
  · exact (S.par y (List.of_mem_zip hy).1).imp id fun z => ⟨z, PySem.W.cellsFrom_some _ _ _ (.inl z)⟩
  · subst eq
    obtain ⟨t, d, r⟩ := body cv B up s H vs Q (room.deeper _) gd q
    have I0 := inv_start (CX := CX0) (P := P) (w := w) (K := K) (mg := mg) (base := base) (E := E0) (cd := cv) (f := f) (qual := qual) S room.hd e0 n rv ic
    refine ⟨noLim.keeps ic.toInCall.keep, codeAny_func (wpAny_mono (d.nox.run [] s1 (start N vs) H _ I0 r) (fun fl s2 z => ?_) fun _ _ z => z)⟩
    cases fl with
    | ret u => obtain ⟨v, σ2, H2, J, rel, fin⟩ := z; exact ⟨v, H2, J.os, J.bare, J.base, J.hok, rel, fin⟩
    | next => obtain ⟨σ2, H2, J, fin⟩ := z; exact ⟨.non, H2, J.os, J.bare, J.base, J.hok, rfl, fin⟩
    | brk => obtain ⟨σ2, H2, J, fin⟩ := z; exact fin.elim
    | cont => obtain ⟨σ2, H2, J, fin⟩ := z; exact fin.elim
end
section
variable {X : Cx} {k : Nat} {f C : Addr} {ps : List Str} {sp : Sp} {x m : Str} {p pos apos : Pos} {e o : Expr} {es : List Expr} {ta : TE} {t : TA}
theorem pg_call (G : OkG X.prog X.w X.K X.mg X.base k f ps sp) (hr : Room k X.A) (gd : X.A.guards = some []) (hm : X.mg x = some (.ref f)) (ha : PA X (e :: es) t) (hg : Gl X x := by rfl)
    (hdb : (x == ("__debug__" : Str)) = false := by decide) (he : starEach (e :: es) X.env = (false, eval e X.env) :: starEach es X.env := by rfl) (hpl : (backTo pos (starEach es X.env)).any (·.1) = false := by rfl) :
    PE X (.Call (.Name x p) (e :: es) [] pos) (tCall sp [] E0 t) := by
  refine ⟨fun pn s σ H Q I h => wpAny_Call_Name_kw (ld_glob I hg hm ?_ hdb)⟩
  refine PySem.W.callWith_K (h₀ := X.base) I.ok.mod.kin G.kp (thn (ha.run pos pn s σ H _ I h) fun us s1 ⟨vs, H1, I1, r, q⟩ => ⟨I1.kIn, ?_⟩) he hpl
  have q1 : sp (vs ++ []) H1 Q E0 := q
  rw [List.append_nil] at q1
  refine wpAny_call (codeAny_mono (G.go X.A X.stack s1 H1 us vs Q hr gd I1.env0 r q1) fun res s2 z => ?_)
  match res, z with
  | .error _, z => exact z.elim
  | .ok (.ret u), z => exact I1.after z
  | .ok .next, z => exact z.elim
  | .ok .brk, z => exact z.elim
  | .ok .cont, z => exact z.elim
end
end L2

namespace L2
open ClX
open PySem PySem.Spec PyProof.Rows

/-! ### repr of data -/
structure Shows (d : PyData) : Prop where
  sh : d.showable = true
  nd : d.hasDict = false
  dp : d.depth ≤ 40
  sz : d.shown.length ≤ sizeLine
def rRepr (K : PySem.W.Frag) : List V → Hp → VK → Prop := fun xs H Q => ∃ x d, xs = [x] ∧ Dp K H x d ∧ Shows d ∧ Q (.str d.shown) H
theorem call_reprD {X : Cx} {k : Nat} (hr : Room k X.A) (gd : X.A.guards = some []) : CallR X (.builtin "repr") (rRepr X.K) := by
  intro pins s σ H xs us Q I r h
  obtain ⟨x, d, rfl, rd, S, q⟩ := h
  obtain ⟨u, rfl, ru⟩ := vals1 r
  have fin : ∀ h' t, (∀ b o, s.heap.get? b = some o → h'.get? b = some o) → ∀ tk, EP X pins σ Q (.str d.shown tk) { s with heap := h', toks := t } := fun h' t keep tk => ⟨.str d.shown, H, I.kept keep, ⟨tk, rfl⟩, q⟩
  have un : X.A.units + (d.depth + 1) < cLine := by
    have := hr.units
    have := S.dp
    omega
  have rds := Dp.reads I d x u rd ru
  cases rd with
  | non => cases ru; exact PySem.P.repr_of_none (fin s.heap _ (fun _ _ z => z) _)
  | bl b => cases ru; exact PySem.P.repr_of_bool (fin s.heap _ (fun _ _ z => z) _)
  | int i =>
    obtain ⟨t, rfl⟩ := ru
    have z := S.sh
    simp only [PyData.showable, decide_eq_true_eq] at z
    exact PySem.P.repr_of_int z (fin s.heap _ (fun _ _ z => z) _)
  | str y =>
    obtain ⟨t, rfl⟩ := ru
    have z := S.sz
    simp only [PyData.shown] at z
    exact PySem.P.repr_of_str (fin s.heap _ (fun _ _ z => z) _) z
  | lst h1 h2 =>
    cases ru
    obtain ⟨as, rd⟩ := rds
    exact repr_of_reads' rd S.sh (PyData.noDict_hsm S.nd) gd un (fun _ _ z => z) (fun h' t tk keep => fin h' tk keep t) S.sz
  | tup h1 h2 =>
    cases ru
    obtain ⟨as, rd⟩ := rds
    exact repr_of_reads' rd S.sh (PyData.noDict_hsm S.nd) gd un (fun _ _ z => z) (fun h' t tk keep => fin h' tk keep t) S.sz
end L2

namespace L2
open ClX
open PySem PySem.Spec PyProof.Rows
/-! ### called with one keyword -/
def glue1 {α : Type} (us ws : List α) : List α := if us.length = 1 ∧ ws.length = 1 then us ++ ws else []
structure OkK (P : Program) (w : World) (K : PySem.W.Frag) (mg : Str → Option Value) (base : Heap) (k : Nat) (f : Addr) (ps : List Str) (kw : Str) (sp : Sp) : Prop where
  ex : ∃ fd, FnOk P w K mg base CX0 k f fd ps sp ∧ KBinds K fd ps [kw] (fun us ws => glue1 us ws) (fun vs zs => glue1 vs zs)
section
variable {P : Program} {w : World} {K : PySem.W.Frag} {mg : Str → Option Value} {base : Heap}
theorem FnT.okK {x qual kw p0 : Str} {st : Stmt} {f : Addr} {N : List Str} {k : Nat} {sp : Sp} (h : FnT K x qual st f) (S : FnScope N [p0, kw] (defScope st))
    (hb : ∀ (kV doc pm : Value) (an : Option Addr) (cdv ct u v : Value), bindArgs (PySem.W.fnOf x qual (defArgs st) (defBody st) (defScope st) .none kV doc pm an cdv ct) ⟨[u], [(kw, v)]⟩ = pure [(p0, u), (kw, v)])
    (len : ∀ vs H Q E, sp vs H Q E → vs.length = 2)
    (body : ∀ (cdv : Value) (A : Around) (outer : List Env) (s : Shared) (H : Hp) (vs : List V) (Q : VK) (E : XK), Room k (A.deeper (envOfC qual (defScope st) s.heap.objs.size f cdv)) → sp vs H Q E →
      ∃ t, PSs (cxOf CX0 P w K mg base N qual (defScope st) f cdv A outer s H E).nox (defBody st) t ∧ t { nx := fun _ H' => Q .non H', rt := Q } (start N vs) H) :
    OkK P w K mg base (k + 1) f [p0, kw] kw sp := by
  obtain ⟨fd, F⟩ := h.ex
  refine ⟨fd, F.ok S len body, F.kbinds 1 [kw] glue1 (fun us ws hl => ?_) (fun r q => ?_) fun kV doc pm an cdv ct us ws h1 h2 => ?_⟩
  · unfold glue1 at hl
    split at hl
    · assumption
    · cases hl
  · unfold glue1
    rw [r.length, q.length]
    split
    · exact r.append q
    · exact .nil
  · match us, h1, ws, h2 with
    | [u], _, [v], _ => exact hb kV doc pm an cdv ct u v
end
section
variable {X : Cx} {k : Nat} {f C : Addr} {ps : List Str} {kw : Str} {sp : Sp} {m : Str} {pos apos : Pos} {o : Expr} {kws : List Keyword} {ta : TE} {tk : TA}
theorem po_methK {pl : Sem Bool} (c : Cls X.K C) (hm : Meth X.K C m f) (G : OkK X.prog X.w X.K X.mg X.base k f ps kw sp) (hr : Room k X.A) (he : PE X o ta)
    (hkw : PK X kws tk) (hall : (backToKw pos (keywordEach kws X.env)).all (·.1.isSome) = true := by rfl) (hks : (backToKw pos (keywordEach kws X.env)).filterMap (·.1) = [kw] := by rfl)
    (hpl : ((backTo pos (starEach [] X.env)).any (·.1) || (backToKw pos (keywordEach kws X.env)).any (·.1.isNone)) = false := by rfl)
    (ht : eval (.Call (.Attribute o m apos) [] kws pos) X.env = (do
      let ov ← eval o X.env
      standAt apos.atName
      let (f, first) ← holding [ov] (getMethod ov m pl)
      callWith pos f first (backTo pos (starEach [] X.env)) (backToKw pos (keywordEach kws X.env))) := by rfl) :
    PE X (.Call (.Attribute o m apos) [] kws pos) (tMethK C m sp (fun vs zs => glue1 vs zs) E0 ta tNil tk) := by
  obtain ⟨fd, F, b⟩ := G.ex
  exact pe_methK0 he c hm F hr b pass0 hkw hall hks hpl ht
end

/-- a statement, then the rest, with a word of one's own between them -/
def tMid (t u : TS) : TS := fun D σ H => ∃ M : St → Hp → Prop, t { D with nx := M } σ H ∧ ∀ σ1 H1, M σ1 H1 → u D σ1 H1
theorem pss_mid {X : Cx} {st : Stmt} {more : List Stmt} {t u : TS} (a : PS X st t) (b : PSs X more u) : PSs X (st :: more) (tMid t u) := by
  refine ⟨fun pn s σ H D I ⟨M, h, g⟩ => wpAny_execs_cons (thn (a.run pn s σ H { D with nx := M } I h) fun fl s1 z => ?_)⟩
  match fl, z with
  | .next, ⟨σ1, H1, I1, z⟩ => exact b.run pn s1 σ1 H1 D I1 (g σ1 H1 z)
  | .ret _, z => exact z
  | .brk, z => exact z
  | .cont, z => exact z
/-! ### small steps of readings -/
section
variable {K : PySem.W.Frag} {H : Hp} {Q : VK} {p : Addr} {xs : List V} {i : Int} {v : V} {z : Str} {c : Nat}
theorem ixL (h : H p = some (.lst xs)) (ha : atI xs i = some v) (q : Q v H) : rIx K (.ref p) (.int i) H Q := .inl ⟨p, xs, i, v, rfl, rfl, SqL.of h, ha, q⟩
theorem ixSq (h : SqL K H p xs) (ha : atI xs i = some v) (q : Q v H) : rIx K (.ref p) (.int i) H Q := .inl ⟨p, xs, i, v, rfl, rfl, h, ha, q⟩
theorem ixT (h : H p = some (.tup xs)) (ha : atI xs i = some v) (q : Q v H) : rIx K (.ref p) (.int i) H Q := .inr (.inl ⟨p, xs, i, v, rfl, rfl, SqT.of h, ha, q⟩)
theorem ixS (hz : z.length ≤ sizeLine) (ha : atI z.cps.toList i = some c) (q : Q (.str ⟨#[c]⟩) H) : rIx K (.str z) (.int i) H Q := .inr (.inr ⟨z, i, c, rfl, rfl, hz, ha, q⟩)
theorem setL {Qs : Hp → Prop} {j : Nat} (h : H p = some (.lst xs)) (hj : ixN xs.length i = some j) (q : Qs (upd H p (.lst (xs.set j v)))) : rSetL (.ref p) (.int i) v H Qs := ⟨p, xs, i, j, rfl, rfl, h, hj, q⟩
theorem szS {n : Nat} (h : n ≤ 1000000) : n ≤ sizeLine := Nat.le_trans h (by decide)
theorem isI {c : V} {t u : Value} {b : Bool} {x : V} (hc : ClsV c u) (ht : TyX K H x t) (hk : PySem.W.kitOne K t u = some b) (q : Q (.bl b) H) : rIsi K [x, c] H Q := ⟨x, c, t, u, b, rfl, hc, ht, hk, q⟩
end
/-- all that was tracked is as it was, but at a -/
def But (a : Addr) (H H' : Hp) : Prop := ∀ b o, H b = some o → b ≠ a → H' b = some o
theorem But.refl {a : Addr} {H : Hp} : But a H H := fun _ _ h _ => h
theorem But.trans {a : Addr} {H H1 H2 : Hp} (x : But a H H1) (y : But a H1 H2) : But a H H2 := fun b o h n => y b o (x b o h n) n
theorem But.same {a : Addr} {H H1 : Hp} (x : Same H H1) : But a H H1 := fun b o h _ => x b o h
theorem But.upd {a : Addr} {H : Hp} {o : HO} : But a H (L2.upd H a o) := fun b u h n => by
  rw [upd_ne n]
  exact h
theorem Same.new {H : Hp} {a : Addr} {o : HO} (h : H a = none) : Same H (L2.upd H a o) := fun b u e => by
  rw [upd_ne (ne_of_none e h)]
  exact e
/-- what is new since H0 may change -/
theorem Same.but {H0 H H1 : Hp} {a : Addr} (s : Same H0 H) (h : H0 a = none) (b : But a H H1) : Same H0 H1 := fun c o e => b c o (s c o e) (ne_of_none e h)
end L2

namespace L2
open ClX
open PySem PySem.Spec PyProof.Rows
/-! ### the end, for a law whose defs show data -/
section
variable {P : Program} {w : World} {K : PySem.W.Frag} {mg mb : Str → Option Value} {s1 : Shared} {vs : List Value} {ns : List Int} {a : Addr}
/-- nothing is tracked but the script, unless it is an object of the module -/
def onlyS (K : PySem.W.Frag) (a : Addr) (vs : List Value) (ns : List Int) : Hp := fun b => if b = a ∧ K.lookup a = none then some (.frz { cls := .type "list", data := .seq vs.toArray } (.lst (ns.map V.int))) else none
theorem onlyS_some {b : Addr} {o : HO} (h : onlyS K a vs ns b = some o) : b = a ∧ K.lookup a = none ∧ o = .frz { cls := .type "list", data := .seq vs.toArray } (.lst (ns.map V.int)) := by
  unfold onlyS at h
  split at h
  · rename_i c
    exact ⟨c.1, c.2, (Option.some.inj h).symm⟩
  · cases h
theorem lawG {k : Nat} {fa : Addr} {sp : Sp} (KX : K.In s1.heap) (hg : s1.heap.Ns mainGlobals mg) (hb : s1.heap.Ns builtinsNs mb) (hbb : ∀ x : Str, x ≠ "__name__" → mb x = bootBuiltins x) (hl : s1.heap.NoLimit) (gn : s1.gens = #[])
    (ha : s1.heap.get? a = some { cls := .type "list", data := .seq vs.toArray }) (hi : IntsAre vs ns) (hz : ns.length ≤ sizeLine) (room : Room k callerA)
    (F : ∀ base : Heap, K.In base → base.Ns mainGlobals mg → OkG P w K mg base k fa ["script"] sp) (hsp : ∀ H : Hp, SqL K H a (ns.map V.int) → sp [.ref a] H (fun v _ => v = .bl true) E0) :
    codeAny (model P w) callerA (.call (.ref fa) ⟨[.ref a], []⟩) (fun r s' => r = .ok (.ret (.bool true)) ∧ OldK s1.heap s'.heap ∧ s'.os = s1.os ∧ AllBare s'.gens) s1 := by
  have rel := vals_ints hi
  have len := hi.length
  have H := onlyS K a vs ns
  have hidden : ∀ {b : Addr} {o : Obj}, s1.heap.get? b = some o → onlyS K a vs ns b = none → (hidT s1.heap (onlyS K a vs ns)).get? b = some o := fun z n => hidT_get z n
  have free : ∀ {b : Addr} {o : Obj} {es : Array DictEntry} {n : Nat}, s1.heap.get? b = some o → o.data = .dict es n → onlyS K a vs ns b = none := fun {b o es n} z d => by
    cases q : onlyS K a vs ns b with
    | none => rfl
    | some u =>
      have e := (onlyS_some q).1
      rw [e, ha] at z
      cases z
      cases d
  have names : ∀ {b : Addr} {m : Str → Option Value}, s1.heap.Ns b m → (hidT s1.heap (onlyS K a vs ns)).Ns b m := fun ⟨o, es, n, z, d, r⟩ => ⟨o, es, n, hidden z (free z d), d, r⟩
  have KB : K.In (hidT s1.heap (onlyS K a vs ns)) := fun b o z => hidden (KX b o z) (by
    cases q : onlyS K a vs ns b with
    | none => rfl
    | some u =>
      obtain ⟨e, n, _⟩ := onlyS_some q
      rw [e, n] at z
      cases z)
  have lim : (hidT s1.heap (onlyS K a vs ns)).NoLimit := by
    obtain ⟨m, h1, h2⟩ := hl
    exact ⟨m, names h1, h2⟩
  have hok : HOk P w (onlyS K a vs ns) s1.heap := fun b u q => by
    obtain ⟨e, _, rfl⟩ := onlyS_some q
    subst e
    exact ⟨ha, by rw [List.length_map]; exact hz, vs, _, rel, ha⟩
  have sq : SqL K (onlyS K a vs ns) a (ns.map V.int) := by
    cases q : K.lookup a with
    | none => exact .inl (.inr ⟨_, if_pos ⟨rfl, q⟩⟩)
    | some o =>
      have z := KX a o q
      rw [ha] at z
      cases z
      exact .inr ⟨_, vs.toArray, _, q, rfl, rfl, rfl, by rw [List.size_toArray, len]; exact hz, by simpa using rel⟩
  have none_mem : ∀ b : Addr, b ∉ frs [] := fun b z => by cases z
  have e0 : Env0 P w K mg (hidT s1.heap (onlyS K a vs ns)) callerA [] s1 (onlyS K a vs ns) :=
    { frames := rfl, mod := ⟨KB, names hg, ⟨mb, names hb, hbb⟩, lim⟩, bs := fun b o z => of_hidT z, bsz := Nat.le_of_eq (hidT_size _ _), funs := trivial, frf := fun b z => (none_mem b z).elim, hok := hok, bare := .of_eq gn }
  refine codeAny_mono ((F _ KB (names hg)).go callerA [] s1 (onlyS K a vs ns) [.ref a] [.ref a] _ room rfl e0 (.cons rfl .nil) (hsp _ sq)) fun r s2 z => ?_
  match r, z with
  | .error _, z => exact z.elim
  | .ok .next, z => exact z.elim
  | .ok .brk, z => exact z.elim
  | .ok .cont, z => exact z.elim
  | .ok (.ret u), ⟨v, H2, os, bare, un, hok2, ru, q⟩ =>
    obtain rfl : v = .bl true := q
    obtain rfl : u = Value.bool true := ru
    refine ⟨rfl, OldK.of_keep fun b o z => ?_, os, bare⟩
    cases q : onlyS K a vs ns b with
    | none => exact un.keep b o z q (none_mem b) (none_mem b)
    | some u =>
      obtain ⟨e, _, rfl⟩ := onlyS_some q
      have z2 := (hok2 b _ (un.frzs b _ _ q)).1
      rw [e, ha] at z
      cases z
      exact z2
end
theorem walkG {l : PySem.W.OpenLaw} {n k : Nat} {q : Program} {loose : List Str} {XP : (Str → Option Value) → Heap → Prop} {YP : World → Heap → Prop} {d : DefRec} {K : Params → PySem.W.Frag} {sp : PySem.W.Frag → Sp}
    (hn : l.most = some n) (hn2 : n ≤ sizeLine) (hdf : d.params.defaults = []) (room : Room k callerA) (hY : ∀ (w : World) (h : Heap), YP w h → (K w.params).In h)
    (F : ∀ (w : World) (mg : Str → Option Value) (fa : Addr) (h : Heap), (K w.params).In h → h.Ns mainGlobals mg → mg d.name = some (.ref fa) → ∀ base : Heap, (K w.params).In base → base.Ns mainGlobals mg → OkG l.prog w (K w.params) mg base k fa ["script"] (sp (K w.params)))
    (hsp : ∀ (K : PySem.W.Frag) (H : Hp) (a : Addr) (ns : List Int), ns.length ≤ n → SqL K H a (ns.map V.int) → sp K [.ref a] H (fun v _ => v = .bl true) E0) :
    PySem.W.WalkO q loose XP YP l.row.toRowW d [] (fun f vs => PySem.call f vs) := by
  refine Att.attach_call hn hdf fun w s0 s1 mg mb fa o pm cd doc a vs ns G Y _ _ _ hm ho hi hl hg => ?_
  have KX := hY w _ Y
  exact lawG KX G.T.g G.T.b G.T.builtins G.T.nolimit hg ho hi (Nat.le_trans hl hn2) room (F w mg fa _ KX G.T.g hm) fun H hS => hsp _ H a ns hl hS
end L2

set_option Elab.async false
set_option linter.all false
set_option maxRecDepth 100000
set_option maxHeartbeats 4000000
/-! Own layer: a caught error that is kept behind its except suite. -/
namespace L2
open ClX
open PySem PySem.Spec PyProof.Rows

/-- an error of the class cls, with the dict d, at a -/
def errO (cls : Value) (d : Option Addr) (a : Addr) : HO := .ext fun h => ∃ (oe : Obj) (vs : Array Value), h.get? a = some oe ∧ Zc cls d oe ∧ oe.data = .fields vs
theorem errO_ok {P : Program} {w : World} {H : Hp} {h : Heap} {a : Addr} {cls : Value} {d : Option Addr} {oe : Obj} {vs : Array Value} (e : h.get? a = some oe) (z : Zc cls d oe) (f : oe.data = .fields vs) : ObjOk P w H h a (errO cls d a) :=
  ⟨⟨oe, vs, e, z, f⟩, ⟨oe, e⟩, fun _ _ ⟨o, u, q, r⟩ k => ⟨o, u, k o q, r⟩⟩
/-- the context of an except suite, the error being tracked -/
abbrev Cx.held (X : Cx) (a : Addr) (pn : List (Addr × Obj)) : Cx := { X with A := X.A.mark (some (.ref a)), calm := false, pn := pn, xe := fun _ _ => False }
section
variable {X : Cx} {pins : List (Addr × Obj)} {σ : St} {H : Hp} {sI s' s : Shared} {B : Heap}
theorem Cx.Ok.held (ok : X.Ok) (a : Addr) (pn : List (Addr × Obj)) : (X.held a pn).Ok :=
  { mod := ok.mod, kind := ok.kind, glob := ok.glob, blt := ok.blt, above := ok.above, inj := ok.inj, has := ok.has, cab := ok.cab, hd := fun z => (by cases z), frames := ok.frames, stk := ok.stk, exf := ok.exf, bs := ok.bs, bsz := ok.bsz, noex := ok.noex, exfs := ok.exfs, funs := ok.funs, frf := ok.frf }
theorem Inv.held (I : Inv X pins σ H s) (a : Addr) : Inv (X.held a (X.pn ++ pins)) [] σ H s :=
  { ok := I.ok.held _ _, os := I.os, bare := I.bare, base := I.base, loc := I.loc, cell := I.cell, free := I.free, freeC := I.freeC, hok := I.hok, len := I.len,
    pin := fun p hp => I.pin p (by rw [List.append_nil] at hp; exact hp) }
theorem Inv.unheld {a : Addr} {pn : List (Addr × Obj)} (I : Inv (X.held a (X.pn ++ pins)) pn σ H s) (ok : X.Ok) : Inv X pins σ H s :=
  { ok := ok, os := I.os, bare := I.bare, base := I.base, loc := I.loc, cell := I.cell, free := I.free, freeC := I.freeC, hok := I.hok, len := I.len,
    pin := fun p hp => I.pin p (List.mem_append_left _ hp) }
/-- the state that an error leaves on the ground, the error tracked -/
theorem Inv.landedE {a : Addr} {cls : Value} {d : Option Addr} {oe : Obj} {vs : Array Value} (I : Inv X pins σ H sI) (nb : ∀ b o, sI.heap.get? b = some o → b ∉ frs X.stack → B.get? b = some o) (st : B.StaysIn s'.heap)
    (up : sI.heap.UpToSlots s'.heap) (os : s'.os = sI.os) (ag : AllBare s'.gens) (na : H a = none) (nB : B.get? a = none) (nF : a ∉ frs X.stack) (he : s'.heap.get? a = some oe) (hz : Zc cls d oe) (hf : oe.data = .fields vs) :
    Inv X pins σ (upd H a (errO cls d a)) s' := by
  have nI : sI.heap.get? a = none := by
    cases q : sI.heap.get? a with
    | none => rfl
    | some o =>
      have z := nb a o q nF
      rw [nB] at z
      cases z
  have ne : ∀ b o, sI.heap.get? b = some o → b ≠ a := fun b o q z => by
    rw [z, nI] at q
    cases q
  have hok0 : HOk X.prog X.w H s'.heap := HOk.kept (I.inGround nb) st
  have hok : HOk X.prog X.w (upd H a (errO cls d a)) s'.heap := HOk.laidN hok0 (fun _ _ z => z) na (errO_ok he hz hf)
  have keepS : ∀ b o, sI.heap.get? b = some o → b ∉ frs X.stack → s'.heap.get? b = some o := fun b o q n => st b o (nb b o q n)
  have J := I.call (H' := upd H a (errO cls d a)) (h' := s'.heap) (g' := s'.gens) (t' := s'.toks) (d' := s'.drawn) (ch := [])
    { keep := fun b o q _ n _ => keepS b o q n
      slot := fun b o q _ n _ => by
        obtain ⟨_, o1, e1, hnf⟩ := I.stack.mem n
        rw [q] at e1
        cases e1
        exact up b o q hnf
      free := fun b o q n _ => by
        rw [upd_ne (ne b o q)]
        exact n
      there := fun b o q _ => by
        by_cases n : b ∈ frs X.stack
        · obtain ⟨_, o1, e1, hnf⟩ := I.stack.mem n
          rw [q] at e1
          cases e1
          obtain ⟨sl, z⟩ := up b o q hnf
          exact ⟨_, z⟩
        · exact ⟨o, keepS b o q n⟩
      tups := fun b xs q => by
        rw [upd_ne (ne_of_none q na)]
        exact q
      frzs := fun b o u q => by
        rw [upd_ne (ne_of_none q na)]
        exact q
      tbls := fun b ps q => ⟨#[], by rw [upd_ne (ne_of_none q na), q]; simp⟩ } hok ag (fun _ z => nomatch z)
  obtain ⟨a1, a2, a3, a4, a5⟩ := s'
  have e5 : a5 = sI.os := os
  subst e5
  exact J

/-- what the clause wishes of an error of the body: it takes it, and the suite goes on with the error tracked; slot i is the clause's name -/
def wKept (K : PySem.W.Frag) (c : Value) (i : Nat) (ts : TS) (D : Ends) : WX := fun cls d σ H => PySem.W.exmOne K cls c = some true ∧ ∀ a, H a = none →
  ts ⟨fun σ1 H1 => D.nx (σ1.set i none) H1, D.rt, fun σ1 H1 => D.bk (σ1.set i none) H1, fun σ1 H1 => D.ct (σ1.set i none) H1⟩ (σ.set i (some (.ref a))) (upd H a (errO cls d a))
theorem ps_try_kept {x n : Str} {c : Value} {i : Nat} {body suite : List Stmt} {b0 : Stmt} {np pos pos' : Pos} {tb : WX → TS} {ts : TS}
    (stk : X.stack = X.env :: X.outer) (frm : X.env.frame = some X.env.locals) (hN : X.N.Nodup) (hi : X.N[i]? = some n) (hl : X.env.kindOf n = some .local) (hc : Names X x c)
    (hb : ∀ (W : WX) (pn : List (Addr × Obj)) (xe : Value → Shared → Prop), Takes (X.tr pn xe) W → PassesOwn (model X.prog X.w) X.A X.env xe → PSs (X.tr pn xe) body (tb W))
    (hsu : ∀ (a : Addr) (pn : List (Addr × Obj)), PSs (X.held a pn) (b0 :: suite) ts) :
    PS X (.Try body [.ExceptHandler (some (.Name x np)) (some n) (b0 :: suite) pos'] [] [] pos) (fun D σ H => tb (wKept X.K c i ts D) D σ H) := by
  refine ⟨fun pn s σ H D I h => ?_⟩
  have ok := I.ok
  have fr2 : X.A.frames = some (X.env :: X.outer) := by rw [ok.frames, stk]
  let seen : Value → Shared → Prop := fun e s₁ => wpAny (model X.prog X.w) X.A (noteFrame e X.env) (fun _ s₂ => wpAny (model X.prog X.w) X.A (setFlight e none) (fun _ s₃ =>
    wpAny (model X.prog X.w) X.A (handleBy e X.env [.ExceptHandler (some (.Name x np)) (some n) (b0 :: suite) pos']) (SP X pn D) X.xe s₃) X.xe s₂) X.xe s₁
  have caught : ∀ u s1, XE (X.tr (X.pn ++ pn) seen) (wKept X.K c i ts D) u s1 → seen u s1 := fun u s1 xx => by
    obtain ⟨a, B, sI, pn2, σ1, H1, cls, d, rfl, J0, nb, up, sky, na, os, ag, yes, go⟩ := xx
    have J : Inv X pn σ1 H1 sI := J0.ofTry ok
    have sky1 : Sky B (X.env :: X.outer) a (Zc cls d) X.env.locals s1.heap := by
      rw [← stk]
      exact sky
    show wpAny (model X.prog X.w) X.A (noteFrame (.ref a) X.env) _ _ _
    refine Sky.land Zc.steady fr2 frm sky1 fun h3 fl3 up3 => ?_
    have offF : ∀ {h : Heap} {o : Obj} {vs : Array Value}, h.FunFrames B (X.env :: X.outer) → h.get? a = some o → o.data = .fields vs → a ∉ frs X.stack := fun {h o vs} ff e dd hm => by
      rw [stk] at hm
      obtain ⟨_, o2, e2, hnf⟩ := ff.mem hm
      rw [e] at e2
      cases e2
      exact hnf _ dd
    obtain ⟨oe3, vs3, he3, hz3, hd3⟩ := fl3.there
    have T3 := (J.landedE (s' := { s1 with heap := h3 }) nb fl3.1 (up.trans up3) os ag na fl3.2.1 (offF fl3.2.2.1 he3 hd3) he3 hz3 hd3).held a
    refine wpAny_handleBy_cons (codeAny_handlers_test ?_) (fun z => by cases z)
    have LT : PySem.W.Looks (model X.prog X.w) h3 (typeOf (.ref a)) cls := fun A2 Q2 E2 s2 k2 q2 => wpAny_typeOf_ref (k2 _ _ he3) (by rw [hz3.1]; exact q2)
    have LM := PySem.W.exm_one (M := model X.prog X.w) T3.kIn LT yes
    have look : ∀ {Q2 : Value → Shared → Prop} {E2 : Value → Shared → Prop}, Q2 c { s1 with heap := h3 } → wpAny (model X.prog X.w) (X.A.mark (some (.ref a))) (eval (.Name x np) X.env) Q2 E2 { s1 with heap := h3 } := fun {Q2 E2} q2 => by
      obtain ⟨g1, g2, g3 | ⟨g3, g4, g5⟩⟩ := hc
      · exact ld_glob (X := X.held a (X.pn ++ pn)) T3 g1 g3 q2 g2
      · exact ld_blt (X := X.held a (X.pn ++ pn)) T3 g1 g3 g4 q2 g5 g2
    refine look (LM.here (codeAny_handlers_suite_as ?_))
    refine HandSPX.lands_againZ fl3 fun h4 fl4 up4 => ?_
    obtain ⟨oe4, vs4, he4, hz4, hd4⟩ := fl4.there
    have T4 := (J.landedE (s' := { s1 with heap := h4 }) nb fl4.1 ((up.trans up3).trans up4) os ag na fl4.2.1 (offF fl4.2.2.1 he4 hd4) he4 hz4 hd4).held a
    refine store_ok (X := X.held a (X.pn ++ pn)) (v := .ref a) T4 hN hi (.inl hl) rfl (fun s5 T5 => ?_) (.inr hl)
    refine wpAny_mono ((hsu a (X.pn ++ pn)).run [] s5 _ _ _ T5 (go a na)) (fun fl s6 z => ?_) fun _ _ z => False.elim z
    have fin : ∀ {σ6 : St} {H6 : Hp} {Q6 : Shared → Prop}, Inv (X.held a (X.pn ++ pn)) [] σ6 H6 s6 → (∀ s7, Inv X pn (σ6.set i none) H6 s7 → Q6 s7) →
        wpAny (model X.prog X.w) X.A (do bindName X.env n .none; unbindBehindTheSuite X.env n pos') (fun _ s7 => Q6 s7) X.xe s6 := fun {σ6 H6 Q6} T6 q => gone_ok (T6.unheld ok) hN hi hl q
    match fl, z with
    | .next, ⟨σ6, H6, T6, q⟩ => exact fin T6 fun s7 J7 => ⟨_, _, J7, q⟩
    | .brk, ⟨σ6, H6, T6, q⟩ => exact fin T6 fun s7 J7 => ⟨_, _, J7, q⟩
    | .cont, ⟨σ6, H6, T6, q⟩ => exact fin T6 fun s7 J7 => ⟨_, _, J7, q⟩
    | .ret u, ⟨v, σ6, H6, T6, r6, q⟩ => exact fin T6 fun s7 J7 => ⟨_, _, _, J7, r6, q⟩
  refine wpAny_Try_except (wpAny_mono ((hb (wKept X.K c i ts D) (X.pn ++ pn) seen caught PassesOwn.looking).run [] s σ H D (I.toTry _) h) (fun fl s1 z => ?_) fun _ _ z => z)
  match fl, z with
  | .next, ⟨σ1, H1, J, q⟩ => exact wpAny_execs_nil ⟨σ1, H1, J.ofTry ok, q⟩
  | .brk, ⟨σ1, H1, J, q⟩ => exact ⟨σ1, H1, J.ofTry ok, q⟩
  | .cont, ⟨σ1, H1, J, q⟩ => exact ⟨σ1, H1, J.ofTry ok, q⟩
  | .ret u, ⟨v, σ1, H1, J, r, q⟩ => exact ⟨v, σ1, H1, J.ofTry ok, r, q⟩
end
end L2

set_option Elab.async false
set_option linter.all false
set_option maxRecDepth 100000
set_option maxHeartbeats 4000000
/-! Own layer: a kept error's class and its field. -/
namespace PySem.W
open PySem PySem.Spec PySem.Calls PyProof.Rows
section
variable {prog : Program} {w : World} {A : Around} {E : Value → Shared → Prop} {s : Shared} {K : Frag} {x D : Addr} {ox : Obj} {od : Option Obj}
/-- an error's own __class__, whatever its dict holds -/
theorem err_class {Q : Option Value → Shared → Prop} (fnd : findObj K D od "__class__" = some (.bind (.builtin "getset_descriptor.__get__") (.builtin "object.__class__")))
    (c1 : findIn K (.ref D) "__getattribute__" = some (some (.builtin "BaseException.__getattribute__"))) (c2 : findIn K (.ref D) "__getattr__" = some none) (c3 : subIn K (.ref D) (.type "BaseException") = some true)
    (c4 : mroIn K D (.type "object") = some true) (KX : K.In s.heap) (J : InstAt s.heap x ox D od) (fin : Q (some (.ref D)) { s with toks := s.toks + 1 }) : wpAny (model prog w) A (getAttr? (.ref x) "__class__") Q E s := by
  obtain ⟨hp, gn, dr, tk, os⟩ := s
  have l0 := J.type (M := model prog w)
  have l1 := looks_findIn (M := model prog w) KX c1
  have l2 := looks_findIn (M := model prog w) KX c2
  have l3 := looks_find (M := model prog w) KX J fnd
  have isExc : Looks (model prog w) hp (isInstance (.ref x) (.type "BaseException")) true := l0.andThen (looks_subIn KX c3)
  have b0 : (false && onTheHeap (Value.builtin "BaseException.__getattribute__")) = false := rfl
  have b1 : (Value.builtin "BaseException.__getattribute__" == Value.builtin "object.__getattribute__") = false := by decide +kernel
  have b2 : (onTheHeap (Value.ref D) && Value.builtin "BaseException.__getattribute__" == Value.builtin "object.__getattribute__") = false := by
    rw [b1]
    rfl
  unfold getAttr? getAttrBy? getAttrBy
  refine wpAny_bind (wpAny_mkText (wpAny_bind (wpAny_attempt (wpAny_holding (wpAny_bind (l0.at (wpAny_bind (l1.at ?_))))))))
  show wpAny _ _ (if (onTheHeap (Value.ref D) && Value.builtin "BaseException.__getattribute__" == Value.builtin "object.__getattribute__") = true then _ else _) _ _ _
  rw [b2, if_neg Bool.false_ne_true]
  unfold getAttrByItsOwn hookBefore
  refine wpAny_bind ?_
  rw [if_pos (show onTheHeap (Value.ref D) = true from rfl)]
  refine l2.at (wpAny_bind (wpAny_attempt (wpAny_holding ?_)))
  unfold callGetattribute
  rw [b0, if_neg Bool.false_ne_true]
  unfold boundAndCalled
  rw [PySem.F.excAttr_ValueError.ga.bind (.ref x)]
  refine wpAny_bind (wpAny_pure ?_)
  show wpAny _ _ (call (.builtin "BaseException.__getattribute__") [.ref x, .str "__class__" tk]) _ _ _
  refine wpAny_call (codeAny_call_builtin PySem.F.excAttr_ValueError.ga.plain PySem.F.entry_bexc_ga ?_)
  refine @check_slot (model prog w) _ _ ⟨hp, gn, dr, tk + 1, os⟩ "BaseException.__getattribute__" "BaseException" "__getattribute__" (.ref x) [.str "__class__" tk] [] _ (by decide +kernel) (by decide +kernel) isExc (PySem.F.args_bexc_ga (.ref x) (.str "__class__" tk)) ?_
  unfold Builtin.«object.__getattribute__»
  refine wpAny_bind (wpAny_of_eq (a := ((Value.ref x : Value), [Value.str "__class__" tk])) (by first | rfl | (simp only [slotArgs]; rfl)) ?_)
  refine wpAny_bind (wpAny_pure (wpAny_bind (l0.at (wpAny_bind (l3.at ?_)))))
  show wpAny _ _ (holding [Value.builtin "object.__class__"] (call (.builtin "getset_descriptor.__get__") [.builtin "object.__class__", .ref x, .ref D]) >>= ret) _ _ _
  refine wpAny_bind (wpAny_holding (wpAny_call (class_get (s := ⟨hp, gn, dr, tk + 1, os⟩) (ox := ox) (od := od) KX J c4 ?_)))
  refine wpAny_pure ?_
  show wpAny _ _ (handedOut (.ref D)) _ _ _
  rw [handedOut_of (v := .ref D) rfl]
  first
    | exact wpAny_pure (wpAny_pure fin)
    | exact wpAny_pure fin
    | exact wpAny_pure (wpAny_bind (wpAny_pure (wpAny_pure fin)))
end
end PySem.W
namespace L2
open ClX
open PySem PySem.Spec PyProof.Rows
section
variable {X : Cx} {pins : List (Addr × Obj)} {σ : St} {H : Hp} {s : Shared}
theorem err_find {K : PySem.W.Frag} {D : Addr} (T : ExcC K D) (od : Option Obj) : PySem.W.findObj K D od "__class__" = some (.bind (.builtin "getset_descriptor.__get__") (.builtin "object.__class__")) := by
  have hc : (PySem.W.clsIn K D).isSome = true := by
    obtain ⟨cd, h, _⟩ := PySem.W.any_some T.hd
    rw [h]
    rfl
  cases od with
  | none => exact PySem.W.findObj_dataN hc T.ha T.hn T.ht
  | some o => exact PySem.W.findObj_data hc T.ha T.hn T.ht
/-- what an error's object is -/
theorem err_inst (I : Inv X pins σ H s) {D a : Addr} {d : Option Addr} (h : H a = some (errO (.ref D) d a)) (hd : ∀ dd, d = some dd → ∃ fs, H dd = some (.xd fs)) : ∃ (ox : Obj) (od : Option Obj), PySem.W.InstAt s.heap a ox D od ∧
    ∀ dd fs, d = some dd → H dd = some (.xd fs) → ∀ f v, fs.lookup f = some v → ∃ o u, od = some o ∧ RelV v u ∧ PySem.W.lookIn f o = some (some u) := by
  obtain ⟨⟨oe, vs, e, z, f⟩, _⟩ := I.hok a _ h
  obtain ⟨oc, dd, da, sl⟩ := oe
  obtain ⟨z1, z2⟩ := z
  dsimp only at z1 z2 f
  subst z1 z2 f
  cases dd with
  | none => exact ⟨_, none, ⟨e, rfl, rfl, trivial⟩, fun _ _ q => by cases q⟩
  | some p =>
    obtain ⟨fs0, hp⟩ := hd p rfl
    obtain ⟨mA, hns, hr⟩ := (show ObjOk X.prog X.w H s.heap p (.xd fs0) from I.hok p _ hp)
    obtain ⟨od, ho, hl⟩ := lookIn_ns hns
    refine ⟨_, some od, ⟨e, rfl, rfl, ho⟩, fun q fs1 e1 e2 g v l => ?_⟩
    cases e1
    rw [hp] at e2
    cases e2
    obtain ⟨u, hu, ru⟩ := RelO.some_of (v := v) (o := mA g) (by rw [← l]; exact hr g)
    exact ⟨od, u, rfl, ru, by rw [hl, hu]⟩
/-- isinstance(e, C), isinstance(e, (C, ..)), e a kept error -/
def rIsErr (K : PySem.W.Frag) : List V → Hp → VK → Prop := fun xs H Q => ∃ (a D : Addr) (d : Option Addr) (c : V) (cv : Value) (b : Bool), xs = [.ref a, c] ∧ H a = some (errO (.ref D) d a) ∧ (∀ dd, d = some dd → ∃ fs, H dd = some (.xd fs)) ∧ ExcC K D ∧
  ClsV c cv ∧ PySem.W.kitOne K (.ref D) cv = some b ∧ Q (.bl b) H
def rIsErrT (K : PySem.W.Frag) : List V → Hp → VK → Prop := fun xs H Q => ∃ (a D tp : Addr) (d : Option Addr) (cs : List V) (us : List Value) (b : Bool), xs = [.ref a, .ref tp] ∧ H a = some (errO (.ref D) d a) ∧ (∀ dd, d = some dd → ∃ fs, H dd = some (.xd fs)) ∧ ExcC K D ∧
  H tp = some (.tup cs) ∧ Paired ClsV cs us ∧ PySem.W.kitAny K (.ref D) us = some b ∧ Q (.bl b) H
theorem err_kit {K : PySem.W.Frag} {a D : Addr} {ox : Obj} {od : Option Obj} (T : ExcC K D) : PySem.W.KitX K (.ref a) (.ref D) (fun h => PySem.W.InstAt h a ox D od) where
  ty := fun _ _ _ J => J.type
  it := fun _ _ KX _ => by
    obtain ⟨cd, hc, _⟩ := PySem.W.any_some T.hd
    unfold PySem.W.clsIn at hc
    split at hc
    · rename_i c2 d2 cd2 sl2 ho
      intro A2 Q2 E2 s2 k2 q2
      unfold isType loadHead
      exact wpAny_bind (wpAny_loadPart (k2 _ _ (KX _ _ ho)) (wpAny_pure q2))
    · cases hc
  ne := fun h tp dd its n sl KX htp => by
    obtain ⟨cd, hc, _⟩ := PySem.W.any_some T.hd
    refine Bool.eq_false_iff.mpr fun q => ?_
    obtain rfl : D = tp := Value.ref.inj (beq_iff_eq.mp q)
    unfold PySem.W.clsIn at hc
    split at hc
    · rename_i c2 d2 cd2 sl2 ho
      have z := (KX _ _ ho).symm.trans htp
      cases z
    · cases hc
  ca := fun KX J k => PySem.W.err_class (err_find T od) T.hg T.hk T.hs T.hm KX J k
theorem call_isErr : CallR X (.builtin "isinstance") (rIsErr X.K) := by
  intro pn s σ H xs us Q I r h
  obtain ⟨a, D, d, c, cv, b, rfl, ha, hd, T, hc, e, q⟩ := h
  obtain ⟨u1, u2, rfl, r1, r2⟩ := vals2 r
  cases r1
  have ec := hc.eq r2
  subst ec
  obtain ⟨ox, od, J, _⟩ := err_inst I ha hd
  exact PySem.W.kia_one (err_kit T) I.kIn J e (fun z => nomatch z) fun tk => ⟨.bl b, H, I.kept (t' := tk) fun _ _ z => z, rfl, q⟩
theorem call_isErrT : CallR X (.builtin "isinstance") (rIsErrT X.K) := by
  intro pn s σ H xs us Q I r h
  obtain ⟨a, D, tp, d, cs, ws, b, rfl, ha, hd, T, ht, hc, e, q⟩ := h
  obtain ⟨u1, u2, rfl, r1, r2⟩ := vals2 r
  cases r1
  cases r2
  obtain ⟨ox, od, J, _⟩ := err_inst I ha hd
  obtain ⟨_, its, r3, o, e1, e2, n, e3⟩ := (show ObjOk X.prog X.w H s.heap tp (.tup cs) from I.hok tp _ ht)
  have ew := ClsV.all hc r3
  subst ew
  obtain ⟨o1, o2, o3, o4⟩ := o
  dsimp only at e2 e3
  subst e2 e3
  exact PySem.W.kia_tup (err_kit T) I.kIn J e1 e (fun z => nomatch z) fun tk => ⟨.bl b, H, I.kept (t' := tk) fun _ _ z => z, rfl, q⟩
/-- e.f, e a kept error with a field -/
def tErrF (K : PySem.W.Frag) (f : Str) (te : TE) : TE := fun σ H Q => te σ H fun x H1 => ∃ (a D dd : Addr) (fs : List (Str × V)) (v : V), x = .ref a ∧ H1 a = some (errO (.ref D) (some dd) a) ∧ H1 dd = some (.xd fs) ∧ XfC K D ∧ PySem.W.findIn K (.ref D) f = some none ∧
  fs.lookup f = some v ∧ Q v H1
theorem pe_errF {e : Expr} {te : TE} {f : Str} {pos : Pos} (he : PE X e te) (hb : attributeBase e f X.env (eval e X.env) = eval e X.env := by rfl) : PE X (.Attribute e f pos) (tErrF X.K f te) := by
  refine ⟨fun pn s σ H Q I h => attr_of hb (thn (he.run pn s σ H _ I h) fun u s1 ⟨x, H1, I1, rx, a, D, dd, fs, v, ex, ha, hf, T, no, l, q⟩ => ?_)⟩
  subst ex
  cases rx
  obtain ⟨ox, od, J, g⟩ := err_inst I1 ha (fun d2 z => by cases z; exact ⟨fs, hf⟩)
  obtain ⟨o, u, rfl, ru, lk⟩ := g dd fs rfl hf f v l
  exact HandSPX.exc_get I1.kIn J T.ga T.gg T.exC (PySem.W.findObj_own T.hdC no rfl lk) (handed_of ru) ⟨v, H1, I1.tok _, ru, q⟩
end
end L2

set_option Elab.async false
set_option linter.all false
set_option maxRecDepth 100000
set_option maxHeartbeats 4000000
/-! Own layer: the set of a list of texts, its size. -/
namespace OwnSet
open PySem PySem.Spec PyProof.Rows
/-- the different ones among the first i, in the order in which they are met -/
def met (xs : List Str) : Nat → List Str
  | 0 => []
  | i + 1 => if (met xs i).any (· == xs.getD i Str.empty) then met xs i else met xs i ++ [xs.getD i Str.empty]
theorem met_le (xs : List Str) : ∀ i, (met xs i).length ≤ i
  | 0 => Nat.le_refl _
  | i + 1 => by
    have := met_le xs i
    show (if _ then _ else _ : List Str).length ≤ _
    split
    · omega
    · rw [List.length_append]
      simp
      omega
theorem met_any (xs : List Str) (i : Nat) (k : Str) : (met xs (i + 1)).any (· == k) = ((met xs i).any (· == k) || decide (k = xs.getD i Str.empty)) := by
  show (if _ then _ else _ : List Str).any _ = _
  split
  · rename_i c
    by_cases e : k = xs.getD i Str.empty
    · subst e
      rw [c]
      rfl
    · rw [decide_eq_false e, Bool.or_false]
  · rw [List.any_append]
    congr 1
    simp only [List.any_cons, List.any_nil, Bool.or_false]
    by_cases e : k = xs.getD i Str.empty
    · subst e
      simp
    · rw [decide_eq_false e]
      exact beq_eq_false_iff_ne.mpr fun q => e q.symm
theorem met_len (xs : List Str) (i : Nat) : (met xs (i + 1)).length = if (met xs i).any (· == xs.getD i Str.empty) = true then (met xs i).length else (met xs i).length + 1 := by
  show (if _ then _ else _ : List Str).length = _
  split <;> simp_all
theorem met_mem (xs : List Str) : ∀ i, i ≤ xs.length → ∀ y, y ∈ met xs i ↔ y ∈ xs.take i
  | 0, _, y => by simp [met]
  | i + 1, h, y => by
    have ih := met_mem xs i (by omega) y
    have hx : xs.getD i Str.empty = xs[i] := by simp [List.getD, List.getElem?_eq_getElem (show i < xs.length by omega)]
    have e2 : xs.take (i + 1) = xs.take i ++ [xs[i]] := by
      rw [List.take_add_one, List.getElem?_eq_getElem (show i < xs.length by omega)]
      rfl
    rw [e2, List.mem_append, ← ih]
    show y ∈ (if _ then _ else _ : List Str) ↔ _
    rw [hx]
    split
    · rename_i c
      obtain ⟨z, hz, ez⟩ := List.any_eq_true.mp c
      have ez : z = xs[i] := eq_of_beq ez
      constructor
      · exact .inl
      · rintro (q | q)
        · exact q
        · rw [List.mem_singleton.mp q, ← ez]
          exact hz
    · rw [List.mem_append]
theorem met_full (xs : List Str) : ∀ i, i ≤ xs.length → ((met xs i).length = i ↔ (xs.take i).Nodup)
  | 0, _ => by simp [met]
  | i + 1, h => by
    have ih := met_full xs i (by omega)
    have hm := met_mem xs i (by omega)
    have le := met_le xs i
    have hx : xs.getD i Str.empty = xs[i] := by simp [List.getD, List.getElem?_eq_getElem (show i < xs.length by omega)]
    have e2 : xs.take (i + 1) = xs.take i ++ [xs[i]] := by
      rw [List.take_add_one, List.getElem?_eq_getElem (show i < xs.length by omega)]
      rfl
    rw [e2, met_len, hx]
    have ea : (met xs i).any (· == xs[i]) = true ↔ xs[i] ∈ xs.take i := by
      rw [← hm]
      constructor
      · intro c
        obtain ⟨z, hz, ez⟩ := List.any_eq_true.mp c
        have ez : z = xs[i] := eq_of_beq ez
        rw [← ez]
        exact hz
      · intro c
        exact List.any_eq_true.mpr ⟨_, c, beq_self_eq_true _⟩
    rw [List.nodup_append]
    by_cases c : xs[i] ∈ xs.take i
    · rw [if_pos (ea.mpr c)]
      constructor
      · intro z
        omega
      · intro z
        exact absurd rfl (z.2.2 _ c _ (List.mem_singleton.mpr rfl))
    · rw [if_neg (fun z => c (ea.mp z))]
      constructor
      · intro z
        refine ⟨ih.mp (by omega), by simp, fun y hy z hz q => c ?_⟩
        rw [List.mem_singleton.mp hz] at q
        rw [← q]
        exact hy
      · intro z
        rw [ih.mpr z.1]
theorem met_all (xs : List Str) : decide ((met xs xs.length).length = xs.length) = decide xs.Nodup := by
  have h := met_full xs xs.length (Nat.le_refl _)
  rw [List.take_length] at h
  exact decide_eq_decide.mpr h
section
variable {prog : Program} {w : World} {A : Around} {R : Result → Shared → Prop} {It : Addr} {own wrt : List Addr} {G : Array GenState → Array GenState → Prop} {n : Nat} {P : Nat → Value → Prop} {St : Nat → Shared → Prop}
/-- the loop that fills a set with texts -/
theorem fill (W : WalksS prog w A.in1 It own wrt G n P St) (S : Addr) (free : S ∉ own) (xs : List Str) (each : ∀ i v, P i v → ∃ t, v = .str (xs.getD i Str.empty) t) (small : n + 1 < scanBound) :
    ∀ (k i : Nat) (s : Shared), n - i = k → i ≤ n → St i s → s.heap.SetOf (PySem.strKind prog w) S (fun y => (met xs i).any (· == y)) (met xs i).length →
      (∀ s2, Moved (S :: wrt) G s s2 → s2.heap.SetOf (PySem.strKind prog w) S (fun y => (met xs n).any (· == y)) (met xs n).length → R (.ok (.ret .none)) s2) →
      codeAny (model prog w) A (.builtin "set.update.loop" ⟨[.ref S, .ref It], []⟩) R s := by
  have freeW : S ∉ wrt := fun z => free (W.sub _ z)
  have more : ∀ b ∈ wrt, b ∈ S :: wrt := fun b z => List.mem_cons_of_mem _ z
  have kept : ∀ {s s2 : Shared} {i : Nat}, Moved wrt G s s2 → s.heap.SetOf (PySem.strKind prog w) S (fun y => (met xs i).any (· == y)) (met xs i).length →
      s2.heap.SetOf (PySem.strKind prog w) S (fun y => (met xs i).any (· == y)) (met xs i).length := fun mv ⟨o, es, ep, tb, ho, r⟩ => ⟨o, es, ep, tb, mv.heap S _ freeW ho, r⟩
  intro k
  induction k with
  | zero =>
    intro i s hk hi st hs fin
    obtain rfl : i = n := by omega
    refine codeAny_builtin PyProof.Rows.F.entry_set_update_loop ?_
    rw [Around.under_plainId PyProof.Rows.F.plain_set_update_loop _]
    show wpAny _ A.in1 (pyNext (.ref It) >>= _) _ _ s
    refine wpAny_bind (W.done s _ _ st fun s2 mv => ?_)
    show wpAny _ A.in1 (ret Value.none) _ _ s2
    exact wpAny_pure (fin s2 (mv.mono more) (kept mv hs))
  | succ k ih =>
    intro i s hk hi st hs fin
    have lt : i < n := by omega
    have le := met_le xs i
    refine codeAny_builtin PyProof.Rows.F.entry_set_update_loop ?_
    rw [Around.under_plainId PyProof.Rows.F.plain_set_update_loop _]
    show wpAny _ A.in1 (pyNext (.ref It) >>= _) _ _ s
    refine wpAny_bind (W.item i s _ _ lt st fun v s2 hv st2 mv => ?_)
    obtain ⟨t, rfl⟩ := each i v hv
    show wpAny _ A.in1 (holding [Value.str (xs.getD i Str.empty) t] (setAdd S (.str (xs.getD i Str.empty) t)) >>= _) _ _ s2
    refine wpAny_bind (wpAny_holding ?_)
    unfold setAdd
    refine wpAny_holding (wpAny_bind ((PySem.strKind prog w).pyHash (k := xs.getD i Str.empty) (strKind_is _ _ _ _) ?_))
    have hk2 := kept mv hs
    refine wpAny_setAddHashed_of (knd := PySem.strKind prog w) (s := { s2 with toks := s2.toks + 1 }) (strKind_is _ _ _ _) rfl hk2 (by omega) fun h2 sb hs2 => ?_
    have hs3 : h2.SetOf (PySem.strKind prog w) S (fun y => (met xs (i + 1)).any (· == y)) (met xs (i + 1)).length := SetOf_congr hs2 (fun y => (met_any xs i y).symm) (met_len xs i).symm
    have off : ∀ b, b ≠ S → h2.get? b = s2.heap.get? b := fun b z => sb.2 b z
    refine wpAny_pure ⟨plainId_quiet PyProof.Rows.F.plain_set_update_loop _, ih (i + 1) _ (by omega) lt (W.frame _ s2 _ _ st2 (Nat.le_succ _) fun b z o e => (off b fun q => free (q ▸ z)).trans e) hs3 fun s3 mv3 hs4 => ?_⟩
    exact fin s3 (Moved.trans W.gtrans ((mv.mono more).then_heap (Nat.le_succ _) fun b o z e => (off b fun q => z (q ▸ List.mem_cons_self)).trans e) mv3) hs4
end
section
variable {prog : Program} {w : World} {A : Around} {E : Value → Shared → Prop} {s : Shared}
abbrev newSet (led : Bool) : Obj := { cls := .type "set", dict := none, data := .set #[] 0 (.fresh 0 0 led) }
/-- set(xs), xs a list of texts -/
theorem set_of {l : Addr} {items : Array Value} {xs : List Str} {Q : Value → Shared → Prop} (calm : A.handled = none) (hl : s.heap.IsList l items) (hi : StrsAre items.toList xs) (small : items.size + 1 < scanBound)
    (fin : ∀ (h2 : Heap) (tk : Nat), h2.SetOf (PySem.strKind prog w) s.heap.objs.size (fun y => (met xs items.size).any (· == y)) (met xs items.size).length →
      (∀ b o, b < s.heap.objs.size → s.heap.get? b = some o → h2.get? b = some o) → Q (.ref s.heap.objs.size) { s with heap := h2, toks := tk }) :
    wpAny (model prog w) A (call (.type "set") [.ref l]) Q E s := by
  obtain ⟨c0, tl0, mro0⟩ := PySem.F.called_set.mro
  have made0 := PySem.F.called_set.made
  have sub0 := PySem.F.called_set.sub
  refine wpAny_call (codeAny_of_tree ?_)
  show wpAny _ _ (callAny (.type "set") _) _ _ _
  refine wpAny_pure ⟨Code.quiet_builtin _ (by decide +kernel), codeAny_builtin PySem.F.entry_type_call ?_⟩
  rw [Around.under_plain (weight_type_call_type "set" [.ref l] []) rfl]
  have notT := PySem.F.called_set.notType
  have canC := PySem.F.called_set.canCreate
  have chk := PySem.F.typeCall_set_1 (.ref l)
  repeat (any_goals (first | assumption | wp_step))
  refine codeAny_mono (code_set_new_1 (.ref l) (E := E) (Q₁ := fun ob s1 => ∃ led : Bool, ob = .ref s.heap.objs.size ∧ s1 = { s with heap := s.heap.push (newSet led) }) fun led => ⟨led, rfl, rfl⟩) fun r s1 z => ?_
  match r, z with
  | .error _, z => exact z
  | .ok .next, z => exact z.elim
  | .ok .brk, z => exact z.elim
  | .ok .cont, z => exact z.elim
  | .ok (.ret _), ⟨led, e1, e2⟩ =>
    subst e1 e2
    have at0 : (s.heap.push (newSet led)).get? s.heap.objs.size = some (newSet led) := Heap.get?_push_size _ rfl
    have ty0 : Shared.TypeIs { s with heap := s.heap.push (newSet led) } (.ref s.heap.objs.size) "set" := ⟨_, at0, rfl⟩
    have lk0 := PySem.F.called_set.init.lookup
    have bd0 := PySem.F.called_set.init.bind (.ref s.heap.objs.size)
    repeat (any_goals (first | assumption | wp_step))
    refine codeAny_mono (codeAny_call_builtin (R := wants (fun r s2 => r = .none ∧ ∃ h2 tk, s2 = { s with heap := h2, toks := tk } ∧ h2.SetOf (PySem.strKind prog w) s.heap.objs.size (fun y => (met xs items.size).any (· == y)) (met xs items.size).length ∧
      (∀ b o, b < s.heap.objs.size → s.heap.get? b = some o → h2.get? b = some o)) E) PySem.F.called_set.init.plain PySem.F.entry_set_init (check_set_init_1 ty0 ?_)) fun r2 s2 z2 => ?_
    · obtain ⟨ol, lol, lcl, nl, ldl⟩ := hl
      obtain ⟨oc, od, oda, osl⟩ := ol
      simp only at lcl ldl
      subst lcl
      subst ldl
      have at1 : (s.heap.push (newSet led)).get? l = some { cls := .type "list", dict := od, data := .seq items nl, slots := osl } := Heap.get?_push_of_some _ lol
      have q1 := PySem.F.sub_list_set
      have q2 := PySem.F.sub_list_frozenset
      have q3 : (Value.type "list" == Value.type "dict") = false := by decide
      have isl : (s.heap.push (newSet led)).IsList l items := ⟨_, at1, rfl, nl, rfl⟩
      unfold Builtin.«set.__init__» noKeywords Builtin.Frozenset.updateFrom
      generalize gpi : pyIter = PI
      wp_walk
      subst gpi
      refine wpAny_pyIter_list isl (wpAny_bind (wpAny_runValue ?_))
      have lltS : l < s.heap.objs.size := Heap.lt_size lol
      have calm3 : A.in1.in1.in1.handled = none := by simp [calm]
      have sz1 : (s.heap.push (newSet led)).objs.size = s.heap.objs.size + 1 := Heap.size_push _ _
      have lne : l ≠ (s.heap.push (newSet led)).objs.size := by
        rw [sz1]
        exact Nat.ne_of_lt (Nat.lt_succ_of_lt lltS)
      have frS : s.heap.objs.size ∉ [(s.heap.push (newSet led)).objs.size, l] := by
        rw [sz1]
        simp only [List.mem_cons, List.not_mem_nil, or_false, not_or]
        exact ⟨Nat.ne_of_lt (Nat.lt_succ_self _), Nat.ne_of_gt lltS⟩
      refine fill ((Walks.list calm3 _ l lne items).toS) s.heap.objs.size frS xs (fun i v hv => SS.strs_at hi i v (by rw [Array.getElem?_toList]; exact hv)) small (items.size - 0) 0 _ (by omega) (Nat.zero_le _)
        ⟨⟨_, Heap.get?_push_size _ rfl, rfl, rfl⟩, isl.push _⟩ ?_ ?_
      · have at2 : ((s.heap.push (newSet led)).push { cls := .type "list_iterator", data := .fields #[.ref l, .int 0 0] }).get? s.heap.objs.size = some (newSet led) := Heap.get?_push_of_some _ at0
        exact SetOf_congr ((setObjOf_fresh (knd := PySem.strKind prog w) led).setOf at2 (by unfold scanBound; omega)) (fun _ => rfl) rfl
      · intro s3 mv hs3
        obtain ⟨h3, g3, d3, t3, o3⟩ := s3
        have eg : g3 = s.gens := mv.gens
        have ed : d3 = s.drawn := mv.drawn
        have eo : o3 = s.os := mv.os
        subst eg
        subst ed
        subst eo
        show wpAny _ _ _ _ _ _
        refine wpAny_pure ?_
        show wpAny _ _ (ret Value.none) _ _ _
        refine wpAny_pure ⟨rfl, h3, t3, rfl, hs3, fun b o hb e => mv.heap b o ?_ (Heap.get?_push_of_some _ (Heap.get?_push_of_some _ e))⟩
        rw [sz1]
        simp only [List.mem_cons, List.not_mem_nil, or_false, not_or]
        exact ⟨Nat.ne_of_lt hb, Nat.ne_of_lt (Nat.lt_succ_of_lt hb)⟩
    · match r2, z2 with
      | .error _, z2 => exact z2
      | .ok .next, z2 => exact z2.elim
      | .ok .brk, z2 => exact z2.elim
      | .ok .cont, z2 => exact z2.elim
      | .ok (.ret _), ⟨e1, h2, tk, e2, a1, a2⟩ =>
        subst e1 e2
        repeat (any_goals (first | assumption | wp_step))
        exact fin _ _ a1 a2
end
end OwnSet
namespace L2
open PySem PySem.Spec PyProof.Rows
/-- len(set(xs)), xs a list of texts -/
def tLenSetS (K : PySem.W.Frag) (ta : TE) : TE := fun σ H Q => ta σ H fun x H1 => ∃ (l : Addr) (xs : List Str), x = .ref l ∧ SqL K H1 l (xs.map V.str) ∧ xs.length ≤ 4000 ∧ Q (.int ((OwnSet.met xs xs.length).length : Nat)) H1
theorem pe_lenSetS {X : Cx} {a : Expr} {ta : TE} {p p2 q pos : Pos} (hm : X.mg "len" = none) (hm2 : X.mg "set" = none) (ha : PE X a ta) (hc : X.calm = true := by rfl) (hg : Gl X "len" := by rfl) (hg2 : Gl X "set" := by rfl)
    (na : starEach [a] X.env = (false, eval a X.env) :: starEach [] X.env := by rfl) : PE X (.Call (.Name "len" p) [.Call (.Name "set" p2) [a] [] q] [] pos) (tLenSetS X.K ta) := by
  refine ⟨fun pn s σ H Q I h => Call_ (ld_blt I hg hm boot_len ?_)⟩
  refine callWith_builtin1 (args_cons (Call_ (ld_blt I hg2 hm2 boot_set ?_)) rfl) rfl rfl
  refine callWith_type1 (args_cons (thn (ha.run pn s σ H _ I h) fun v s1 ⟨x, H1, I1, r1, l, xs, ex, hq, hl, q1⟩ => args_nil ?_) na) na rfl
  subst ex
  cases r1
  obtain ⟨its, r, pl, hz⟩ := I1.list hq
  have sz : its.toArray.size = xs.length := by rw [List.size_toArray, ← r.length, List.length_map]
  refine OwnSet.set_of (xs := xs) (I1.ok.hd hc) pl.isList (by simpa using strsAre_of r) (by rw [sz]; unfold scanBound; omega) fun h2 tk hs keep => args_nil ?_
  rw [sz] at hs
  have le := OwnSet.met_le xs xs.length
  obtain ⟨o, es, ep, t, ho, hex, hd, _, _, _, hf, hn⟩ := hs
  have I2 : Inv X pn σ H1 { s1 with heap := h2, toks := tk } := I1.kept fun b o e => keep b o (Heap.lt_size e) e
  exact call_len_set ho hex hd hf (by rw [hn]; omega) ⟨.int _, H1, I2.tok _, ⟨_, by rw [hn]⟩, q1⟩
end L2

set_option Elab.async false
set_option linter.all false
set_option maxRecDepth 100000
set_option maxHeartbeats 4000000
/-! Own errors with one field (after the guide's own page on them). -/
namespace PySem
namespace ImpX
open PySem.W PySem.Calls PyProof.Rows PySem.HandSPX
/-! ### the text of __init__ -/
def iA (p1 p2 : Pos) : Arguments := { posonlyargs := [], args := [{ arg := "self", annotation := none, pos := p1 }, { arg := "reason", annotation := none, pos := p2 }], vararg := none, kwonlyargs := [], kw_defaults := [], kwarg := none, defaults := [] }
def iB (q1 q2 q3 q4 : Pos) : List Stmt := [.Assign [.Attribute (.Name "self" q1) "reason" q2] (.Name "reason" q3) q4]
def iS : Scope := { kind := .function, names := [(PySem.Str.ofString "self", .local), (PySem.Str.ofString "reason", .local)], isGenerator := false, isCoroutine := false, more := [] }
/-- what the written part says of Low, at C, and of its __init__, at fI -/
structure ImpTxt (K : Frag) (mg : Str → Option Value) (C fI : Addr) : Prop where
  gC : mg "Impossible" = some (.ref C)
  cls : ∃ nm q N bs bm sn sub ab col dd k0 k1 k2 k3 k5, K.lookup C = some (excClassObj nm q C N bs bm true sn sub ab col dd k0 k1 k2 k3 k5 "ValueError.__new__") ∧ refsVE bm = true
  sa : findIn K (.ref C) "__setattr__" = some (some (.builtin "object.__setattr__"))
  ga : findIn K (.ref C) "__getattribute__" = some (some (.builtin "BaseException.__getattribute__"))
  gg : findIn K (.ref C) "__getattr__" = some none
  noN : findIn K (.ref C) "reason" = some none
  iC : findIn K (.ref C) "__init__" = some (some (.ref fI))
  tC : typeIn K (.ref fI) = some (.type "function")
  kC : keepIn K (.ref C) = true
  exC : subIn K (.ref C) (.type "BaseException") = some true
  tyC : typeIn K (.ref C) = some (.type "type")
  hdC : hasDictIn K C = true
  te : exmOne K (.ref C) (.ref C) = some true
  fn : ∃ (oc : Value) (od : Option Addr) (doc pm : Value) (an : Option Addr) (cdv ct : Value) (osl : Array (Option Value)) (p1 p2 q1 q2 q3 q4 : Pos),
    K.lookup fI = some ⟨oc, od, .func (fnOf "__init__" "Impossible.__init__" (iA p1 p2) (iB q1 q2 q3 q4) iS .none .none doc pm an cdv ct), osl⟩ ∧ codeIn K cdv "Impossible.__init__" = true
theorem one_size (v : Value) : [v].length ≤ sizeLine := by
  rw [sizeLine_eq]
  exact (by decide : 1 ≤ 16777216)
theorem kept_but {K : Frag} {h h' : Heap} {x : Addr} (X : K.In h) (hx : K.lookup x = none) (k : ∀ b o, b ≠ x → h.get? b = some o → h'.get? b = some o) : K.In h' := fun a o e =>
  k a o (fun z => by rw [z, hx] at e; cases e) (X a o e)
theorem ldC {M : Model} {s : Shared} {name : Str} {scope : Scope} {L a : Addr} {cd : Value} {m : Str → Option Value} {x : Str} {pos : Pos} {v : Value} {Q : Value → Shared → Prop} {A : Around} {E : Value → Shared → Prop} (hn : s.heap.Ns L m) (hv : m x = some v) (h : Q v s)
    (hk : scope.kind = .function := by rfl) (hl : (envOfC name scope L a cd).kindOf x = some .local := by rfl) (hd : (x == ("__debug__" : Str)) = false := by decide) :
    wpAny M A (eval (.Name x pos) (envOfC name scope L a cd)) Q E s := wpAny_Name (wpAny_loadName_local hk hl hn hv h) hd
/-- what __init__ leaves of a fresh exception at x -/
structure InitEnd (h h' : Heap) (x C dx t1 : Addr) (v : Value) : Prop where
  keep : ∀ b o, b ≠ x → h.get? b = some o → h'.get? b = some o
  obj : h'.get? x = some { cls := .ref C, dict := some dx, data := .fields #[.ref t1, .none, .none, .none, .bool false, .none] }
  dbig : h.objs.size ≤ dx
  dne : dx ≠ x
  ns : h'.Ns1 dx (fun y => if y = "reason" then some v else none)
/-- a made Low -/
structure OwnMade (h h' : Heap) (e C d : Addr) (v : Value) : Prop where
  keep : ∀ b o, h.get? b = some o → h'.get? b = some o
  new : h.objs.size ≤ e
  obj : ∃ oe vs, h'.get? e = some oe ∧ oe.cls = .ref C ∧ oe.dict = some d ∧ oe.data = .fields vs ∧ vs[1]? = some .none
  dbig : h.objs.size ≤ d
  dne : d ≠ e
  ns : h'.Ns1 d (fun y => if y = "reason" then some v else none)
section
variable {prog : Program} {w : World} {A : Around} {E : Value → Shared → Prop} {R : Result → Shared → Prop} {s : Shared} {K : Frag} {mg : Str → Option Value} {C fI : Addr}
theorem imp_init (T : ImpTxt K mg C fI) {x t0 : Addr} {v : Value} (X : K.In s.heap) (hlim : s.heap.NoLimit) (hx : s.heap.get? x = some (excO C t0)) (hnx : K.lookup x = none) (hroom : A.depth < recursionLimit)
    (hq : ∀ h' tk dx, InitEnd s.heap h' x C dx t0 v → R (.ok (.ret .none)) { s with heap := h', toks := tk }) :
    codeAny (model prog w) A (.call (.ref fI) ⟨[.ref x, v], []⟩) R s := by
  obtain ⟨oc, od, doc, pm, an, cdv, ct, osl, p1, p2, q1, q2, q3, q4, ho, hcd⟩ := T.fn
  obtain ⟨nm, q, N, bs, bm, sn, sub, ab, col, dd, k0, k1, k2, k3, k5, hC, hbm⟩ := T.cls
  have hcl : clsIn K C = some { name := nm, bases := bs, mro := .ref C :: bm, ns := N, qualname := q, hasDict := true, slotNames := sn, subclasses := sub, abstract := ab, collection := col, hasDel := false } := by unfold clsIn; rw [hC] <;> rfl
  refine Att.call_fn (binds := [("self", .ref x), ("reason", v)]) X hlim ho hcd hroom (BindsTo.of_eq (by first | rfl | with_unfolding_all rfl)) (by first | rfl | decide | with_unfolding_all rfl) (fun s₁ IC => ?_) rfl rfl rfl
  obtain ⟨h₁, tk₁, rfl⟩ := IC.toInCall.same
  have k : ∀ b o, s.heap.get? b = some o → h₁.get? b = some o := IC.toInCall.keep
  have hn := IC.toInCall.ns
  have hxL : s.heap.objs.size ≠ x := Nat.ne_of_gt (Heap.lt_size hx)
  have X₁ : K.In h₁ := X.keeps k
  have hx₁ := k _ _ hx
  -- self.by = by
  show wpAny _ _ (execs _ _) _ _ _
  refine wpAny_execs_cons (plainObj_wpAny_Assign_Attribute ?_)
  refine ldC (v := v) hn (by first | rfl | with_unfolding_all rfl | kernel_rfl) (ldC (v := .ref x) hn (by first | rfl | with_unfolding_all rfl | kernel_rfl) ?_)
  refine set_plain X₁ (ox := excO C t0) (od := none) ⟨hx₁, rfl, rfl, trivial⟩ T.sa ?_
  refine exc_osa X₁ hx₁ hcl (show refsVE (.ref C :: bm) = true from hbm) rfl T.noN (fun h₃ tk₃ dx k₃ dn dne hx₃ hn₃ => ?_)
  show wpAny _ _ (execs _ _) _ _ _
  have z : s.heap.objs.size < h₁.objs.size := hn.lt
  exact wpAny_execs_nil (hq h₃ tk₃ dx ⟨fun b o hb e => k₃ b o hb (k b o e), hx₃, Nat.le_of_lt (Nat.lt_of_lt_of_le z dn), dne, hn₃⟩)
theorem imp_made (T : ImpTxt K mg C fI) {v : Value} (X : K.In s.heap) (hlim : s.heap.NoLimit) (hroom : A.depth + 1 < recursionLimit)
    (hq : ∀ h' tk e d, OwnMade s.heap h' e C d v → R (.ok (.ret (.ref e))) { s with heap := h', toks := tk }) :
    codeAny (model prog w) A (.call (.ref C) ⟨[v], []⟩) R s := by
  obtain ⟨nm, q, N, bs, bm, sn, sub, ab, col, dd, k0, k1, k2, k3, k5, hC, hbm⟩ := T.cls
  obtain ⟨hp, g, dr, tk, os⟩ := s
  have k : ∀ b o, hp.get? b = some o → ((hp.push (kdv_tup [v])).push (excO C hp.objs.size)).get? b = some o := fun b o e => Heap.get?_push_of_some _ (Heap.get?_push_of_some _ e)
  have hget : ((hp.push (kdv_tup [v])).push (excO C hp.objs.size)).get? (hp.objs.size + 1) = some (excO C hp.objs.size) := by heap_get
  have hnx : K.lookup (hp.objs.size + 1) = none := by
    cases e : K.lookup (hp.objs.size + 1) with
    | none => rfl
    | some o =>
      have z : hp.get? (hp.objs.size + 1) = some o := X _ _ e
      exact absurd (Nat.lt_of_succ_lt (Heap.lt_size z)) (Nat.lt_irrefl _)
  refine call_own F.excBase_ValueError (fun X => refsVE_contains X bm hbm) (X _ _ hC) (looks_findIn X T.iC) (fun self => bind_fn X self T.tC) (one_size v) ?_
  refine imp_init (s := ⟨(hp.push (kdv_tup [v])).push (excO C hp.objs.size), g, dr, tk, os⟩) T (X.keeps k) (hlim.keeps k) hget hnx ?_ fun h' tk' dx ⟨k', hx, dn, dne, hns⟩ => ?_
  · show A.depth + 1 < recursionLimit
    exact hroom
  · have old : ∀ b o, hp.get? b = some o → h'.get? b = some o := fun b o e => k' b o (Nat.ne_of_lt (Nat.lt_succ_of_lt (Heap.lt_size e))) (k b o e)
    have z : hp.objs.size + 1 + 1 ≤ dx := by
      first
        | (simpa only [Heap.size_push] using dn)
        | exact dn
        | (have q := dn; rw [Heap.size_push, Heap.size_push] at q; exact q)
    exact ⟨rfl, hq h' tk' (hp.objs.size + 1) dx ⟨old, Nat.le_succ _, ⟨_, _, hx, rfl, rfl, rfl, rfl⟩, Nat.le_trans (Nat.le_trans (Nat.le_succ _) (Nat.le_succ _)) z, dne, hns⟩⟩
end
end ImpX
end PySem
namespace L2
open PySem PySem.Spec PyProof.Rows
theorem relO_imp {v : V} {v' : Value} (r : RelV v v') (f : Str) : RelO (List.lookup f [(("reason" : Str), v)]) (if f = "reason" then some v' else none) := by
  by_cases hw : f = "reason"
  · subst hw
    rw [if_pos rfl]
    have q : List.lookup ("reason" : Str) [(("reason" : Str), v)] = some v := by simp [List.lookup]
    rw [q]
    exact r
  · rw [if_neg hw]
    have qw : (f == ("reason" : Str)) = false := by simpa using hw
    have q2 : List.lookup f [(("reason" : Str), v)] = none := by simp [List.lookup, qw]
    rw [q2]
    trivial
section
variable {X : Cx} {C fI : Addr}
/-- Low(e) -/
def tMkImp (C : Addr) (ta : TA) : St → Hp → XK → Prop := fun σ H Q => ta σ H fun vs H1 => ∃ v, vs = [v] ∧ ∀ d, H1 d = none → Q (.ref C) (some d) (upd H1 d (.xd [(("reason" : Str), v)]))
theorem pmk_imp {a : Expr} {ta : TA} {p pos : Pos} {k : Nat} (T : PySem.ImpX.ImpTxt X.K X.mg C fI) (hr : Room k X.A) (ha : PA X [a] ta) (hg : Gl X "Impossible" := by rfl)
    (he : starEach (a :: []) X.env = (false, eval a X.env) :: starEach [] X.env := by rfl) (hpl : (backTo pos (starEach [] X.env)).any (·.1) = false := by rfl) :
    PMk X (.Call (.Name "Impossible" p) [a] [] pos) (tMkImp C ta) := by
  intro pins s σ H Q I h
  refine wpAny_Call_Name_kw (ld_glob I hg T.gC ?_)
  refine PySem.W.callWith_K (h₀ := X.base) I.ok.mod.kin T.kC (thn (ha.run pos pins s σ H _ I h) fun us s1 hh => ?_) he hpl
  obtain ⟨vs, H1, I1, r1, v, ev, q1⟩ := hh
  subst ev
  refine ⟨I1.kIn, ?_⟩
  cases r1 with
  | cons rv rn =>
    rename_i v' us'
    cases rn
    show wpAny _ _ (call (.ref C) [v']) _ _ _
    have hlim := I1.nolimit
    obtain ⟨hp, g, dr, tk, os⟩ := s1
    refine wpAny_call (PySem.ImpX.imp_made T I1.kIn hlim (by have := hr.dp; omega) fun h' tk' e d M => ?_)
    show MkP X pins σ Q (.ref e) ⟨h', g, dr, tk', os⟩
    obtain ⟨oe, fv, hoe, hc, hd, hdat, h1⟩ := M.obj
    have hns := M.ns
    obtain ⟨G', g1, g2⟩ := restrict h' fun b => decide (b ≠ e)
    have gk : ∀ b, b ≠ e → G'.get? b = h'.get? b := fun b hb => g1 b (decide_eq_true hb)
    have ge : G'.get? e = none := g2 e (by simp)
    have old : ∀ b o, hp.get? b = some o → G'.get? b = some o := fun b o q => (gk b (Nat.ne_of_lt (Nat.lt_of_lt_of_le (Heap.lt_size q) M.new))).trans (M.keep b o q)
    have ob : ObjOk X.prog X.w (upd H1 d (.xd [(("reason" : Str), v)])) G' d (.xd [(("reason" : Str), v)]) :=
      ⟨_, hns.at (fun o q => (gk d M.dne).trans q), fun f => relO_imp rv f⟩
    have J : Inv X pins σ (upd H1 d (.xd [(("reason" : Str), v)])) ⟨G', g, dr, tk', os⟩ := I1.laid (t' := tk') old M.dbig ob
    refine ⟨e, oe, fv, ⟨G', g, dr, tk', os⟩, _, .ref C, some d, rfl, J, fun b o q => ?_, ge, hoe, ⟨hc, hd⟩, hdat, h1, ?_, rfl, I1.bare, raises_own T.exC T.tyC, q1 d (I1.hok.fresh M.dbig)⟩
    · by_cases hb : b = e
      · have q' : G'.get? b = some o := q
        rw [hb, ge] at q'; cases q'
      · exact (gk b hb).symm.trans q
    · rw [upd_ne (Ne.symm M.dne)]
      exact I1.hok.fresh M.new
/-- raise Low(e) -/
def tRaiseImp (C : Addr) (W : WX) (ta : TA) : TS := fun _ σ H => tMkImp C ta σ H fun cls d H' => W cls d σ H'
theorem ps_raiseImp {a : Expr} {ta : TA} {W : WX} {p pos pos2 : Pos} {k : Nat} (hc : X.calm = true) (T : PySem.ImpX.ImpTxt X.K X.mg C fI) (hr : Room k X.A) (tk : Takes X W) (ha : PA X [a] ta) (hg : Gl X "Impossible" := by rfl)
    (he : starEach (a :: []) X.env = (false, eval a X.env) :: starEach [] X.env := by rfl) (hpl : (backTo pos (starEach [] X.env)).any (·.1) = false := by rfl) :
    PS X (.Raise (some (.Call (.Name "Impossible" p) [a] [] pos)) none pos2) (tRaiseImp C W ta) := ps_raise hc tk (pmk_imp T hr ha hg he hpl)
end
end L2

set_option Elab.async false
set_option linter.all false
set_option maxRecDepth 100000
set_option maxHeartbeats 4000000
/-! Own errors with one field (after the guide's own page on them). -/
namespace PySem
namespace TxtX
open PySem.W PySem.Calls PyProof.Rows PySem.HandSPX
/-! ### the text of __init__ -/
def iA (p1 p2 : Pos) : Arguments := { posonlyargs := [], args := [{ arg := "self", annotation := none, pos := p1 }, { arg := "at", annotation := none, pos := p2 }], vararg := none, kwonlyargs := [], kw_defaults := [], kwarg := none, defaults := [] }
def iB (q1 q2 q3 q4 : Pos) : List Stmt := [.Assign [.Attribute (.Name "self" q1) "at" q2] (.Name "at" q3) q4]
def iS : Scope := { kind := .function, names := [(PySem.Str.ofString "self", .local), (PySem.Str.ofString "at", .local)], isGenerator := false, isCoroutine := false, more := [] }
/-- what the written part says of Low, at C, and of its __init__, at fI -/
structure TxtTxt (K : Frag) (mg : Str → Option Value) (C fI : Addr) : Prop where
  gC : mg "NoText" = some (.ref C)
  cls : ∃ nm q N bs bm sn sub ab col dd k0 k1 k2 k3 k5, K.lookup C = some (excClassObj nm q C N bs bm true sn sub ab col dd k0 k1 k2 k3 k5 "ValueError.__new__") ∧ refsVE bm = true
  sa : findIn K (.ref C) "__setattr__" = some (some (.builtin "object.__setattr__"))
  ga : findIn K (.ref C) "__getattribute__" = some (some (.builtin "BaseException.__getattribute__"))
  gg : findIn K (.ref C) "__getattr__" = some none
  noN : findIn K (.ref C) "at" = some none
  iC : findIn K (.ref C) "__init__" = some (some (.ref fI))
  tC : typeIn K (.ref fI) = some (.type "function")
  kC : keepIn K (.ref C) = true
  exC : subIn K (.ref C) (.type "BaseException") = some true
  tyC : typeIn K (.ref C) = some (.type "type")
  hdC : hasDictIn K C = true
  te : exmOne K (.ref C) (.ref C) = some true
  fn : ∃ (oc : Value) (od : Option Addr) (doc pm : Value) (an : Option Addr) (cdv ct : Value) (osl : Array (Option Value)) (p1 p2 q1 q2 q3 q4 : Pos),
    K.lookup fI = some ⟨oc, od, .func (fnOf "__init__" "NoText.__init__" (iA p1 p2) (iB q1 q2 q3 q4) iS .none .none doc pm an cdv ct), osl⟩ ∧ codeIn K cdv "NoText.__init__" = true
theorem one_size (v : Value) : [v].length ≤ sizeLine := by
  rw [sizeLine_eq]
  exact (by decide : 1 ≤ 16777216)
theorem kept_but {K : Frag} {h h' : Heap} {x : Addr} (X : K.In h) (hx : K.lookup x = none) (k : ∀ b o, b ≠ x → h.get? b = some o → h'.get? b = some o) : K.In h' := fun a o e =>
  k a o (fun z => by rw [z, hx] at e; cases e) (X a o e)
theorem ldC {M : Model} {s : Shared} {name : Str} {scope : Scope} {L a : Addr} {cd : Value} {m : Str → Option Value} {x : Str} {pos : Pos} {v : Value} {Q : Value → Shared → Prop} {A : Around} {E : Value → Shared → Prop} (hn : s.heap.Ns L m) (hv : m x = some v) (h : Q v s)
    (hk : scope.kind = .function := by rfl) (hl : (envOfC name scope L a cd).kindOf x = some .local := by rfl) (hd : (x == ("__debug__" : Str)) = false := by decide) :
    wpAny M A (eval (.Name x pos) (envOfC name scope L a cd)) Q E s := wpAny_Name (wpAny_loadName_local hk hl hn hv h) hd
/-- what __init__ leaves of a fresh exception at x -/
structure InitEnd (h h' : Heap) (x C dx t1 : Addr) (v : Value) : Prop where
  keep : ∀ b o, b ≠ x → h.get? b = some o → h'.get? b = some o
  obj : h'.get? x = some { cls := .ref C, dict := some dx, data := .fields #[.ref t1, .none, .none, .none, .bool false, .none] }
  dbig : h.objs.size ≤ dx
  dne : dx ≠ x
  ns : h'.Ns1 dx (fun y => if y = "at" then some v else none)
/-- a made Low -/
structure OwnMade (h h' : Heap) (e C d : Addr) (v : Value) : Prop where
  keep : ∀ b o, h.get? b = some o → h'.get? b = some o
  new : h.objs.size ≤ e
  obj : ∃ oe vs, h'.get? e = some oe ∧ oe.cls = .ref C ∧ oe.dict = some d ∧ oe.data = .fields vs ∧ vs[1]? = some .none
  dbig : h.objs.size ≤ d
  dne : d ≠ e
  ns : h'.Ns1 d (fun y => if y = "at" then some v else none)
section
variable {prog : Program} {w : World} {A : Around} {E : Value → Shared → Prop} {R : Result → Shared → Prop} {s : Shared} {K : Frag} {mg : Str → Option Value} {C fI : Addr}
theorem txt_init (T : TxtTxt K mg C fI) {x t0 : Addr} {v : Value} (X : K.In s.heap) (hlim : s.heap.NoLimit) (hx : s.heap.get? x = some (excO C t0)) (hnx : K.lookup x = none) (hroom : A.depth < recursionLimit)
    (hq : ∀ h' tk dx, InitEnd s.heap h' x C dx t0 v → R (.ok (.ret .none)) { s with heap := h', toks := tk }) :
    codeAny (model prog w) A (.call (.ref fI) ⟨[.ref x, v], []⟩) R s := by
  obtain ⟨oc, od, doc, pm, an, cdv, ct, osl, p1, p2, q1, q2, q3, q4, ho, hcd⟩ := T.fn
  obtain ⟨nm, q, N, bs, bm, sn, sub, ab, col, dd, k0, k1, k2, k3, k5, hC, hbm⟩ := T.cls
  have hcl : clsIn K C = some { name := nm, bases := bs, mro := .ref C :: bm, ns := N, qualname := q, hasDict := true, slotNames := sn, subclasses := sub, abstract := ab, collection := col, hasDel := false } := by unfold clsIn; rw [hC] <;> rfl
  refine Att.call_fn (binds := [("self", .ref x), ("at", v)]) X hlim ho hcd hroom (BindsTo.of_eq (by first | rfl | with_unfolding_all rfl)) (by first | rfl | decide | with_unfolding_all rfl) (fun s₁ IC => ?_) rfl rfl rfl
  obtain ⟨h₁, tk₁, rfl⟩ := IC.toInCall.same
  have k : ∀ b o, s.heap.get? b = some o → h₁.get? b = some o := IC.toInCall.keep
  have hn := IC.toInCall.ns
  have hxL : s.heap.objs.size ≠ x := Nat.ne_of_gt (Heap.lt_size hx)
  have X₁ : K.In h₁ := X.keeps k
  have hx₁ := k _ _ hx
  -- self.by = by
  show wpAny _ _ (execs _ _) _ _ _
  refine wpAny_execs_cons (plainObj_wpAny_Assign_Attribute ?_)
  refine ldC (v := v) hn (by first | rfl | with_unfolding_all rfl | kernel_rfl) (ldC (v := .ref x) hn (by first | rfl | with_unfolding_all rfl | kernel_rfl) ?_)
  refine set_plain X₁ (ox := excO C t0) (od := none) ⟨hx₁, rfl, rfl, trivial⟩ T.sa ?_
  refine exc_osa X₁ hx₁ hcl (show refsVE (.ref C :: bm) = true from hbm) rfl T.noN (fun h₃ tk₃ dx k₃ dn dne hx₃ hn₃ => ?_)
  show wpAny _ _ (execs _ _) _ _ _
  have z : s.heap.objs.size < h₁.objs.size := hn.lt
  exact wpAny_execs_nil (hq h₃ tk₃ dx ⟨fun b o hb e => k₃ b o hb (k b o e), hx₃, Nat.le_of_lt (Nat.lt_of_lt_of_le z dn), dne, hn₃⟩)
theorem txt_made (T : TxtTxt K mg C fI) {v : Value} (X : K.In s.heap) (hlim : s.heap.NoLimit) (hroom : A.depth + 1 < recursionLimit)
    (hq : ∀ h' tk e d, OwnMade s.heap h' e C d v → R (.ok (.ret (.ref e))) { s with heap := h', toks := tk }) :
    codeAny (model prog w) A (.call (.ref C) ⟨[v], []⟩) R s := by
  obtain ⟨nm, q, N, bs, bm, sn, sub, ab, col, dd, k0, k1, k2, k3, k5, hC, hbm⟩ := T.cls
  obtain ⟨hp, g, dr, tk, os⟩ := s
  have k : ∀ b o, hp.get? b = some o → ((hp.push (kdv_tup [v])).push (excO C hp.objs.size)).get? b = some o := fun b o e => Heap.get?_push_of_some _ (Heap.get?_push_of_some _ e)
  have hget : ((hp.push (kdv_tup [v])).push (excO C hp.objs.size)).get? (hp.objs.size + 1) = some (excO C hp.objs.size) := by heap_get
  have hnx : K.lookup (hp.objs.size + 1) = none := by
    cases e : K.lookup (hp.objs.size + 1) with
    | none => rfl
    | some o =>
      have z : hp.get? (hp.objs.size + 1) = some o := X _ _ e
      exact absurd (Nat.lt_of_succ_lt (Heap.lt_size z)) (Nat.lt_irrefl _)
  refine call_own F.excBase_ValueError (fun X => refsVE_contains X bm hbm) (X _ _ hC) (looks_findIn X T.iC) (fun self => bind_fn X self T.tC) (one_size v) ?_
  refine txt_init (s := ⟨(hp.push (kdv_tup [v])).push (excO C hp.objs.size), g, dr, tk, os⟩) T (X.keeps k) (hlim.keeps k) hget hnx ?_ fun h' tk' dx ⟨k', hx, dn, dne, hns⟩ => ?_
  · show A.depth + 1 < recursionLimit
    exact hroom
  · have old : ∀ b o, hp.get? b = some o → h'.get? b = some o := fun b o e => k' b o (Nat.ne_of_lt (Nat.lt_succ_of_lt (Heap.lt_size e))) (k b o e)
    have z : hp.objs.size + 1 + 1 ≤ dx := by
      first
        | (simpa only [Heap.size_push] using dn)
        | exact dn
        | (have q := dn; rw [Heap.size_push, Heap.size_push] at q; exact q)
    exact ⟨rfl, hq h' tk' (hp.objs.size + 1) dx ⟨old, Nat.le_succ _, ⟨_, _, hx, rfl, rfl, rfl, rfl⟩, Nat.le_trans (Nat.le_trans (Nat.le_succ _) (Nat.le_succ _)) z, dne, hns⟩⟩
end
end TxtX
end PySem
namespace L2
open PySem PySem.Spec PyProof.Rows
theorem relO_txt {v : V} {v' : Value} (r : RelV v v') (f : Str) : RelO (List.lookup f [(("at" : Str), v)]) (if f = "at" then some v' else none) := by
  by_cases hw : f = "at"
  · subst hw
    rw [if_pos rfl]
    have q : List.lookup ("at" : Str) [(("at" : Str), v)] = some v := by simp [List.lookup]
    rw [q]
    exact r
  · rw [if_neg hw]
    have qw : (f == ("at" : Str)) = false := by simpa using hw
    have q2 : List.lookup f [(("at" : Str), v)] = none := by simp [List.lookup, qw]
    rw [q2]
    trivial
section
variable {X : Cx} {C fI : Addr}
/-- Low(e) -/
def tMkTxt (C : Addr) (ta : TA) : St → Hp → XK → Prop := fun σ H Q => ta σ H fun vs H1 => ∃ v, vs = [v] ∧ ∀ d, H1 d = none → Q (.ref C) (some d) (upd H1 d (.xd [(("at" : Str), v)]))
theorem pmk_txt {a : Expr} {ta : TA} {p pos : Pos} {k : Nat} (T : PySem.TxtX.TxtTxt X.K X.mg C fI) (hr : Room k X.A) (ha : PA X [a] ta) (hg : Gl X "NoText" := by rfl)
    (he : starEach (a :: []) X.env = (false, eval a X.env) :: starEach [] X.env := by rfl) (hpl : (backTo pos (starEach [] X.env)).any (·.1) = false := by rfl) :
    PMk X (.Call (.Name "NoText" p) [a] [] pos) (tMkTxt C ta) := by
  intro pins s σ H Q I h
  refine wpAny_Call_Name_kw (ld_glob I hg T.gC ?_)
  refine PySem.W.callWith_K (h₀ := X.base) I.ok.mod.kin T.kC (thn (ha.run pos pins s σ H _ I h) fun us s1 hh => ?_) he hpl
  obtain ⟨vs, H1, I1, r1, v, ev, q1⟩ := hh
  subst ev
  refine ⟨I1.kIn, ?_⟩
  cases r1 with
  | cons rv rn =>
    rename_i v' us'
    cases rn
    show wpAny _ _ (call (.ref C) [v']) _ _ _
    have hlim := I1.nolimit
    obtain ⟨hp, g, dr, tk, os⟩ := s1
    refine wpAny_call (PySem.TxtX.txt_made T I1.kIn hlim (by have := hr.dp; omega) fun h' tk' e d M => ?_)
    show MkP X pins σ Q (.ref e) ⟨h', g, dr, tk', os⟩
    obtain ⟨oe, fv, hoe, hc, hd, hdat, h1⟩ := M.obj
    have hns := M.ns
    obtain ⟨G', g1, g2⟩ := restrict h' fun b => decide (b ≠ e)
    have gk : ∀ b, b ≠ e → G'.get? b = h'.get? b := fun b hb => g1 b (decide_eq_true hb)
    have ge : G'.get? e = none := g2 e (by simp)
    have old : ∀ b o, hp.get? b = some o → G'.get? b = some o := fun b o q => (gk b (Nat.ne_of_lt (Nat.lt_of_lt_of_le (Heap.lt_size q) M.new))).trans (M.keep b o q)
    have ob : ObjOk X.prog X.w (upd H1 d (.xd [(("at" : Str), v)])) G' d (.xd [(("at" : Str), v)]) :=
      ⟨_, hns.at (fun o q => (gk d M.dne).trans q), fun f => relO_txt rv f⟩
    have J : Inv X pins σ (upd H1 d (.xd [(("at" : Str), v)])) ⟨G', g, dr, tk', os⟩ := I1.laid (t' := tk') old M.dbig ob
    refine ⟨e, oe, fv, ⟨G', g, dr, tk', os⟩, _, .ref C, some d, rfl, J, fun b o q => ?_, ge, hoe, ⟨hc, hd⟩, hdat, h1, ?_, rfl, I1.bare, raises_own T.exC T.tyC, q1 d (I1.hok.fresh M.dbig)⟩
    · by_cases hb : b = e
      · have q' : G'.get? b = some o := q
        rw [hb, ge] at q'; cases q'
      · exact (gk b hb).symm.trans q
    · rw [upd_ne (Ne.symm M.dne)]
      exact I1.hok.fresh M.new
/-- raise Low(e) -/
def tRaiseTxt (C : Addr) (W : WX) (ta : TA) : TS := fun _ σ H => tMkTxt C ta σ H fun cls d H' => W cls d σ H'
theorem ps_raiseTxt {a : Expr} {ta : TA} {W : WX} {p pos pos2 : Pos} {k : Nat} (hc : X.calm = true) (T : PySem.TxtX.TxtTxt X.K X.mg C fI) (hr : Room k X.A) (tk : Takes X W) (ha : PA X [a] ta) (hg : Gl X "NoText" := by rfl)
    (he : starEach (a :: []) X.env = (false, eval a X.env) :: starEach [] X.env := by rfl) (hpl : (backTo pos (starEach [] X.env)).any (·.1) = false := by rfl) :
    PS X (.Raise (some (.Call (.Name "NoText" p) [a] [] pos)) none pos2) (tRaiseTxt C W ta) := ps_raise hc tk (pmk_txt T hr ha hg he hpl)
end
end L2

set_option Elab.async false
set_option linter.all false
set_option maxRecDepth 100000
set_option maxHeartbeats 4000000
/-! Own layer: defs that may raise, and their calls. -/
namespace L2
open ClX
open PySem PySem.Spec PyProof.Rows
structure OkX (P : Program) (w : World) (K : PySem.W.Frag) (mg : Str → Option Value) (base : Heap) (k : Nat) (f : Addr) (ps : List Str) (sp : Sp) : Prop where
  ex : ∃ fd, FnOk P w K mg base (L2.CX P w) k f fd ps sp ∧ Binds K fd ps []
  kp : PySem.W.keepIn K (.ref f) = true
/-- the same by one keyword (its last parameter) -/
structure OkXK (P : Program) (w : World) (K : PySem.W.Frag) (mg : Str → Option Value) (base : Heap) (k : Nat) (f : Addr) (ps : List Str) (kw : Str) (sp : Sp) : Prop where
  ex : ∃ fd, FnOk P w K mg base (L2.CX P w) k f fd ps sp ∧ KBinds K fd ps [kw] (fun us ws => glue1 us ws) (fun vs zs => glue1 vs zs)
section
variable {P : Program} {w : World} {K : PySem.W.Frag} {mg : Str → Option Value} {base : Heap}
theorem FnT.okX {x qual : Str} {st : Stmt} {f : Addr} {N ps : List Str} {k : Nat} {sp : Sp} (h : FnT K x qual st f) (S : FnScope N ps (defScope st)) (hb : BindsAll st x qual ps)
    (len : ∀ vs H Q E, sp vs H Q E → vs.length = ps.length)
    (body : ∀ (cdv : Value) (A : Around) (outer : List Env) (s : Shared) (H : Hp) (vs : List V) (Q : VK) (E : XK), Room k (A.deeper (envOfC qual (defScope st) s.heap.objs.size f cdv)) → sp vs H Q E →
      ∃ t, PSs (cxOf (L2.CX P w) P w K mg base N qual (defScope st) f cdv A outer s H E) (defBody st) t ∧ t { nx := fun _ H' => Q .non H', rt := Q } (start N vs) H) :
    OkX P w K mg base (k + 1) f ps sp := by
  obtain ⟨fd, F⟩ := h.ex
  exact ⟨⟨fd, F.okX S len body, F.binds hb⟩, F.kp⟩
theorem FnT.okXK {x qual kw p0 : Str} {st : Stmt} {f : Addr} {N : List Str} {k : Nat} {sp : Sp} (h : FnT K x qual st f) (S : FnScope N [p0, kw] (defScope st))
    (hb : ∀ (kV doc pm : Value) (an : Option Addr) (cdv ct u v : Value), bindArgs (PySem.W.fnOf x qual (defArgs st) (defBody st) (defScope st) .none kV doc pm an cdv ct) ⟨[u], [(kw, v)]⟩ = pure [(p0, u), (kw, v)])
    (len : ∀ vs H Q E, sp vs H Q E → vs.length = 2)
    (body : ∀ (cdv : Value) (A : Around) (outer : List Env) (s : Shared) (H : Hp) (vs : List V) (Q : VK) (E : XK), Room k (A.deeper (envOfC qual (defScope st) s.heap.objs.size f cdv)) → sp vs H Q E →
      ∃ t, PSs (cxOf (L2.CX P w) P w K mg base N qual (defScope st) f cdv A outer s H E) (defBody st) t ∧ t { nx := fun _ H' => Q .non H', rt := Q } (start N vs) H) :
    OkXK P w K mg base (k + 1) f [p0, kw] kw sp := by
  obtain ⟨fd, F⟩ := h.ex
  refine ⟨fd, F.okX S len body, F.kbinds 1 [kw] glue1 (fun us ws hl => ?_) (fun r q => ?_) fun kV doc pm an cdv ct us ws h1 h2 => ?_⟩
  · unfold glue1 at hl
    split at hl
    · assumption
    · cases hl
  · unfold glue1
    rw [r.length, q.length]
    split
    · exact r.append q
    · exact .nil
  · match us, h1, ws, h2 with
    | [u], _, [v], _ => exact hb kV doc pm an cdv ct u v
end
/-! ### who takes what is raised: nobody (it is not raised), the def's own callers, a try around -/
section
variable {X : Cx}
theorem atL {σ : St} : PassesAt (L2.CX X.prog X.w) X σ E0 := fun pins H s e s' I c => passL pins σ H s e s' I c
theorem atE {E : XK} (tk : Takes X (fun cls d _ H => E cls d H)) {σ : St} : PassesAt (L2.CX X.prog X.w) X σ E := fun _ _ _ e s' I c => tk e s' (XE.of_call I (fun _ _ _ h => h) c)
end
section
variable {X : Cx} {CX : CXT} {k : Nat} {f C : Addr} {fd : FuncData} {ps : List Str} {kw : Str} {sp : Sp} {E : St → XK} {x m : Str} {p pos apos : Pos} {e o : Expr} {es : List Expr} {kws : List Keyword} {ta : TE} {t tk : TA}
theorem px_call (G : OkX X.prog X.w X.K X.mg X.base k f ps sp) (hx : ∀ σ, PassesAt (L2.CX X.prog X.w) X σ (E σ)) (hr : Room k X.A) (hm : X.mg x = some (.ref f)) (ha : PA X (e :: es) t) (hg : Gl X x := by rfl)
    (hdb : (x == ("__debug__" : Str)) = false := by decide) (he : starEach (e :: es) X.env = (false, eval e X.env) :: starEach es X.env := by rfl) (hpl : (backTo pos (starEach es X.env)).any (·.1) = false := by rfl) :
    PE X (.Call (.Name x p) (e :: es) [] pos) (tCallS sp E t) := by
  obtain ⟨⟨fd, F, b⟩, kp⟩ := G
  exact pe_callS F hr hg hm kp b hx ha hdb he hpl
/-- a method's call by positions; what it raises is wished for at the slots -/
def oMeth (C : Addr) (m : Str) (sp : Sp) (E : St → XK) (ta : TE) (t : TA) : TE := fun σ H Q => ta σ H fun x H1 => ∃ a dx fs, x = .ref a ∧ H1 a = some (.ins C dx fs) ∧ fs.lookup m = none ∧ t σ H1 fun vs H2 => sp (x :: vs) H2 Q (E σ)
def oMethK (C : Addr) (m : Str) (sp : Sp) (E : St → XK) (ta : TE) (tk : TA) : TE := fun σ H Q => ta σ H fun x H1 => ∃ a dx fs, x = .ref a ∧ H1 a = some (.ins C dx fs) ∧ fs.lookup m = none ∧ tk σ H1 fun zs H2 => sp (glue1 [x] zs) H2 Q (E σ)
theorem px_meth {pl : Sem Bool} (c : Cls X.K C) (hm : Meth X.K C m f) (G : OkX X.prog X.w X.K X.mg X.base k f ps sp) (hx : ∀ σ, PassesAt (L2.CX X.prog X.w) X σ (E σ)) (hr : Room k X.A) (he : PE X o ta) (ha : PA X (e :: es) t)
    (hst : starEach (e :: es) X.env = (false, eval e X.env) :: starEach es X.env := by rfl) (hpl : (backTo pos (starEach es X.env)).any (·.1) = false := by rfl)
    (ht : eval (.Call (.Attribute o m apos) (e :: es) [] pos) X.env = (do
      let ov ← eval o X.env
      standAt apos.atName
      let (f, first) ← holding [ov] (getMethod ov m pl)
      callWith pos f first (backTo pos (starEach (e :: es) X.env)) (backToKw pos (keywordEach [] X.env))) := by rfl) :
    PE X (.Call (.Attribute o m apos) (e :: es) [] pos) (oMeth C m sp E ta t) := by
  obtain ⟨⟨fd, F, b⟩, kp⟩ := G
  refine ⟨fun pn s σ H Q I h => PySem.W.methodCall_KW (pl := pl) (thn (he.run pn s σ H _ I h) fun u s1 ⟨x, H1, I1, rx, a, dx, fs, ex, ea, l, q⟩ => ?_) ht⟩
  subst ex
  cases rx
  refine getmeth_ok I1 ea c hm l (PySem.W.callWith_K (first := [.ref a]) (h₀ := X.base) I.ok.mod.kin hm.kp (thn (ha.run pos pn s1 σ H1 _ I1 q) fun us s2 ⟨vs, H2, I2, r, q2⟩ => ⟨I2.kIn, ?_⟩) hst hpl)
  exact run_fnS (us := .ref a :: us) (vs := .ref a :: vs) F hr b (hx σ) I2 (.cons rfl r) q2
theorem px_methK {pl : Sem Bool} (c : Cls X.K C) (hm : Meth X.K C m f) (G : OkXK X.prog X.w X.K X.mg X.base k f ps kw sp) (hx : ∀ σ, PassesAt (L2.CX X.prog X.w) X σ (E σ)) (hr : Room k X.A) (he : PE X o ta)
    (hkw : PK X kws tk) (hall : (backToKw pos (keywordEach kws X.env)).all (·.1.isSome) = true := by rfl) (hks : (backToKw pos (keywordEach kws X.env)).filterMap (·.1) = [kw] := by rfl)
    (hpl : ((backTo pos (starEach [] X.env)).any (·.1) || (backToKw pos (keywordEach kws X.env)).any (·.1.isNone)) = false := by rfl)
    (ht : eval (.Call (.Attribute o m apos) [] kws pos) X.env = (do
      let ov ← eval o X.env
      standAt apos.atName
      let (f, first) ← holding [ov] (getMethod ov m pl)
      callWith pos f first (backTo pos (starEach [] X.env)) (backToKw pos (keywordEach kws X.env))) := by rfl) :
    PE X (.Call (.Attribute o m apos) [] kws pos) (oMethK C m sp E ta tk) := by
  obtain ⟨fd, F, b⟩ := G.ex
  refine ⟨fun pn s σ H Q I h => PySem.W.methodCall_KW (pl := pl) (thn (he.run pn s σ H _ I h) fun u s1 ⟨x, H1, I1, rx, a, dx, fs, ex, ea, l, q⟩ => ?_) ht⟩
  subst ex
  cases rx
  refine getmeth_ok I1 ea c hm l (PySem.W.callWith_KW0 (first := [.ref a]) (h₀ := X.base) I.ok.mod.kin hm.kp hall ?_ hpl)
  refine thn (hkw.run pos pn s1 σ H1 _ I1 q) fun ws s2 ⟨zs, H2, I2, rz, q2⟩ => ⟨I2.kIn, ?_⟩
  rw [hks]
  have rv : Vals (glue1 [V.ref a] zs) (glue1 [Value.ref a] ws) := b.rel (.cons rfl .nil) rz
  have hl : (glue1 [Value.ref a] ws).length = ps.length := by
    rw [← rv.length]
    exact F.len _ _ _ _ q2
  refine wpAny_call (codeAny_mono (F.run X.A X.stack s2 H2 ⟨[.ref a], [kw].zip ws⟩ (glue1 [Value.ref a] ws) (glue1 [V.ref a] zs) Q (E σ) hr I2.env0 (b.to s2 [.ref a] ws I2.kIn hl) rv q2) fun r s3 z => ?_)
  match r, z with
  | .error e2, z => exact hx σ pn H2 s2 e2 s3 I2 z
  | .ok (.ret u2), z => exact I2.after z
  | .ok .next, z => exact z.elim
  | .ok .brk, z => exact z.elim
  | .ok .cont, z => exact z.elim
end
/-! ### the classes of errors -/
structure ErrT (K : PySem.W.Frag) (C : Addr) : Prop where
  xP : PySem.W.excIn K C [.type "ValueError", .type "Exception", .type "BaseException", .type "object"] "ValueError.__new__" = true
  kp : PySem.W.keepIn K (.ref C) = true
  bP : PySem.W.subIn K (.ref C) (.type "BaseException") = some true
  tP : PySem.W.typeIn K (.ref C) = some (.type "type")
/-- isinstance's answer from a subclass's -/
theorem kit_ref {K : PySem.W.Frag} {t : Value} {C : Addr} {b : Bool} (hi : PySem.W.isClsIn K C = true) (ht : PySem.W.typeIn K (.ref C) = some (.type "type")) (hs : PySem.W.subIn K t (.ref C) = some b) (hn : t = .ref C → b = true) : PySem.W.kitOne K t (.ref C) = some b := by
  unfold PySem.W.kitOne
  by_cases e : t = .ref C
  · rw [if_pos (by rw [e]; exact beq_self_eq_true _), hn e]
  · rw [if_neg (fun z => e (eq_of_beq z))]
    have z : ((PySem.W.clsIn K C).isSome && PySem.W.typeIn K (.ref C) == some (.type "type")) = true := by
      have h2 : (PySem.W.clsIn K C).isSome = true := hi
      rw [h2, ht]
      rfl
    show (if ((PySem.W.clsIn K C).isSome && PySem.W.typeIn K (.ref C) == some (.type "type")) = true then PySem.W.subIn K t (.ref C) else none) = some b
    rw [if_pos z]
    exact hs
theorem kit_bty {K : PySem.W.Frag} {D : Addr} {T : String} {b : Bool} (hm : PySem.W.kitMeta T = true) (hs : PySem.W.subIn K (.ref D) (.type T) = some b) : PySem.W.kitOne K (.ref D) (.type T) = some b := by
  unfold PySem.W.kitOne
  rw [if_neg (fun z => by cases (eq_of_beq z))]
  show (if PySem.W.kitMeta T = true then PySem.W.subIn K (.ref D) (.type T) else none) = some b
  rw [if_pos hm]
  exact hs
end L2

/-! Own layer: comprehensions whose inner words are found by the terms. -/
namespace L2
open ClX
open PySem PySem.Spec PyProof.Rows
section
variable {X : Cx}
theorem pe_lcD {elt tg iter : Expr} {ifs : List Expr} {scope : Scope} {own : List (Str × Nat)} {pos : Pos} {wi : TI} {g' : Shared → Hp → Addr → List (Str × Addr) → List Addr → TG} {tt' : Shared → Hp → Addr → List (Str × Addr) → List Addr → TT}
    {te' : Shared → Hp → Addr → List (Str × Addr) → List Addr → TE} (hc : X.calm = true) (hN : X.N.Nodup) (hi : PI X tg iter wi) (ok : BlkOk X.N X.env.scope scope own)
    (hg : ∀ (s : Shared) (H : Hp) (C : Addr) (cl : List (Str × Addr)) (fp : List Addr), PG (X.blk s H scope (compEnvC scope cl C X.env) fp) tg (g' s H C cl fp))
    (ht : ∀ (s : Shared) (H : Hp) (C : Addr) (cl : List (Str × Addr)) (fp : List Addr), PTs (X.blk s H scope (compEnvC scope cl C X.env) fp) ifs (tt' s H C cl fp))
    (he : ∀ (s : Shared) (H : Hp) (C : Addr) (cl : List (Str × Addr)) (fp : List Addr), PE (X.blk s H scope (compEnvC scope cl C X.env) fp) elt (te' s H C cl fp))
    (eg : ∀ s H C cl fp, g' s H C cl fp = g' X.s_0 X.H_0 0 [] [] := by intro _ _ _ _ _; rfl) (et : ∀ s H C cl fp, tt' s H C cl fp = tt' X.s_0 X.H_0 0 [] [] := by intro _ _ _ _ _; rfl)
    (ee : ∀ s H C cl fp, te' s H C cl fp = te' X.s_0 X.H_0 0 [] [] := by intro _ _ _ _ _; rfl) (hs : ∀ x, foldedSetIterable iter X.env x = pure x := by intro _; rfl) :
    PE X (.ListComp elt [⟨tg, iter, ifs, 0⟩] scope pos) (tLc wi (g' X.s_0 X.H_0 0 [] []) (tt' X.s_0 X.H_0 0 [] []) (te' X.s_0 X.H_0 0 [] []) (own.map (·.2))) :=
  pe_lc hc hN hi ok (fun s H C cl fp => eg s H C cl fp ▸ hg s H C cl fp) (fun s H C cl fp => et s H C cl fp ▸ ht s H C cl fp) (fun s H C cl fp => ee s H C cl fp ▸ he s H C cl fp) hs
theorem ps_setLcD {i : Nat} {y : Str} {py : Pos} {elt tg iter : Expr} {ifs : List Expr} {scope : Scope} {own : List (Str × Nat)} {pos spos : Pos} {wi : TI} {g' : Shared → Hp → Addr → List (Str × Addr) → List Addr → TG} {tt' : Shared → Hp → Addr → List (Str × Addr) → List Addr → TT}
    {te' : Shared → Hp → Addr → List (Str × Addr) → List Addr → TE} (hc : X.calm = true) (hN : X.N.Nodup) (hy : X.N[i]? = some y) (hyl : X.env.scope.names.lookup y = some .local)
    (hsw : swapsWith (.ListComp elt [⟨tg, iter, ifs, 0⟩] scope pos) (some (.Name y py)) spos.line X.env = pure true) (hi : PI X tg iter wi) (ok : BlkOk X.N X.env.scope scope own)
    (hg : ∀ (s : Shared) (H : Hp) (C : Addr) (cl : List (Str × Addr)) (fp : List Addr), PG (X.blk s H scope (compEnvC scope cl C X.env) fp) tg (g' s H C cl fp))
    (ht : ∀ (s : Shared) (H : Hp) (C : Addr) (cl : List (Str × Addr)) (fp : List Addr), PTs (X.blk s H scope (compEnvC scope cl C X.env) fp) ifs (tt' s H C cl fp))
    (he : ∀ (s : Shared) (H : Hp) (C : Addr) (cl : List (Str × Addr)) (fp : List Addr), PE (X.blk s H scope (compEnvC scope cl C X.env) fp) elt (te' s H C cl fp))
    (eg : ∀ s H C cl fp, g' s H C cl fp = g' X.s_0 X.H_0 0 [] [] := by intro _ _ _ _ _; rfl) (et : ∀ s H C cl fp, tt' s H C cl fp = tt' X.s_0 X.H_0 0 [] [] := by intro _ _ _ _ _; rfl)
    (ee : ∀ s H C cl fp, te' s H C cl fp = te' X.s_0 X.H_0 0 [] [] := by intro _ _ _ _ _; rfl) (hs : ∀ x, foldedSetIterable iter X.env x = pure x := by intro _; rfl) :
    PS X (.Assign [.Name y py] (.ListComp elt [⟨tg, iter, ifs, 0⟩] scope pos) spos) (tAsg (tLc wi (g' X.s_0 X.H_0 0 [] []) (tt' X.s_0 X.H_0 0 [] []) (te' X.s_0 X.H_0 0 [] []) (own.map (·.2))) (gName i)) :=
  ps_setLc hc hN hy hyl hsw hi ok (fun s H C cl fp => eg s H C cl fp ▸ hg s H C cl fp) (fun s H C cl fp => et s H C cl fp ▸ ht s H C cl fp) (fun s H C cl fp => ee s H C cl fp ▸ he s H C cl fp) hs
end
/-- a def's body keeps its promise -/
def BodyX (P : Program) (w : World) (K : PySem.W.Frag) (mg : Str → Option Value) (base : Heap) (N : List Str) (qual : Str) (st : Stmt) (f : Addr) (k : Nat) (sp : Sp) : Prop :=
  ∀ (cdv : Value) (A : Around) (outer : List Env) (s : Shared) (H : Hp) (vs : List V) (Q : VK) (E : XK), Room k (A.deeper (PyProof.Rows.envOfC qual (defScope st) s.heap.objs.size f cdv)) → sp vs H Q E →
      ∃ t, PSs (cxOf (L2.CX P w) P w K mg base N qual (defScope st) f cdv A outer s H E) (defBody st) t ∧ t { nx := fun _ H' => Q .non H', rt := Q } (start N vs) H
/-! ### what isinstance asks of an instance; entries of any kind -/
structure InsT (K : PySem.W.Frag) (C : Addr) : Prop where
  ha : PySem.W.findIn K (.ref C) "__class__" = some (some (.builtin "object.__class__"))
  hn : PySem.W.specialIn K (.builtin "object.__class__") "__get__" = some (some (.builtin "getset_descriptor.__get__"))
  ht : PySem.W.takesIn K (.builtin "object.__class__") = some true
  hm : PySem.W.mroIn K C (.type "object") = some true
theorem TyOf.same {K : PySem.W.Frag} {H H' : Hp} {v : V} {t : Value} (h : TyOf K H v t) (s : Same H H') : TyOf K H' v t := by
  cases h with
  | non => exact .non
  | bl x => exact .bl x
  | int x => exact .int x
  | str x => exact .str x
  | flt x => exact .flt x
  | lst e => exact .lst (s _ _ e)
  | frz e => exact .frz (s _ _ e)
  | tup e => exact .tup (s _ _ e)
  | dK e => exact .dK (s _ _ e)
  | dT e => exact .dT (s _ _ e)
  | ins e c a b d m => exact .ins (s _ _ e) c a b d m
theorem TyX.same {K : PySem.W.Frag} {H H' : Hp} {v : V} {t : Value} (h : TyX K H v t) (s : Same H H') : TyX K H' v t := by
  cases h with
  | base b => exact .base (b.same s)
  | byt b => exact .byt b
  | set e => exact .set (s _ _ e)
  | kList e c => exact .kList e c
  | kTuple e c => exact .kTuple e c
  | kDict e c => exact .kDict e c
  | fTuple e => exact .fTuple (s _ _ e)
  | fDict e => exact .fDict (s _ _ e)
/-- an entry: a text, or something that is none -/
inductive Ent (K : PySem.W.Frag) (H : Hp) : V → Option Str → Prop where
  | str (x : Str) (h : x.length ≤ 1000) : Ent K H (.str x) (some x)
  | no {v : V} {t : Value} (ty : TyX K H v t) (h : PySem.W.kitOne K t (.type "str") = some false) : Ent K H v none
inductive Ents (K : PySem.W.Frag) (H : Hp) : List V → List (Option Str) → Prop where
  | nil : Ents K H [] []
  | cons {v : V} {o : Option Str} {vs : List V} {os : List (Option Str)} (h : Ent K H v o) (t : Ents K H vs os) : Ents K H (v :: vs) (o :: os)
theorem Ent.same {K : PySem.W.Frag} {H H' : Hp} {v : V} {o : Option Str} (h : Ent K H v o) (s : Same H H') : Ent K H' v o := by
  cases h with
  | str x h => exact .str x h
  | no ty h => exact .no (ty.same s) h
theorem Ents.same {K : PySem.W.Frag} {H H' : Hp} {vs : List V} {os : List (Option Str)} (h : Ents K H vs os) (s : Same H H') : Ents K H' vs os := by
  induction h with
  | nil => exact .nil
  | cons a _ ih => exact .cons (a.same s) ih
theorem Ents.len {K : PySem.W.Frag} {H : Hp} {vs : List V} {os : List (Option Str)} (h : Ents K H vs os) : vs.length = os.length := by
  induction h with
  | nil => rfl
  | cons _ _ ih => rw [List.length_cons, List.length_cons, ih]
theorem Ents.get {K : PySem.W.Frag} {H : Hp} {vs : List V} {os : List (Option Str)} (h : Ents K H vs os) : ∀ {i : Nat} {v : V}, vs[i]? = some v → ∃ o, os[i]? = some o ∧ Ent K H v o := by
  induction h with
  | nil => intro i v e; cases e
  | cons a _ ih =>
    intro i v e
    cases i with
    | zero => cases e; exact ⟨_, rfl, a⟩
    | succ i => exact ih e
theorem Ents.app {K : PySem.W.Frag} {H : Hp} {vs ws : List V} {os us : List (Option Str)} (h : Ents K H vs os) (g : Ents K H ws us) : Ents K H (vs ++ ws) (os ++ us) := by
  induction h with
  | nil => exact g
  | cons a _ ih => exact .cons a ih
theorem Ents.strs {K : PySem.W.Frag} {H : Hp} : ∀ (xs : List Str), (∀ x ∈ xs, x.length ≤ 1000) → Ents K H (xs.map V.str) (xs.map some)
  | [], _ => .nil
  | x :: xs, h => .cons (.str x (h x List.mem_cons_self)) (Ents.strs xs fun y hy => h y (List.mem_cons_of_mem _ hy))
/-- all entries are texts -/
theorem Ents.all {K : PySem.W.Frag} {H : Hp} {vs : List V} {os : List (Option Str)} (h : Ents K H vs os) (p : Option Str → Bool) (hp : p none = false) (a : os.all p = true) : vs = (os.filterMap id).map V.str ∧ os = (os.filterMap id).map some ∧ ∀ x ∈ os.filterMap id, x.length ≤ 1000 := by
  induction h with
  | nil => exact ⟨rfl, rfl, fun x hx => by cases hx⟩
  | cons e _ ih =>
    rw [List.all_cons, Bool.and_eq_true] at a
    obtain ⟨i1, i2, i3⟩ := ih a.2
    cases e with
    | str x hx =>
      refine ⟨congrArg (V.str x :: ·) i1, congrArg (some x :: ·) i2, fun y hy => ?_⟩
      rcases List.mem_cons.mp hy with rfl | hy
      · exact hx
      · exact i3 y hy
    | no ty h => rw [hp] at a; exact absurd a.1 (by decide)
end L2

/-! Own layer: a def that may raise, called by two keywords in the other order. -/
namespace L2
open ClX
open PySem PySem.Spec PyProof.Rows
def swap2 {α : Type} : List α → List α → List α
  | [], [a, b] => [b, a]
  | _, _ => []
structure OkXS (P : Program) (w : World) (K : PySem.W.Frag) (mg : Str → Option Value) (base : Heap) (k : Nat) (f : Addr) (ps ks : List Str) (sp : Sp) : Prop where
  ex : ∃ fd, FnOk P w K mg base (L2.CX P w) k f fd ps sp ∧ KBinds K fd ps ks (fun us ws => swap2 us ws) (fun vs zs => swap2 vs zs)
  kp : PySem.W.keepIn K (.ref f) = true
section
variable {P : Program} {w : World} {K : PySem.W.Frag} {mg : Str → Option Value} {base : Heap}
theorem FnT.okXS {x qual p0 p1 : Str} {st : Stmt} {f : Addr} {N : List Str} {k : Nat} {sp : Sp} (h : FnT K x qual st f) (S : FnScope N [p0, p1] (defScope st))
    (hb : ∀ (kV doc pm : Value) (an : Option Addr) (cdv ct u v : Value), bindArgs (PySem.W.fnOf x qual (defArgs st) (defBody st) (defScope st) .none kV doc pm an cdv ct) ⟨[], [(p1, u), (p0, v)]⟩ = pure [(p0, v), (p1, u)])
    (len : ∀ vs H Q E, sp vs H Q E → vs.length = 2) (body : BodyX P w K mg base N qual st f k sp) : OkXS P w K mg base (k + 1) f [p0, p1] [p1, p0] sp := by
  obtain ⟨fd, F⟩ := h.ex
  refine ⟨⟨fd, F.okX S len body, F.kbinds 0 [p1, p0] swap2 (fun us ws hl => ?_) (fun r q => ?_) fun kV doc pm an cdv ct us ws h1 h2 => ?_⟩, F.kp⟩
  · match us, ws, hl with
    | [], [_, _], _ => exact ⟨rfl, rfl⟩
    | [], [], hl => cases hl
    | [], [_], hl => cases hl
    | [], _ :: _ :: _ :: _, hl => cases hl
    | _ :: _, _, hl => cases hl
  · cases r with
    | nil =>
      cases q with
      | nil => exact .nil
      | cons a q =>
        cases q with
        | nil => exact .nil
        | cons b q =>
          cases q with
          | nil => exact .cons b (.cons a .nil)
          | cons _ _ => exact .nil
    | cons _ _ => exact .nil
  · match us, h1, ws, h2 with
    | [], _, [u, v], _ => exact hb kV doc pm an cdv ct u v
end
def oCallS (sp : Sp) (E : St → XK) (tk : TA) : TE := fun σ H Q => tk σ H fun zs H1 => sp (swap2 [] zs) H1 Q (E σ)
theorem px_callS {X : Cx} {k : Nat} {f : Addr} {ps ks : List Str} {sp : Sp} {E : St → XK} {x : Str} {p pos : Pos} {kws : List Keyword} {tk : TA} (G : OkXS X.prog X.w X.K X.mg X.base k f ps ks sp) (hx : ∀ σ, PassesAt (L2.CX X.prog X.w) X σ (E σ)) (hr : Room k X.A)
    (hm : X.mg x = some (.ref f)) (hkw : PK X kws tk) (hg : Gl X x := by rfl) (hall : (backToKw pos (keywordEach kws X.env)).all (·.1.isSome) = true := by rfl) (hks : (backToKw pos (keywordEach kws X.env)).filterMap (·.1) = ks := by rfl)
    (hdb : (x == ("__debug__" : Str)) = false := by decide) (hpl : ((backTo pos (starEach [] X.env)).any (·.1) || (backToKw pos (keywordEach kws X.env)).any (·.1.isNone)) = false := by rfl) :
    PE X (.Call (.Name x p) [] kws pos) (oCallS sp E tk) := by
  obtain ⟨⟨fd, F, b⟩, kp⟩ := G
  refine ⟨fun pn s σ H Q I h => ?_⟩
  refine wpAny_Call_Name_kw (ld_glob I hg hm ?_ hdb)
  refine PySem.W.callWith_KW0 (first := []) (h₀ := X.base) I.ok.mod.kin kp hall ?_ hpl
  refine thn (hkw.run pos pn s σ H _ I h) fun ws s2 ⟨zs, H2, I2, rz, q2⟩ => ⟨I2.kIn, ?_⟩
  rw [hks]
  have rv : Vals (swap2 [] zs) (swap2 [] ws) := b.rel .nil rz
  have hl : (swap2 [] ws).length = ps.length := by
    rw [← rv.length]
    exact F.len _ _ _ _ q2
  refine wpAny_call (codeAny_mono (F.run X.A X.stack s2 H2 ⟨[], ks.zip ws⟩ (swap2 [] ws) (swap2 [] zs) Q (E σ) hr I2.env0 (b.to s2 [] ws I2.kIn hl) rv q2) fun r s3 z => ?_)
  match r, z with
  | .error e2, z => exact hx σ pn H2 s2 e2 s3 I2 z
  | .ok (.ret u2), z => exact I2.after z
  | .ok .next, z => exact z.elim
  | .ok .brk, z => exact z.elim
  | .ok .cont, z => exact z.elim
end L2

/-! Own layer: a property read off an instance whose class is found at run time; f-strings. -/
namespace L2
open ClX
open PySem PySem.Spec PyProof.Rows
theorem propOf_mk {K : PySem.W.Frag} {C p g : Addr} {f : Str} {rest : List Value} (a : PySem.W.findIn K (.ref C) f = some (some (.ref p))) (b : PySem.W.specialIn K (.ref p) "__get__" = some (some (.builtin "property.__get__"))) (c : PySem.W.takesIn K (.ref p) = some true) (d : PySem.W.recIn K p "property" = some (.ref g :: rest)) : PropOf K C f p g := ⟨a, b, c, rest, d⟩
def tPropD (K : PySem.W.Frag) (f : Str) (p g : Addr) (sp : Sp) (ta : TE) : TE := fun σ H Q => ta σ H fun x H1 => ∃ a C dx fs, x = .ref a ∧ H1 a = some (.ins C dx fs) ∧ Cls K C ∧ PropOf K C f p g ∧ sp [.ref a] H1 Q E0
theorem po_propD {X : Cx} {k : Nat} {p g : Addr} {ps : List Str} {sp : Sp} {e : Expr} {f : Str} {pos : Pos} {ta : TE} (G : Ok1 X.prog X.w X.K X.mg X.base k g ps sp) (hr : Room (k + 1) X.A) (he : PE X e ta) (hab : attributeBase e f X.env (eval e X.env) = eval e X.env := by rfl) :
    PE X (.Attribute e f pos) (tPropD X.K f p g sp ta) := by
  obtain ⟨⟨fd, F, b⟩, kp⟩ := G
  refine ⟨fun pins s σ H Q I h => ?_⟩
  refine attr_of hab (thn (he.run pins s σ H _ I h) fun u s1 ⟨x, H1, I1, rx, a, C, dx, fs, ex, ea, c, hp, q⟩ => ?_)
  subst ex
  obtain rfl : u = Value.ref a := rx
  exact getprop_ok I1 ea c hp F hr b .nil pass0 q
end L2

/-! Own layer: the set that a comprehension makes of texts, and its size. -/
set_option Elab.async false
set_option linter.all false
set_option maxRecDepth 100000
set_option maxHeartbeats 4000000
namespace OwnSet
open PySem PySem.Spec PyProof.Rows L2 PpSet
/-- one more member -/
def putM (ms : List Str) (y : Str) : List Str := if ms.any (· == y) then ms else ms ++ [y]
theorem putM_any (ms : List Str) (y k : Str) : (putM ms y).any (· == k) = (ms.any (· == k) || decide (k = y)) := by
  unfold putM
  split
  · rename_i c
    by_cases e : k = y
    · subst e
      rw [c]
      rfl
    · rw [decide_eq_false e, Bool.or_false]
  · rw [List.any_append]
    congr 1
    simp only [List.any_cons, List.any_nil, Bool.or_false]
    by_cases e : k = y
    · subst e
      simp
    · rw [decide_eq_false e]
      exact beq_eq_false_iff_ne.mpr fun q => e q.symm
theorem putM_len (ms : List Str) (y : Str) : (putM ms y).length = if (ms.any (· == y)) = true then ms.length else ms.length + 1 := by
  unfold putM
  split <;> simp_all
/-- a set of texts at a place -/
def TxS (P : Program) (w : World) (a : Addr) (ms : List Str) : HO := .ext fun h => h.SetOf (PySem.strKind P w) a (fun y => ms.any (· == y)) ms.length
theorem txs_ok {P : Program} {w : World} {H : Hp} {h : Heap} {a : Addr} {ms : List Str} (R : h.SetOf (PySem.strKind P w) a (fun y => ms.any (· == y)) ms.length) : ObjOk P w H h a (TxS P w a ms) := by
  have R' := R
  obtain ⟨o, es, ep, t, ho, r⟩ := R'
  refine ⟨R, ⟨o, ho⟩, fun h1 h2 z k => ?_⟩
  obtain ⟨o', es', ep', t', ho', r'⟩ := z
  exact ⟨o', es', ep', t', k o' ho', r'⟩
section
variable {X : Cx}
theorem txs_get {pins : List (Addr × Obj)} {σ : L2.St} {H : Hp} {s : Shared} {a : Addr} {ms : List Str} (I : Inv X pins σ H s) (ha : H a = some (TxS X.prog X.w a ms)) : s.heap.SetOf (PySem.strKind X.prog X.w) a (fun y => ms.any (· == y)) ms.length := (I.hok a _ ha).1
theorem txs_add {pins : List (Addr × Obj)} {σ : L2.St} {H : Hp} {s : Shared} {E : Value → Shared → Prop} {D : Addr} {ms : List Str} {y : Str} {tk : Tok} {Q : Value → Shared → Prop} (I : Inv X pins σ H s) (hD : H D = some (TxS X.prog X.w D ms)) (room : ms.length + 1 < scanBound)
    (h : ∀ s', Inv X pins σ (upd H D (TxS X.prog X.w D (putM ms y))) s' → Q .none s') : wpAny (model X.prog X.w) X.A (call (.builtin "set.add") [.ref D, .str y tk]) Q E s := by
  refine call_set_add (knd := PySem.strKind X.prog X.w) (strKind_is _ _ y tk) rfl (txs_get I hD) room fun h' sb new => ?_
  have new2 : h'.SetOf (PySem.strKind X.prog X.w) D (fun k => (putM ms y).any (· == k)) (putM ms y).length := SetOf_congr new (fun k => (putM_any ms y k).symm) (putM_len ms y).symm
  have has : ∃ u, h'.get? D = some u := by
    obtain ⟨o, _, _, _, ho, _⟩ := new
    exact ⟨o, ho⟩
  exact h _ (I.write (e := D) (t' := s.toks + 1) (by rw [hD]; trivial) (.inl rfl) (fun b u hb hu => (sb.2 b hb).trans hu) has (txs_ok new2))

/-- {elt for target in iter if ..}, elt a text: D is the set -/
def tSx (P : Program) (w : World) (wi : TI) (g : TG) (tt : TT) (te : TE) (own : List Nat) : TE := fun σ H Q => wi σ H fun J H1 => ∀ D, H1 D = none → ∃ W : Nat → Nat → Hp → Prop, (∃ m, W 0 m (upd H1 D (TxS P w D []))) ∧
  ∀ i m H, W i m H → (J.stop i H ∧ Q (.ref D) H) ∨ (J.go i H ∧ ∃ Nx : Hp → Prop, (∀ H', Nx H' → ∃ m', m' < m ∧ W (i + 1) m' H') ∧ ∀ x H', J.yld i H x H' → g x (wipe σ own) H' fun σ2 H2 => wipe σ2 own = wipe σ own ∧
    tt σ2 H2 fun b H3 => if b = true then te σ2 H3 fun y H4 => ∃ (z : Str) (ms : List Str), y = .str z ∧ H4 D = some (TxS P w D ms) ∧ ms.length + 1 < scanBound ∧ Nx (upd H4 D (TxS P w D (putM ms z))) else Nx H3)
theorem sx_core {pins : List (Addr × Obj)} {s : Shared} {σ : L2.St} {H : Hp} {Q : VK} {elt tg iter : Expr} {ifs : List Expr} {sc : Scope} {own : List (PySem.Str × Nat)} {pos pos' : Pos} {wi : TI} {g : TG} {tt : TT} {te : TE} {Qf : Value → Shared → Prop} {use : Option (Value → Sem Unit)}
    (calm : X.calm = true) (nd : X.N.Nodup) (I : Inv X pins σ H s) (ri : PI X tg iter wi) (blk : BlkOk X.N X.env.scope sc own)
    (rg : ∀ (s : Shared) (H : Hp) (C : Addr) (cl : List (PySem.Str × Addr)) (ex : List Addr), PG (X.blk s H sc (compEnvC sc cl C X.env) ex) tg g)
    (rt : ∀ (s : Shared) (H : Hp) (C : Addr) (cl : List (PySem.Str × Addr)) (ex : List Addr), PTs (X.blk s H sc (compEnvC sc cl C X.env) ex) ifs tt)
    (re : ∀ (s : Shared) (H : Hp) (C : Addr) (cl : List (PySem.Str × Addr)) (ex : List Addr), PE (X.blk s H sc (compEnvC sc cl C X.env) ex) elt te)
    (fold : ∀ x, foldedSetIterable iter X.env x = pure x) (h : tSx X.prog X.w wi g tt te (own.map (·.2)) σ H Q)
    (out : ∀ D C s' m H', Inv X pins σ H' s' → Q (.ref D) H' → s'.heap.Ns C m → FpOk X pins H' C → compPost (model X.prog X.w) X.A X.xe use Qf (.ref D) C (.ok .next) s') :
    wpAny (model X.prog X.w) X.A (comprehension (.SetComp elt [⟨tg, iter, ifs, 0⟩] sc pos) sc X.env pos' (PySem.newSet (.type "set")) false (eval iter X.env) use) Qf X.xe s := by
  have frees : ∀ y ∈ sc.names, y.2 = .free → ∃ c, X.env.cells.lookup y.1 = some c := fun y my e => (blk.free y my e).elim (fun k => I.ok.has _ (.inl k)) (fun k => I.ok.has _ (.inr k))
  refine wpAny_comprehension_free (use := use) rfl fold (closure_ok frees) blk.kind (fun y my e => by rw [blk.uniq y my, e]) (thn (ri.run pins s σ H _ I h) fun xv s1 q1 => thn q1 fun itv s2 q2 => ?_)
  obtain ⟨it, ex, tn, J, H2, rfl, I2, T, st2, f2, q⟩ := q2
  refine wpAny_newSet_of (knd := PySem.strKind X.prog X.w) (fun led fresh => newEnv_comp ?_)
  generalize eD : s2.heap.objs.size = D at fresh
  have freeD : H2 D = none := I2.hok.fresh (Nat.le_of_eq eD)
  obtain ⟨W, ⟨m0, w0⟩, turn⟩ := q D freeD
  generalize e3 : ({ s2 with heap := s2.heap.push { cls := .type "set", dict := none, data := .set #[] 0 (.fresh 0 0 led) } } : Shared) = s3
  have p3 : s3.heap = s2.heap.push { cls := .type "set", dict := none, data := .set #[] 0 (.fresh 0 0 led) } := by rw [← e3]
  have more3 : ∀ b o, s2.heap.get? b = some o → s3.heap.get? b = some o := fun b o z => by rw [p3]; exact Heap.get?_push_of_some _ z
  have new3 : s3.heap.SetOf (PySem.strKind X.prog X.w) D (fun y => ([] : List Str).any (· == y)) ([] : List Str).length := by
    rw [p3]
    exact SetOf_congr fresh (fun _ => rfl) rfl
  have I3 : Inv X pins σ (upd H2 D (TxS X.prog X.w D [])) s3 := by
    have z := I2.laid (h' := s3.heap) (t' := s2.toks) (a := D) more3 (Nat.le_of_eq eD) (txs_ok new3)
    rw [← e3] at z ⊢
    exact z
  have lt2 : ∀ b ∈ ex, b < s2.heap.objs.size := fun b mb => let ⟨_, z, _⟩ := T.obj _ _ st2 b mb; Heap.lt_size z
  have f3 : ∀ b ∈ ex, FpOk X pins (upd H2 D (TxS X.prog X.w D [])) b ∧ b < s3.heap.objs.size := fun b mb => by
    refine ⟨⟨?_, (f2 b mb).2⟩, by rw [p3, Heap.size_push]; exact Nat.lt_succ_of_lt (lt2 b mb)⟩
    have ne : b ≠ D := by rw [← eD]; exact Nat.ne_of_lt (lt2 b mb)
    rw [upd_ne ne]
    exact (f2 b mb).1
  have st3 : tn 0 s3.heap := T.keep _ _ _ st2 fun b _ o z => more3 b o z
  have I4 := block_start I3 blk nd f3
  generalize eH : upd H2 D (TxS X.prog X.w D []) = H3 at w0 I3 f3 I4
  have gg := rg s3 H3 s3.heap.objs.size (cellsFrom (s3.heap.objs.size + 1) sc.names (cloFrom X.env.cells sc.names [])) ex
  have gt := rt s3 H3 s3.heap.objs.size (cellsFrom (s3.heap.objs.size + 1) sc.names (cloFrom X.env.cells sc.names [])) ex
  have ge := re s3 H3 s3.heap.objs.size (cellsFrom (s3.heap.objs.size + 1) sc.names (cloFrom X.env.cells sc.names [])) ex
  have n3 : ∀ b ∈ ex, H3 b = none := fun b mb => (f3 b mb).1.1
  generalize ec : compEnvC sc (cellsFrom (s3.heap.objs.size + 1) sc.names (cloFrom X.env.cells sc.names [])) s3.heap.objs.size X.env = ce at I4 gg gt ge
  have lc : ce.locals = s3.heap.objs.size := by rw [← ec]; rfl
  show codeAny _ _ (.compStart (.SetComp elt [⟨tg, iter, ifs, 0⟩] sc pos) 0 (.ref it) (.ref D) (compEnvC sc (cellsFrom (s3.heap.objs.size + 1) sc.names (cloFrom X.env.cells sc.names [])) s3.heap.objs.size X.env)) (compPost (model X.prog X.w) X.A X.xe use Qf (.ref D) s3.heap.objs.size)
    { s3 with heap := pushCells (s3.heap.push { cls := .type "dict", data := .dict #[] }) sc.names }
  rw [ec]
  generalize e4 : ({ s3 with heap := pushCells (s3.heap.push { cls := .type "dict", data := .dict #[] }) sc.names } : Shared) = s4 at I4 ⊢
  have st4 : tn 0 s4.heap := T.keep _ _ _ st3 fun b _ o z => by
    rw [← e4]
    exact pushCells_keeps _ _ _ _ (Heap.get?_push_of_some _ z)
  have calmFp : ∀ {σ' : L2.St} {H' : Hp} {s' : Shared}, Inv (X.blk s3 H3 sc ce ex) [] σ' H' s' → (∀ b ∈ ex, H' b = none) → ∀ b ∈ ex, FpOk (X.blk s3 H3 sc ce ex) [] H' b := fun {σ' H' s'} J nn b mb =>
    ⟨nn b mb, (J.ok.exf b mb).1, J.ok.exfs b mb, .inl mb, (J.ok.exf b mb).2, fun p mp => absurd (show p ∈ ([] : List (Addr × Obj)) ++ [] from mp) (by simp)⟩
  let Pn : Nat → Shared → Prop := fun n s' => ∃ i H', Inv (X.blk s3 H3 sc ce ex) [] (wipe σ (own.map (·.2))) H' s' ∧ tn i s'.heap ∧ (∀ b ∈ ex, H' b = none) ∧ W i n H'
  have loop : codeAny (model X.prog X.w) X.A (.compLoop (.SetComp elt [⟨tg, iter, ifs, 0⟩] sc pos) 0 (.ref it) (.ref D) ce) (compPost (model X.prog X.w) X.A X.xe use Qf (.ref D) s3.heap.objs.size) s4 := by
    refine compLoopS_any Pn ?_ m0 ⟨0, H3, I4, st4, n3, w0⟩
    rintro n s5 ⟨i, H5, I5, st5, n5, w5⟩
    rcases turn i n H5 w5 with ⟨stop, fin⟩ | ⟨go, Nx, nxt, step⟩
    · refine thnF (T.done (X.blk s3 H3 sc ce ex) rfl rfl rfl calm i [] s5 _ H5 (fun _ _ => False) I5 (calmFp I5 n5) st5 stop) fun r s6 ⟨er, I6⟩ => ?_
      subst er
      have nC : H5 s3.heap.objs.size = none := lc ▸ (show H5 ce.locals = none from I6.free)
      obtain ⟨m, nm, _⟩ := I6.loc
      have nm : s6.heap.Ns s3.heap.objs.size m := lc ▸ (show s6.heap.Ns ce.locals m from nm)
      refine out D s3.heap.objs.size s6 m H5 (I3.call' (ch := ex) I6.os I6.base I6.hok I6.bare fun b mb => ?_) fin nm (I3.fpOk (Nat.le_refl _) nC)
      have z := (f3 b mb).1.2
      exact ⟨z.2.2.1, z.1, z.2.2.2.1, z.2.2.2.2⟩
    · refine thnF (T.item (X.blk s3 H3 sc ce ex) rfl rfl rfl calm i [] s5 _ H5 (fun _ _ => False) I5 (calmFp I5 n5) st5 go) fun r s6 ⟨u, er, q6⟩ => ?_
      subst er
      refine thnF q6 fun _ s7 ⟨x, H7, I7, r7, y7, st7, n7⟩ => ?_
      refine thnF (gg.run _ s7 _ H7 x u _ (I7.pinned (calmFp I7 n7) (T.obj _ _ st7)) r7 (step x H7 y7)) fun _ s8 ⟨σ8, H8, I8, ew, q8⟩ => ?_
      refine thnF (gt.run _ s8 σ8 H8 _ I8 q8) fun b s9 ⟨H9, I9, q9⟩ => ?_
      have again : ∀ {s' : Shared} {H' : Hp}, Inv (X.blk s3 H3 sc ce ex) ([] ++ pinsAt ex s7.heap) σ8 H' s' → Nx H' → ∃ m, m < n ∧ Pn m s' := fun {s' H'} J nx => by
        obtain ⟨m', lm, w'⟩ := nxt H' nx
        have stay : ∀ c ∈ ex, ∀ o, s7.heap.get? c = some o → s'.heap.get? c = some o ∧ H' c = none := fun c mc o z => by
          have y := J.pin (c, o) (List.mem_append_right _ (List.mem_append_right _ (mem_pinsAt mc z)))
          exact ⟨y.1, y.2.1⟩
        refine ⟨m', lm, i + 1, H', (J.unpinned (pins := [])).weak (by rw [← ew, wipe_length]) (fun j v z => ?_), T.keep _ _ _ st7 fun c mc o z => (stay c mc o z).1, fun c mc => ?_, w'⟩
        · rw [← ew] at z
          exact (wipe_some z).1
        · obtain ⟨o, z, _⟩ := T.obj _ _ st7 c mc
          exact (stay c mc o z).2
      have q9 : if b = true then te σ8 H9 (fun y H4 => ∃ (z : Str) (ms : List Str), y = .str z ∧ H4 D = some (TxS X.prog X.w D ms) ∧ ms.length + 1 < scanBound ∧ Nx (upd H4 D (TxS X.prog X.w D (putM ms z)))) else Nx H9 := q9
      by_cases hb : b = true
      · subst hb
        rw [if_pos rfl] at q9 ⊢
        refine thnF (ge.run _ s9 σ8 H9 _ I9 q9) fun z s10 ⟨yv, H10, I10, r10, zt, ms, ey, hD, small, nx⟩ => ?_
        subst ey
        obtain ⟨tk, ez⟩ := r10
        subst ez
        exact txs_add (X := X.blk s3 H3 sc ce ex) I10 hD small fun s11 I11 => again I11 nx
      · rw [if_neg hb] at q9 ⊢
        exact again I9 q9
  exact codeAny_compStart_set loop (T.self X.A 0 _ _ _ st4 loop)
/-- as a value; the inner words are found by the terms -/
theorem pe_sxD {elt tg iter : Expr} {ifs : List Expr} {scope : Scope} {own : List (Str × Nat)} {pos : Pos} {wi : TI} {g' : Shared → Hp → Addr → List (Str × Addr) → List Addr → TG} {tt' : Shared → Hp → Addr → List (Str × Addr) → List Addr → TT}
    {te' : Shared → Hp → Addr → List (Str × Addr) → List Addr → TE} (hc : X.calm = true) (hN : X.N.Nodup) (hi : PI X tg iter wi) (ok : BlkOk X.N X.env.scope scope own)
    (hg : ∀ (s : Shared) (H : Hp) (C : Addr) (cl : List (Str × Addr)) (fp : List Addr), PG (X.blk s H scope (compEnvC scope cl C X.env) fp) tg (g' s H C cl fp))
    (ht : ∀ (s : Shared) (H : Hp) (C : Addr) (cl : List (Str × Addr)) (fp : List Addr), PTs (X.blk s H scope (compEnvC scope cl C X.env) fp) ifs (tt' s H C cl fp))
    (he : ∀ (s : Shared) (H : Hp) (C : Addr) (cl : List (Str × Addr)) (fp : List Addr), PE (X.blk s H scope (compEnvC scope cl C X.env) fp) elt (te' s H C cl fp))
    (eg : ∀ s H C cl fp, g' s H C cl fp = g' X.s_0 X.H_0 0 [] [] := by intro _ _ _ _ _; rfl) (et : ∀ s H C cl fp, tt' s H C cl fp = tt' X.s_0 X.H_0 0 [] [] := by intro _ _ _ _ _; rfl)
    (ee : ∀ s H C cl fp, te' s H C cl fp = te' X.s_0 X.H_0 0 [] [] := by intro _ _ _ _ _; rfl) (hs : ∀ x, foldedSetIterable iter X.env x = pure x := by intro _; rfl) :
    PE X (.SetComp elt [⟨tg, iter, ifs, 0⟩] scope pos) (tSx X.prog X.w wi (g' X.s_0 X.H_0 0 [] []) (tt' X.s_0 X.H_0 0 [] []) (te' X.s_0 X.H_0 0 [] []) (own.map (·.2))) := by
  refine ⟨fun pins s σ H Q I h => ?_⟩
  rw [eval_SetComp]
  refine sx_core hc hN I hi ok (fun s H C cl fp => eg s H C cl fp ▸ hg s H C cl fp) (fun s H C cl fp => et s H C cl fp ▸ ht s H C cl fp) (fun s H C cl fp => ee s H C cl fp ▸ he s H C cl fp) hs h fun D C s' m H' J q nm f => ⟨m, nm, fun h2 sb => ?_⟩
  obtain ⟨a0, a1, _, a3, a4, a5⟩ := f
  exact ⟨.ref D, H', J.turned (t' := s'.toks) (fun b o ne e => (sb.2 b ne).trans e) a0 a1 a3 a4 a5, rfl, q⟩
/-- len of a set of texts -/
def rLenTx (P : Program) (w : World) : List V → Hp → VK → Prop := fun xs H Q => ∃ (a : Addr) (ms : List Str), xs = [V.ref a] ∧ H a = some (TxS P w a ms) ∧ ms.length < scanBound ∧ Q (.int (ms.length : Nat)) H
theorem call_lenTx : CallR X (.builtin "len") (rLenTx X.prog X.w) := by
  intro pins s σ H xs us Q I r h
  obtain ⟨a, ms, rfl, ha, small, q⟩ := h
  cases r with
  | cons ra rt =>
    cases rt
    cases ra
    obtain ⟨o, es, ep, t, ho, hex, hd, _, _, _, hf, hn⟩ := txs_get I ha
    exact call_len_set ho hex hd hf (by rw [hn]; unfold scanBound at small; omega) ⟨.int _, H, I.tok _, ⟨_, by rw [hn]⟩, q⟩
/-- over a list that the block leaves as it is -/
theorem sx_list {P : Program} {w : World} {K : PySem.W.Frag} {a : Addr} {xs : List V} {g : TG} {tt : TT} {te : TE} {vs : List Nat} {σ : L2.St} {H1 : Hp} {D : Addr} {Qd : Hp → Prop} (Pv : Nat → Hp → Prop) (h0 : Pv 0 (upd H1 D (TxS P w D []))) (hl : ∀ i H, i ≤ xs.length → Pv i H → SqL K H a xs)
    (hs : ∀ i x H, xs[i]? = some x → Pv i H → g x (wipe σ vs) H fun σ2 H2 => wipe σ2 vs = wipe σ vs ∧ tt σ2 H2 fun b H3 =>
      if b = true then te σ2 H3 fun y H4 => ∃ (z : Str) (ms : List Str), y = .str z ∧ H4 D = some (TxS P w D ms) ∧ ms.length + 1 < scanBound ∧ Pv (i + 1) (upd H4 D (TxS P w D (putM ms z))) else Pv (i + 1) H3) (hd : ∀ H, Pv xs.length H → Qd H) :
    ∃ W : Nat → Nat → Hp → Prop, (∃ m, W 0 m (upd H1 D (TxS P w D []))) ∧ ∀ i m H, W i m H → ((Itl K a).stop i H ∧ Qd H) ∨ ((Itl K a).go i H ∧ ∃ Nx : Hp → Prop, (∀ H', Nx H' → ∃ m', m' < m ∧ W (i + 1) m' H') ∧
      ∀ x H', (Itl K a).yld i H x H' → g x (wipe σ vs) H' fun σ2 H2 => wipe σ2 vs = wipe σ vs ∧ tt σ2 H2 fun b H3 =>
        if b = true then te σ2 H3 fun y H4 => ∃ (z : Str) (ms : List Str), y = .str z ∧ H4 D = some (TxS P w D ms) ∧ ms.length + 1 < scanBound ∧ Nx (upd H4 D (TxS P w D (putM ms z))) else Nx H3) := by
  refine ⟨fun i m H => i ≤ xs.length ∧ m + i = xs.length ∧ Pv i H, ⟨xs.length, Nat.zero_le _, rfl, h0⟩, ?_⟩
  rintro i m H ⟨le, sum, p⟩
  have sq := hl i H le p
  rcases Nat.lt_or_eq_of_le le with lt | rfl
  · refine .inr ⟨⟨xs, xs[i], sq, List.getElem?_eq_getElem lt⟩, Pv (i + 1), fun H' p' => ⟨m - 1, by omega, lt, by omega, p'⟩, ?_⟩
    rintro x H' ⟨rfl, y⟩
    exact hs i x _ (y xs sq) p
  · exact .inl ⟨⟨xs, sq, Nat.le_refl _⟩, hd H p⟩
/-- a list beside the empty one, whatever its entries are -/
def rNil (K : PySem.W.Frag) (f : Bool → Bool) : R2 := fun x y H Q => ∃ (a b : Addr) (xs : List V), x = .ref a ∧ y = .ref b ∧ SqL K H a xs ∧ SqL K H b [] ∧ Q (.bl (f (decide (xs = [])))) H
theorem op_eqNil (hu : X.A.units + 64 < cLine) : OpR X (compareOp .Eq) (rNil X.K id) := by
  intro pins s σ H x y v u Q I rx ry h
  obtain ⟨a, b, xs, rfl, rfl, ha, hb, q⟩ := h
  cases rx
  cases ry
  obtain ⟨is, r1, l1, _⟩ := I.list ha
  obtain ⟨js, r2, l2, _⟩ := I.list hb
  cases r2
  cases xs with
  | nil =>
    cases r1
    exact SeqAt.eq_listAt (e := fun _ => true) l1.isList l2.isList rfl (by omega) (fun j h1 _ => absurd h1 (Nat.not_lt_zero _)) ⟨.bl _, H, I, rfl, q⟩
  | cons z zs =>
    cases r1
    exact SeqAt.eq_list_lengthsAt l1.isList l2.isList rfl (by omega) ⟨.bl _, H, I, rfl, q⟩
theorem op_neNil (hu : X.A.units + 64 < cLine) : OpR X (compareOp .NotEq) (rNil X.K fun b => !b) := by
  intro pins s σ H x y v u Q I rx ry h
  obtain ⟨a, b, xs, rfl, rfl, ha, hb, q⟩ := h
  cases rx
  cases ry
  obtain ⟨is, r1, l1, _⟩ := I.list ha
  obtain ⟨js, r2, l2, _⟩ := I.list hb
  cases r2
  cases xs with
  | nil =>
    cases r1
    exact SeqAt.RcNeAt.lists (e := fun _ => true) l1.isList l2.isList rfl (by omega) (fun j h1 _ => absurd h1 (Nat.not_lt_zero _)) _ _ _ _ ⟨.bl _, H, I, rfl, q⟩
  | cons z zs =>
    cases r1
    exact SeqAt.RcNeAt.lists_lengths l1.isList l2.isList rfl (by omega) _ _ _ _ ⟨.bl _, H, I, rfl, q⟩
end
end OwnSet
namespace L2
open ClX
open PySem PySem.Spec PyProof.Rows
def only1 {α : Type} : List α → List α → List α
  | [], [a] => [a]
  | _, _ => []
/-- a def of one parameter, called by its name -/
structure OkX1 (P : Program) (w : World) (K : PySem.W.Frag) (mg : Str → Option Value) (base : Heap) (k : Nat) (f : Addr) (ps : List Str) (sp : Sp) : Prop where
  ex : ∃ fd, FnOk P w K mg base (L2.CX P w) k f fd ps sp ∧ KBinds K fd ps ps (fun us ws => only1 us ws) (fun vs zs => only1 vs zs)
  kp : PySem.W.keepIn K (.ref f) = true
section
variable {P : Program} {w : World} {K : PySem.W.Frag} {mg : Str → Option Value} {base : Heap}
theorem FnT.okX1 {x qual p0 : Str} {st : Stmt} {f : Addr} {N : List Str} {k : Nat} {sp : Sp} (h : FnT K x qual st f) (S : FnScope N [p0] (defScope st))
    (hb : ∀ (kV doc pm : Value) (an : Option Addr) (cdv ct u : Value), bindArgs (PySem.W.fnOf x qual (defArgs st) (defBody st) (defScope st) .none kV doc pm an cdv ct) ⟨[], [(p0, u)]⟩ = pure [(p0, u)])
    (len : ∀ vs H Q E, sp vs H Q E → vs.length = 1) (body : BodyX P w K mg base N qual st f k sp) : OkX1 P w K mg base (k + 1) f [p0] sp := by
  obtain ⟨fd, F⟩ := h.ex
  refine ⟨⟨fd, F.okX S len body, F.kbinds 0 [p0] only1 (fun us ws hl => ?_) (fun r q => ?_) fun kV doc pm an cdv ct us ws h1 h2 => ?_⟩, F.kp⟩
  · match us, ws, hl with
    | [], [_], _ => exact ⟨rfl, rfl⟩
    | [], [], hl => cases hl
    | [], _ :: _ :: _, hl => cases hl
    | _ :: _, _, hl => cases hl
  · cases r with
    | nil =>
      cases q with
      | nil => exact .nil
      | cons a q =>
        cases q with
        | nil => exact .cons a .nil
        | cons _ _ => exact .nil
    | cons _ _ => exact .nil
  · match us, h1, ws, h2 with
    | [], _, [u], _ => exact hb kV doc pm an cdv ct u
end
def oCall1 (sp : Sp) (E : St → XK) (tk : TA) : TE := fun σ H Q => tk σ H fun zs H1 => sp (only1 [] zs) H1 Q (E σ)
theorem px_call1 {X : Cx} {k : Nat} {f : Addr} {ps : List Str} {sp : Sp} {E : St → XK} {x : Str} {p pos : Pos} {kws : List Keyword} {tk : TA} (G : OkX1 X.prog X.w X.K X.mg X.base k f ps sp) (hx : ∀ σ, PassesAt (L2.CX X.prog X.w) X σ (E σ)) (hr : Room k X.A)
    (hm : X.mg x = some (.ref f)) (hkw : PK X kws tk) (hg : Gl X x := by rfl) (hall : (backToKw pos (keywordEach kws X.env)).all (·.1.isSome) = true := by rfl) (hks : (backToKw pos (keywordEach kws X.env)).filterMap (·.1) = ps := by rfl)
    (hdb : (x == ("__debug__" : Str)) = false := by decide) (hpl : ((backTo pos (starEach [] X.env)).any (·.1) || (backToKw pos (keywordEach kws X.env)).any (·.1.isNone)) = false := by rfl) :
    PE X (.Call (.Name x p) [] kws pos) (oCall1 sp E tk) := by
  obtain ⟨⟨fd, F, b⟩, kp⟩ := G
  refine ⟨fun pn s σ H Q I h => wpAny_Call_Name_kw (ld_glob I hg hm ?_ hdb)⟩
  refine PySem.W.callWith_KW0 (first := []) (h₀ := X.base) I.ok.mod.kin kp hall ?_ hpl
  refine thn (hkw.run pos pn s σ H _ I h) fun ws s2 ⟨zs, H2, I2, rz, q2⟩ => ⟨I2.kIn, ?_⟩
  rw [hks]
  have rv : Vals (only1 [] zs) (only1 [] ws) := b.rel .nil rz
  have hl : (only1 [] ws).length = ps.length := by
    rw [← rv.length]
    exact F.len _ _ _ _ q2
  refine wpAny_call (codeAny_mono (F.run X.A X.stack s2 H2 ⟨[], ps.zip ws⟩ (only1 [] ws) (only1 [] zs) Q (E σ) hr I2.env0 (b.to s2 [] ws I2.kIn hl) rv q2) fun r s3 z => ?_)
  match r, z with
  | .error e2, z => exact hx σ pn H2 s2 e2 s3 I2 z
  | .ok (.ret u2), z => exact I2.after z
  | .ok .next, z => exact z.elim
  | .ok .brk, z => exact z.elim
  | .ok .cont, z => exact z.elim
end L2

/-! Own layer: a new dict that a loop goes over at once; dict comprehensions over any walk. -/
set_option Elab.async false
set_option linter.all false
set_option maxRecDepth 100000
set_option maxHeartbeats 4000000
namespace L2
open ClX
open PySem PySem.Spec PyProof.Rows
section
variable {X : Cx}
/-- a thing that is made here and left as it is from here on -/
def tFreeze (td : TE) : TE := fun σ H Q => td σ H fun x H1 => ∃ d u, x = .ref d ∧ H1 d = some u ∧ Mut (some u) ∧ ∀ od, Q x (upd H1 d (.frz od u))
theorem pe_freeze {e : Expr} {td : TE} (he : PE X e td) : PE X e (tFreeze td) := by
  refine ⟨fun pins s σ H Q I h => thn (he.run pins s σ H _ I h) fun v s1 ⟨x, H1, I1, r1, d, u, ex, hd, mu, q⟩ => ?_⟩
  obtain ⟨od, I2⟩ := I1.lock hd mu
  exact ⟨x, _, I2, r1, q od⟩
theorem pe_dcD {kx vx tg iter : Expr} {ifs : List Expr} {scope : Scope} {own : List (Str × Nat)} {pos : Pos} {wi : TI} {g' : Shared → Hp → Addr → List (Str × Addr) → List Addr → TG} {tt' : Shared → Hp → Addr → List (Str × Addr) → List Addr → TT}
    {tk' tv' : Shared → Hp → Addr → List (Str × Addr) → List Addr → TE} (hc : X.calm = true) (hN : X.N.Nodup) (hi : PI X tg iter wi) (ok : BlkOk X.N X.env.scope scope own)
    (hg : ∀ (s : Shared) (H : Hp) (C : Addr) (cl : List (Str × Addr)) (fp : List Addr), PG (X.blk s H scope (compEnvC scope cl C X.env) fp) tg (g' s H C cl fp))
    (ht : ∀ (s : Shared) (H : Hp) (C : Addr) (cl : List (Str × Addr)) (fp : List Addr), PTs (X.blk s H scope (compEnvC scope cl C X.env) fp) ifs (tt' s H C cl fp))
    (hk : ∀ (s : Shared) (H : Hp) (C : Addr) (cl : List (Str × Addr)) (fp : List Addr), PE (X.blk s H scope (compEnvC scope cl C X.env) fp) kx (tk' s H C cl fp))
    (he : ∀ (s : Shared) (H : Hp) (C : Addr) (cl : List (Str × Addr)) (fp : List Addr), PE (X.blk s H scope (compEnvC scope cl C X.env) fp) vx (tv' s H C cl fp))
    (eg : ∀ s H C cl fp, g' s H C cl fp = g' X.s_0 X.H_0 0 [] [] := by intro _ _ _ _ _; rfl) (et : ∀ s H C cl fp, tt' s H C cl fp = tt' X.s_0 X.H_0 0 [] [] := by intro _ _ _ _ _; rfl)
    (ek : ∀ s H C cl fp, tk' s H C cl fp = tk' X.s_0 X.H_0 0 [] [] := by intro _ _ _ _ _; rfl) (ee : ∀ s H C cl fp, tv' s H C cl fp = tv' X.s_0 X.H_0 0 [] [] := by intro _ _ _ _ _; rfl)
    (hs : ∀ x, foldedSetIterable iter X.env x = pure x := by intro _; rfl) :
    PE X (.DictComp kx vx [⟨tg, iter, ifs, 0⟩] scope pos) (tDc wi (g' X.s_0 X.H_0 0 [] []) (tt' X.s_0 X.H_0 0 [] []) (tk' X.s_0 X.H_0 0 [] []) (tv' X.s_0 X.H_0 0 [] []) (own.map (·.2))) :=
  pe_dc hc hN hi ok (fun s H C cl fp => eg s H C cl fp ▸ hg s H C cl fp) (fun s H C cl fp => et s H C cl fp ▸ ht s H C cl fp) (fun s H C cl fp => ek s H C cl fp ▸ hk s H C cl fp) (fun s H C cl fp => ee s H C cl fp ▸ he s H C cl fp) hs
/-- a dict comprehension over any walk -/
theorem dc_it {J : It} {n : Nat} {G : Hp → Prop} {Y : Nat → Hp → V → Hp → Prop} (w : Walk J n G Y) {g : TG} {tt : TT} {tk tv : TE} {vs : List Nat} {σ : St} {H1 : Hp} {D : Addr} {Qd : Hp → Prop} (Pv : Nat → Hp → Prop) (h0 : Pv 0 (upd H1 D (.dK []))) (hG : ∀ i H, i ≤ n → Pv i H → G H)
    (hs : ∀ i x H H', i < n → Pv i H → Y i H x H' → g x (wipe σ vs) H' fun σ2 H2 => wipe σ2 vs = wipe σ vs ∧ tt σ2 H2 fun b H3 =>
      if b = true then tk σ2 H3 fun y H4 => tv σ2 H4 fun z H5 => ∃ kvs k, y = kV k ∧ H5 D = some (.dK kvs) ∧ kvs.length < sizeLine ∧ Pv (i + 1) (upd H5 D (.dK (putK kvs k z))) else Pv (i + 1) H3) (hd : ∀ H, Pv n H → Qd H) :
    ∃ W : Nat → Nat → Hp → Prop, (∃ m, W 0 m (upd H1 D (.dK []))) ∧ ∀ i m H, W i m H → (J.stop i H ∧ Qd H) ∨ (J.go i H ∧ ∃ Nx : Hp → Prop, (∀ H', Nx H' → ∃ m', m' < m ∧ W (i + 1) m' H') ∧
      ∀ x H', J.yld i H x H' → g x (wipe σ vs) H' fun σ2 H2 => wipe σ2 vs = wipe σ vs ∧ tt σ2 H2 fun b H3 =>
        if b = true then tk σ2 H3 fun y H4 => tv σ2 H4 fun z H5 => ∃ kvs k, y = kV k ∧ H5 D = some (.dK kvs) ∧ kvs.length < sizeLine ∧ Nx (upd H5 D (.dK (putK kvs k z))) else Nx H3) := by
  refine ⟨fun i m H => i ≤ n ∧ m + i = n ∧ Pv i H, ⟨n, Nat.zero_le _, rfl, h0⟩, ?_⟩
  rintro i m H ⟨le, sum, p⟩
  have ok := hG i H le p
  rcases Nat.lt_or_eq_of_le le with lt | rfl
  · exact .inr ⟨w.goes i H lt ok, Pv (i + 1), fun H' p' => ⟨m - 1, by omega, lt, by omega, p'⟩, fun x H' y => hs i x H H' lt p (w.yields i H x H' lt ok y)⟩
  · exact .inl ⟨w.stops H ok, hd H p⟩
end
end L2

/-! Own layer: a def that may raise, called by three keywords in the opposite order. -/
namespace L2
open ClX
open PySem PySem.Spec PyProof.Rows
def swap3 {α : Type} : List α → List α → List α
  | [], [a, b, c] => [c, b, a]
  | _, _ => []
structure OkX3 (P : Program) (w : World) (K : PySem.W.Frag) (mg : Str → Option Value) (base : Heap) (k : Nat) (f : Addr) (ps ks : List Str) (sp : Sp) : Prop where
  ex : ∃ fd, FnOk P w K mg base (L2.CX P w) k f fd ps sp ∧ KBinds K fd ps ks (fun us ws => swap3 us ws) (fun vs zs => swap3 vs zs)
  kp : PySem.W.keepIn K (.ref f) = true
section
variable {P : Program} {w : World} {K : PySem.W.Frag} {mg : Str → Option Value} {base : Heap}
theorem FnT.okX3 {x qual p0 p1 p2 : Str} {st : Stmt} {f : Addr} {N : List Str} {k : Nat} {sp : Sp} (h : FnT K x qual st f) (S : FnScope N [p0, p1, p2] (defScope st))
    (hb : ∀ (kV doc pm : Value) (an : Option Addr) (cdv ct u v y : Value), bindArgs (PySem.W.fnOf x qual (defArgs st) (defBody st) (defScope st) .none kV doc pm an cdv ct) ⟨[], [(p2, u), (p1, v), (p0, y)]⟩ = pure [(p0, y), (p1, v), (p2, u)])
    (len : ∀ vs H Q E, sp vs H Q E → vs.length = 3) (body : BodyX P w K mg base N qual st f k sp) : OkX3 P w K mg base (k + 1) f [p0, p1, p2] [p2, p1, p0] sp := by
  obtain ⟨fd, F⟩ := h.ex
  refine ⟨⟨fd, F.okX S len body, F.kbinds 0 [p2, p1, p0] swap3 (fun us ws hl => ?_) (fun r q => ?_) fun kV doc pm an cdv ct us ws h1 h2 => ?_⟩, F.kp⟩
  · match us, ws, hl with
    | [], [_, _, _], _ => exact ⟨rfl, rfl⟩
    | [], [], hl => cases hl
    | [], [_], hl => cases hl
    | [], [_, _], hl => cases hl
    | [], _ :: _ :: _ :: _ :: _, hl => cases hl
    | _ :: _, _, hl => cases hl
  · cases r with
    | nil =>
      cases q with
      | nil => exact .nil
      | cons a q =>
        cases q with
        | nil => exact .nil
        | cons b q =>
          cases q with
          | nil => exact .nil
          | cons c q =>
            cases q with
            | nil => exact .cons c (.cons b (.cons a .nil))
            | cons _ _ => exact .nil
    | cons _ _ => exact .nil
  · match us, h1, ws, h2 with
    | [], _, [u, v, y], _ => exact hb kV doc pm an cdv ct u v y
end
def oCall3 (sp : Sp) (E : St → XK) (tk : TA) : TE := fun σ H Q => tk σ H fun zs H1 => sp (swap3 [] zs) H1 Q (E σ)
theorem px_call3 {X : Cx} {k : Nat} {f : Addr} {ps ks : List Str} {sp : Sp} {E : St → XK} {x : Str} {p pos : Pos} {kws : List Keyword} {tk : TA} (G : OkX3 X.prog X.w X.K X.mg X.base k f ps ks sp) (hx : ∀ σ, PassesAt (L2.CX X.prog X.w) X σ (E σ)) (hr : Room k X.A)
    (hm : X.mg x = some (.ref f)) (hkw : PK X kws tk) (hg : Gl X x := by rfl) (hall : (backToKw pos (keywordEach kws X.env)).all (·.1.isSome) = true := by rfl) (hks : (backToKw pos (keywordEach kws X.env)).filterMap (·.1) = ks := by rfl)
    (hdb : (x == ("__debug__" : Str)) = false := by decide) (hpl : ((backTo pos (starEach [] X.env)).any (·.1) || (backToKw pos (keywordEach kws X.env)).any (·.1.isNone)) = false := by rfl) :
    PE X (.Call (.Name x p) [] kws pos) (oCall3 sp E tk) := by
  obtain ⟨⟨fd, F, b⟩, kp⟩ := G
  refine ⟨fun pn s σ H Q I h => ?_⟩
  refine wpAny_Call_Name_kw (ld_glob I hg hm ?_ hdb)
  refine PySem.W.callWith_KW0 (first := []) (h₀ := X.base) I.ok.mod.kin kp hall ?_ hpl
  refine thn (hkw.run pos pn s σ H _ I h) fun ws s2 ⟨zs, H2, I2, rz, q2⟩ => ⟨I2.kIn, ?_⟩
  rw [hks]
  have rv : Vals (swap3 [] zs) (swap3 [] ws) := b.rel .nil rz
  have hl : (swap3 [] ws).length = ps.length := by
    rw [← rv.length]
    exact F.len _ _ _ _ q2
  refine wpAny_call (codeAny_mono (F.run X.A X.stack s2 H2 ⟨[], ks.zip ws⟩ (swap3 [] ws) (swap3 [] zs) Q (E σ) hr I2.env0 (b.to s2 [] ws I2.kIn hl) rv q2) fun r s3 z => ?_)
  match r, z with
  | .error e2, z => exact hx σ pn H2 s2 e2 s3 I2 z
  | .ok (.ret u2), z => exact I2.after z
  | .ok .next, z => exact z.elim
  | .ok .brk, z => exact z.elim
  | .ok .cont, z => exact z.elim
end L2

/-! Own layer: max of a list of whole numbers, with default=. -/
set_option Elab.async false
set_option linter.all false
set_option maxRecDepth 100000
set_option maxHeartbeats 4000000
namespace L2
open ClX
open PySem PySem.Spec PyProof.Rows
theorem fold_max : ∀ (ns : List Int) (n : Int), (ns.foldl max n ∈ n :: ns) ∧ ∀ y ∈ n :: ns, y ≤ ns.foldl max n
  | [], n => ⟨List.mem_cons_self, fun y hy => by rw [List.mem_singleton.mp hy]; exact Int.le_refl _⟩
  | k :: ns, n => by
    obtain ⟨a, b⟩ := fold_max ns (max n k)
    have hm : max n k = n ∨ max n k = k := by omega
    have h1 : n ≤ max n k := by omega
    have h2 : k ≤ max n k := by omega
    have top := b _ List.mem_cons_self
    refine ⟨?_, fun y hy => ?_⟩
    · show ns.foldl max (max n k) ∈ n :: k :: ns
      rcases List.mem_cons.mp a with e | e
      · rw [e]
        rcases hm with z | z
        · rw [z]; exact List.mem_cons_self
        · rw [z]; exact List.mem_cons_of_mem _ List.mem_cons_self
      · exact List.mem_cons_of_mem _ (List.mem_cons_of_mem _ e)
    · show y ≤ ns.foldl max (max n k)
      rcases List.mem_cons.mp hy with e | hy
      · rw [e]; exact Int.le_trans h1 top
      · rcases List.mem_cons.mp hy with e | hy
        · rw [e]; exact Int.le_trans h2 top
        · exact b y (List.mem_cons_of_mem _ hy)
def rMaxDef (K : PySem.W.Frag) : List V → List V → Hp → VK → Prop := fun xs zs H Q => ∃ (a : Addr) (ns : List Int) (d : Int), xs = [.ref a] ∧ zs = [.int d] ∧ SqL K H a (ns.map V.int) ∧ (ns = [] → Q (.int d) H) ∧ ∀ m, m ∈ ns → (∀ y ∈ ns, y ≤ m) → Q (.int m) H
theorem dpInts {K : PySem.W.Frag} {H : Hp} : ∀ ns : List Int, DpAll K H (ns.map V.int) (ns.map PyData.int)
  | [] => .nil
  | n :: ns => .cons (.int n) (dpInts ns)
theorem depth_ints : ∀ ns : List Int, PyData.depthAll (ns.map PyData.int) = 0
  | [] => by simp [PyData.depthAll]
  | n :: ns => by simp [PyData.depthAll, PyData.depth, depth_ints ns]
theorem call_maxDef {X : Cx} (hc : X.calm = true) (hu : X.A.units + 64 < cLine) : CallRK X (.builtin "max") [Str.ofString "default"] (rMaxDef X.K) := by
  intro pins s σ H vs zs us ws Q I r rz h
  obtain ⟨a, ns, d, rfl, rfl, hs, q0, q1⟩ := h
  obtain rfl := Vals.ref1 r
  obtain ⟨w1, rfl, e1⟩ := vals1 rz
  obtain ⟨t, rfl⟩ := e1
  obtain ⟨its, rv, hl, hz⟩ := I.list hs
  obtain ⟨as, ra⟩ := Dp.readsAll I _ _ _ (dpInts ns) rv
  refine PySem.W.max_list_default (I.ok.hd hc) hl.isList ra ⟨fun x hx y hy => ?_, fun x hx => ?_⟩ ?_ (fun e h' tk hk => ⟨.int d, H, I.kept hk, ⟨t, rfl⟩, q0 (List.map_eq_nil_iff.mp e)⟩) (fun y ys i v h' tk bs e hv hr hk => ?_)
  · obtain ⟨i, _, rfl⟩ := List.mem_map.mp hx
    obtain ⟨j, _, rfl⟩ := List.mem_map.mp hy
    rfl
  · obtain ⟨i, _, rfl⟩ := List.mem_map.mp hx
    exact fun z => by cases z
  · rw [depth_ints]
    omega
  · cases ns with
    | nil => cases e
    | cons n ns =>
      obtain ⟨e1, e2⟩ := List.cons.inj e
      subst e1 e2
      rw [PySem.W.maxD_ints] at hr
      cases hr
      obtain ⟨m1, m2⟩ := fold_max ns n
      exact ⟨.int (ns.foldl max n), H, I.kept hk, ⟨_, rfl⟩, q1 _ m1 m2⟩
end L2

/-! Own layer: a method of an object whose class is found at run time. -/
set_option Elab.async false
set_option linter.all false
set_option maxRecDepth 100000
set_option maxHeartbeats 4000000
namespace L2
open ClX
open PySem PySem.Spec PyProof.Rows
theorem Room.units65 {k : Nat} {A : Around} (r : Room k A) : A.units + 65 < cLine := by have := r.un; omega
def tMethD (K : PySem.W.Frag) (m : Str) (f : Addr) (sp : Sp) (ta : TE) (t : TA) : TE := fun σ H Q => ta σ H fun x H1 => ∃ a C dx fs, x = .ref a ∧ H1 a = some (.ins C dx fs) ∧ fs.lookup m = none ∧ Cls K C ∧ Meth K C m f ∧ t σ H1 fun vs H2 => sp (x :: vs) H2 Q E0
theorem po_methD {X : Cx} {k : Nat} {f : Addr} {ps : List Str} {sp : Sp} {m : Str} {pos apos : Pos} {e o : Expr} {es : List Expr} {ta : TE} {t : TA} {pl : Sem Bool} (G : Ok1 X.prog X.w X.K X.mg X.base k f ps sp) (hr : Room k X.A) (he : PE X o ta) (ha : PA X (e :: es) t)
    (hst : starEach (e :: es) X.env = (false, eval e X.env) :: starEach es X.env := by rfl) (hpl : (backTo pos (starEach es X.env)).any (·.1) = false := by rfl)
    (ht : eval (.Call (.Attribute o m apos) (e :: es) [] pos) X.env = (do
      let ov ← eval o X.env
      standAt apos.atName
      let (f, first) ← holding [ov] (getMethod ov m pl)
      callWith pos f first (backTo pos (starEach (e :: es) X.env)) (backToKw pos (keywordEach [] X.env))) := by rfl) :
    PE X (.Call (.Attribute o m apos) (e :: es) [] pos) (tMethD X.K m f sp ta t) := by
  obtain ⟨⟨fd, F, b⟩, kp⟩ := G
  refine ⟨fun pins s σ H Q I h => ?_⟩
  refine PySem.W.methodCall_KW (pl := pl) (thn (he.run pins s σ H _ I h) fun u s1 ⟨x, H1, I1, rx, a, C, dx, fs, ex, ea, l, c, hm, q⟩ => ?_) ht
  subst ex
  obtain rfl : u = Value.ref a := rx
  refine getmeth_ok I1 ea c hm l ?_
  refine PySem.W.callWith_K (first := [.ref a]) (h₀ := X.base) I.ok.mod.kin hm.kp (thn (ha.run pos pins s1 σ H1 _ I1 q) fun us s2 ⟨vs, H2, I2, r, q2⟩ => ⟨I2.kIn, ?_⟩) hst hpl
  have q3 : sp (.ref a :: (vs ++ [])) H2 Q E0 := by rw [List.append_nil]; exact q2
  exact run_fn (us := .ref a :: us) (vs := .ref a :: vs) F hr b .nil pass0 I2 (.cons rfl r) q3
end L2

/-! Own layer: how often a truth value stands in a list of truth values. -/
set_option Elab.async false
set_option linter.all false
set_option maxRecDepth 100000
set_option maxHeartbeats 4000000
namespace L2
open ClX
open PySem PySem.Spec PyProof.Rows
def eb (b : Bool) (v : PySem.Value) : Bool := match v with
  | .bool c => c == b
  | _ => false
theorem bools_of : ∀ {bs : List Bool} {us : List PySem.Value}, Vals (bs.map V.bl) us → us = bs.map PySem.Value.bool
  | [], us, h => by cases h; rfl
  | b :: bs, us, h => by
    cases h with
    | cons r t =>
      have e : _ = PySem.Value.bool b := r
      rw [bools_of t, e]
      rfl
theorem count_bools (b : Bool) : ∀ bs : List Bool, List.countP (eb b) (bs.map PySem.Value.bool) = bs.count b
  | [] => rfl
  | c :: bs => by
    rw [List.map_cons, List.countP_cons, List.count_cons, count_bools b bs]
    rfl
theorem mt_countB {X : Cx} : MtR X "list.count" (fun x xs H Q => ∃ (p : Addr) (bs : List Bool) (b : Bool), x = .ref p ∧ xs = [.bl b] ∧ SqL X.K H p (bs.map V.bl) ∧ Q (.int ((bs.count b : Nat) : Int)) H) := by
  rintro pins s σ H x xs v us Q I rx rxs ⟨p, bs, b, rfl, rfl, hs, q⟩
  obtain rfl : v = .ref p := rx
  obtain ⟨u, rfl, ru⟩ := Vals.one rxs
  obtain rfl : u = .bool b := ru
  obtain ⟨its, rv, hpl, hlen⟩ := Inv.list I hs
  obtain rfl := bools_of rv
  obtain ⟨⟨cls, dd, data, sl⟩, n, ho, hc, hdn, hd⟩ := hpl
  have hc : cls = .type "list" := hc
  have hd : data = .seq _ n := hd
  subst hc hd
  refine PySem.call_meets PySem.F.slot_list_count ⟨_, ho, rfl⟩ PySem.F.entry_list_count (PySem.F.args_list_count_2 _ _) (PySem.SeqAt.list_countAt p _ n dd sl (.bool b) (eb b)) ⟨ho, fun y hy => ?_, ?_⟩
  · obtain ⟨c, _, rfl⟩ := List.mem_map.mp (List.mem_toArray.mp hy)
    exact eqAt_V (y := .bl c) (x := .bl b) (u := .bool c) (v := .bool b) rfl rfl rfl rfl
  · refine ⟨V.int ((bs.count b : Nat) : Int), H, Inv.tok I (s.toks + 1), ⟨s.toks, ?_⟩, q⟩
    rw [← count_bools b bs]
end L2

set_option Elab.async false
set_option linter.all false
set_option maxRecDepth 100000
set_option maxHeartbeats 4000000
/-! Own layer: methods that may raise, of an object whose class is found at run time; == by an own def, both answers. -/
namespace L2
open ClX
open PySem PySem.Spec PyProof.Rows
/-- one of several defs, as the class has it -/
def oMethF (K : PySem.W.Frag) (m : Str) (Fs : Addr → Sp → Prop) (E : St → XK) (ta : TE) (t : TA) : TE := fun σ H Q => ta σ H fun x H1 => ∃ a C dx fs f sp, x = .ref a ∧ H1 a = some (.ins C dx fs) ∧ fs.lookup m = none ∧ Cls K C ∧ Meth K C m f ∧ Fs f sp ∧ t σ H1 fun vs H2 => sp (x :: vs) H2 Q (E σ)
def oMethFK (K : PySem.W.Frag) (m : Str) (f : Addr) (sp : Sp) (E : St → XK) (ta : TE) (tk : TA) : TE := fun σ H Q => ta σ H fun x H1 => ∃ a C dx fs, x = .ref a ∧ H1 a = some (.ins C dx fs) ∧ fs.lookup m = none ∧ Cls K C ∧ Meth K C m f ∧ tk σ H1 fun zs H2 => sp (glue1 [x] zs) H2 Q (E σ)
section
variable {X : Cx} {K0 : PySem.W.Frag} {k : Nat} {Fs : Addr → Sp → Prop} {f : Addr} {ps : List Str} {kw : Str} {sp : Sp} {E : St → XK} {m : Str} {pos apos : Pos} {e o : Expr} {es : List Expr} {kws : List Keyword} {ta : TE} {t tk : TA} {pl : Sem Bool}
theorem px_methF (G : ∀ f sp, Fs f sp → OkX X.prog X.w X.K X.mg X.base k f ps sp) (hx : ∀ σ, PassesAt (L2.CX X.prog X.w) X σ (E σ)) (hr : Room k X.A) (he : PE X o ta) (ha : PA X (e :: es) t)
    (hst : starEach (e :: es) X.env = (false, eval e X.env) :: starEach es X.env := by rfl) (hpl : (backTo pos (starEach es X.env)).any (·.1) = false := by rfl)
    (ht : eval (.Call (.Attribute o m apos) (e :: es) [] pos) X.env = (do
      let ov ← eval o X.env
      standAt apos.atName
      let (f, first) ← holding [ov] (getMethod ov m pl)
      callWith pos f first (backTo pos (starEach (e :: es) X.env)) (backToKw pos (keywordEach [] X.env))) := by rfl) (hK : X.K = K0 := by rfl) :
    PE X (.Call (.Attribute o m apos) (e :: es) [] pos) (oMethF K0 m Fs E ta t) := by
  subst hK
  refine ⟨fun pn s σ H Q I h => PySem.W.methodCall_KW (pl := pl) (thn (he.run pn s σ H _ I h) fun u s1 ⟨x, H1, I1, rx, a, C, dx, fs, f, sp, ex, ea, l, c, hm, hf, q⟩ => ?_) ht⟩
  subst ex
  cases rx
  obtain ⟨⟨fd, F, b⟩, kp⟩ := G f sp hf
  refine getmeth_ok I1 ea c hm l (PySem.W.callWith_K (first := [.ref a]) (h₀ := X.base) I.ok.mod.kin hm.kp (thn (ha.run pos pn s1 σ H1 _ I1 q) fun us s2 ⟨vs, H2, I2, r, q2⟩ => ⟨I2.kIn, ?_⟩) hst hpl)
  exact run_fnS (us := .ref a :: us) (vs := .ref a :: vs) F hr b (hx σ) I2 (.cons rfl r) q2
theorem po_methF (G : ∀ f sp, Fs f sp → Ok1 X.prog X.w X.K X.mg X.base k f ps sp) (hr : Room k X.A) (he : PE X o ta) (ha : PA X (e :: es) t)
    (hst : starEach (e :: es) X.env = (false, eval e X.env) :: starEach es X.env := by rfl) (hpl : (backTo pos (starEach es X.env)).any (·.1) = false := by rfl)
    (ht : eval (.Call (.Attribute o m apos) (e :: es) [] pos) X.env = (do
      let ov ← eval o X.env
      standAt apos.atName
      let (f, first) ← holding [ov] (getMethod ov m pl)
      callWith pos f first (backTo pos (starEach (e :: es) X.env)) (backToKw pos (keywordEach [] X.env))) := by rfl) (hK : X.K = K0 := by rfl) :
    PE X (.Call (.Attribute o m apos) (e :: es) [] pos) (oMethF K0 m Fs (fun _ => E0) ta t) := by
  subst hK
  refine ⟨fun pn s σ H Q I h => PySem.W.methodCall_KW (pl := pl) (thn (he.run pn s σ H _ I h) fun u s1 ⟨x, H1, I1, rx, a, C, dx, fs, f, sp, ex, ea, l, c, hm, hf, q⟩ => ?_) ht⟩
  subst ex
  cases rx
  obtain ⟨⟨fd, F, b⟩, kp⟩ := G f sp hf
  refine getmeth_ok I1 ea c hm l (PySem.W.callWith_K (first := [.ref a]) (h₀ := X.base) I.ok.mod.kin hm.kp (thn (ha.run pos pn s1 σ H1 _ I1 q) fun us s2 ⟨vs, H2, I2, r, q2⟩ => ⟨I2.kIn, ?_⟩) hst hpl)
  have q3 : sp (.ref a :: (vs ++ [])) H2 Q E0 := by rw [List.append_nil]; exact q2
  exact run_fn (us := .ref a :: us) (vs := .ref a :: vs) F hr b .nil pass0 I2 (.cons rfl r) q3
theorem px_methFK (G : OkXK X.prog X.w X.K X.mg X.base k f ps kw sp) (hx : ∀ σ, PassesAt (L2.CX X.prog X.w) X σ (E σ)) (hr : Room k X.A) (he : PE X o ta)
    (hkw : PK X kws tk) (hall : (backToKw pos (keywordEach kws X.env)).all (·.1.isSome) = true := by rfl) (hks : (backToKw pos (keywordEach kws X.env)).filterMap (·.1) = [kw] := by rfl)
    (hpl : ((backTo pos (starEach [] X.env)).any (·.1) || (backToKw pos (keywordEach kws X.env)).any (·.1.isNone)) = false := by rfl)
    (ht : eval (.Call (.Attribute o m apos) [] kws pos) X.env = (do
      let ov ← eval o X.env
      standAt apos.atName
      let (f, first) ← holding [ov] (getMethod ov m pl)
      callWith pos f first (backTo pos (starEach [] X.env)) (backToKw pos (keywordEach kws X.env))) := by rfl) (hK : X.K = K0 := by rfl) :
    PE X (.Call (.Attribute o m apos) [] kws pos) (oMethFK K0 m f sp E ta tk) := by
  subst hK
  obtain ⟨fd, F, b⟩ := G.ex
  refine ⟨fun pn s σ H Q I h => PySem.W.methodCall_KW (pl := pl) (thn (he.run pn s σ H _ I h) fun u s1 ⟨x, H1, I1, rx, a, C, dx, fs, ex, ea, l, c, hm, q⟩ => ?_) ht⟩
  subst ex
  cases rx
  refine getmeth_ok I1 ea c hm l (PySem.W.callWith_KW0 (first := [.ref a]) (h₀ := X.base) I.ok.mod.kin hm.kp hall ?_ hpl)
  refine thn (hkw.run pos pn s1 σ H1 _ I1 q) fun ws s2 ⟨zs, H2, I2, rz, q2⟩ => ⟨I2.kIn, ?_⟩
  rw [hks]
  have rv : Vals (glue1 [V.ref a] zs) (glue1 [Value.ref a] ws) := b.rel (.cons rfl .nil) rz
  have hl : (glue1 [Value.ref a] ws).length = ps.length := by
    rw [← rv.length]
    exact F.len _ _ _ _ q2
  refine wpAny_call (codeAny_mono (F.run X.A X.stack s2 H2 ⟨[.ref a], [kw].zip ws⟩ (glue1 [Value.ref a] ws) (glue1 [V.ref a] zs) Q (E σ) hr I2.env0 (b.to s2 [.ref a] ws I2.kIn hl) rv q2) fun r s3 z => ?_)
  match r, z with
  | .error e2, z => exact hx σ pn H2 s2 e2 s3 I2 z
  | .ok (.ret u2), z => exact I2.after z
  | .ok .next, z => exact z.elim
  | .ok .brk, z => exact z.elim
  | .ok .cont, z => exact z.elim
end
/-- two instances of one class, by its own __eq__ -/
def rEqOwn (K : PySem.W.Frag) (f : Addr) (sp : Sp) : R2 := fun x y H Q => ∃ a b C dx dy fs gs, x = .ref a ∧ y = .ref b ∧ H a = some (.ins C dx fs) ∧ H b = some (.ins C dy gs) ∧ Meth K C "__eq__" f ∧ sp [.ref a, .ref b] H (fun v H' => ∃ b, v = .bl b ∧ Q v H') E0
theorem op_eqOwn {X : Cx} {k : Nat} {f : Addr} {ps : List Str} {sp : Sp} (G : Ok1 X.prog X.w X.K X.mg X.base k f ps sp) (hr : Room k X.A) : OpR X (compareOp .Eq) (rEqOwn X.K f sp) := by
  intro pins s σ H x y v u Q I rx ry hq
  obtain ⟨a, b, C, dx, dy, fs, gs, rfl, rfl, ha, hb, hm, q⟩ := hq
  cases rx
  cases ry
  obtain ⟨⟨fd, F, bd⟩, kp⟩ := G
  obtain ⟨mA, J, _⟩ := ins_get I.hok ha
  obtain ⟨mB, J', _⟩ := ins_get I.hok hb
  obtain ⟨od, J, _⟩ := J.look
  obtain ⟨od', J', _⟩ := J'.look
  obtain ⟨m, hF⟩ := I.fr
  show wpAny (model X.prog X.w) X.A (richCompare .Eq (.ref a) (.ref b)) (EP X pins σ Q) X.xe s
  refine PySem.W.cmp_K (op := .Eq) (tb := .ref C) hr.units0 hF I.ok.mod.kin J J'.type (by simp [PySem.W.notFirst]) hm.at_ hm.fn ?_
  have q3 : sp ([.ref a, .ref b] ++ []) H (fun v H' => ∃ b, v = .bl b ∧ Q v H') E0 := by rw [List.append_nil]; exact q
  refine wpAny_mono (run_fn (us := [.ref a, .ref b]) (vs := [.ref a, .ref b]) F hr bd .nil pass0 I (.cons rfl (.cons rfl .nil)) q3) (fun r s' z => ?_) fun _ _ z => z
  obtain ⟨v, H', I', rv, bb, rfl, z⟩ := z
  cases rv
  exact ⟨.bl bb, H', I', rfl, z⟩
end L2

set_option Elab.async false
set_option linter.all false
set_option maxRecDepth 100000
set_option maxHeartbeats 4000000
/-! Own layer: a, b = x, y where a name is a cell of the def: stored from the left; the pair itself is not tracked. -/
namespace L2
open ClX
open PySem PySem.Spec PyProof.Rows
section
variable {X : Cx} {pos : Pos}
theorem ps_parC {i j : Nat} {x y : Str} {a b : Expr} {ta : TA} {px py pt : Pos} {kt k2 pt2} (hc : X.calm = true) (ha : PA X [a, b] ta)
    (hp : PGs X [.Name x px, .Name y py] (gCons (gName i) (gCons (gName j) gNil)))
    (hs : swapsWithSole [.Tuple [.Name x px, .Name y py] kt pt] (.Tuple [a, b] k2 pt2) pos.line X.env = pure false := by rfl)
    (hw : swappedStores [.Tuple [.Name x px, .Name y py] kt pt] (.Tuple [a, b] k2 pt2) X.env = pure none := by rfl) :
    PS X (.Assign [.Tuple [.Name x px, .Name y py] kt pt] (.Tuple [a, b] k2 pt2) pos) (tPar i j ta) := by
  refine ⟨fun pins s σ H D I h => ?_⟩
  refine wpAny_Assign_stores (Tuple_ (thn (ha.run _ pins s σ H _ I h) fun us s1 ⟨vs, H1, I1, r1, q1⟩ => ?_)) hs hw
  obtain ⟨v, w, e1, q1⟩ := q1
  subst e1
  obtain ⟨u1, u2, rfl, rv, rw'⟩ : ∃ u1 u2, us = [u1, u2] ∧ RelV v u1 ∧ RelV w u2 := by
    cases r1 with
    | cons p q =>
      cases q with
      | cons p' q' =>
        cases q'
        exact ⟨_, _, rfl, p, p'⟩
  refine wpAny_newObj_type ?_ (by show 2 ≤ sizeLine; decide)
  have I2 : Inv X pins σ H1 { s1 with heap := s1.heap.push { cls := .type "tuple", data := .seq [u1, u2].toArray } } := I1.kept (t' := s1.toks) fun b o e => Heap.get?_push_of_some _ e
  show wpAny (model X.prog X.w) X.A (assign (.Tuple [.Name x px, .Name y py] kt pt) X.env (.ref s1.heap.objs.size)) _ _ _
  refine assign_Tuple_tuple (items := #[u1, u2]) (I.ok.hd hc) (IsTup.new s1.heap _) rfl rfl fun h' hx => ?_
  have I3 := I2.kept (h' := h') (t' := s1.toks) fun b o e => hx b o (Nat.ne_of_lt (Heap.lt_size e)) e
  exact thn (hp.run pins _ σ H1 [v, w] [u1, u2] (fun σ' H' => D.nx σ' H') I3 (.cons rv (.cons rw' .nil)) ⟨v, [w], rfl, w, [], rfl, rfl, q1⟩) fun _ s2 q => q
end
end L2

set_option Elab.async false
set_option linter.all false
set_option maxRecDepth 100000
set_option maxHeartbeats 4000000
/-! Own layer: data as trees, over the hand layer's heap. -/
namespace PD
open L2 ClX
open PySem PySem.Spec PyProof.Rows
/-- the classes of the program, by name -/
inductive Cn where
  | LogError | NoItem | NoIndex | NoList | NoLog | NoSeen | NoClients | NoNumber | NoPosition | Nothing | Impossible | TooMany | NoText | Record | Inserted | Removed | Fronted | Tracker | Desk
  deriving DecidableEq
/-- the kinds of records: of no kind, insertions, removals, moves to the front -/
inductive Kd where
  | N | I | R | F
  deriving DecidableEq
def Kd.cn : Kd → Cn
  | .N => .Record
  | .I => .Inserted
  | .R => .Removed
  | .F => .Fronted
/-- a value with all that hangs on it -/
inductive D where
  | non | bl (b : Bool) | int (i : Int) | str (x : Str)
  | lst (ds : List D) | tup (ds : List D) | dic (kvs : List (Key × D))
  | row (c : Kd) (x : Str) (n : Int)
  | err (c : Cn) (fs : List (Str × D))
  | scr (ns : List Int)
def SOk (x : Str) : Prop := PySem.PyData.strOk x = true ∧ x.length ≤ 1000000
def KOk : Key → Prop
  | .inl _ => True
  | .inr x => SOk x
/-- a record's attributes -/
def rfs (x : Str) (n : Int) : List (Str × V) := [("_item", .str x), ("_slot", .int n)]
mutual
inductive Rep (K : PySem.W.Frag) (cad : Cn → Addr) (F : Hp) : V → D → Prop
  | non : Rep K cad F .non .non
  | bl (b : Bool) : Rep K cad F (.bl b) (.bl b)
  | int (i : Int) : Rep K cad F (.int i) (.int i)
  | str (x : Str) (h : SOk x) : Rep K cad F (.str x) (.str x)
  | lst {a : Addr} {vs : List V} {ds : List D} (h : F a = some (.lst vs)) (t : Reps K cad F vs ds) : Rep K cad F (.ref a) (.lst ds)
  | tup {a : Addr} {vs : List V} {ds : List D} (h : F a = some (.tup vs)) (t : Reps K cad F vs ds) : Rep K cad F (.ref a) (.tup ds)
  | dic {a : Addr} {ks : List (Key × V)} {kvs : List (Key × D)} (h : Rd F a (.dK ks)) (t : RepK K cad F ks kvs) : Rep K cad F (.ref a) (.dic kvs)
  | row {p dx : Addr} {c : Kd} {x : Str} {n : Int} (h : F p = some (.ins (cad c.cn) dx (rfs x n))) (hx : SOk x) : Rep K cad F (.ref p) (.row c x n)
  | err {a : Addr} {c : Cn} (h : F a = some (errO (.ref (cad c)) none a)) : Rep K cad F (.ref a) (.err c [])
  | errF {a dd : Addr} {c : Cn} {f : Str} {v : V} {d : D} (h : F a = some (errO (.ref (cad c)) (some dd) a)) (g : F dd = some (.xd [(f, v)])) (r : Rep K cad F v d) : Rep K cad F (.ref a) (.err c [(f, d)])
  | scr {a : Addr} {ns : List Int} (h : SqL K F a (ns.map V.int)) : Rep K cad F (.ref a) (.scr ns)
inductive Reps (K : PySem.W.Frag) (cad : Cn → Addr) (F : Hp) : List V → List D → Prop
  | nil : Reps K cad F [] []
  | cons {v : V} {vs : List V} {d : D} {ds : List D} (h : Rep K cad F v d) (t : Reps K cad F vs ds) : Reps K cad F (v :: vs) (d :: ds)
inductive RepK (K : PySem.W.Frag) (cad : Cn → Addr) (F : Hp) : List (Key × V) → List (Key × D) → Prop
  | nil : RepK K cad F [] []
  | cons {k : Key} {v : V} {ks : List (Key × V)} {d : D} {kvs : List (Key × D)} (hk : KOk k) (h : Rep K cad F v d) (t : RepK K cad F ks kvs) : RepK K cad F ((k, v) :: ks) ((k, d) :: kvs)
end
section
variable {K : PySem.W.Frag} {cad : Cn → Addr} {F F' : Hp}
theorem SqLsame {a : Addr} {xs : List V} (s : Same F F') (h : SqL K F a xs) : SqL K F' a xs := by
  rcases h with (h | ⟨o, h⟩) | h
  · exact .inl (.inl (s _ _ h))
  · exact .inl (.inr ⟨o, s _ _ h⟩)
  · exact .inr h
theorem RdSame {a : Addr} {u : HO} (s : Same F F') (h : Rd F a u) : Rd F' a u := h.elim (fun e => .inl (s _ _ e)) fun ⟨o, e⟩ => .inr ⟨o, s _ _ e⟩
mutual
theorem Rep.same (s : Same F F') : ∀ {v : V} {d : D}, Rep K cad F v d → Rep K cad F' v d
  | _, _, .non => .non
  | _, _, .bl b => .bl b
  | _, _, .int i => .int i
  | _, _, .str x h => .str x h
  | _, _, .lst h t => .lst (s _ _ h) (Reps.same s t)
  | _, _, .tup h t => .tup (s _ _ h) (Reps.same s t)
  | _, _, .dic h t => .dic (RdSame s h) (RepK.same s t)
  | _, _, .row h hx => .row (s _ _ h) hx
  | _, _, .err h => .err (s _ _ h)
  | _, _, .errF h g r => .errF (s _ _ h) (s _ _ g) (Rep.same s r)
  | _, _, .scr h => .scr (SqLsame s h)
theorem Reps.same (s : Same F F') : ∀ {vs : List V} {ds : List D}, Reps K cad F vs ds → Reps K cad F' vs ds
  | _, _, .nil => .nil
  | _, _, .cons h t => .cons (Rep.same s h) (Reps.same s t)
theorem RepK.same (s : Same F F') : ∀ {ks : List (Key × V)} {kvs : List (Key × D)}, RepK K cad F ks kvs → RepK K cad F' ks kvs
  | _, _, .nil => .nil
  | _, _, .cons hk h t => .cons hk (Rep.same s h) (RepK.same s t)
end
end

section
variable {K : PySem.W.Frag} {cad : Cn → Addr} {F F' H H' : Hp}
theorem Reps.len : ∀ {vs : List V} {ds : List D}, Reps K cad F vs ds → vs.length = ds.length
  | _, _, .nil => rfl
  | _, _, .cons _ t => congrArg (· + 1) (Reps.len t)
theorem RepK.len : ∀ {ks : List (Key × V)} {kvs : List (Key × D)}, RepK K cad F ks kvs → ks.length = kvs.length
  | _, _, .nil => rfl
  | _, _, .cons _ _ t => congrArg (· + 1) (RepK.len t)
theorem Reps.get : ∀ {vs : List V} {ds : List D} {i : Nat} {d : D}, Reps K cad F vs ds → ds[i]? = some d → ∃ v, vs[i]? = some v ∧ Rep K cad F v d
  | _, _, _, _, .nil, e => by cases e
  | _, _, 0, _, .cons h _, e => by cases e; exact ⟨_, rfl, h⟩
  | _, _, i + 1, _, .cons _ t, e => by
    obtain ⟨v, e, r⟩ := Reps.get (i := i) t e
    exact ⟨v, e, r⟩
theorem Reps.getV : ∀ {vs : List V} {ds : List D} {i : Nat} {v : V}, Reps K cad F vs ds → vs[i]? = some v → ∃ d, ds[i]? = some d ∧ Rep K cad F v d
  | _, _, _, _, .nil, e => by cases e
  | _, _, 0, _, .cons h _, e => by cases e; exact ⟨_, rfl, h⟩
  | _, _, i + 1, _, .cons _ t, e => by
    obtain ⟨v, e, r⟩ := Reps.getV (i := i) t e
    exact ⟨v, e, r⟩
theorem Reps.app : ∀ {vs ws : List V} {ds es : List D}, Reps K cad F vs ds → Reps K cad F ws es → Reps K cad F (vs ++ ws) (ds ++ es)
  | _, _, _, _, .nil, g => g
  | _, _, _, _, .cons h t, g => .cons h (Reps.app t g)
theorem Reps.one {v : V} {d : D} (h : Rep K cad F v d) : Reps K cad F [v] [d] := .cons h .nil
theorem Reps.take : ∀ {vs : List V} {ds : List D} (n : Nat), Reps K cad F vs ds → Reps K cad F (vs.take n) (ds.take n)
  | _, _, 0, _ => .nil
  | _, _, _ + 1, .nil => .nil
  | _, _, n + 1, .cons h t => .cons h (Reps.take n t)
theorem Reps.drop : ∀ {vs : List V} {ds : List D} (n : Nat), Reps K cad F vs ds → Reps K cad F (vs.drop n) (ds.drop n)
  | _, _, 0, t => t
  | _, _, _ + 1, .nil => .nil
  | _, _, n + 1, .cons _ t => Reps.drop n t
theorem Reps.set : ∀ {vs : List V} {ds : List D} (n : Nat) {v : V} {d : D}, Reps K cad F vs ds → Rep K cad F v d → Reps K cad F (vs.set n v) (ds.set n d)
  | _, _, _, _, _, .nil, _ => .nil
  | _, _, 0, _, _, .cons _ t, g => .cons g t
  | _, _, n + 1, _, _, .cons h t, g => .cons h (Reps.set n t g)
theorem Reps.erase : ∀ {vs : List V} {ds : List D} (n : Nat), Reps K cad F vs ds → Reps K cad F (vs.eraseIdx n) (ds.eraseIdx n)
  | _, _, _, .nil => .nil
  | _, _, 0, .cons _ t => t
  | _, _, n + 1, .cons h t => .cons h (Reps.erase n t)
theorem Reps.rev : ∀ {vs : List V} {ds : List D}, Reps K cad F vs ds → Reps K cad F vs.reverse ds.reverse
  | _, _, .nil => .nil
  | _, _, .cons h t => by
    rw [List.reverse_cons, List.reverse_cons]
    exact Reps.app (Reps.rev t) (.one h)
/-- flat things -/
theorem Rep.strI {v : V} {x : Str} (h : Rep K cad F v (.str x)) : v = .str x ∧ SOk x := by cases h with | str _ h => exact ⟨rfl, h⟩
theorem Rep.intI {v : V} {i : Int} (h : Rep K cad F v (.int i)) : v = .int i := by cases h; rfl
theorem Rep.blI {v : V} {b : Bool} (h : Rep K cad F v (.bl b)) : v = .bl b := by cases h; rfl
theorem Rep.nonI {v : V} (h : Rep K cad F v .non) : v = .non := by cases h; rfl
theorem Rep.lstI {v : V} {ds : List D} (h : Rep K cad F v (.lst ds)) : ∃ a vs, v = .ref a ∧ F a = some (.lst vs) ∧ Reps K cad F vs ds := by cases h with | lst h t => exact ⟨_, _, rfl, h, t⟩
theorem Rep.tupI {v : V} {ds : List D} (h : Rep K cad F v (.tup ds)) : ∃ a vs, v = .ref a ∧ F a = some (.tup vs) ∧ Reps K cad F vs ds := by cases h with | tup h t => exact ⟨_, _, rfl, h, t⟩
theorem Rep.dicI {v : V} {kvs : List (Key × D)} (h : Rep K cad F v (.dic kvs)) : ∃ a ks, v = .ref a ∧ Rd F a (.dK ks) ∧ RepK K cad F ks kvs := by cases h with | dic h t => exact ⟨_, _, rfl, h, t⟩
theorem Rep.rowI {v : V} {c : Kd} {x : Str} {n : Int} (h : Rep K cad F v (.row c x n)) : ∃ p dx, v = .ref p ∧ F p = some (.ins (cad c.cn) dx (rfs x n)) ∧ SOk x := by cases h with | row h hx => exact ⟨_, _, rfl, h, hx⟩
theorem Reps.strs : ∀ {vs : List V} {xs : List Str}, Reps K cad F vs (xs.map D.str) → vs = xs.map V.str ∧ ∀ x ∈ xs, SOk x
  | _, [], .nil => ⟨rfl, fun x hx => by cases hx⟩
  | _, x :: xs, .cons h t => by
    obtain ⟨rfl, o⟩ := h.strI
    obtain ⟨rfl, u⟩ := Reps.strs (xs := xs) t
    refine ⟨rfl, fun y hy => ?_⟩
    rcases List.mem_cons.mp hy with rfl | hy
    · exact o
    · exact u y hy
theorem Reps.ofStrs : ∀ {xs : List Str}, (∀ x ∈ xs, SOk x) → Reps K cad F (xs.map V.str) (xs.map D.str)
  | [], _ => .nil
  | x :: xs, h => .cons (.str x (h x List.mem_cons_self)) (Reps.ofStrs fun y hy => h y (List.mem_cons_of_mem _ hy))
theorem Reps.ints : ∀ {vs : List V} {xs : List Int}, Reps K cad F vs (xs.map D.int) → vs = xs.map V.int
  | _, [], .nil => rfl
  | _, x :: xs, .cons h t => by
    obtain rfl := h.intI
    obtain rfl := Reps.ints (xs := xs) t
    rfl
theorem Reps.ofInts : ∀ {xs : List Int}, Reps K cad F (xs.map V.int) (xs.map D.int)
  | [] => .nil
  | x :: xs => .cons (.int x) Reps.ofInts
theorem Reps.bls : ∀ {vs : List V} {xs : List Bool}, Reps K cad F vs (xs.map D.bl) → vs = xs.map V.bl
  | _, [], .nil => rfl
  | _, x :: xs, .cons h t => by
    obtain rfl := h.blI
    obtain rfl := Reps.bls (xs := xs) t
    rfl
theorem RepK.fst : ∀ {ks : List (Key × V)} {kvs : List (Key × D)}, RepK K cad F ks kvs → ks.map (·.1) = kvs.map (·.1)
  | _, _, .nil => rfl
  | _, _, .cons _ _ t => congrArg (_ :: ·) (RepK.fst t)
end
/-! ### things that are owned: written, and known to nobody else -/
inductive Ob where
  | lst (ds : List D) | dic (kvs : List (Key × D)) | row (c : Kd) (x : Str) (n : Int)
  | ext (φ : Hp → Hp → Addr → (Addr → Prop) → Prop)
/-- what stands in a slot: a value that nobody writes, or a thing of one's own (t: the parameter's number, where it came as one) -/
inductive Sl where
  | val (d : D) | own (t : Option Nat) (o : Ob)
abbrev DEnv := List (Option Sl)
def dget : DEnv → Nat → Option Sl
  | [], _ => none
  | s :: _, 0 => s
  | _ :: r, n + 1 => dget r n
def dset : DEnv → Nat → Option Sl → DEnv
  | [], _, _ => []
  | _ :: r, 0, s => s :: r
  | u :: r, n + 1, s => u :: dset r n s
theorem dset_len : ∀ (δ : DEnv) (n : Nat) (s : Option Sl), (dset δ n s).length = δ.length
  | [], _, _ => rfl
  | _ :: _, 0, _ => rfl
  | _ :: r, n + 1, s => congrArg (· + 1) (dset_len r n s)
theorem dget_set_ne : ∀ {δ : DEnv} {n i : Nat} {s : Option Sl}, i ≠ n → dget (dset δ n s) i = dget δ i
  | [], _, _, _, _ => rfl
  | _ :: _, 0, 0, _, h => absurd rfl h
  | _ :: _, 0, _ + 1, _, _ => rfl
  | _ :: _, _ + 1, 0, _, _ => rfl
  | _ :: r, n + 1, i + 1, _, h => dget_set_ne (δ := r) fun e => h (congrArg (· + 1) e)
theorem dget_set : ∀ {δ : DEnv} {n : Nat} {s : Option Sl}, n < δ.length → dget (dset δ n s) n = s
  | [], _, _, h => absurd h (Nat.not_lt_zero _)
  | _ :: _, 0, _, _ => rfl
  | _ :: r, n + 1, _, h => dget_set (δ := r) (Nat.lt_of_succ_lt_succ h)
theorem dget_lt : ∀ {δ : DEnv} {n : Nat} {s : Sl}, dget δ n = some s → n < δ.length
  | [], _, _, h => by cases h
  | _ :: _, 0, _, _ => Nat.succ_pos _
  | _ :: r, _ + 1, _, h => Nat.succ_lt_succ (dget_lt (δ := r) h)
theorem dget_set_some {δ : DEnv} {n i : Nat} {s : Option Sl} {u : Sl} (h : dget (dset δ n s) i = some u) : (i = n ∧ s = some u) ∨ (i ≠ n ∧ dget δ i = some u) := by
  by_cases e : i = n
  · subst e
    have := dget_lt h
    rw [dset_len] at this
    rw [dget_set this] at h
    exact .inl ⟨rfl, h⟩
  · rw [dget_set_ne e] at h
    exact .inr ⟨e, h⟩
section
variable (K : PySem.W.Frag) (cad : Cn → Addr)
/-- S: where it lies -/
def ObAt (F H : Hp) (a : Addr) (S : Addr → Prop) : Ob → Prop
  | .lst ds => (∀ b, S b ↔ b = a) ∧ ∃ vs, H a = some (.lst vs) ∧ Reps K cad F vs ds
  | .dic kvs => (∀ b, S b ↔ b = a) ∧ ∃ ks, H a = some (.dK ks) ∧ RepK K cad F ks kvs
  | .row c x n => (∀ b, S b ↔ b = a) ∧ SOk x ∧ ∃ dx, H a = some (.ins (cad c.cn) dx (rfs x n))
  | .ext φ => S a ∧ φ F H a S ∧ ∀ F' H', Same F F' → (∀ b o, S b → H b = some o → H' b = some o) → φ F' H' a S
def Hold (F H : Hp) (v : V) (S : Addr → Prop) : Sl → Prop
  | .val d => Rep K cad F v d
  | .own _ o => ∃ a, v = .ref a ∧ ObAt K cad F H a S o
structure GoodF (R F : Hp) (pars : List V) (δ : DEnv) (σ : L2.St) (H : Hp) (fp : Nat → Addr → Prop) : Prop where
  sR : Same R H
  sF : Same F H
  len : δ.length = σ.length
  sl : ∀ i s, dget δ i = some s → ∃ v, σ[i]? = some (some v) ∧ Hold K cad F H v (fp i) s ∧ ∀ t o, s = .own (some t) o → pars[t]? = some v
  off : ∀ i a, fp i a → R a = none ∧ F a = none ∧ ∃ o, H a = some o
  sep : ∀ i j a, fp i a → fp j a → i = j
def Good (R F : Hp) (pars : List V) (δ : DEnv) (σ : L2.St) (H : Hp) : Prop := ∃ fp, GoodF K cad R F pars δ σ H fp
end
/-- more is known for good, and none of it belongs to others -/
structure Ext (R F F' : Hp) : Prop where
  s : Same F F'
  n : ∀ b, F' b ≠ none → F b ≠ none ∨ R b = none
theorem Ext.refl {R F : Hp} : Ext R F F := ⟨fun _ _ e => e, fun _ h => .inl h⟩
theorem Ext.trans {R F F1 F2 : Hp} (a : Ext R F F1) (b : Ext R F1 F2) : Ext R F F2 := ⟨a.s.trans b.s, fun c h => (b.n c h).elim (a.n c) .inr⟩
theorem Ext.less {R R' F F' : Hp} (a : Ext R' F F') (h : ∀ b, R' b = none → R b = none) : Ext R F F' := ⟨a.s, fun c z => (a.n c z).elim .inl fun q => .inr (h c q)⟩
theorem Ext.new {R F : Hp} {a : Addr} {o : HO} (h : F a = none) (hR : R a = none) : Ext R F (upd F a o) := ⟨Same.new h, fun b z => by
  by_cases e : b = a
  · subst e; exact .inr hR
  · rw [upd_ne e] at z; exact .inl z⟩
section
variable {K : PySem.W.Frag} {cad : Cn → Addr} {R F F' H H' : Hp} {pars : List V} {δ : DEnv} {σ : L2.St} {a : Addr} {S : Addr → Prop} {o : Ob}
theorem ObAt.move (h : ObAt K cad F H a S o) (sF : Same F F') (k : ∀ b u, S b → H b = some u → H' b = some u) : ObAt K cad F' H' a S o := by
  cases o with
  | lst ds => obtain ⟨s, vs, e, r⟩ := h; exact ⟨s, vs, k _ _ ((s a).mpr rfl) e, r.same sF⟩
  | dic kvs => obtain ⟨s, vs, e, r⟩ := h; exact ⟨s, vs, k _ _ ((s a).mpr rfl) e, r.same sF⟩
  | row c x n => obtain ⟨s, ok, dx, e⟩ := h; exact ⟨s, ok, dx, k _ _ ((s a).mpr rfl) e⟩
  | ext φ =>
    obtain ⟨s, p, st⟩ := h
    refine ⟨s, st _ _ sF k, fun F2 H2 s2 k2 => st _ _ (sF.trans s2) fun b u hb e => k2 b u hb (k b u hb e)⟩
theorem Hold.move {v : V} {s : Sl} (h : Hold K cad F H v S s) (sF : Same F F') (k : ∀ b u, S b → H b = some u → H' b = some u) : Hold K cad F' H' v S s := by
  cases s with
  | val d => exact Rep.same sF h
  | own t o => obtain ⟨a, e, h⟩ := h; exact ⟨a, e, h.move sF k⟩
/-- what is new: known from now on, or owned -/
theorem GoodF.more {fp : Nat → Addr → Prop} (g : GoodF K cad R F pars δ σ H fp) (sF : Same F F') (sH : Same H H') (sFH : Same F' H') (n : ∀ i b, fp i b → F' b = none) : GoodF K cad R F' pars δ σ H' fp where
  sR := g.sR.trans sH
  sF := sFH
  len := g.len
  sl := fun i s e => by
    obtain ⟨v, e1, h, t⟩ := g.sl i s e
    exact ⟨v, e1, h.move sF fun b u _ q => sH b u q, t⟩
  off := fun i b q => let ⟨r, _, o, e⟩ := g.off i b q; ⟨r, n i b q, o, sH _ _ e⟩
  sep := g.sep
theorem Same.upd2 {F H : Hp} {p : Addr} {o : HO} (s : Same F H) : Same (upd F p o) (upd H p o) := fun b u e => by
  by_cases q : b = p
  · subst q; rw [upd_same] at e ⊢; exact e
  · rw [upd_ne q] at e ⊢; exact s _ _ e
theorem none_of {F H : Hp} {p : Addr} (s : Same F H) (h : H p = none) : F p = none := by
  cases e : F p with
  | none => rfl
  | some o => rw [s _ _ e] at h; cases h
theorem Good.newF {p : Addr} {o : HO} (g : Good K cad R F pars δ σ H) (h : H p = none) : Ext R F (upd F p o) ∧ Good K cad R (upd F p o) pars δ σ (upd H p o) := by
  obtain ⟨fp, g⟩ := g
  have hF := none_of g.sF h
  refine ⟨Ext.new hF (none_of g.sR h), fp, g.more (Same.new hF) (Same.new h) (Same.upd2 g.sF) fun i b q => ?_⟩
  obtain ⟨_, f, u, e⟩ := g.off i b q
  rw [upd_ne (ne_of_none e h)]
  exact f
/-- a heap that grows -/
theorem Good.grow (g : Good K cad R F pars δ σ H) (s : Same H H') : Good K cad R F pars δ σ H' := by
  obtain ⟨fp, g⟩ := g
  exact ⟨fp, g.more (fun _ _ e => e) s (g.sF.trans s) fun i b q => (g.off i b q).2.1⟩
/-- one thing more, ahead of all slots -/
def fcons (S : Addr → Prop) (fp : Nat → Addr → Prop) : Nat → Addr → Prop
  | 0 => S
  | i + 1 => fp i
theorem Good.cons {v : V} {s : Sl} {fp : Nat → Addr → Prop} (g : GoodF K cad R F pars δ σ H fp) (h : Hold K cad F H v S s) (t : ∀ k o, s = .own (some k) o → pars[k]? = some v) (n : ∀ b, S b → R b = none ∧ F b = none ∧ ∃ o, H b = some o) (d : ∀ i b, fp i b → ¬ S b) :
    Good K cad R F pars (some s :: δ) (some v :: σ) H := by
  refine ⟨fcons S fp, g.sR, g.sF, congrArg (· + 1) g.len, fun i u e => ?_, fun i b q => ?_, fun i j b q r => ?_⟩
  · cases i with
    | zero => cases e; exact ⟨v, rfl, h, t⟩
    | succ i => obtain ⟨w, e1, h1, t1⟩ := g.sl i u e; exact ⟨w, e1, h1, t1⟩
  · cases i with
    | zero => exact n b q
    | succ i => exact g.off i b q
  · cases i with
    | zero =>
      cases j with
      | zero => rfl
      | succ j => exact absurd q (d j b r)
    | succ i =>
      cases j with
      | zero => exact absurd r (d i b q)
      | succ j => exact congrArg (· + 1) (g.sep i j b q r)
theorem Good.consV {v : V} {d : D} (g : Good K cad R F pars δ σ H) (h : Rep K cad F v d) : Good K cad R F pars (some (.val d) :: δ) (some v :: σ) H := by
  obtain ⟨fp, g⟩ := g
  exact Good.cons (S := fun _ => False) g h (fun k o e => by cases e) (fun b q => q.elim) fun i b _ q => q
theorem Good.tail {v : Option V} {s : Option Sl} (g : Good K cad R F pars (s :: δ) (v :: σ) H) : Good K cad R F pars δ σ H := by
  obtain ⟨fp, g⟩ := g
  refine ⟨fun i => fp (i + 1), g.sR, g.sF, Nat.succ.inj g.len, fun i u e => ?_, fun i b q => g.off _ b q, fun i j b q r => Nat.succ.inj (g.sep _ _ b q r)⟩
  obtain ⟨w, e1, h1, t1⟩ := g.sl (i + 1) u e
  exact ⟨w, e1, h1, t1⟩
/-- a slot is forgotten -/
theorem Good.drop (g : Good K cad R F pars δ σ H) (n : Nat) : Good K cad R F pars (dset δ n none) σ H := by
  obtain ⟨fp, g⟩ := g
  refine ⟨fp, g.sR, g.sF, (dset_len ..).trans g.len, fun i u e => ?_, g.off, g.sep⟩
  rcases dget_set_some e with ⟨_, z⟩ | ⟨_, z⟩
  · cases z
  · exact g.sl i u z
/-- the first thing is stored in a slot -/
theorem Good.store {v : V} {s : Sl} (g : Good K cad R F pars (some s :: δ) (some v :: σ) H) (n : Nat) : Good K cad R F pars (dset δ n (some s)) (σ.set n (some v)) H := by
  obtain ⟨fp, g⟩ := g
  refine ⟨fun i => if i = n then fp 0 else fp (i + 1), g.sR, g.sF, ?_, fun i u e => ?_, fun i b q => ?_, fun i j b q r => ?_⟩
  · rw [dset_len, List.length_set]
    exact Nat.succ.inj g.len
  · rcases dget_set_some e with ⟨e1, z⟩ | ⟨e1, z⟩
    · subst e1
      cases z
      obtain ⟨w, e2, h, t⟩ := g.sl 0 s rfl
      cases e2
      have lt : i < σ.length := by
        have := dget_lt e
        rw [dset_len] at this
        have l := Nat.succ.inj g.len
        omega
      refine ⟨v, List.getElem?_set_self lt, ?_, t⟩
      rw [if_pos rfl]
      exact h
    · obtain ⟨w, e2, h, t⟩ := g.sl (i + 1) u z
      refine ⟨w, ?_, ?_, t⟩
      · rw [List.getElem?_set_ne (Ne.symm e1)]
        exact e2
      · rw [if_neg e1]
        exact h
  · have q : (if i = n then fp 0 else fp (i + 1)) b := q
    split at q
    · exact g.off _ b q
    · exact g.off _ b q
  · have q : (if i = n then fp 0 else fp (i + 1)) b := q
    have r : (if j = n then fp 0 else fp (j + 1)) b := r
    by_cases e1 : i = n
    · rw [if_pos e1] at q
      by_cases e2 : j = n
      · rw [e1, e2]
      · rw [if_neg e2] at r
        cases g.sep _ _ b q r
    · rw [if_neg e1] at q
      by_cases e2 : j = n
      · rw [if_pos e2] at r
        cases g.sep _ _ b q r
      · rw [if_neg e2] at r
        exact Nat.succ.inj (g.sep _ _ b q r)
/-- a slot's thing taken to the front -/
theorem Good.pull {s : Sl} {n : Nat} (g : Good K cad R F pars δ σ H) (e : dget δ n = some s) : ∃ v, σ[n]? = some (some v) ∧ Good K cad R F pars (some s :: dset δ n none) (some v :: σ) H := by
  obtain ⟨fp, g⟩ := g
  obtain ⟨v, e1, h, t⟩ := g.sl n s e
  refine ⟨v, e1, fcons (fp n) (fun i => if i = n then fun _ => False else fp i), g.sR, g.sF, congrArg (· + 1) ((dset_len ..).trans g.len), fun i u e => ?_, fun i b q => ?_, fun i j b q r => ?_⟩
  · cases i with
    | zero => cases e; exact ⟨v, rfl, h, t⟩
    | succ i =>
      rcases dget_set_some (show dget (dset δ n none) i = some u from e) with ⟨_, z⟩ | ⟨ne, z⟩
      · cases z
      · obtain ⟨w, e2, h2, t2⟩ := g.sl i u z
        refine ⟨w, e2, ?_, t2⟩
        show Hold K cad F H w (if i = n then fun _ => False else fp i) u
        rw [if_neg ne]
        exact h2
  · cases i with
    | zero => exact g.off n b q
    | succ i =>
      have q : (if i = n then fun _ => False else fp i) b := q
      split at q
      · exact q.elim
      · exact g.off i b q
  · have key : ∀ i, fcons (fp n) (fun i => if i = n then fun _ => False else fp i) i b → (i = 0 ∧ fp n b) ∨ (∃ k, i = k + 1 ∧ k ≠ n ∧ fp k b) := fun i q => by
      cases i with
      | zero => exact .inl ⟨rfl, q⟩
      | succ i =>
        have q : (if i = n then fun _ => False else fp i) b := q
        by_cases e : i = n
        · rw [if_pos e] at q; exact q.elim
        · rw [if_neg e] at q; exact .inr ⟨i, rfl, e, q⟩
    rcases key i q with ⟨rfl, q⟩ | ⟨k, rfl, ne, q⟩ <;> rcases key j r with ⟨rfl, r⟩ | ⟨l, rfl, ne2, r⟩
    · rfl
    · exact absurd (g.sep _ _ b q r).symm ne2
    · exact absurd (g.sep _ _ b q r) ne
    · exact congrArg (· + 1) (g.sep _ _ b q r)
end
end PD

set_option Elab.async false
set_option linter.all false
set_option maxRecDepth 100000
set_option maxHeartbeats 4000000
/-! Own layer: what expressions, tests, arguments and statements are worth, without the heap. -/
namespace PD
open L2 ClX
open PySem PySem.Spec PyProof.Rows
/-- an expression's value: data, or the thing of one's own in a slot (bor: lent for a call) -/
inductive Ev where
  | val (d : D) | var (i : Nat) | bor (i : Nat)
abbrev DX := Cn → List (Str × D) → DEnv → Prop
abbrev DTE := DEnv → (Ev → DEnv → Prop) → DX → Prop
abbrev DTT := DEnv → (Bool → DEnv → Prop) → DX → Prop
abbrev DTA := DEnv → (List Ev → DEnv → Prop) → DX → Prop
abbrev DTN := DEnv → (Ob → DEnv → Prop) → DX → Prop
def HoldE (K : PySem.W.Frag) (cad : Cn → Addr) (F : Hp) (σ : L2.St) (v : V) : Ev → Prop
  | .val d => Rep K cad F v d
  | .var i => σ[i]? = some (some v)
  | .bor i => σ[i]? = some (some v)
def ExAt (K : PySem.W.Frag) (cad : Cn → Addr) (F : Hp) (od : Option Addr) : List (Str × D) → Prop
  | [] => od = none
  | [(f, d)] => ∃ dd v, od = some dd ∧ F dd = some (.xd [(f, v)]) ∧ Rep K cad F v d
  | _ => False
section
variable (K : PySem.W.Frag) (cad : Cn → Addr)
def XOk (E : XK) (R F : Hp) (pars : List V) (σ : L2.St) (QX : DX) : Prop :=
  ∀ c fs od δ' F' H', Ext R F F' → Good K cad R F' pars δ' σ H' → ExAt K cad F' od fs → QX c fs δ' → E (.ref (cad c)) od H'
def DE (E : L2.St → XK) (t : TE) (f : DTE) : Prop := ∀ (R F : Hp) (pars : List V) (δ : DEnv) (σ : L2.St) (H : Hp) (Q : VK) (QD : Ev → DEnv → Prop) (QX : DX), Good K cad R F pars δ σ H → XOk K cad (E σ) R F pars σ QX → f δ QD QX →
  (∀ e δ' v F' H', Ext R F F' → Good K cad R F' pars δ' σ H' → HoldE K cad F' σ v e → QD e δ' → Q v H') → t σ H Q
def DN (E : L2.St → XK) (t : TE) (f : DTN) : Prop := ∀ (R F : Hp) (pars : List V) (δ : DEnv) (σ : L2.St) (H : Hp) (Q : VK) (QD : Ob → DEnv → Prop) (QX : DX), Good K cad R F pars δ σ H → XOk K cad (E σ) R F pars σ QX → f δ QD QX →
  (∀ o δ' v F' H', Ext R F F' → Good K cad R F' pars (some (.own none o) :: δ') (some v :: σ) H' → QD o δ' → Q v H') → t σ H Q
def DT (E : L2.St → XK) (t : TT) (f : DTT) : Prop := ∀ (R F : Hp) (pars : List V) (δ : DEnv) (σ : L2.St) (H : Hp) (Q : Bool → Hp → Prop) (QD : Bool → DEnv → Prop) (QX : DX), Good K cad R F pars δ σ H → XOk K cad (E σ) R F pars σ QX → f δ QD QX →
  (∀ b δ' F' H', Ext R F F' → Good K cad R F' pars δ' σ H' → QD b δ' → Q b H') → t σ H Q
def HoldEs (F : Hp) (σ : L2.St) : List V → List Ev → Prop
  | [], [] => True
  | v :: vs, e :: es => HoldE K cad F σ v e ∧ HoldEs F σ vs es
  | _, _ => False
def DA (E : L2.St → XK) (t : TA) (n : Nat) (f : DTA) : Prop := ∀ (R F : Hp) (pars : List V) (δ : DEnv) (σ : L2.St) (H : Hp) (Q : List V → Hp → Prop) (QD : List Ev → DEnv → Prop) (QX : DX), Good K cad R F pars δ σ H → XOk K cad (E σ) R F pars σ QX → f δ QD QX →
  (∀ es δ' vs F' H', Ext R F F' → Good K cad R F' pars δ' σ H' → HoldEs K cad F' σ vs es → es.length = n → QD es δ' → Q vs H') → t σ H Q
/-- what may be read now -/
inductive View (F H : Hp) : V → D → Prop
  | rep {v : V} {d : D} (h : Rep K cad F v d) : View F H v d
  | lst {a : Addr} {vs : List V} {ds : List D} (h : H a = some (.lst vs)) (t : Reps K cad F vs ds) : View F H (.ref a) (.lst ds)
  | dic {a : Addr} {ks : List (Key × V)} {kvs : List (Key × D)} (h : H a = some (.dK ks)) (t : RepK K cad F ks kvs) : View F H (.ref a) (.dic kvs)
  | row {p dx : Addr} {c : Kd} {x : Str} {n : Int} (h : H p = some (.ins (cad c.cn) dx (rfs x n))) (hx : SOk x) : View F H (.ref p) (.row c x n)
end
def vwO (o : Ob) (k : D → Prop) : Prop := match o with
  | .lst ds => k (.lst ds)
  | .dic kvs => k (.dic kvs)
  | .row c x n => k (.row c x n)
  | .ext _ => False
def vwS (s : Option Sl) (k : D → Prop) : Prop := match s with
  | some (.own _ o) => vwO o k
  | _ => False
def vwK (δ : DEnv) (e : Ev) (k : D → Prop) : Prop := match e with
  | .val d => k d
  | .var i => vwS (dget δ i) k
  | .bor i => vwS (dget δ i) k
/-- kept by someone: then nobody writes it any more -/
def frzS (s : Option Sl) (k : D → Prop) : Prop := match s with
  | some (.own none o) => vwO o k
  | _ => False
def frzE (e : Ev) (δ : DEnv) (k : D → DEnv → Prop) : Prop := match e with
  | .val d => k d δ
  | .var i => frzS (dget δ i) fun d => k d (dset δ i (some (.val d)))
  | .bor i => frzS (dget δ i) fun d => k d (dset δ i (some (.val d)))
def frzEs : List Ev → DEnv → (List D → DEnv → Prop) → Prop
  | [], δ, k => k [] δ
  | e :: es, δ, k => frzE e δ fun d δ' => frzEs es δ' fun ds δ'' => k (d :: ds) δ''
section
variable {K : PySem.W.Frag} {cad : Cn → Addr} {E : L2.St → XK} {R F F' H H' : Hp} {pars : List V} {δ δ' : DEnv} {σ : L2.St}
theorem XOk.same {E : XK} {QX : DX} (h : XOk K cad E R F pars σ QX) (s : Ext R F F') : XOk K cad E R F' pars σ QX := fun c fs od δ' F2 H2 s2 g x q => h c fs od δ' F2 H2 (s.trans s2) g x q
theorem HoldE.same {v : V} {e : Ev} (h : HoldE K cad F σ v e) (s : Ext R F F') : HoldE K cad F' σ v e := by
  cases e with
  | val d => exact Rep.same s.s h
  | var i => exact h
  | bor i => exact h
theorem HoldEs.same (s : Ext R F F') : ∀ {vs : List V} {es : List Ev}, HoldEs K cad F σ vs es → HoldEs K cad F' σ vs es
  | [], [], _ => trivial
  | _ :: _, _ :: _, h => ⟨HoldE.same h.1 s, HoldEs.same s h.2⟩
  | [], _ :: _, h => h
  | _ :: _, [], h => h
theorem ObAt.view {v : V} {a : Addr} {S : Addr → Prop} {o : Ob} {k : D → Prop} (h : ObAt K cad F H a S o) (q : vwO o k) : ∃ d, View K cad F H (.ref a) d ∧ k d := by
  cases o with
  | lst ds => obtain ⟨_, vs, e, r⟩ := h; exact ⟨_, .lst e r, q⟩
  | dic kvs => obtain ⟨_, vs, e, r⟩ := h; exact ⟨_, .dic e r, q⟩
  | row c x n => obtain ⟨_, ok, dx, e⟩ := h; exact ⟨_, .row e ok, q⟩
  | ext φ => exact q.elim
theorem view_of {v : V} {e : Ev} {k : D → Prop} (g : Good K cad R F pars δ σ H) (h : HoldE K cad F σ v e) (q : vwK δ e k) : ∃ d, View K cad F H v d ∧ k d := by
  have slot : ∀ i, σ[i]? = some (some v) → vwS (dget δ i) k → ∃ d, View K cad F H v d ∧ k d := fun i h q => by
    cases e : dget δ i with
    | none => rw [e] at q; exact q.elim
    | some s =>
      rw [e] at q
      cases s with
      | val d => exact q.elim
      | own t o =>
        obtain ⟨fp, g⟩ := g
        obtain ⟨w, e1, h1, _⟩ := g.sl i _ e
        rw [h] at e1
        cases e1
        obtain ⟨a, rfl, h1⟩ := h1
        exact h1.view (v := .ref a) q
  cases e with
  | val d => exact ⟨d, .rep h, q⟩
  | var i => exact slot i h q
  | bor i => exact slot i h q
theorem View.lstI {v : V} {ds : List D} (h : View K cad F H v (.lst ds)) (s : Same F H) : ∃ a vs, v = .ref a ∧ H a = some (.lst vs) ∧ Reps K cad F vs ds := by
  cases h with
  | rep h => obtain ⟨a, vs, e, h, t⟩ := h.lstI; exact ⟨a, vs, e, s _ _ h, t⟩
  | lst h t => exact ⟨_, _, rfl, h, t⟩
theorem View.dicI {v : V} {kvs : List (Key × D)} (h : View K cad F H v (.dic kvs)) (s : Same F H) : ∃ a ks, v = .ref a ∧ Rd H a (.dK ks) ∧ RepK K cad F ks kvs := by
  cases h with
  | rep h => obtain ⟨a, vs, e, h, t⟩ := h.dicI; exact ⟨a, vs, e, RdSame s h, t⟩
  | dic h t => exact ⟨_, _, rfl, .inl h, t⟩
theorem View.rowI {v : V} {c : Kd} {x : Str} {n : Int} (h : View K cad F H v (.row c x n)) (s : Same F H) : ∃ p dx, v = .ref p ∧ H p = some (.ins (cad c.cn) dx (rfs x n)) ∧ SOk x := by
  cases h with
  | rep h => obtain ⟨p, dx, e, h, hx⟩ := h.rowI; exact ⟨p, dx, e, s _ _ h, hx⟩
  | row h hx => exact ⟨_, _, rfl, h, hx⟩
theorem View.tupI {v : V} {ds : List D} (h : View K cad F H v (.tup ds)) (s : Same F H) : ∃ a vs, v = .ref a ∧ H a = some (.tup vs) ∧ Reps K cad F vs ds := by
  cases h with
  | rep h => obtain ⟨a, vs, e, h, t⟩ := h.tupI; exact ⟨a, vs, e, s _ _ h, t⟩
theorem View.strI {v : V} {x : Str} (h : View K cad F H v (.str x)) : v = .str x ∧ SOk x := by
  cases h with
  | rep h => exact h.strI
theorem View.intI {v : V} {i : Int} (h : View K cad F H v (.int i)) : v = .int i := by
  cases h with
  | rep h => exact h.intI
theorem View.blI {v : V} {b : Bool} (h : View K cad F H v (.bl b)) : v = .bl b := by
  cases h with
  | rep h => exact h.blI
theorem View.nonI {v : V} (h : View K cad F H v .non) : v = .non := by
  cases h with
  | rep h => exact h.nonI
theorem Good.sF (g : Good K cad R F pars δ σ H) : Same F H := let ⟨_, g⟩ := g; g.sF
theorem Good.sR (g : Good K cad R F pars δ σ H) : Same R H := let ⟨_, g⟩ := g; g.sR
theorem Good.len (g : Good K cad R F pars δ σ H) : δ.length = σ.length := let ⟨_, g⟩ := g; g.len
theorem Good.mono (g : Good K cad R F pars δ σ H) (s : Same F F') (sH : Same F' H) (n : ∀ b, F b = none → F' b ≠ none → ∀ i, ∀ fp, GoodF K cad R F pars δ σ H fp → ¬ fp i b) : Good K cad R F' pars δ σ H := by
  obtain ⟨fp, g⟩ := g
  refine ⟨fp, g.more s (fun _ _ e => e) sH fun i b q => ?_⟩
  cases e : F' b with
  | none => rfl
  | some o => exact absurd q (n b (g.off i b q).2.1 (by rw [e]; exact fun z => by cases z) i fp g)
/-- the thing ahead is kept by someone -/
theorem Good.freeze {v : V} {t : Option Nat} {o : Ob} {k : D → Prop} (g : Good K cad R F pars (some (.own t o) :: δ) (some v :: σ) H) (q : vwO o k) : ∃ d F', Ext R F F' ∧ Good K cad R F' pars δ σ H ∧ Rep K cad F' v d ∧ k d := by
  obtain ⟨fp, g⟩ := g
  obtain ⟨w, e1, ⟨a, rfl, h⟩, _⟩ := g.sl 0 _ rfl
  cases e1
  have key : ∀ {u : HO}, H a = some u → fp 0 a → ∃ F', F' = upd F a u ∧ Ext R F F' ∧ Good K cad R F' pars δ σ H := fun {u} e s => by
    have nF : F a = none := (g.off 0 a s).2.1
    have g' : Good K cad R F pars δ σ H := Good.tail ⟨fp, g⟩
    refine ⟨_, rfl, Ext.new nF (g.off 0 a s).1, ?_⟩
    refine ⟨fun i => fp (i + 1), ?_⟩
    have g2 : GoodF K cad R F pars δ σ H (fun i => fp (i + 1)) := by
      refine ⟨g.sR, g.sF, Nat.succ.inj g.len, fun i u e => ?_, fun i b q => g.off _ b q, fun i j b q r => Nat.succ.inj (g.sep _ _ b q r)⟩
      obtain ⟨w, e1, h1, t1⟩ := g.sl (i + 1) u e
      exact ⟨w, e1, h1, t1⟩
    refine g2.more (Same.new nF) (fun _ _ e => e) (fun b o z => ?_) fun i b q => ?_
    · by_cases eb : b = a
      · subst eb; rw [upd_same] at z; cases z; exact e
      · rw [upd_ne eb] at z; exact g.sF _ _ z
    · have ne : b ≠ a := fun eb => by
        subst eb
        cases g.sep 0 (i + 1) b s q
      rw [upd_ne ne]
      exact (g.off (i + 1) b q).2.1
  cases o with
  | lst ds =>
    obtain ⟨s, vs, e, r⟩ := h
    obtain ⟨F', rfl, s2, g2⟩ := key e ((s a).mpr rfl)
    exact ⟨_, _, s2, g2, .lst upd_same (r.same s2.s), q⟩
  | dic kvs =>
    obtain ⟨s, vs, e, r⟩ := h
    obtain ⟨F', rfl, s2, g2⟩ := key e ((s a).mpr rfl)
    exact ⟨_, _, s2, g2, .dic (.inl upd_same) (r.same s2.s), q⟩
  | row c x n =>
    obtain ⟨s, ok, dx, e⟩ := h
    obtain ⟨F', rfl, s2, g2⟩ := key e ((s a).mpr rfl)
    exact ⟨_, _, s2, g2, .row upd_same ok, q⟩
  | ext φ => exact q.elim
theorem dset_dset : ∀ (δ : DEnv) (n : Nat) (s u : Option Sl), dset (dset δ n s) n u = dset δ n u
  | [], _, _, _ => rfl
  | _ :: _, 0, _, _ => rfl
  | x :: r, n + 1, s, u => congrArg (x :: ·) (dset_dset r n s u)
theorem set_id {σ : L2.St} {n : Nat} {v : V} (h : σ[n]? = some (some v)) : σ.set n (some v) = σ := by
  refine List.ext_getElem? fun j => ?_
  by_cases e : j = n
  · subst e
    rw [List.getElem?_set_self (List.getElem?_eq_some_iff.mp h).1, h]
  · rw [List.getElem?_set_ne (Ne.symm e)]
/-- a slot's thing is kept by someone: from now on a value -/
theorem Good.freezeAt {n : Nat} {k : D → Prop} (g : Good K cad R F pars δ σ H) (q : frzS (dget δ n) k) : ∃ v d F', σ[n]? = some (some v) ∧ Ext R F F' ∧ Good K cad R F' pars (dset δ n (some (.val d))) σ H ∧ Rep K cad F' v d ∧ k d := by
  cases e : dget δ n with
  | none => rw [e] at q; exact q.elim
  | some s =>
    rw [e] at q
    match s, e, q with
    | .val _, _, q => exact q.elim
    | .own (some _) _, _, q => exact q.elim
    | .own none o, e, q =>
      obtain ⟨v, ev, g1⟩ := g.pull e
      obtain ⟨d, F', s2, g2, r, q⟩ := g1.freeze q
      have g3 := (g2.consV r).store n
      rw [dset_dset, set_id ev] at g3
      exact ⟨v, d, F', ev, s2, g3, r, q⟩
theorem frz_of {v : V} {e : Ev} {k : D → DEnv → Prop} (g : Good K cad R F pars δ σ H) (h : HoldE K cad F σ v e) (q : frzE e δ k) : ∃ d δ' F', Ext R F F' ∧ Good K cad R F' pars δ' σ H ∧ Rep K cad F' v d ∧ k d δ' := by
  cases e with
  | val d => exact ⟨d, δ, F, .refl, g, h, q⟩
  | var i =>
    obtain ⟨w, d, F', ev, s2, g2, r, q⟩ := g.freezeAt q
    rw [show σ[i]? = some (some v) from h] at ev
    cases ev
    exact ⟨d, _, F', s2, g2, r, q⟩
  | bor i =>
    obtain ⟨w, d, F', ev, s2, g2, r, q⟩ := g.freezeAt q
    rw [show σ[i]? = some (some v) from h] at ev
    cases ev
    exact ⟨d, _, F', s2, g2, r, q⟩
theorem frzs_of : ∀ {vs : List V} {es : List Ev} {δ : DEnv} {F : Hp} {k : List D → DEnv → Prop}, Good K cad R F pars δ σ H → HoldEs K cad F σ vs es → frzEs es δ k → ∃ ds δ' F', Ext R F F' ∧ Good K cad R F' pars δ' σ H ∧ Reps K cad F' vs ds ∧ ds.length = es.length ∧ k ds δ'
  | [], [], δ, F, k, g, _, q => ⟨[], δ, F, .refl, g, .nil, rfl, q⟩
  | v :: vs, e :: es, δ, F, k, g, h, q => by
    obtain ⟨d, δ1, F1, s1, g1, r1, q1⟩ := frz_of g h.1 q
    obtain ⟨ds, δ2, F2, s2, g2, r2, l, q2⟩ := frzs_of g1 (HoldEs.same s1 h.2) q1
    exact ⟨d :: ds, δ2, F2, s1.trans s2, g2, .cons (r1.same s2.s) r2, congrArg (· + 1) l, q2⟩
  | [], _ :: _, _, _, _, _, h, _ => h.elim
  | _ :: _, [], _, _, _, _, h, _ => h.elim
/-! ### expressions -/
def dVarS (i : Nat) (s : Option Sl) (δ : DEnv) (Q : Ev → DEnv → Prop) : Prop := match s with
  | some (.val d) => Q (.val d) δ
  | some (.own _ _) => Q (.var i) δ
  | none => False
def dVar (i : Nat) : DTE := fun δ Q _ => dVarS i (dget δ i) δ Q
theorem de_var {i : Nat} : DE K cad E (tVar i) (dVar i) := fun R F pars δ σ H Q QD QX g _ h q => by
  unfold dVar at h
  cases e : dget δ i with
  | none => rw [e] at h; exact h.elim
  | some s =>
    rw [e] at h
    obtain ⟨fp, g'⟩ := id g
    obtain ⟨v, ev, hv, _⟩ := g'.sl i s e
    cases s with
    | val d => exact ⟨v, ev, q (.val d) δ v F H .refl g hv h⟩
    | own t o => exact ⟨v, ev, q (.var i) δ v F H .refl g ev h⟩
def dC (d : D) : DTE := fun δ Q _ => Q (.val d) δ
theorem de_c {v : V} {d : D} (r : ∀ F, Rep K cad F v d) : DE K cad E (tC v) (dC d) := fun R F pars δ σ H Q QD QX g _ h q => q (.val d) δ v F H .refl g (r F) h
theorem de_int {i : Int} : DE K cad E (tC (.int i)) (dC (.int i)) := de_c fun _ => .int i
theorem de_bl {b : Bool} : DE K cad E (tC (.bl b)) (dC (.bl b)) := de_c fun _ => .bl b
theorem de_non : DE K cad E (tC .non) (dC .non) := de_c fun _ => .non
theorem de_str {x : Str} (h : SOk x := by exact ⟨by decide +kernel, Nat.le_of_ble_eq_true rfl⟩) : DE K cad E (tC (.str x)) (dC (.str x)) := de_c fun _ => .str x h
/-- a value that is kept -/
def dFz (f : DTE) : DTE := fun δ Q QX => f δ (fun e δ' => frzE e δ' fun d δ'' => Q (.val d) δ'') QX
theorem de_fz {t : TE} {f : DTE} (h : DE K cad E t f) : DE K cad E t (dFz f) := fun R F pars δ σ H Q QD QX g x hf q =>
  h R F pars δ σ H Q _ QX g x hf fun e δ1 v F1 H1 s1 g1 hv h1 => by
    obtain ⟨d, δ2, F2, s2, g2, r, h2⟩ := frz_of g1 hv h1
    exact q (.val d) δ2 v F2 H1 (s1.trans s2) g2 r h2
/-- lent for a call -/
def dBor (i : Nat) : DTE := fun δ Q _ => match dget δ i with
  | some (.own _ _) => Q (.bor i) δ
  | some (.val d) => Q (.val d) δ
  | none => False
theorem de_bor {i : Nat} : DE K cad E (tVar i) (dBor i) := fun R F pars δ σ H Q QD QX g _ h q => by
  unfold dBor at h
  cases e : dget δ i with
  | none => rw [e] at h; exact h.elim
  | some s =>
    rw [e] at h
    obtain ⟨fp, g'⟩ := id g
    obtain ⟨v, ev, hv, _⟩ := g'.sl i s e
    cases s with
    | val d => exact ⟨v, ev, q (.val d) δ v F H .refl g hv h⟩
    | own t o => exact ⟨v, ev, q (.bor i) δ v F H .refl g ev h⟩
/-- a new thing, kept at once -/
def dFrz (f : DTN) : DTE := fun δ Q QX => f δ (fun o δ' => vwO o fun d => Q (.val d) δ') QX
theorem de_frz {t : TE} {f : DTN} (h : DN K cad E t f) : DE K cad E t (dFrz f) := fun R F pars δ σ H Q QD QX g x hf q =>
  h R F pars δ σ H Q _ QX g x hf fun o δ1 v F1 H1 s1 g1 h1 => by
    obtain ⟨d, F2, s2, g2, r, h2⟩ := g1.freeze h1
    exact q (.val d) δ1 v F2 H1 (s1.trans s2) g2 r h2
/-! operators -/
abbrev DOp2 := D → D → (D → Prop) → Prop
def OpD (K : PySem.W.Frag) (cad : Cn → Addr) (r : R2) (op : DOp2) : Prop := ∀ (R F : Hp) (pars : List V) (δ : DEnv) (σ : L2.St) (H : Hp) (x y : V) (dx dy : D) (Q : VK) (QD : D → Prop), Good K cad R F pars δ σ H → View K cad F H x dx → View K cad F H y dy → op dx dy QD →
  (∀ d v F' H', Ext R F F' → Good K cad R F' pars δ σ H' → Rep K cad F' v d → QD d → Q v H') → r x y H Q
def dOp (op : DOp2) (fa fb : DTE) : DTE := fun δ Q QX => fa δ (fun a δ1 => fb δ1 (fun b δ2 => vwK δ2 a fun x => vwK δ2 b fun y => op x y fun d => Q (.val d) δ2) QX) QX
theorem de_op {r : R2} {op : DOp2} {ta tb : TE} {fa fb : DTE} (ho : OpD K cad r op) (ha : DE K cad E ta fa) (hb : DE K cad E tb fb) : DE K cad E (tOp r ta tb) (dOp op fa fb) := fun R F pars δ σ H Q QD QX g x hf q =>
  ha R F pars δ σ H _ _ QX g x hf fun a δ1 v F1 H1 s1 g1 hv h1 => hb R F1 pars δ1 σ H1 _ _ QX g1 (x.same s1) h1 fun b δ2 u F2 H2 s2 g2 hu h2 => by
    obtain ⟨dx, vx, h3⟩ := view_of g2 (hv.same s2) h2
    obtain ⟨dy, vy, h4⟩ := view_of g2 hu h3
    exact ho R F2 pars δ2 σ H2 v u dx dy Q _ g2 vx vy h4 fun d z F3 H3 s3 g3 r h5 => q (.val d) δ2 z F3 H3 (s1.trans (s2.trans s3)) g3 r h5
theorem OpD.or1 {r r' : R2} {op : DOp2} (h : OpD K cad r op) : OpD K cad (fun x y H Q => r x y H Q ∨ r' x y H Q) op := fun R F pars δ σ H x y dx dy Q QD g vx vy ho q => .inl (h R F pars δ σ H x y dx dy Q QD g vx vy ho q)
theorem OpD.or2 {r r' : R2} {op : DOp2} (h : OpD K cad r' op) : OpD K cad (fun x y H Q => r x y H Q ∨ r' x y H Q) op := fun R F pars δ σ H x y dx dy Q QD g vx vy ho q => .inr (h R F pars δ σ H x y dx dy Q QD g vx vy ho q)
/-- one place -/
abbrev DOp1 := D → (D → Prop) → Prop
def UnD (K : PySem.W.Frag) (cad : Cn → Addr) (r : V → Hp → VK → Prop) (op : DOp1) : Prop := ∀ (R F : Hp) (pars : List V) (δ : DEnv) (σ : L2.St) (H : Hp) (x : V) (dx : D) (Q : VK) (QD : D → Prop), Good K cad R F pars δ σ H → View K cad F H x dx → op dx QD →
  (∀ d v F' H', Ext R F F' → Good K cad R F' pars δ σ H' → Rep K cad F' v d → QD d → Q v H') → r x H Q
def dUn (op : DOp1) (fa : DTE) : DTE := fun δ Q QX => fa δ (fun a δ1 => vwK δ1 a fun x => op x fun d => Q (.val d) δ1) QX
theorem de_un {r : V → Hp → VK → Prop} {op : DOp1} {ta : TE} {fa : DTE} (ho : UnD K cad r op) (ha : DE K cad E ta fa) : DE K cad E (tUn r ta) (dUn op fa) := fun R F pars δ σ H Q QD QX g x hf q =>
  ha R F pars δ σ H _ _ QX g x hf fun a δ1 v F1 H1 s1 g1 hv h1 => by
    obtain ⟨dx, vx, h3⟩ := view_of g1 hv h1
    exact ho R F1 pars δ1 σ H1 v dx Q _ g1 vx h3 fun d z F3 H3 s3 g3 r h5 => q (.val d) δ1 z F3 H3 (s1.trans s3) g3 r h5
/-! tests -/
def ifD (b : Bool) (A B : Prop) : Prop := match b with
  | true => A
  | false => B
theorem ifT {A B : Prop} (h : A) : ifD true A B := h
theorem ifF {A B : Prop} (h : B) : ifD false A B := h
theorem ifE {b : Bool} {A B : Prop} (c : Bool) (e : b = c) (h : ifD c A B) : ifD b A B := e ▸ h
theorem if2 {b : Bool} {A B : Prop} (h1 : b = true → A) (h2 : b = false → B) : ifD b A B := by
  cases b with
  | true => exact h1 rfl
  | false => exact h2 rfl
theorem ifP {p : Prop} [Decidable p] {A B : Prop} (h1 : p → A) (h2 : ¬ p → B) : ifD (decide p) A B := if2 (fun e => h1 (of_decide_eq_true e)) (fun e => h2 (of_decide_eq_false e))
def bofD (e : Ev) (k : Bool → Prop) : Prop := match e with
  | .val (.bl b) => k b
  | _ => False
theorem bof_of {v : V} {e : Ev} {k : Bool → Prop} (h : HoldE K cad F σ v e) (q : bofD e k) : ∃ b, v = .bl b ∧ k b := by
  cases e with
  | val d =>
    cases d with
    | bl b => exact ⟨b, Rep.blI h, q⟩
    | _ => exact q.elim
  | _ => exact q.elim
def dTest (f : DTE) : DTT := fun δ Q QX => f δ (fun e δ' => bofD e fun b => Q b δ') QX
theorem dt_test {t : TE} {f : DTE} (h : DE K cad E t f) : DT K cad E (tTest t) (dTest f) := fun R F pars δ σ H Q QD QX g x hf q =>
  h R F pars δ σ H _ _ QX g x hf fun e δ1 v F1 H1 s1 g1 hv h1 => by
    obtain ⟨b, rfl, h2⟩ := bof_of hv h1
    exact ⟨b, rfl, q b δ1 F1 H1 s1 g1 h2⟩
theorem dt_val {t : TE} {f : DTE} (h : DE K cad E t f) : DT K cad E (tB t) (dTest f) := fun R F pars δ σ H Q QD QX g x hf q =>
  h R F pars δ σ H _ _ QX g x hf fun e δ1 v F1 H1 s1 g1 hv h1 => by
    obtain ⟨b, rfl, h2⟩ := bof_of hv h1
    exact ⟨b, rfl, q b δ1 F1 H1 s1 g1 h2⟩
theorem ite_of {b : Bool} {A B A' B' : Prop} (h : ifD b A B) (ha : A → A') (hb : B → B') : if b = true then A' else B' := by
  cases b with
  | true => rw [if_pos rfl]; exact ha h
  | false => rw [if_neg Bool.false_ne_true]; exact hb h
def dAnd (f g : DTT) : DTT := fun δ Q QX => f δ (fun b δ1 => ifD b (g δ1 Q QX) (Q false δ1)) QX
theorem dt_and {t u : TT} {f k : DTT} (h : DT K cad E t f) (h' : DT K cad E u k) : DT K cad E (tAnd t u) (dAnd f k) := fun R F pars δ σ H Q QD QX g x hf q =>
  h R F pars δ σ H _ _ QX g x hf fun b δ1 F1 H1 s1 g1 h1 => ite_of h1 (fun h2 => h' R F1 pars δ1 σ H1 Q QD QX g1 (x.same s1) h2 fun b δ2 F2 H2 s2 g2 h3 => q b δ2 F2 H2 (s1.trans s2) g2 h3) fun h2 => q false δ1 F1 H1 s1 g1 h2
def dOr (f g : DTT) : DTT := fun δ Q QX => f δ (fun b δ1 => ifD b (Q true δ1) (g δ1 Q QX)) QX
theorem dt_or {t u : TT} {f k : DTT} (h : DT K cad E t f) (h' : DT K cad E u k) : DT K cad E (tOr t u) (dOr f k) := fun R F pars δ σ H Q QD QX g x hf q =>
  h R F pars δ σ H _ _ QX g x hf fun b δ1 F1 H1 s1 g1 h1 => ite_of h1 (fun h2 => q true δ1 F1 H1 s1 g1 h2) fun h2 => h' R F1 pars δ1 σ H1 Q QD QX g1 (x.same s1) h2 fun b δ2 F2 H2 s2 g2 h3 => q b δ2 F2 H2 (s1.trans s2) g2 h3
def dNot (f : DTT) : DTT := fun δ Q QX => f δ (fun b δ1 => Q (!b) δ1) QX
theorem dt_not {t : TT} {f : DTT} (h : DT K cad E t f) : DT K cad E (tNot t) (dNot f) := fun R F pars δ σ H Q QD QX g x hf q =>
  h R F pars δ σ H _ _ QX g x hf fun b δ1 F1 H1 s1 g1 h1 => q (!b) δ1 F1 H1 s1 g1 h1
def dYes : DTT := fun δ Q _ => Q true δ
theorem dt_yes : DT K cad E tYes dYes := fun R F pars δ σ H Q QD QX g _ h q => q true δ F H .refl g h
/-! as values -/
def dAndV (f k : DTE) : DTE := fun δ Q QX => f δ (fun e δ1 => bofD e fun b => ifD b (k δ1 Q QX) (Q (.val (.bl false)) δ1)) QX
theorem de_and {t u : TE} {f k : DTE} (h : DE K cad E t f) (h' : DE K cad E u k) : DE K cad E (tAndV t u) (dAndV f k) := fun R F pars δ σ H Q QD QX g x hf q =>
  h R F pars δ σ H _ _ QX g x hf fun e δ1 v F1 H1 s1 g1 hv h1 => by
    obtain ⟨b, rfl, h2⟩ := bof_of hv h1
    exact ⟨b, rfl, ite_of h2 (fun h3 => h' R F1 pars δ1 σ H1 Q QD QX g1 (x.same s1) h3 fun e δ2 v F2 H2 s2 g2 hv h4 => q e δ2 v F2 H2 (s1.trans s2) g2 hv h4) fun h3 => q (.val (.bl false)) δ1 _ F1 H1 s1 g1 (Rep.bl false) h3⟩
def dOrV (f k : DTE) : DTE := fun δ Q QX => f δ (fun e δ1 => bofD e fun b => ifD b (Q (.val (.bl true)) δ1) (k δ1 Q QX)) QX
theorem de_or {t u : TE} {f k : DTE} (h : DE K cad E t f) (h' : DE K cad E u k) : DE K cad E (tOrV t u) (dOrV f k) := fun R F pars δ σ H Q QD QX g x hf q =>
  h R F pars δ σ H _ _ QX g x hf fun e δ1 v F1 H1 s1 g1 hv h1 => by
    obtain ⟨b, rfl, h2⟩ := bof_of hv h1
    exact ⟨b, rfl, ite_of h2 (fun h3 => q (.val (.bl true)) δ1 _ F1 H1 s1 g1 (Rep.bl true) h3) fun h3 => h' R F1 pars δ1 σ H1 Q QD QX g1 (x.same s1) h3 fun e δ2 v F2 H2 s2 g2 hv h4 => q e δ2 v F2 H2 (s1.trans s2) g2 hv h4⟩
def dNotV (f : DTE) : DTE := fun δ Q QX => f δ (fun e δ1 => bofD e fun b => Q (.val (.bl (!b))) δ1) QX
theorem de_not {t : TE} {f : DTE} (h : DE K cad E t f) : DE K cad E (tNotV t) (dNotV f) := fun R F pars δ σ H Q QD QX g x hf q =>
  h R F pars δ σ H _ _ QX g x hf fun e δ1 v F1 H1 s1 g1 hv h1 => by
    obtain ⟨b, rfl, h2⟩ := bof_of hv h1
    exact ⟨b, rfl, q (.val (.bl (!b))) δ1 _ F1 H1 s1 g1 (Rep.bl _) h2⟩
def dIf (c : DTT) (f k : DTE) : DTE := fun δ Q QX => c δ (fun b δ1 => ifD b (f δ1 Q QX) (k δ1 Q QX)) QX
theorem de_if {c : TT} {t u : TE} {fc : DTT} {f k : DTE} (hc : DT K cad E c fc) (h : DE K cad E t f) (h' : DE K cad E u k) : DE K cad E (tIf c t u) (dIf fc f k) := fun R F pars δ σ H Q QD QX g x hf q =>
  hc R F pars δ σ H _ _ QX g x hf fun b δ1 F1 H1 s1 g1 h1 => ite_of h1 (fun h2 => h R F1 pars δ1 σ H1 Q QD QX g1 (x.same s1) h2 fun e δ2 v F2 H2 s2 g2 hv h4 => q e δ2 v F2 H2 (s1.trans s2) g2 hv h4)
    (fun h2 => h' R F1 pars δ1 σ H1 Q QD QX g1 (x.same s1) h2 fun e δ2 v F2 H2 s2 g2 hv h4 => q e δ2 v F2 H2 (s1.trans s2) g2 hv h4)
def dnIf (c : DTT) (f k : DTN) : DTN := fun δ Q QX => c δ (fun b δ1 => ifD b (f δ1 Q QX) (k δ1 Q QX)) QX
theorem dn_if {c : TT} {t u : TE} {fc : DTT} {f k : DTN} (hc : DT K cad E c fc) (h : DN K cad E t f) (h' : DN K cad E u k) : DN K cad E (tIf c t u) (dnIf fc f k) := fun R F pars δ σ H Q QD QX g x hf q =>
  hc R F pars δ σ H _ _ QX g x hf fun b δ1 F1 H1 s1 g1 h1 => ite_of h1 (fun h2 => h R F1 pars δ1 σ H1 Q QD QX g1 (x.same s1) h2 fun e δ2 v F2 H2 s2 g2 h4 => q e δ2 v F2 H2 (s1.trans s2) g2 h4)
    (fun h2 => h' R F1 pars δ1 σ H1 Q QD QX g1 (x.same s1) h2 fun e δ2 v F2 H2 s2 g2 h4 => q e δ2 v F2 H2 (s1.trans s2) g2 h4)
/-- a op b op' c -/
def dChain (op op' : DOp2) (fa fb fc : DTE) : DTE := fun δ Q QX => fa δ (fun a δ1 => fb δ1 (fun b δ2 => vwK δ2 a fun x => vwK δ2 b fun y => op x y fun d => bofD (.val d) fun k =>
  ifD k (fc δ2 (fun c δ3 => vwK δ3 b fun y => vwK δ3 c fun z => op' y z fun d => Q (.val d) δ3) QX) (Q (.val (.bl false)) δ2)) QX) QX
theorem de_chain {r r' : R2} {op op' : DOp2} {ta tb tc : TE} {fa fb fc : DTE} (ho : OpD K cad r op) (ho' : OpD K cad r' op') (ha : DE K cad E ta fa) (hb : DE K cad E tb fb) (hc : DE K cad E tc fc) : DE K cad E (tChain r r' ta tb tc) (dChain op op' fa fb fc) := fun R F pars δ σ H Q QD QX g x hf q =>
  ha R F pars δ σ H _ _ QX g x hf fun a δ1 v F1 H1 s1 g1 hv h1 => hb R F1 pars δ1 σ H1 _ _ QX g1 (x.same s1) h1 fun b δ2 u F2 H2 s2 g2 hu h2 => by
    obtain ⟨dx, vx, h3⟩ := view_of g2 (hv.same s2) h2
    obtain ⟨dy, vy, h4⟩ := view_of g2 hu h3
    refine ho R F2 pars δ2 σ H2 v u dx dy _ _ g2 vx vy h4 fun d z F3 H3 s3 g3 r h5 => ?_
    obtain ⟨k, rfl, h6⟩ := bof_of (σ := σ) (e := .val d) r h5
    refine ⟨k, rfl, ite_of h6 (fun h7 => ?_) fun h7 => q (.val (.bl false)) δ2 _ F3 H3 (s1.trans (s2.trans s3)) g3 (Rep.bl false) h7⟩
    refine hc R F3 pars δ2 σ H3 _ _ QX g3 (x.same (s1.trans (s2.trans s3))) h7 fun c δ3 w F4 H4 s4 g4 hw h8 => ?_
    obtain ⟨dy, vy, h9⟩ := view_of g4 (hu.same (s3.trans s4)) h8
    obtain ⟨dz, vz, h10⟩ := view_of g4 hw h9
    exact ho' R F4 pars δ3 σ H4 u w dy dz Q _ g4 vy vz h10 fun d z F5 H5 s5 g5 r h11 => q (.val d) δ3 z F5 H5 (s1.trans (s2.trans (s3.trans (s4.trans s5)))) g5 r h11
/-! arguments, displays -/
def dNil : DTA := fun δ Q _ => Q [] δ
theorem da_nil : DA K cad E tNil 0 dNil := fun R F pars δ σ H Q QD QX g _ h q => q [] δ [] F H .refl g trivial rfl h
def dCons (f : DTE) (k : DTA) : DTA := fun δ Q QX => f δ (fun e δ1 => k δ1 (fun es δ2 => Q (e :: es) δ2) QX) QX
theorem da_cons {t : TE} {u : TA} {n : Nat} {f : DTE} {k : DTA} (h : DE K cad E t f) (h' : DA K cad E u n k) : DA K cad E (tCons t u) (n + 1) (dCons f k) := fun R F pars δ σ H Q QD QX g x hf q =>
  h R F pars δ σ H _ _ QX g x hf fun e δ1 v F1 H1 s1 g1 hv h1 => h' R F1 pars δ1 σ H1 _ _ QX g1 (x.same s1) h1 fun es δ2 vs F2 H2 s2 g2 hvs l h2 => q (e :: es) δ2 (v :: vs) F2 H2 (s1.trans s2) g2 ⟨hv.same s2, hvs⟩ (congrArg (· + 1) l) h2
def dTup (f : DTA) : DTE := fun δ Q QX => f δ (fun es δ1 => frzEs es δ1 fun ds δ2 => Q (.val (.tup ds)) δ2) QX
theorem HoldEs.len : ∀ {vs : List V} {es : List Ev}, HoldEs K cad F σ vs es → vs.length = es.length
  | [], [], _ => rfl
  | _ :: _, _ :: _, h => congrArg (· + 1) (HoldEs.len h.2)
  | [], _ :: _, h => h.elim
  | _ :: _, [], h => h.elim
theorem sz_of {n : Nat} (h : n ≤ 1000000) : n ≤ sizeLine := Nat.le_trans h (by decide)
theorem de_tup {t : TA} {n : Nat} {f : DTA} (h : DA K cad E t n f) (hn : n ≤ 1000000 := by decide) : DE K cad E (tTup t) (dTup f) := fun R F pars δ σ H Q QD QX g x hf q =>
  h R F pars δ σ H _ _ QX g x hf fun es δ1 vs F1 H1 s1 g1 hv l h1 => by
    obtain ⟨ds, δ2, F2, s2, g2, r, ld, h2⟩ := frzs_of g1 hv h1
    refine ⟨sz_of (by rw [HoldEs.len hv, l]; exact hn), fun p hp => ?_⟩
    obtain ⟨s3, g3⟩ := g2.newF (o := .tup vs) hp
    exact q (.val (.tup ds)) δ2 _ _ _ (s1.trans (s2.trans s3)) g3 (Rep.tup upd_same (r.same s3.s)) h2
/-- a new list, owned -/
theorem Good.newL {p : Addr} {vs : List V} {ds : List D} (g : Good K cad R F pars δ σ H) (h : H p = none) (r : Reps K cad F vs ds) : Good K cad R F pars (some (.own none (.lst ds)) :: δ) (some (.ref p) :: σ) (upd H p (.lst vs)) := by
  have nR := none_of g.sR h
  have nF := none_of g.sF h
  obtain ⟨fp, g2⟩ := id (g.grow (Same.new (o := .lst vs) h))
  obtain ⟨fp, g⟩ := g
  have g2 : GoodF K cad R F pars δ σ (upd H p (.lst vs)) fp := g.more (fun _ _ e => e) (Same.new h) (g.sF.trans (Same.new h)) fun i b q => (g.off i b q).2.1
  refine Good.cons (S := fun b => b = p) g2 ⟨p, rfl, fun b => Iff.rfl, vs, upd_same, r⟩ (fun k o e => by cases e) (fun b e => ?_) fun i b q e => ?_
  · subst e
    exact ⟨nR, nF, _, upd_same⟩
  · subst e
    obtain ⟨_, _, o, z⟩ := g.off i b q
    rw [h] at z
    cases z
theorem Good.newK {p : Addr} {vs : List (Key × V)} {ds : List (Key × D)} (g : Good K cad R F pars δ σ H) (h : H p = none) (r : RepK K cad F vs ds) : Good K cad R F pars (some (.own none (.dic ds)) :: δ) (some (.ref p) :: σ) (upd H p (.dK vs)) := by
  have nR := none_of g.sR h
  have nF := none_of g.sF h
  obtain ⟨fp, g⟩ := g
  have g2 : GoodF K cad R F pars δ σ (upd H p (.dK vs)) fp := g.more (fun _ _ e => e) (Same.new h) (g.sF.trans (Same.new h)) fun i b q => (g.off i b q).2.1
  refine Good.cons (S := fun b => b = p) g2 ⟨p, rfl, fun b => Iff.rfl, vs, upd_same, r⟩ (fun k o e => by cases e) (fun b e => ?_) fun i b q e => ?_
  · subst e
    exact ⟨nR, nF, _, upd_same⟩
  · subst e
    obtain ⟨_, _, o, z⟩ := g.off i b q
    rw [h] at z
    cases z
def dLst (f : DTA) : DTN := fun δ Q QX => f δ (fun es δ1 => frzEs es δ1 fun ds δ2 => Q (.lst ds) δ2) QX
theorem dn_lst {t : TA} {n : Nat} {f : DTA} (h : DA K cad E t n f) (hn : n ≤ 1000000 := by decide) : DN K cad E (tLst t) (dLst f) := fun R F pars δ σ H Q QD QX g x hf q =>
  h R F pars δ σ H _ _ QX g x hf fun es δ1 vs F1 H1 s1 g1 hv l h1 => by
    obtain ⟨ds, δ2, F2, s2, g2, r, ld, h2⟩ := frzs_of g1 hv h1
    refine ⟨sz_of (by rw [HoldEs.len hv, l]; exact hn), fun p hp => ?_⟩
    exact q _ δ2 _ F2 _ (s1.trans s2) (g2.newL hp r) h2
def dNewK : DTN := fun δ Q _ => Q (.dic []) δ
theorem dn_newK : DN K cad E tDNewK dNewK := fun R F pars δ σ H Q QD QX g _ h q => fun p hp => q _ δ _ F _ .refl (g.newK hp .nil) h
end
end PD

set_option Elab.async false
set_option linter.all false
set_option maxRecDepth 100000
set_option maxHeartbeats 4000000
/-! Own layer: operators, built-in calls and methods on data. -/
namespace PD
open L2 ClX
open PySem PySem.Spec PyProof.Rows
/-! ### data that == and repr take -/
mutual
def pyD : D → PyData
  | .non => .none
  | .bl b => .bool b
  | .int i => .int i
  | .str x => .str x
  | .lst ds => .list (pyDs ds)
  | .tup ds => .tuple (pyDs ds)
  | _ => .none
def pyDs : List D → List PyData
  | [] => []
  | d :: ds => pyD d :: pyDs ds
end
def flatN : Nat → D → Bool
  | _, .non => true
  | _, .bl _ => true
  | _, .int _ => true
  | _, .str _ => true
  | n + 1, .lst ds => ds.all (flatN n)
  | n + 1, .tup ds => ds.all (flatN n)
  | _, _ => false
def flat1 : D → Bool := flatN 0
section
variable {K : PySem.W.Frag} {cad : Cn → Addr} {R F H : Hp} {pars : List V} {δ : DEnv} {σ : L2.St}
theorem flats_dp {n : Nat} (ih : ∀ {v : V} {d : D}, flatN n d = true → Rep K cad F v d → Dp K H v (pyD d) ∧ (pyD d).canLay0 = true ∧ (pyD d).depth ≤ n) : ∀ {vs : List V} {ds : List D}, ds.all (flatN n) = true → Reps K cad F vs ds →
    DpAll K H vs (pyDs ds) ∧ PyData.canLayAll0 (pyDs ds) = true ∧ PyData.depthAll (pyDs ds) ≤ n
  | _, _, _, .nil => ⟨.nil, rfl, Nat.zero_le _⟩
  | _, _, f, .cons h t => by
    rw [List.all_cons, Bool.and_eq_true] at f
    obtain ⟨a, b, c⟩ := ih f.1 h
    obtain ⟨a2, b2, c2⟩ := flats_dp ih f.2 t
    refine ⟨.cons a a2, ?_, ?_⟩
    · unfold pyDs PyData.canLayAll0
      rw [b, b2]
      rfl
    · unfold pyDs PyData.depthAll
      exact Nat.max_le.mpr ⟨c, c2⟩
theorem flat_dp (sF : Same F H) : ∀ (n : Nat) {v : V} {d : D}, flatN n d = true → Rep K cad F v d → Dp K H v (pyD d) ∧ (pyD d).canLay0 = true ∧ (pyD d).depth ≤ n := by
  intro n
  induction n with
  | zero =>
    intro v d f h
    cases h with
    | non => exact ⟨.non, rfl, Nat.zero_le _⟩
    | bl b => exact ⟨.bl b, rfl, Nat.zero_le _⟩
    | int i => exact ⟨.int i, rfl, Nat.zero_le _⟩
    | str x ok => exact ⟨.str x, ok.1, Nat.zero_le _⟩
    | _ => exact absurd f Bool.false_ne_true
  | succ n ih =>
    intro v d f h
    cases h with
    | non => exact ⟨.non, rfl, Nat.zero_le _⟩
    | bl b => exact ⟨.bl b, rfl, Nat.zero_le _⟩
    | int i => exact ⟨.int i, rfl, Nat.zero_le _⟩
    | str x ok => exact ⟨.str x, ok.1, Nat.zero_le _⟩
    | lst h t =>
      obtain ⟨a, b, c⟩ := flats_dp (fun f h => ih f h) f t
      exact ⟨.lst (.of (sF _ _ h)) a, b, Nat.succ_le_succ c⟩
    | tup h t =>
      obtain ⟨a, b, c⟩ := flats_dp (fun f h => ih f h) f t
      exact ⟨.tup (.of (sF _ _ h)) a, b, Nat.succ_le_succ c⟩
    | _ => exact absurd f Bool.false_ne_true
theorem View.dp (sF : Same F H) {n : Nat} {v : V} {d : D} (f : flatN n d = true) (h : View K cad F H v d) : Dp K H v (pyD d) ∧ (pyD d).canLay0 = true ∧ (pyD d).depth ≤ n := by
  cases h with
  | rep h => exact flat_dp sF n f h
  | lst h t =>
    cases n with
    | zero => exact absurd f Bool.false_ne_true
    | succ n =>
      obtain ⟨a, b, c⟩ := flats_dp (fun f h => flat_dp sF n f h) f t
      exact ⟨.lst (.of h) a, b, Nat.succ_le_succ c⟩
  | dic h t => cases n <;> exact absurd f Bool.false_ne_true
  | row h hx => cases n <;> exact absurd f Bool.false_ne_true
end
def eqD (a b : D) : Bool := PyData.eqv (pyD a) (pyD b)
/-! ### what an operation is worth -/
def addD : DOp2 := fun a b Q => match a, b with
  | .int i, .int j => Q (.int (i + j))
  | .str x, .str y => x.length + y.length ≤ 1000000 ∧ Q (.str (x ++ y))
  | .lst x, .lst y => x.length + y.length ≤ 1000000 ∧ Q (.lst (x ++ y))
  | _, _ => False
def intD (g : Int → Int → D) : DOp2 := fun a b Q => match a, b with
  | .int i, .int j => Q (g i j)
  | _, _ => False
def intC (C : Int → Int → Prop) (g : Int → Int → D) : DOp2 := fun a b Q => match a, b with
  | .int i, .int j => C i j ∧ Q (g i j)
  | _, _ => False
def mulD : DOp2 := fun a b Q => match a, b with
  | .int i, .int j => CMulW i j ∧ Q (.int (i * j))
  | .lst x, .int k => (-(2 ^ 63) ≤ k ∧ k < 2 ^ 63 ∧ x.length * k.toNat ≤ 1000000) ∧ Q (.lst (List.replicate k.toNat x).flatten)
  | _, _ => False
def eqOp : DOp2 := fun a b Q => flatN 30 a = true ∧ flatN 30 b = true ∧ Q (.bl (eqD a b))
def neOp : DOp2 := fun a b Q => flatN 30 a = true ∧ flatN 30 b = true ∧ Q (.bl (!eqD a b))
def isNon : D → Bool
  | .non => true
  | _ => false
def isOp : DOp2 := fun a _ Q => Q (.bl (isNon a))
def isnOp : DOp2 := fun a _ Q => Q (.bl (!isNon a))
def seqD (d : D) (k : List D → Prop) : Prop := match d with
  | .lst ds => k ds
  | .tup ds => k ds
  | _ => False
def inB (x : D) (ds : List D) : Bool := ds.any fun y => eqD y x
def inOp : DOp2 := fun x y Q => seqD y fun ds => flat1 x = true ∧ ds.all flat1 = true ∧ Q (.bl (inB x ds))
def ninOp : DOp2 := fun x y Q => seqD y fun ds => flat1 x = true ∧ ds.all flat1 = true ∧ Q (.bl (!inB x ds))
@[irreducible] def atD (ds : List D) (i : Int) (k : D → Prop) : Prop := match atI ds i with
  | some d => k d
  | none => False
@[irreducible] def atZ (ns : List Int) (i : Int) (k : Int → Prop) : Prop := match atI ns i with
  | some n => k n
  | none => False
/-- a text's sign at a place -/
@[irreducible] def atS (z : Str) (i : Int) (k : Str → Prop) : Prop := match atI z.cps.toList i with
  | some c => k ⟨#[c]⟩
  | none => False
theorem at_str {z : Str} {i : Int} {c : Nat} {k : Str → Prop} (e : atI z.cps.toList i = some c) (q : k ⟨#[c]⟩) : atS z i k := by
  unfold atS
  rw [e]
  exact q
def ixOp : DOp2 := fun a b Q => match a, b with
  | .scr ns, .int i => atZ ns i fun n => Q (.int n)
  | .lst ds, .int i => atD ds i Q
  | .tup ds, .int i => atD ds i Q
  | .str z, .int i => atS z i fun x => Q (.str x)
  | _, _ => False
section
variable {K : PySem.W.Frag} {cad : Cn → Addr} {E : L2.St → XK} {R F H : Hp} {pars : List V} {δ : DEnv} {σ : L2.St}
theorem SOk.app {x y : Str} (hx : SOk x) (hy : SOk y) (l : x.length + y.length ≤ 1000000) : SOk (x ++ y) := by
  refine ⟨?_, ?_⟩
  · show ((⟨x.cps ++ y.cps⟩ : Str).cps.all _) = true
    rw [Array.all_append]
    have := hx.1
    have := hy.1
    unfold PyData.strOk at *
    simp_all
  · show (x.cps ++ y.cps).size ≤ _
    rw [Array.size_append]
    exact l
theorem Rep.lenL {v : V} {ds : List D} (h : Rep K cad F v (.lst ds)) : ∃ a vs, v = .ref a ∧ F a = some (.lst vs) ∧ vs.length = ds.length := by
  obtain ⟨a, vs, e, h, t⟩ := h.lstI
  exact ⟨a, vs, e, h, t.len⟩
theorem View.reps {v : V} {ds : List D} (sF : Same F H) (h : View K cad F H v (.lst ds)) : ∃ a vs, v = .ref a ∧ H a = some (.lst vs) ∧ Reps K cad F vs ds := h.lstI sF
/-- a new list, kept at once -/
theorem Good.listV {p : Addr} {vs : List V} {ds : List D} (g : Good K cad R F pars δ σ H) (h : H p = none) (r : Reps K cad F vs ds) : Ext R F (upd F p (.lst vs)) ∧ Good K cad R (upd F p (.lst vs)) pars δ σ (upd H p (.lst vs)) ∧ Rep K cad (upd F p (.lst vs)) (.ref p) (.lst ds) := by
  obtain ⟨s, g2⟩ := g.newF (o := .lst vs) h
  exact ⟨s, g2, .lst upd_same (r.same s.s)⟩
theorem od_add : OpD K cad rAddX addD := by
  intro R F pars δ σ H x y dx dy Q QD g vx vy h q
  match dx, dy, h with
  | .int i, .int j, h =>
    obtain rfl := vx.intI
    obtain rfl := vy.intI
    exact .inl ⟨i, j, rfl, rfl, q _ _ F H .refl g (.int _) h⟩
  | .str x, .str y, h =>
    obtain ⟨rfl, ox⟩ := vx.strI
    obtain ⟨rfl, oy⟩ := vy.strI
    exact .inr (.inl ⟨x, y, rfl, rfl, sz_of h.1, q _ _ F H .refl g (.str _ (ox.app oy h.1)) h.2⟩)
  | .lst x, .lst y, h =>
    obtain ⟨a, vs, rfl, ea, ra⟩ := vx.lstI g.sF
    obtain ⟨b, ws, rfl, eb, rb⟩ := vy.lstI g.sF
    have l : vs.length + ws.length ≤ sizeLine := sz_of (by rw [ra.len, rb.len]; exact h.1)
    refine .inr (.inr ⟨a, b, vs, ws, rfl, rfl, ea, eb, l, fun p hp => ?_⟩)
    obtain ⟨s, g2, r⟩ := g.listV hp (ra.app rb)
    exact q _ _ _ _ s g2 r h.2
theorem od_int {g : Int → Int → D} {gv : Int → Int → V} (e : ∀ F i j, Rep K cad F (gv i j) (g i j)) : OpD K cad (rI0 gv) (intD g) := by
  intro R F pars δ σ H x y dx dy Q QD gd vx vy h q
  match dx, dy, h with
  | .int i, .int j, h =>
    obtain rfl := vx.intI
    obtain rfl := vy.intI
    exact ⟨i, j, rfl, rfl, q _ _ F H .refl gd (e _ _ _) h⟩
theorem od_intC {C : Int → Int → Prop} {g : Int → Int → D} {gv : Int → Int → V} (e : ∀ F i j, Rep K cad F (gv i j) (g i j)) : OpD K cad (rI C gv) (intC C g) := by
  intro R F pars δ σ H x y dx dy Q QD gd vx vy h q
  match dx, dy, h with
  | .int i, .int j, h =>
    obtain rfl := vx.intI
    obtain rfl := vy.intI
    exact ⟨i, j, rfl, rfl, h.1, q _ _ F H .refl gd (e _ _ _) h.2⟩
def subD : DOp2 := intD fun i j => .int (i - j)
def ltD : DOp2 := intD fun i j => .bl (decide (i < j))
def leD : DOp2 := intD fun i j => .bl (decide (i ≤ j))
def gtD : DOp2 := intD fun i j => .bl (decide (j < i))
def geD : DOp2 := intD fun i j => .bl (decide (j ≤ i))
def fdivD : DOp2 := intC CDivW fun i j => .int (i / j)
def modD : DOp2 := intC (fun _ j => 0 < j) fun i j => .int (i % j)
def powD : DOp2 := intC CPowW fun i j => .int (i ^ j.toNat)
theorem od_sub : OpD K cad (rI0 fun i j => .int (i - j)) subD := od_int fun _ _ _ => .int _
theorem od_lt : OpD K cad (rI0 fun i j => .bl (decide (i < j))) ltD := od_int fun _ _ _ => .bl _
theorem od_le : OpD K cad (rI0 fun i j => .bl (decide (i ≤ j))) leD := od_int fun _ _ _ => .bl _
theorem od_gt : OpD K cad (rI0 fun i j => .bl (decide (j < i))) gtD := od_int fun _ _ _ => .bl _
theorem od_ge : OpD K cad (rI0 fun i j => .bl (decide (j ≤ i))) geD := od_int fun _ _ _ => .bl _
theorem od_fdiv : OpD K cad rFdivX fdivD := od_intC fun _ _ _ => .int _
theorem od_mod : OpD K cad (rI (fun _ j => 0 < j) fun i j => .int (i % j)) modD := od_intC fun _ _ _ => .int _
theorem od_pow : OpD K cad (rI CPowW fun i j => .int (i ^ j.toNat)) powD := od_intC fun _ _ _ => .int _
def negD : DOp1 := fun a Q => match a with
  | .int i => Q (.int (-i))
  | _ => False
theorem ud_neg : UnD K cad (rU fun i => .int (-i)) negD := by
  intro R F pars δ σ H x dx Q QD g vx h q
  match dx, h with
  | .int i, h =>
    obtain rfl := vx.intI
    exact ⟨i, rfl, q _ _ F H .refl g (.int _) h⟩
theorem Reps.repl {vs : List V} {ds : List D} (r : Reps K cad F vs ds) : ∀ n : Nat, Reps K cad F (List.replicate n vs).flatten (List.replicate n ds).flatten
  | 0 => .nil
  | n + 1 => by
    rw [List.replicate_succ, List.replicate_succ, List.flatten_cons, List.flatten_cons]
    exact r.app (Reps.repl r n)
theorem od_mul : OpD K cad rMulX mulD := by
  intro R F pars δ σ H x y dx dy Q QD g vx vy h q
  match dx, dy, h with
  | .int i, .int j, h =>
    obtain rfl := vx.intI
    obtain rfl := vy.intI
    exact .inl ⟨i, j, rfl, rfl, h.1, q _ _ F H .refl g (.int _) h.2⟩
  | .lst x, .int k, h =>
    obtain ⟨a, vs, rfl, ea, ra⟩ := vx.lstI g.sF
    obtain rfl := vy.intI
    have l : vs.length * k.toNat ≤ sizeLine := sz_of (by rw [ra.len]; exact h.1.2.2)
    have l1 : -(2 ^ 63) ≤ k := h.1.1
    have l2 : k < 2 ^ 63 := h.1.2.1
    refine .inr ⟨a, k, vs, rfl, rfl, ea, l1, l2, l, fun p hp => ?_⟩
    obtain ⟨s, g2, r⟩ := g.listV hp (ra.repl k.toNat)
    exact q _ _ _ _ s g2 r h.2
theorem od_eq : OpD K cad (rEqX K) eqOp := by
  intro R F pars δ σ H x y dx dy Q QD g vx vy h q
  obtain ⟨f1, f2, h⟩ := h
  obtain ⟨a1, b1, c1⟩ := vx.dp g.sF f1
  obtain ⟨a2, b2, c2⟩ := vy.dp g.sF f2
  have sh : ∀ {d : PyData}, d.canLay0 = true → d.depth ≤ 30 → SeqAt.shaped d = true := fun a b => by
    unfold SeqAt.shaped
    rw [a, decide_eq_true (by omega)]
    rfl
  exact .inr ⟨_, _, a1, a2, sh b1 c1, sh b2 c2, q _ _ F H .refl g (.bl _) h⟩
theorem od_ne : OpD K cad (rNeX K) neOp := by
  intro R F pars δ σ H x y dx dy Q QD g vx vy h q
  obtain ⟨f1, f2, h⟩ := h
  obtain ⟨a1, b1, c1⟩ := vx.dp g.sF f1
  obtain ⟨a2, b2, c2⟩ := vy.dp g.sF f2
  have sh : ∀ {d : PyData}, d.canLay0 = true → d.depth ≤ 30 → SeqAt.shaped d = true := fun a b => by
    unfold SeqAt.shaped
    rw [a, decide_eq_true (by omega)]
    rfl
  exact .inr ⟨_, _, a1, a2, sh b1 c1, sh b2 c2, q _ _ F H .refl g (.bl _) h⟩
theorem View.non {v : V} {d : D} (h : View K cad F H v d) : decide (v = .non) = isNon d := by
  cases h with
  | rep h => cases h <;> rfl
  | _ => rfl
theorem od_is : OpD K cad (fun x y H Q => y = .non ∧ Q (.bl (decide (x = .non))) H) (fun a b Q => isNon b = true ∧ Q (.bl (isNon a))) := by
  intro R F pars δ σ H x y dx dy Q QD g vx vy h q
  have e := vy.non
  rw [h.1] at e
  refine ⟨of_decide_eq_true e, ?_⟩
  rw [vx.non]
  exact q _ _ F H .refl g (.bl _) h.2
theorem od_isn : OpD K cad (fun x y H Q => y = .non ∧ Q (.bl (!decide (x = .non))) H) (fun a b Q => isNon b = true ∧ Q (.bl (!isNon a))) := by
  intro R F pars δ σ H x y dx dy Q QD g vx vy h q
  have e := vy.non
  rw [h.1] at e
  refine ⟨of_decide_eq_true e, ?_⟩
  rw [vx.non]
  exact q _ _ F H .refl g (.bl _) h.2
theorem flat_v {v : V} {d : D} (h : Rep K cad F v d) (f : flat1 d = true) : flatV v = true := by
  cases h with
  | non => rfl
  | bl b => rfl
  | int i => rfl
  | str x _ => rfl
  | _ => exact absurd f Bool.false_ne_true
theorem eq_v {v w : V} {d e : D} (h : Rep K cad F v d) (f : flat1 d = true) (h' : Rep K cad F w e) (f' : flat1 e = true) : eqV v w = eqD d e := by
  cases h with
  | non => cases h' <;> first | rfl | exact absurd f' Bool.false_ne_true
  | bl b => cases h' <;> first | rfl | exact absurd f' Bool.false_ne_true
  | int i => cases h' <;> first | rfl | exact absurd f' Bool.false_ne_true
  | str x _ => cases h' <;> first | rfl | exact absurd f' Bool.false_ne_true
  | _ => exact absurd f Bool.false_ne_true
theorem in_v {v : V} {d : D} (h : Rep K cad F v d) (f : flat1 d = true) : ∀ {vs : List V} {ds : List D}, Reps K cad F vs ds → ds.all flat1 = true → vs.all flatV = true ∧ inV v vs = inB d ds
  | _, _, .nil, _ => ⟨rfl, rfl⟩
  | _, _, .cons a t, g => by
    rw [List.all_cons, Bool.and_eq_true] at g
    obtain ⟨i1, i2⟩ := in_v h f t g.2
    refine ⟨?_, ?_⟩
    · rw [List.all_cons, flat_v a g.1, i1]
      rfl
    · unfold inV inB at *
      rw [List.any_cons, List.any_cons, i2, eq_v a g.1 h f]
theorem View.flat {v : V} {d : D} (h : View K cad F H v d) (f : flat1 d = true) : Rep K cad F v d := by
  cases h with
  | rep h => exact h
  | _ => exact absurd f Bool.false_ne_true
theorem View.seq {v : V} {d : D} {k : List D → Prop} (sF : Same F H) (h : View K cad F H v d) (q : seqD d k) : ∃ a vs ds, v = .ref a ∧ (SqL K H a vs ∨ SqT K H a vs) ∧ Reps K cad F vs ds ∧ k ds := by
  cases d with
  | lst ds =>
    obtain ⟨a, vs, e, ha, r⟩ := h.lstI sF
    exact ⟨a, vs, ds, e, .inl (.of ha), r, q⟩
  | tup ds =>
    obtain ⟨a, vs, e, ha, r⟩ := h.tupI sF
    exact ⟨a, vs, ds, e, .inr (.of ha), r, q⟩
  | _ => exact q.elim
theorem od_in : OpD K cad (rIn K false) inOp := by
  intro R F pars δ σ H x y dx dy Q QD g vx vy h q
  obtain ⟨a, vs, ds, rfl, sq, r, f1, f2, h⟩ := vy.seq g.sF h
  have rx := vx.flat f1
  obtain ⟨i1, i2⟩ := in_v rx f1 r f2
  refine ⟨a, vs, rfl, sq, flat_v rx f1, i1, ?_⟩
  show Q (.bl (inV x vs)) H
  rw [i2]
  exact q _ _ F H .refl g (.bl _) h
theorem od_nin : OpD K cad (rIn K true) ninOp := by
  intro R F pars δ σ H x y dx dy Q QD g vx vy h q
  obtain ⟨a, vs, ds, rfl, sq, r, f1, f2, h⟩ := vy.seq g.sF h
  have rx := vx.flat f1
  obtain ⟨i1, i2⟩ := in_v rx f1 r f2
  refine ⟨a, vs, rfl, sq, flat_v rx f1, i1, ?_⟩
  show Q (.bl (!inV x vs)) H
  rw [i2]
  exact q _ _ F H .refl g (.bl _) h
theorem at_v {vs : List V} {ds : List D} {i : Int} {k : D → Prop} (r : Reps K cad F vs ds) (q : atD ds i k) : ∃ v d, atI vs i = some v ∧ Rep K cad F v d ∧ k d := by
  unfold atD at q
  unfold atI at q ⊢
  rw [r.len]
  cases e : ixN ds.length i with
  | none => rw [e] at q; exact q.elim
  | some j =>
    rw [e] at q
    have q : match ds[j]? with | some d => k d | none => False := q
    cases e2 : ds[j]? with
    | none => rw [e2] at q; exact q.elim
    | some d =>
      rw [e2] at q
      obtain ⟨v, ev, rv⟩ := r.get e2
      exact ⟨v, d, ev, rv, q⟩
theorem SOk.one {x : Str} (h : SOk x) {c : Nat} (m : c ∈ x.cps.toList) : SOk ⟨#[c]⟩ := by
  refine ⟨?_, Nat.le_of_ble_eq_true rfl⟩
  have := h.1
  unfold PyData.strOk at *
  rw [Array.all_eq_true'] at this
  have z := this c (Array.mem_toList_iff.mp m)
  simp only [List.all_toArray, List.all_cons, List.all_nil, Bool.and_true]
  exact z
theorem od_ix : OpD K cad (rIx K) ixOp := by
  intro R F pars δ σ H x y dx dy Q QD g vx vy h q
  match dx, dy, h with
  | .scr ns, .int i, h =>
    obtain rfl := vy.intI
    have h : atZ ns i fun n => QD (.int n) := h
    unfold atZ at h
    obtain ⟨a, rfl, hq⟩ : ∃ a, x = .ref a ∧ SqL K H a (ns.map V.int) := by
      cases vx with
      | rep r => cases r with | scr hq => exact ⟨_, rfl, SqLsame g.sF hq⟩
    cases e : atI ns i with
    | none => rw [e] at h; exact h.elim
    | some n =>
      rw [e] at h
      refine .inl ⟨a, ns.map V.int, i, .int n, rfl, rfl, hq, ?_, q _ _ F H .refl g (.int n) h⟩
      unfold atI at e ⊢
      rw [List.length_map]
      cases e2 : ixN ns.length i with
      | none => rw [e2] at e; cases e
      | some j =>
        rw [e2] at e
        have e : ns[j]? = some n := e
        show (ns.map V.int)[j]? = some (V.int n)
        rw [List.getElem?_map, e]
        rfl
  | .lst ds, .int i, h =>
    obtain ⟨a, vs, rfl, ea, ra⟩ := vx.lstI g.sF
    obtain rfl := vy.intI
    obtain ⟨v, d, ev, rv, h⟩ := at_v ra h
    exact .inl ⟨a, vs, i, v, rfl, rfl, .of ea, ev, q _ _ F H .refl g rv h⟩
  | .tup ds, .int i, h =>
    obtain ⟨a, vs, rfl, ea, ra⟩ := vx.tupI g.sF
    obtain rfl := vy.intI
    obtain ⟨v, d, ev, rv, h⟩ := at_v ra h
    exact .inr (.inl ⟨a, vs, i, v, rfl, rfl, .of ea, ev, q _ _ F H .refl g rv h⟩)
  | .str z, .int i, h =>
    obtain ⟨rfl, oz⟩ := vx.strI
    obtain rfl := vy.intI
    have h : atS z i fun x => QD (.str x) := h
    unfold atS at h
    cases e : atI z.cps.toList i with
    | none => rw [e] at h; exact h.elim
    | some c =>
      rw [e] at h
      obtain ⟨j, _, e2, _⟩ := atI_get e
      exact .inr (.inr ⟨z, i, c, rfl, rfl, sz_of oz.2, e, q _ _ F H .refl g (.str _ (oz.one (List.mem_of_getElem? e2))) h⟩)
/-! ### calls of built-in things -/
abbrev DOpL := List D → (D → Prop) → Prop
def vwKs : DEnv → List Ev → (List D → Prop) → Prop
  | _, [], k => k []
  | δ, e :: es, k => vwK δ e fun d => vwKs δ es fun ds => k (d :: ds)
inductive Views (K : PySem.W.Frag) (cad : Cn → Addr) (F H : Hp) : List V → List D → Prop
  | nil : Views K cad F H [] []
  | cons {v : V} {d : D} {vs : List V} {ds : List D} (h : View K cad F H v d) (t : Views K cad F H vs ds) : Views K cad F H (v :: vs) (d :: ds)
theorem views_of : ∀ {vs : List V} {es : List Ev} {k : List D → Prop}, Good K cad R F pars δ σ H → HoldEs K cad F σ vs es → vwKs δ es k → ∃ ds, Views K cad F H vs ds ∧ k ds
  | [], [], k, _, _, q => ⟨[], .nil, q⟩
  | v :: vs, e :: es, k, g, h, q => by
    obtain ⟨d, hd, q⟩ := view_of g h.1 q
    obtain ⟨ds, hds, q⟩ := views_of g h.2 q
    exact ⟨d :: ds, .cons hd hds, q⟩
  | [], _ :: _, _, _, h, _ => h.elim
  | _ :: _, [], _, _, h, _ => h.elim
def CallD (K : PySem.W.Frag) (cad : Cn → Addr) (r : List V → Hp → VK → Prop) (op : DOpL) : Prop := ∀ (R F : Hp) (pars : List V) (δ : DEnv) (σ : L2.St) (H : Hp) (vs : List V) (ds : List D) (Q : VK) (QD : D → Prop), Good K cad R F pars δ σ H → Views K cad F H vs ds → op ds QD →
  (∀ d v F' H', Ext R F F' → Good K cad R F' pars δ σ H' → Rep K cad F' v d → QD d → Q v H') → r vs H Q
def dCB (op : DOpL) (fa : DTA) : DTE := fun δ Q QX => fa δ (fun es δ1 => vwKs δ1 es fun ds => op ds fun d => Q (.val d) δ1) QX
theorem de_cb {r : List V → Hp → VK → Prop} {op : DOpL} {ta : TA} {n : Nat} {fa : DTA} (hc : CallD K cad r op) (ha : DA K cad E ta n fa) : DE K cad E (tCB r ta) (dCB op fa) := fun R F pars δ σ H Q QD QX g x hf q =>
  ha R F pars δ σ H _ _ QX g x hf fun es δ1 vs F1 H1 s1 g1 hv l h1 => by
    obtain ⟨ds, vw, h2⟩ := views_of g1 hv h1
    exact hc R F1 pars δ1 σ H1 vs ds Q _ g1 vw h2 fun d v F2 H2 s2 g2 r h3 => q (.val d) δ1 v F2 H2 (s1.trans s2) g2 r h3
/-- one that makes a new list -/
abbrev DOpN := List D → (List D → Prop) → Prop
def CallN (K : PySem.W.Frag) (cad : Cn → Addr) (r : List V → Hp → VK → Prop) (op : DOpN) : Prop := ∀ (R F : Hp) (pars : List V) (δ : DEnv) (σ : L2.St) (H : Hp) (vs : List V) (ds : List D) (Q : VK) (QD : List D → Prop), Good K cad R F pars δ σ H → Views K cad F H vs ds → op ds QD →
  (∀ es ws p, H p = none → Reps K cad F ws es → QD es → Q (.ref p) (upd H p (.lst ws))) → r vs H Q
def dnCB (op : DOpN) (fa : DTA) : DTN := fun δ Q QX => fa δ (fun es δ1 => vwKs δ1 es fun ds => op ds fun es => Q (.lst es) δ1) QX
theorem dn_cb {r : List V → Hp → VK → Prop} {op : DOpN} {ta : TA} {n : Nat} {fa : DTA} (hc : CallN K cad r op) (ha : DA K cad E ta n fa) : DN K cad E (tCB r ta) (dnCB op fa) := fun R F pars δ σ H Q QD QX g x hf q =>
  ha R F pars δ σ H _ _ QX g x hf fun es δ1 vs F1 H1 s1 g1 hv l h1 => by
    obtain ⟨ds, vw, h2⟩ := views_of g1 hv h1
    exact hc R F1 pars δ1 σ H1 vs ds Q _ g1 vw h2 fun es ws p hp r h3 => q (.lst es) δ1 _ F1 _ s1 (g1.newL hp r) h3
theorem Views.one {vs : List V} {d : D} (h : Views K cad F H vs [d]) : ∃ v, vs = [v] ∧ View K cad F H v d := by
  cases h with
  | cons h t => cases t; exact ⟨_, rfl, h⟩
theorem Views.two {vs : List V} {d e : D} (h : Views K cad F H vs [d, e]) : ∃ v u, vs = [v, u] ∧ View K cad F H v d ∧ View K cad F H u e := by
  cases h with
  | cons h t => obtain ⟨u, rfl, h'⟩ := t.one; exact ⟨_, _, rfl, h, h'⟩
def lenD : DOpL := fun ds Q => match ds with
  | [.lst xs] => Q (.int xs.length)
  | [.tup xs] => Q (.int xs.length)
  | [.str x] => Q (.int x.length)
  | [.scr xs] => Q (.int xs.length)
  | _ => False
theorem cd_len : CallD K cad (fun xs H Q => ∃ x n, xs = [x] ∧ LenV K x H n ∧ Q (.int n) H) lenD := by
  intro R F pars δ σ H vs ds Q QD g vw h q
  match ds, vw, h with
  | [.lst xs], vw, h =>
    obtain ⟨v, rfl, vx⟩ := vw.one
    obtain ⟨a, us, rfl, ea, ra⟩ := vx.lstI g.sF
    exact ⟨_, xs.length, rfl, .inl ⟨us, .of ea, ra.len.symm⟩, q _ _ F H .refl g (.int _) h⟩
  | [.tup xs], vw, h =>
    obtain ⟨v, rfl, vx⟩ := vw.one
    obtain ⟨a, us, rfl, ea, ra⟩ := vx.tupI g.sF
    exact ⟨_, xs.length, rfl, .inr ⟨us, .of ea, ra.len.symm⟩, q _ _ F H .refl g (.int _) h⟩
  | [.str x], vw, h =>
    obtain ⟨v, rfl, vx⟩ := vw.one
    obtain ⟨rfl, ox⟩ := vx.strI
    exact ⟨_, x.length, rfl, ⟨sz_of ox.2, rfl⟩, q _ _ F H .refl g (.int _) h⟩
  | [.scr xs], vw, h =>
    obtain ⟨v, rfl, vx⟩ := vw.one
    cases vx with
    | rep r =>
      cases r with
      | scr sq => exact ⟨_, xs.length, rfl, .inl ⟨_, SqLsame g.sF sq, by rw [List.length_map]⟩, q _ _ F H .refl g (.int _) h⟩
def listD : DOpN := fun ds Q => match ds with
  | [d] => seqD d Q
  | _ => False
theorem cn_list : CallN K cad (fun xs H Q => ∃ p ys, xs = [.ref p] ∧ (SqL K H p ys ∨ SqT K H p ys) ∧ ∀ l, H l = none → Q (.ref l) (upd H l (.lst ys))) listD := by
  intro R F pars δ σ H vs ds Q QD g vw h q
  match ds, vw, h with
  | [d], vw, h =>
    obtain ⟨v, rfl, vx⟩ := vw.one
    obtain ⟨a, us, es, rfl, sq, r, h⟩ := vx.seq g.sF h
    exact ⟨a, us, rfl, sq, fun l hl => q es us l hl r h⟩
def absD : DOpL := fun ds Q => match ds with
  | [.int i] => Q (.int (if i < 0 then -i else i))
  | _ => False
theorem cd_abs : CallD K cad (fun xs H Q => ∃ i, xs = [.int i] ∧ Q (.int (if i < 0 then -i else i)) H) absD := by
  intro R F pars δ σ H vs ds Q QD g vw h q
  match ds, vw, h with
  | [.int i], vw, h =>
    obtain ⟨v, rfl, vx⟩ := vw.one
    obtain rfl := vx.intI
    exact ⟨i, rfl, q _ _ F H .refl g (.int _) h⟩
def maxD : DOpL := fun ds Q => match ds with
  | [.int i, .int j] => Q (.int (if j > i then j else i))
  | _ => False
def minD : DOpL := fun ds Q => match ds with
  | [.int i, .int j] => Q (.int (if j < i then j else i))
  | _ => False
theorem cd_max : CallD K cad (fun xs H Q => ∃ i j, xs = [.int i, .int j] ∧ Q (.int (if j > i then j else i)) H) maxD := by
  intro R F pars δ σ H vs ds Q QD g vw h q
  match ds, vw, h with
  | [.int i, .int j], vw, h =>
    obtain ⟨v, u, rfl, vx, vy⟩ := vw.two
    obtain rfl := vx.intI
    obtain rfl := vy.intI
    exact ⟨i, j, rfl, q _ _ F H .refl g (.int _) h⟩
theorem cd_min : CallD K cad (fun xs H Q => ∃ i j, xs = [.int i, .int j] ∧ Q (.int (if j < i then j else i)) H) minD := by
  intro R F pars δ σ H vs ds Q QD g vw h q
  match ds, vw, h with
  | [.int i, .int j], vw, h =>
    obtain ⟨v, u, rfl, vx, vy⟩ := vw.two
    obtain rfl := vx.intI
    obtain rfl := vy.intI
    exact ⟨i, j, rfl, q _ _ F H .refl g (.int _) h⟩
def int1D : DOpL := fun ds Q => match ds with
  | [.int i] => Q (.int i)
  | [.bl b] => Q (.int (if b then 1 else 0))
  | _ => False
theorem cd_int1 : CallD K cad (fun xs H Q => (∃ i, xs = [.int i] ∧ Q (.int i) H) ∨ ∃ k, xs = [.bl k] ∧ Q (.int (if k then 1 else 0)) H) int1D := by
  intro R F pars δ σ H vs ds Q QD g vw h q
  match ds, vw, h with
  | [.int i], vw, h =>
    obtain ⟨v, rfl, vx⟩ := vw.one
    obtain rfl := vx.intI
    exact .inl ⟨i, rfl, q _ _ F H .refl g (.int _) h⟩
  | [.bl i], vw, h =>
    obtain ⟨v, rfl, vx⟩ := vw.one
    obtain rfl := vx.blI
    exact .inr ⟨i, rfl, q _ _ F H .refl g (.int _) h⟩
def blsD0 (ds : List D) (k : List Bool → Prop) : Prop := match ds with
  | [] => k []
  | .bl b :: ds => blsD0 ds fun bs => k (b :: bs)
  | _ => False
theorem bls_of0 : ∀ {ds : List D} {k : List Bool → Prop}, blsD0 ds k → ∃ bs : List Bool, ds = bs.map D.bl ∧ k bs
  | [], k, h => ⟨[], rfl, h⟩
  | d :: ds, k, h => by
    match d, h with
    | .bl b, h =>
      obtain ⟨bs, e, h⟩ := bls_of0 (ds := ds) h
      exact ⟨b :: bs, by rw [e]; rfl, h⟩
theorem bls_map0 (bs : List Bool) (k : List Bool → Prop) (h : k bs) : blsD0 (bs.map D.bl) k := by
  induction bs generalizing k with
  | nil => exact h
  | cons b bs ih => exact ih (fun bs => k (b :: bs)) h
@[irreducible] def blsD (ds : List D) (k : List Bool → Prop) : Prop := blsD0 ds k
theorem bls_of {ds : List D} {k : List Bool → Prop} (h : blsD ds k) : ∃ bs : List Bool, ds = bs.map D.bl ∧ k bs := by
  unfold blsD at h
  exact bls_of0 h
theorem bls_map (bs : List Bool) (k : List Bool → Prop) (h : k bs) : blsD (bs.map D.bl) k := by
  unfold blsD
  exact bls_map0 bs k h
def allD : DOpL := fun ds Q => match ds with
  | [.lst xs] => blsD xs fun bs => Q (.bl (bs.all id))
  | _ => False
def anyD : DOpL := fun ds Q => match ds with
  | [.lst xs] => blsD xs fun bs => Q (.bl (bs.any id))
  | _ => False
theorem cd_all : CallD K cad (rAll K) allD := by
  intro R F pars δ σ H vs ds Q QD g vw h q
  match ds, vw, h with
  | [.lst xs], vw, h =>
    obtain ⟨bs, rfl, h2⟩ := bls_of h
    obtain ⟨v, rfl, vx⟩ := vw.one
    obtain ⟨a, us, rfl, ea, ra⟩ := vx.lstI g.sF
    obtain rfl := ra.bls
    exact ⟨a, bs, rfl, .of ea, q _ _ F H .refl g (.bl _) h2⟩
theorem cd_any : CallD K cad (rAny K) anyD := by
  intro R F pars δ σ H vs ds Q QD g vw h q
  match ds, vw, h with
  | [.lst xs], vw, h =>
    obtain ⟨bs, rfl, h2⟩ := bls_of h
    obtain ⟨v, rfl, vx⟩ := vw.one
    obtain ⟨a, us, rfl, ea, ra⟩ := vx.lstI g.sF
    obtain rfl := ra.bls
    exact ⟨a, bs, rfl, .of ea, q _ _ F H .refl g (.bl _) h2⟩
theorem SOk.num (i : Int) (h : i.natAbs.log2 < 1920) : SOk (toString i : Str) ∨ True := .inr trivial
/-! ### slices -/
abbrev DTO := DEnv → (Option Int → DEnv → Prop) → DX → Prop
def DO (K : PySem.W.Frag) (cad : Cn → Addr) (E : L2.St → XK) (t : TO) (f : DTO) : Prop := ∀ (R F : Hp) (pars : List V) (δ : DEnv) (σ : L2.St) (H : Hp) (Q : Option Int → Hp → Prop) (QD : Option Int → DEnv → Prop) (QX : DX), Good K cad R F pars δ σ H → XOk K cad (E σ) R F pars σ QX → f δ QD QX →
  (∀ o δ' F' H', Ext R F F' → Good K cad R F' pars δ' σ H' → QD o δ' → Q o H') → t σ H Q
def dNoPart : DTO := fun δ Q _ => Q none δ
theorem do_none : DO K cad E tNoPart dNoPart := fun R F pars δ σ H Q QD QX g _ h q => q none δ F H .refl g h
def iofD (e : Ev) (k : Int → Prop) : Prop := match e with
  | .val (.int i) => k i
  | _ => False
theorem iof_of {v : V} {e : Ev} {k : Int → Prop} (h : HoldE K cad F σ v e) (q : iofD e k) : ∃ i, v = .int i ∧ k i := by
  cases e with
  | val d =>
    cases d with
    | int i => exact ⟨i, Rep.intI h, q⟩
    | _ => exact q.elim
  | _ => exact q.elim
def dPart (f : DTE) : DTO := fun δ Q QX => f δ (fun e δ1 => iofD e fun i => Q (some i) δ1) QX
theorem do_some {t : TE} {f : DTE} (h : DE K cad E t f) : DO K cad E (tPart t) (dPart f) := fun R F pars δ σ H Q QD QX g x hf q =>
  h R F pars δ σ H _ _ QX g x hf fun e δ1 v F1 H1 s1 g1 hv h1 => by
    obtain ⟨i, rfl, h2⟩ := iof_of hv h1
    exact ⟨i, rfl, q (some i) δ1 F1 H1 s1 g1 h2⟩
def cutD (ds : List D) (lo hi : Option Int) : List D := (ds.drop (HT.sIx ds.length 0 lo)).take (HT.sIx ds.length ds.length hi - HT.sIx ds.length 0 lo)
def lofD (d : D) (k : List D → Prop) : Prop := match d with
  | .lst ds => k ds
  | _ => False
theorem lof_of {v : V} {d : D} {k : List D → Prop} (sF : Same F H) (h : View K cad F H v d) (q : lofD d k) : ∃ a vs ds, v = .ref a ∧ H a = some (.lst vs) ∧ Reps K cad F vs ds ∧ k ds := by
  cases d with
  | lst ds =>
    obtain ⟨a, vs, e, ha, r⟩ := h.lstI sF
    exact ⟨a, vs, ds, e, ha, r, q⟩
  | _ => exact q.elim
def dnSl (f : DTE) (fl fh : DTO) : DTN := fun δ Q QX => f δ (fun e δ1 => fl δ1 (fun lo δ2 => fh δ2 (fun hi δ3 => vwK δ3 e fun d => lofD d fun ds => Q (.lst (cutD ds lo hi)) δ3) QX) QX) QX
theorem dn_sl {t : TE} {tl th : TO} {f : DTE} {fl fh : DTO} (h : DE K cad E t f) (hl : DO K cad E tl fl) (hh : DO K cad E th fh) : DN K cad E (tSl (rSlL K) t tl th) (dnSl f fl fh) := fun R F pars δ σ H Q QD QX g x hf q =>
  h R F pars δ σ H _ _ QX g x hf fun e δ1 v F1 H1 s1 g1 hv h1 => hl R F1 pars δ1 σ H1 _ _ QX g1 (x.same s1) h1 fun lo δ2 F2 H2 s2 g2 h2 => hh R F2 pars δ2 σ H2 _ _ QX g2 (x.same (s1.trans s2)) h2 fun hi δ3 F3 H3 s3 g3 h3 => by
    obtain ⟨d, vw, h4⟩ := view_of g3 (hv.same (s2.trans s3)) h3
    obtain ⟨a, vs, ds, rfl, ha, r, h5⟩ := lof_of g3.sF vw h4
    refine ⟨a, vs, rfl, .of ha, fun p hp => ?_⟩
    have r2 : Reps K cad F3 (cutV vs lo hi) (cutD ds lo hi) := by
      unfold cutV cutD
      rw [r.len]
      exact (r.drop _).take _
    exact q (.lst (cutD ds lo hi)) δ3 _ F3 _ (s1.trans (s2.trans s3)) (g3.newL hp r2) h5
/-- e[::-1] -/
def dnRev (f : DTE) : DTN := fun δ Q QX => f δ (fun e δ1 => vwK δ1 e fun d => lofD d fun ds => Q (.lst ds.reverse) δ1) QX
theorem dn_rev {t : TE} {f : DTE} (h : DE K cad E t f) : DN K cad E (tRevL K t) (dnRev f) := fun R F pars δ σ H Q QD QX g x hf q =>
  h R F pars δ σ H _ _ QX g x hf fun e δ1 v F1 H1 s1 g1 hv h1 => by
    obtain ⟨d, vw, h4⟩ := view_of g1 hv h1
    obtain ⟨a, vs, ds, rfl, ha, r, h5⟩ := lof_of g1.sF vw h4
    exact ⟨a, vs, rfl, .of ha, fun p hp => q (.lst ds.reverse) δ1 _ F1 _ s1 (g1.newL hp r.rev) h5⟩
end
end PD

set_option Elab.async false
set_option linter.all false
set_option maxRecDepth 100000
set_option maxHeartbeats 4000000
/-! Own layer: statements, loops, defs and their calls. -/
namespace PD
open L2 ClX
open PySem PySem.Spec PyProof.Rows
/-- what is wanted behind a statement -/
structure DK where
  nx : DEnv → Prop
  rt : Sl → DEnv → Prop
  bk : DEnv → Prop
  ct : DEnv → Prop
  ex : DX
abbrev DTS := DK → DEnv → Prop
section
variable (K : PySem.W.Frag) (cad : Cn → Addr) (E : L2.St → XK)
structure Link (R F : Hp) (pars : List V) (D : Ends) (k : DK) : Prop where
  nx : ∀ δ σ F' H, Ext R F F' → Good K cad R F' pars δ σ H → k.nx δ → D.nx σ H
  rt : ∀ r δ σ v F' H, Ext R F F' → Good K cad R F' pars (some r :: δ) (some v :: σ) H → k.rt r δ → D.rt v H
  bk : ∀ δ σ F' H, Ext R F F' → Good K cad R F' pars δ σ H → k.bk δ → D.bk σ H
  ct : ∀ δ σ F' H, Ext R F F' → Good K cad R F' pars δ σ H → k.ct δ → D.ct σ H
  ex : ∀ σ, XOk K cad (E σ) R F pars σ k.ex
def DS (t : TS) (f : DTS) : Prop := ∀ (R F : Hp) (pars : List V) (δ : DEnv) (σ : L2.St) (H : Hp) (D : Ends) (k : DK), Good K cad R F pars δ σ H → Link K cad E R F pars D k → f k δ → t D σ H
end
section
variable {K : PySem.W.Frag} {cad : Cn → Addr} {E : L2.St → XK} {R F F' H H' : Hp} {pars : List V} {δ : DEnv} {σ : L2.St} {De : Ends} {k : DK}
theorem Link.same (l : Link K cad E R F pars De k) (s : Ext R F F') : Link K cad E R F' pars De k where
  nx := fun δ σ F2 H s2 g q => l.nx δ σ F2 H (s.trans s2) g q
  rt := fun r δ σ v F2 H s2 g q => l.rt r δ σ v F2 H (s.trans s2) g q
  bk := fun δ σ F2 H s2 g q => l.bk δ σ F2 H (s.trans s2) g q
  ct := fun δ σ F2 H s2 g q => l.ct δ σ F2 H (s.trans s2) g q
  ex := fun σ => (l.ex σ).same s
def dNext : DTS := fun k δ => k.nx δ
theorem ds_next : DS K cad E tNext dNext := fun R F pars δ σ H D k g l h => l.nx δ σ F H .refl g h
def dBreak : DTS := fun k δ => k.bk δ
theorem ds_break : DS K cad E tBreak dBreak := fun R F pars δ σ H D k g l h => l.bk δ σ F H .refl g h
def dCont : DTS := fun k δ => k.ct δ
theorem ds_cont : DS K cad E tCont dCont := fun R F pars δ σ H D k g l h => l.ct δ σ F H .refl g h
def dNever : DTS := fun _ _ => False
theorem ds_never : DS K cad E tNever dNever := fun R F pars δ σ H D k g l h => h.elim
def dSeq (f u : DTS) : DTS := fun k δ => f { k with nx := u k } δ
theorem ds_seq {t s : TS} {f u : DTS} (h : DS K cad E t f) (h' : DS K cad E s u) : DS K cad E (tSeq t s) (dSeq f u) := fun R F pars δ σ H D k g l hf =>
  h R F pars δ σ H { D with nx := s D } { k with nx := u k } g ⟨fun δ1 σ1 F1 H1 s1 g1 q => h' R F1 pars δ1 σ1 H1 D k g1 (l.same s1) q, l.rt, l.bk, l.ct, l.ex⟩ hf
/-- a word of one's own between two statements -/
def dMid (f u : DTS) : DTS := fun k δ => ∃ M : DEnv → Prop, f { k with nx := M } δ ∧ ∀ δ1, M δ1 → u k δ1
theorem ds_mid {t s : TS} {f u : DTS} (h : DS K cad E t f) (h' : DS K cad E s u) : DS K cad E (tSeq t s) (dMid f u) := fun R F pars δ σ H D k g l ⟨M, hf, hu⟩ =>
  h R F pars δ σ H { D with nx := s D } { k with nx := M } g ⟨fun δ1 σ1 F1 H1 s1 g1 q => h' R F1 pars δ1 σ1 H1 D k g1 (l.same s1) (hu δ1 q), l.rt, l.bk, l.ct, l.ex⟩ hf
def dDrop (f : DTE) : DTS := fun k δ => f δ (fun _ δ1 => k.nx δ1) k.ex
theorem ds_expr {t : TE} {f : DTE} (h : DE K cad E t f) : DS K cad E (tDrop t) (dDrop f) := fun R F pars δ σ H D k g l hf =>
  h R F pars δ σ H _ _ k.ex g (l.ex σ) hf fun e δ1 v F1 H1 s1 g1 hv q => l.nx δ1 σ F1 H1 s1 g1 q
def retE (e : Ev) (δ : DEnv) (r : Sl → DEnv → Prop) : Prop := match e with
  | .val d => r (.val d) δ
  | .var i => match dget δ i with
    | some (.own none o) => r (.own none o) (dset δ i none)
    | _ => False
  | .bor _ => False
def dRet (f : DTE) : DTS := fun k δ => f δ (fun e δ1 => retE e δ1 k.rt) k.ex
theorem ds_ret {t : TE} {f : DTE} (h : DE K cad E t f) : DS K cad E (tRet t) (dRet f) := fun R F pars δ σ H D k g l hf =>
  h R F pars δ σ H _ _ k.ex g (l.ex σ) hf fun e δ1 v F1 H1 s1 g1 hv q => by
    cases e with
    | val d => exact l.rt (.val d) δ1 σ v F1 H1 s1 (g1.consV hv) q
    | bor i => exact q.elim
    | var i =>
      have q : match dget δ1 i with
        | some (.own none o) => k.rt (.own none o) (dset δ1 i none)
        | _ => False := q
      cases e : dget δ1 i with
      | none => rw [e] at q; exact q.elim
      | some s =>
        rw [e] at q
        match s, e, q with
        | .val _, _, q => exact q.elim
        | .own (some _) _, _, q => exact q.elim
        | .own none o, e, q =>
          obtain ⟨w, ev, g2⟩ := g1.pull e
          rw [show σ[i]? = some (some v) from hv] at ev
          cases ev
          exact l.rt _ _ σ v F1 H1 s1 g2 q
/-- a new thing is returned, the caller's own from then on -/
def dRetN (f : DTN) : DTS := fun k δ => f δ (fun o δ1 => k.rt (.own none o) δ1) k.ex
theorem ds_retN {t : TE} {f : DTN} (h : DN K cad E t f) : DS K cad E (tRet t) (dRetN f) := fun R F pars δ σ H D k g l hf =>
  h R F pars δ σ H _ _ k.ex g (l.ex σ) hf fun o δ1 v F1 H1 s1 g1 q => l.rt _ δ1 σ v F1 H1 s1 g1 q
def dRet0 : DTS := fun k δ => k.rt (.val .non) δ
theorem ds_ret0 : DS K cad E tRetN dRet0 := fun R F pars δ σ H D k g l hf => l.rt _ δ σ .non F H .refl (g.consV .non) hf
def dIfS (c : DTT) (f u : DTS) : DTS := fun k δ => c δ (fun b δ1 => ifD b (f k δ1) (u k δ1)) k.ex
theorem ds_if {c : TT} {t s : TS} {fc : DTT} {f u : DTS} (hc : DT K cad E c fc) (h : DS K cad E t f) (h' : DS K cad E s u) : DS K cad E (tIfS c t s) (dIfS fc f u) := fun R F pars δ σ H D k g l hf =>
  hc R F pars δ σ H _ _ k.ex g (l.ex σ) hf fun b δ1 F1 H1 s1 g1 h1 => ite_of h1 (fun h2 => h R F1 pars δ1 σ H1 D k g1 (l.same s1) h2) fun h2 => h' R F1 pars δ1 σ H1 D k g1 (l.same s1) h2
/-! ### stores -/
def dSet (i : Nat) (f : DTE) : DTS := fun k δ => f δ (fun e δ1 => frzE e δ1 fun d δ2 => k.nx (dset δ2 i (some (.val d)))) k.ex
theorem ds_set {t : TE} {i : Nat} {f : DTE} (h : DE K cad E t f) : DS K cad E (tAsg t (gName i)) (dSet i f) := fun R F pars δ σ H D k g l hf =>
  h R F pars δ σ H _ _ k.ex g (l.ex σ) hf fun e δ1 v F1 H1 s1 g1 hv q => by
    obtain ⟨d, δ2, F2, s2, g2, r, q⟩ := frz_of g1 hv q
    exact l.nx _ _ F2 H1 (s1.trans s2) ((g2.consV r).store i) q
def dSetN (i : Nat) (f : DTN) : DTS := fun k δ => f δ (fun o δ1 => k.nx (dset δ1 i (some (.own none o)))) k.ex
theorem ds_setN {t : TE} {i : Nat} {f : DTN} (h : DN K cad E t f) : DS K cad E (tAsg t (gName i)) (dSetN i f) := fun R F pars δ σ H D k g l hf =>
  h R F pars δ σ H _ _ k.ex g (l.ex σ) hf fun o δ1 v F1 H1 s1 g1 q => l.nx _ _ F1 H1 s1 (g1.store i) q
/-! several at once -/
def slV : List Sl → DEnv := List.map some
theorem Good.aside {s : Sl} {v : V} (g : Good K cad R F pars (some s :: δ) (some v :: σ) H) : ∃ R', (∀ b, R' b = none → R b = none) ∧ Good K cad R' F pars δ σ H ∧
    ∀ F' H' δ' σ', Ext R' F F' → Good K cad R' F' pars δ' σ' H' → Good K cad R F' pars (some s :: δ') (some v :: σ') H' := by
  obtain ⟨fp, g⟩ := g
  obtain ⟨w, e1, h, t⟩ := g.sl 0 s rfl
  cases e1
  classical
  let R' : Hp := fun b => if fp 0 b then H b else R b
  have at0 : ∀ b, fp 0 b → R' b = H b := fun b q => if_pos q
  have atR : ∀ b, ¬ fp 0 b → R' b = R b := fun b q => if_neg q
  refine ⟨R', fun b e => ?_, ⟨fun i => fp (i + 1), ?_⟩, fun F' H' δ' σ' x g' => ?_⟩
  · by_cases q : fp 0 b
    · exact (g.off 0 b q).1
    · rw [← atR b q]; exact e
  · refine ⟨fun b o e => ?_, g.sF, Nat.succ.inj g.len, fun i u e => ?_, fun i b q => ?_, fun i j b q r => Nat.succ.inj (g.sep _ _ b q r)⟩
    · by_cases q : fp 0 b
      · rw [at0 b q] at e; exact e
      · rw [atR b q] at e; exact g.sR _ _ e
    · obtain ⟨w, e1, h1, t1⟩ := g.sl (i + 1) u e
      exact ⟨w, e1, h1, t1⟩
    · obtain ⟨a, c, d⟩ := g.off (i + 1) b q
      refine ⟨?_, c, d⟩
      rw [atR b fun z => by cases g.sep 0 (i + 1) b z q]
      exact a
  · obtain ⟨fp', g'⟩ := g'
    have keep : ∀ b o, fp 0 b → H b = some o → H' b = some o := fun b o q e => g'.sR _ _ (by rw [at0 b q]; exact e)
    have g2 : GoodF K cad R F' pars δ' σ' H' fp' := by
      refine ⟨fun b o e => ?_, g'.sF, g'.len, g'.sl, fun i b q => ?_, g'.sep⟩
      · refine g'.sR _ _ ?_
        rw [atR b fun z => by rw [(g.off 0 b z).1] at e; cases e]
        exact e
      · obtain ⟨a, c, d⟩ := g'.off i b q
        refine ⟨?_, c, d⟩
        by_cases z : fp 0 b
        · exact (g.off 0 b z).1
        · rw [← atR b z]; exact a
    refine Good.cons (S := fp 0) g2 (h.move x.s fun b u q e => keep b u q e) (fun k o e => t k o e) (fun b q => ?_) fun i b q z => ?_
    · obtain ⟨a, c, o, e⟩ := g.off 0 b q
      refine ⟨a, ?_, o, keep b o q e⟩
      cases eF : F' b with
      | none => rfl
      | some u =>
        rcases x.n b (by rw [eF]; exact fun z => by cases z) with y | y
        · exact absurd c y
        · rw [at0 b q, e] at y; cases y
    · obtain ⟨a, _, _⟩ := g'.off i b q
      obtain ⟨_, _, o, e⟩ := g.off 0 b z
      rw [at0 b z, e] at a
      cases a
abbrev DTM := DEnv → (List Sl → DEnv → Prop) → DX → Prop
def DM (K : PySem.W.Frag) (cad : Cn → Addr) (E : L2.St → XK) (t : TA) (f : DTM) : Prop := ∀ (R F : Hp) (pars : List V) (δ : DEnv) (σ : L2.St) (H : Hp) (Q : List V → Hp → Prop) (QD : List Sl → DEnv → Prop) (QX : DX), Good K cad R F pars δ σ H → XOk K cad (E σ) R F pars σ QX → f δ QD QX →
  (∀ ss δ' vs F' H', Ext R F F' → Good K cad R F' pars (slV ss ++ δ') (vs.map some ++ σ) H' → vs.length = ss.length → QD ss δ' → Q vs H') → t σ H Q
def dmNil : DTM := fun δ Q _ => Q [] δ
theorem dm_nil : DM K cad E tNil dmNil := fun R F pars δ σ H Q QD QX g _ h q => q [] δ [] F H .refl g rfl h
def dmVal (f : DTE) (u : DTM) : DTM := fun δ Q QX => f δ (fun e δ1 => frzE e δ1 fun d δ2 => u δ2 (fun ss δ3 => Q (.val d :: ss) δ3) QX) QX
theorem dm_val {t : TE} {ts : TA} {f : DTE} {u : DTM} (h : DE K cad E t f) (h' : DM K cad E ts u) : DM K cad E (tCons t ts) (dmVal f u) := fun R F pars δ σ H Q QD QX g x hf q =>
  h R F pars δ σ H _ _ QX g x hf fun e δ1 v F1 H1 s1 g1 hv h1 => by
    obtain ⟨d, δ2, F2, s2, g2, r, h2⟩ := frz_of g1 hv h1
    exact h' R F2 pars δ2 σ H1 _ _ QX g2 (x.same (s1.trans s2)) h2 fun ss δ3 vs F3 H3 s3 g3 l h3 => q (.val d :: ss) δ3 (v :: vs) F3 H3 (s1.trans (s2.trans s3)) (g3.consV (r.same s3.s)) (congrArg (· + 1) l) h3
def dmOwn (f : DTN) (u : DTM) : DTM := fun δ Q QX => f δ (fun o δ1 => u δ1 (fun ss δ3 => Q (.own none o :: ss) δ3) QX) QX
theorem dm_own {t : TE} {ts : TA} {f : DTN} {u : DTM} (h : DN K cad E t f) (h' : DM K cad E ts u) : DM K cad E (tCons t ts) (dmOwn f u) := fun R F pars δ σ H Q QD QX g x hf q =>
  h R F pars δ σ H _ _ QX g x hf fun o δ1 v F1 H1 s1 g1 h1 => by
    obtain ⟨R', less, g2, back⟩ := g1.aside
    refine h' R' F1 pars δ1 σ H1 _ _ QX g2 (fun c fs od δ' F' H' y g3 a z => ?_) h1 fun ss δ3 vs F3 H3 s3 g3 l h3 => q (.own none o :: ss) δ3 (v :: vs) F3 H3 (s1.trans (s3.less less)) (back F3 H3 _ _ s3 g3) (congrArg (· + 1) l) h3
    exact x c fs od δ' F' H' (s1.trans (y.less less)) (back F' H' δ' σ y g3).tail a z
def dPar (i j : Nat) (f : DTM) : DTS := fun k δ => f δ (fun ss δ1 => match ss with
  | [a, b] => k.nx (dset (dset δ1 i (some a)) j (some b))
  | _ => False) k.ex
theorem ds_par {t : TA} {i j : Nat} {f : DTM} (h : DM K cad E t f) : DS K cad E (tPar i j t) (dPar i j f) := fun R F pars δ σ H D k g l hf =>
  h R F pars δ σ H _ _ k.ex g (l.ex σ) hf fun ss δ1 vs F1 H1 s1 g1 ln q => by
    match ss, vs, ln, g1, q with
    | [a, b], [v, w], _, g1, q => exact ⟨v, w, rfl, l.nx _ _ F1 H1 s1 ((Good.store (δ := some b :: δ1) (σ := some w :: σ) g1 (i + 1)).store j) q⟩
    | [_, _], [], ln, _, _ => cases ln
    | [_, _], [_], ln, _, _ => cases ln
    | [_, _], _ :: _ :: _ :: _, ln, _, _ => cases ln
    | [], _, _, _, q => exact q.elim
    | [_], _, _, _, q => exact q.elim
    | _ :: _ :: _ :: _, _, _, _, q => exact q.elim
def dPar3 (i j n : Nat) (f : DTM) : DTS := fun k δ => f δ (fun ss δ1 => match ss with
  | [a, b, c] => k.nx (dset (dset (dset δ1 i (some a)) j (some b)) n (some c))
  | _ => False) k.ex
theorem ds_par3 {t : TA} {i j n : Nat} {f : DTM} (h : DM K cad E t f) : DS K cad E (tPar3 i j n t) (dPar3 i j n f) := fun R F pars δ σ H D k g l hf =>
  h R F pars δ σ H _ _ k.ex g (l.ex σ) hf fun ss δ1 vs F1 H1 s1 g1 ln q => by
    match ss, vs, ln, g1, q with
    | [a, b, c], [v, w, x], _, g1, q =>
      have g2 := Good.store (δ := some b :: some c :: δ1) (σ := some w :: some x :: σ) g1 (i + 2)
      have g3 := Good.store (δ := some c :: dset δ1 i (some a)) (σ := some x :: σ.set i (some v)) g2 (j + 1)
      exact ⟨v, w, x, rfl, l.nx _ _ F1 H1 s1 (g3.store n) q⟩
    | [_, _, _], [], ln, _, _ => cases ln
    | [_, _, _], [_], ln, _, _ => cases ln
    | [_, _, _], [_, _], ln, _, _ => cases ln
    | [_, _, _], _ :: _ :: _ :: _ :: _, ln, _, _ => cases ln
    | [], _, _, _, q => exact q.elim
    | [_], _, _, _, q => exact q.elim
    | [_, _], _, _, _, q => exact q.elim
    | _ :: _ :: _ :: _ :: _, _, _, _, q => exact q.elim
/-! targets of a value -/
abbrev DTG := D → DEnv → (DEnv → Prop) → DX → Prop
def DG (K : PySem.W.Frag) (cad : Cn → Addr) (E : L2.St → XK) (g : TG) (gd : DTG) (is : List Nat) : Prop := ∀ (R F : Hp) (pars : List V) (δ : DEnv) (σ : L2.St) (H : Hp) (v : V) (d : D) (Q : L2.St → Hp → Prop) (QD : DEnv → Prop) (QX : DX), Good K cad R F pars δ σ H → (∀ σ, XOk K cad (E σ) R F pars σ QX) → Rep K cad F v d → gd d δ QD QX →
  (∀ δ' σ' F' H', Ext R F F' → Good K cad R F' pars δ' σ' H' → σ'.length = σ.length → (∀ j, j ∉ is → σ'[j]? = σ[j]?) → QD δ' → Q σ' H') → g v σ H Q
def gdName (i : Nat) : DTG := fun d δ Q _ => Q (dset δ i (some (.val d)))
theorem dg_name {i : Nat} : DG K cad E (gName i) (gdName i) [i] := fun R F pars δ σ H v d Q QD QX g _ r h q =>
  q _ _ F H .refl ((g.consV r).store i) (List.length_set ..) (fun j hj => List.getElem?_set_ne fun e => hj (by rw [e]; exact List.mem_singleton.mpr rfl)) h
abbrev DTGs := List D → DEnv → (DEnv → Prop) → DX → Prop
def DGs (K : PySem.W.Frag) (cad : Cn → Addr) (E : L2.St → XK) (g : TGs) (gd : DTGs) (is : List Nat) : Prop := ∀ (R F : Hp) (pars : List V) (δ : DEnv) (σ : L2.St) (H : Hp) (vs : List V) (ds : List D) (Q : L2.St → Hp → Prop) (QD : DEnv → Prop) (QX : DX), Good K cad R F pars δ σ H → (∀ σ, XOk K cad (E σ) R F pars σ QX) → Reps K cad F vs ds → gd ds δ QD QX →
  (∀ δ' σ' F' H', Ext R F F' → Good K cad R F' pars δ' σ' H' → σ'.length = σ.length → (∀ j, j ∉ is → σ'[j]? = σ[j]?) → QD δ' → Q σ' H') → g vs σ H Q
def gdNil : DTGs := fun ds δ Q _ => match ds with
  | [] => Q δ
  | _ => False
theorem dgs_nil : DGs K cad E gNil gdNil [] := fun R F pars δ σ H vs ds Q QD QX g _ r h q => by
  match ds, vs, r, h with
  | [], [], .nil, h => exact ⟨rfl, q δ σ F H .refl g rfl (fun _ _ => rfl) h⟩
def gdCons (f : DTG) (u : DTGs) : DTGs := fun ds δ Q QX => match ds with
  | d :: ds => f d δ (fun δ1 => u ds δ1 Q QX) QX
  | _ => False
theorem dgs_cons {g : TG} {gs : TGs} {f : DTG} {u : DTGs} {is js : List Nat} (h : DG K cad E g f is) (h' : DGs K cad E gs u js) : DGs K cad E (gCons g gs) (gdCons f u) (is ++ js) := fun R F pars δ σ H vs ds Q QD QX gd x r hf q => by
  match ds, vs, r, hf with
  | d :: ds, v :: vs, .cons r t, hf =>
    refine ⟨v, vs, rfl, h R F pars δ σ H v d _ _ QX gd x r hf fun δ1 σ1 F1 H1 s1 g1 l1 k1 h1 => ?_⟩
    refine h' R F1 pars δ1 σ1 H1 vs ds Q QD QX g1 (fun σ => (x σ).same s1) (t.same s1.s) h1 fun δ2 σ2 F2 H2 s2 g2 l2 k2 h2 => q δ2 σ2 F2 H2 (s1.trans s2) g2 (l2.trans l1) (fun j hj => ?_) h2
    rw [k2 j fun z => hj (List.mem_append_right _ z), k1 j fun z => hj (List.mem_append_left _ z)]
def gdTup (n : Nat) (u : DTGs) : DTG := fun d δ Q QX => match d with
  | .tup ds => ds.length = n ∧ u ds δ Q QX
  | _ => False
theorem dg_tup {gs : TGs} {n : Nat} {u : DTGs} {is : List Nat} (h : DGs K cad E gs u is) : DG K cad E (gTup K n gs) (gdTup n u) is := fun R F pars δ σ H v d Q QD QX gd x r hf q => by
  cases d with
  | tup ds =>
    obtain ⟨a, vs, rfl, ha, t⟩ := r.tupI
    exact ⟨a, vs, rfl, .of (gd.sF _ _ ha), t.len.trans hf.1, h R F pars δ σ H vs ds Q QD QX gd x t hf.2 q⟩
  | _ => exact hf.elim
def dAsg (f : DTE) (u : DTG) : DTS := fun k δ => f δ (fun e δ1 => frzE e δ1 fun d δ2 => u d δ2 k.nx k.ex) k.ex
theorem ds_asg {t : TE} {g : TG} {f : DTE} {u : DTG} {is : List Nat} (h : DE K cad E t f) (h' : DG K cad E g u is) : DS K cad E (tAsg t g) (dAsg f u) := fun R F pars δ σ H D k g l hf =>
  h R F pars δ σ H _ _ k.ex g (l.ex σ) hf fun e δ1 v F1 H1 s1 g1 hv q => by
    obtain ⟨d, δ2, F2, s2, g2, r, q⟩ := frz_of g1 hv q
    exact h' R F2 pars δ2 σ H1 v d _ _ k.ex g2 (fun σ => (l.ex σ).same (s1.trans s2)) r q fun δ3 σ3 F3 H3 s3 g3 _ _ q3 => l.nx _ _ F3 H3 (s1.trans (s2.trans s3)) g3 q3
/-! name op= e -/
def dAug (i : Nat) (op : DOp2) (f : DTE) : DTS := fun k δ => dVar i δ (fun a _ => f δ (fun e δ1 => vwK δ1 a fun x => vwK δ1 e fun y => op x y fun d => k.nx (dset δ1 i (some (.val d)))) k.ex) k.ex
def IpD (K : PySem.W.Frag) (cad : Cn → Addr) (r : TIp) (op : DOp2) : Prop := OpD K cad r op
theorem ds_aug {t : TE} {i : Nat} {r : TIp} {op : DOp2} {f : DTE} (h : DE K cad E t f) (ho : IpD K cad r op) : DS K cad E (tAug i t r) (dAug i op f) := fun R F pars δ σ H D k g l hf => by
  unfold dAug dVar at hf
  cases e : dget δ i with
  | none => rw [e] at hf; exact hf.elim
  | some s =>
    rw [e] at hf
    obtain ⟨fp, g'⟩ := id g
    obtain ⟨v, ev, hv, _⟩ := g'.sl i s e
    refine ⟨v, ev, ?_⟩
    have go : ∀ (a : Ev), HoldE K cad F σ v a → (f δ (fun e δ1 => vwK δ1 a fun x => vwK δ1 e fun y => op x y fun d => k.nx (dset δ1 i (some (.val d)))) k.ex) → t σ H fun y H1 => r v y H1 fun z H2 => D.nx (σ.set i (some z)) H2 := fun a ha hf =>
      h R F pars δ σ H _ _ k.ex g (l.ex σ) hf fun e δ1 u F1 H1 s1 g1 hu q => by
        obtain ⟨dx, vx, q⟩ := view_of g1 (ha.same s1) q
        obtain ⟨dy, vy, q⟩ := view_of g1 hu q
        exact ho R F1 pars δ1 σ H1 v u dx dy _ _ g1 vx vy q fun d z F2 H2 s2 g2 r2 q2 => l.nx _ _ F2 H2 (s1.trans s2) ((g2.consV r2).store i) q2
    cases s with
    | val d => exact go (.val d) hv hf
    | own tt o => exact go (.var i) ev hf
theorem ip_addD : IpD K cad (ipI fun i j => i + j) (intD fun i j => .int (i + j)) := od_int fun _ _ _ => .int _
theorem ip_subD : IpD K cad (ipI fun i j => i - j) (intD fun i j => .int (i - j)) := od_int fun _ _ _ => .int _
/-! ### things of one's own, written -/
theorem Good.write {n : Nat} {t : Option Nat} {o o' : Ob} {v : V} {H' : Hp} (g : Good K cad R F pars δ σ H) (e : dget δ n = some (.own t o)) (ev : σ[n]? = some (some v)) (w : ∀ a S, v = .ref a → ObAt K cad F H a S o → ObAt K cad F H' a S o' ∧ (∀ b u, ¬ S b → H b = some u → H' b = some u) ∧ ∀ b, S b → ∃ u, H' b = some u) :
    Good K cad R F pars (dset δ n (some (.own t o'))) σ H' := by
  obtain ⟨fp, g⟩ := g
  obtain ⟨v', ev', ⟨a, rfl, h⟩, tk⟩ := g.sl n _ e
  rw [ev] at ev'
  cases ev'
  obtain ⟨h2, keep, there⟩ := w a (fp n) rfl h
  have nR : ∀ b u, R b = some u → ¬ fp n b := fun b u q z => by rw [(g.off n b z).1] at q; cases q
  have nF : ∀ b u, F b = some u → ¬ fp n b := fun b u q z => by rw [(g.off n b z).2.1] at q; cases q
  refine ⟨fp, fun b u q => keep b u (nR b u q) (g.sR _ _ q), fun b u q => keep b u (nF b u q) (g.sF _ _ q), (dset_len ..).trans g.len, fun i s q => ?_, fun i b q => ?_, g.sep⟩
  · rcases dget_set_some q with ⟨rfl, z⟩ | ⟨ne, z⟩
    · cases z
      exact ⟨_, ev, ⟨a, rfl, h2⟩, fun k o eo => by cases eo; exact tk _ _ rfl⟩
    · obtain ⟨w, e1, h1, t1⟩ := g.sl i s z
      exact ⟨w, e1, h1.move (fun _ _ e => e) fun b u hb q => keep b u (fun z => ne (g.sep i n b hb z)) q, t1⟩
  · obtain ⟨a1, a2, u, a3⟩ := g.off i b q
    refine ⟨a1, a2, ?_⟩
    by_cases z : fp n b
    · exact there b z
    · exact ⟨u, keep b u z a3⟩
theorem Good.writeL {n : Nat} {t : Option Nat} {ds ds' : List D} {v : V} {vs' : List V} (g : Good K cad R F pars δ σ H) (e : dget δ n = some (.own t (.lst ds))) (ev : σ[n]? = some (some v)) (r : Reps K cad F vs' ds') : ∃ a vs, v = .ref a ∧ H a = some (.lst vs) ∧ Reps K cad F vs ds ∧
    Good K cad R F pars (dset δ n (some (.own t (.lst ds')))) σ (upd H a (.lst vs')) := by
  obtain ⟨fp, g'⟩ := id g
  obtain ⟨v', ev', ⟨a, rfl, s, vs, ha, rv⟩, _⟩ := g'.sl n _ e
  rw [ev] at ev'
  cases ev'
  refine ⟨a, vs, rfl, ha, rv, g.write e ev fun b S eb h => ?_⟩
  cases eb
  obtain ⟨sS, _⟩ := h
  refine ⟨⟨sS, vs', upd_same, r⟩, fun c u nc q => ?_, fun c hc => ?_⟩
  · rw [upd_ne fun z => nc ((sS c).mpr z)]
    exact q
  · rw [(sS c).mp hc]
    exact ⟨_, upd_same⟩
theorem Good.writeK {n : Nat} {t : Option Nat} {ds ds' : List (Key × D)} {v : V} {vs' : List (Key × V)} (g : Good K cad R F pars δ σ H) (e : dget δ n = some (.own t (.dic ds))) (ev : σ[n]? = some (some v)) (r : RepK K cad F vs' ds') : ∃ a vs, v = .ref a ∧ H a = some (.dK vs) ∧ RepK K cad F vs ds ∧
    Good K cad R F pars (dset δ n (some (.own t (.dic ds')))) σ (upd H a (.dK vs')) := by
  obtain ⟨fp, g'⟩ := id g
  obtain ⟨v', ev', ⟨a, rfl, s, vs, ha, rv⟩, _⟩ := g'.sl n _ e
  rw [ev] at ev'
  cases ev'
  refine ⟨a, vs, rfl, ha, rv, g.write e ev fun b S eb h => ?_⟩
  cases eb
  obtain ⟨sS, _⟩ := h
  refine ⟨⟨sS, vs', upd_same, r⟩, fun c u nc q => ?_, fun c hc => ?_⟩
  · rw [upd_ne fun z => nc ((sS c).mpr z)]
    exact q
  · rw [(sS c).mp hc]
    exact ⟨_, upd_same⟩
/-- the slot of a list of one's own -/
def ownL (e : Ev) (δ : DEnv) (k : Nat → Option Nat → List D → Prop) : Prop := match e with
  | .var i => match dget δ i with
    | some (.own t (.lst ds)) => k i t ds
    | _ => False
  | _ => False
theorem ownL_of {e : Ev} {v : V} {k : Nat → Option Nat → List D → Prop} (h : HoldE K cad F σ v e) (q : ownL e δ k) : ∃ i t ds, e = .var i ∧ σ[i]? = some (some v) ∧ dget δ i = some (.own t (.lst ds)) ∧ k i t ds := by
  cases e with
  | val d => exact q.elim
  | bor i => exact q.elim
  | var i =>
    have q : match dget δ i with
      | some (.own t (.lst ds)) => k i t ds
      | _ => False := q
    cases e : dget δ i with
    | none => rw [e] at q; exact q.elim
    | some s =>
      rw [e] at q
      match s, e, q with
      | .own t (.lst ds), e, q => exact ⟨i, t, ds, rfl, h, e, q⟩
      | .own t (.dic ds), _, q => exact q.elim
      | .own t (.row c x n), _, q => exact q.elim
      | .own t (.ext φ), _, q => exact q.elim
      | .val d, _, q => exact q.elim
def ownK (e : Ev) (δ : DEnv) (k : Nat → Option Nat → List (Key × D) → Prop) : Prop := match e with
  | .var i => match dget δ i with
    | some (.own t (.dic ds)) => k i t ds
    | _ => False
  | _ => False
theorem ownK_of {e : Ev} {v : V} {k : Nat → Option Nat → List (Key × D) → Prop} (h : HoldE K cad F σ v e) (q : ownK e δ k) : ∃ i t ds, e = .var i ∧ σ[i]? = some (some v) ∧ dget δ i = some (.own t (.dic ds)) ∧ k i t ds := by
  cases e with
  | val d => exact q.elim
  | bor i => exact q.elim
  | var i =>
    have q : match dget δ i with
      | some (.own t (.dic ds)) => k i t ds
      | _ => False := q
    cases e : dget δ i with
    | none => rw [e] at q; exact q.elim
    | some s =>
      rw [e] at q
      match s, e, q with
      | .own t (.dic ds), e, q => exact ⟨i, t, ds, rfl, h, e, q⟩
      | .own t (.lst ds), _, q => exact q.elim
      | .own t (.row c x n), _, q => exact q.elim
      | .own t (.ext φ), _, q => exact q.elim
      | .val d, _, q => exact q.elim
/-- a method that writes a list: its arguments are kept; its answer, the list behind it -/
abbrev DOpM := List D → List D → (D → List D → Prop) → Prop
def MutL (K : PySem.W.Frag) (cad : Cn → Addr) (r : V → List V → Hp → VK → Prop) (op : DOpM) : Prop := ∀ (F H : Hp) (a : Addr) (vs ws : List V) (ds es : List D) (Q : VK) (QD : D → List D → Prop), Same F H → H a = some (.lst vs) → Reps K cad F vs ds → Reps K cad F ws es → op ds es QD →
  (∀ d v vs' ds', Rep K cad F v d → Reps K cad F vs' ds' → QD d ds' → Q v (upd H a (.lst vs'))) → r (.ref a) ws H Q
def MutL0 (K : PySem.W.Frag) (cad : Cn → Addr) (r : V → List V → Hp → VK → Prop) (op : DOpM) : Prop := ∀ (F H : Hp) (a : Addr) (vs : List V) (ds : List D) (Q : VK) (QD : D → List D → Prop), Same F H → H a = some (.lst vs) → Reps K cad F vs ds → op ds [] QD →
  (∀ d v vs' ds', Rep K cad F v d → Reps K cad F vs' ds' → QD d ds' → Q v (upd H a (.lst vs'))) → r (.ref a) [] H Q
def dMut0 (op : DOpM) (f : DTE) : DTE := fun δ Q QX => f δ (fun e δ3 => ownL e δ3 fun i t ds => op ds [] fun d ds' => Q (.val d) (dset δ3 i (some (.own t (.lst ds'))))) QX
theorem SqLat {i : Nat} {v : V} {t : Option Nat} {ds : List D} (g : Good K cad R F pars δ σ H) (ev : σ[i]? = some (some v)) (e : dget δ i = some (.own t (.lst ds))) : ∃ a vs, v = .ref a ∧ H a = some (.lst vs) ∧ Reps K cad F vs ds := by
  obtain ⟨fp, g'⟩ := id g
  obtain ⟨v', ev', ⟨a, rfl, s, vs, ha, rv⟩, _⟩ := g'.sl i _ e
  rw [ev] at ev'
  cases ev'
  exact ⟨a, vs, rfl, ha, rv⟩
theorem de_mut0 {r : V → List V → Hp → VK → Prop} {op : DOpM} {t : TE} {f : DTE} (hm : MutL0 K cad r op) (h : DE K cad E t f) : DE K cad E (tBM0 K "list" r t) (dMut0 op f) := fun R F pars δ σ H Q QD QX g x hf q =>
  h R F pars δ σ H _ _ QX g x hf fun e δ1 v F1 H1 s1 g1 hv h1 => by
    obtain ⟨i, tk, ds, rfl, ev, ed, h2⟩ := ownL_of hv h1
    obtain ⟨a, vs, rfl, ha, rv⟩ := SqLat g1 ev ed
    refine ⟨.inl ⟨rfl, vs, .of ha⟩, hm F1 H1 a vs ds Q _ g1.sF ha rv h2 fun d w vs' ds' rw' rs' h3 => ?_⟩
    obtain ⟨b, us, eb, _, _, g2⟩ := g1.writeL ed ev rs'
    cases eb
    exact q (.val d) _ w F1 _ s1 g2 rw' h3
theorem tyL_stay {op : DOpM} {a : Addr} {vs : List V} (h : H a = some (.lst vs)) : tyV K "list" (.ref a) H := .inl ⟨rfl, vs, .of h⟩
/-- the object's slot is known ahead of the arguments (a name): it is a list -/
def dMutV (op : DOpM) (i : Nat) (fa : DTA) : DTE := fun δ Q QX => ownL (.var i) δ fun _ _ _ => fa δ (fun es δ2 => frzEs es δ2 fun as δ3 => ownL (.var i) δ3 fun i t ds => op ds as fun d ds' => Q (.val d) (dset δ3 i (some (.own t (.lst ds'))))) QX
theorem de_mutV {r : V → List V → Hp → VK → Prop} {op : DOpM} {i n : Nat} {ta : TA} {fa : DTA} (hm : MutL K cad r op) (ha : DA K cad E ta n fa) : DE K cad E (tBM K "list" r (tVar i) ta) (dMutV op i fa) := fun R F pars δ σ H Q QD QX g x hf q => by
  unfold dMutV at hf
  cases e : dget δ i with
  | none =>
    have hf : (match dget δ i with | some (.own t (.lst ds)) => _ | _ => False) := hf
    rw [e] at hf
    exact hf.elim
  | some s =>
    obtain ⟨fp, g'⟩ := id g
    obtain ⟨v, ev, _, _⟩ := g'.sl i s e
    obtain ⟨j, t0, ds0, ej, _, e0, hf⟩ := ownL_of (v := v) (σ := σ) (K := K) (cad := cad) (F := F) (e := .var i) ev hf
    cases ej
    obtain ⟨a, vs0, rfl, ha0, _⟩ := SqLat g ev e0
    refine ⟨_, ev, .inl ⟨rfl, vs0, .of ha0⟩, ha R F pars δ σ H _ _ QX g x hf fun es δ2 ws F2 H2 s2 g2 hws _ h2 => ?_⟩
    obtain ⟨as, δ3, F3, s3, g3, ra, _, h3⟩ := frzs_of g2 hws h2
    obtain ⟨j, t1, ds, ej, ev3, e3, h3⟩ := ownL_of (v := .ref a) (σ := σ) (K := K) (cad := cad) (F := F3) (e := .var i) ev h3
    cases ej
    obtain ⟨a', vs, ea, hav, rv⟩ := SqLat g3 ev e3
    cases ea
    refine hm F3 H2 a vs ws ds as Q _ g3.sF hav rv ra h3 fun d w vs' ds' rw' rs' h4 => ?_
    obtain ⟨b, us, eb, _, _, g4⟩ := g3.writeL e3 ev rs'
    cases eb
    exact q (.val d) _ w F3 _ (s2.trans s3) g4 rw' h4
def appendD : DOpM := fun ds as Q => match as with
  | [d] => ds.length < 1000000 ∧ Q .non (ds ++ [d])
  | _ => False
theorem ml_append : MutL K cad rAppend appendD := fun F H a vs ws ds es Q QD sF ha rv ra h q => by
  match es, ra, h with
  | [d], .cons r .nil, h =>
    have l : vs.length < sizeLine := Nat.lt_of_lt_of_le (by rw [rv.len]; exact h.1) (by decide : 1000000 ≤ sizeLine)
    exact ⟨a, vs, _, rfl, rfl, ha, l, q .non _ _ _ .non (rv.app (.one r)) h.2⟩
@[irreducible] def popAtD : DOpM := fun ds as Q => match as with
  | [.int i] => (-(2 ^ 63) ≤ i ∧ i < 2 ^ 63) ∧ match seqIndex? i ds.length with
    | some k => match ds[k]? with
      | some d => Q d (ds.eraseIdx k)
      | none => False
    | none => False
  | _ => False
theorem ml_popAt : MutL K cad rPopAt popAtD := fun F H a vs ws ds es Q QD sF ha rv ra h q => by
  unfold popAtD at h
  match es, ra, h with
  | [.int i], .cons r .nil, h =>
    obtain rfl := r.intI
    obtain ⟨⟨l1, l2⟩, h⟩ := h
    cases e1 : seqIndex? i ds.length with
    | none => rw [e1] at h; exact h.elim
    | some k =>
      rw [e1] at h
      have h : match ds[k]? with | some d => QD d (ds.eraseIdx k) | none => False := h
      cases e2 : ds[k]? with
      | none => rw [e2] at h; exact h.elim
      | some d =>
        rw [e2] at h
        obtain ⟨v, ev, rd⟩ := rv.get e2
        exact ⟨a, vs, i, k, v, rfl, rfl, ha, l1, l2, by rw [rv.len]; exact e1, ev, q d v _ _ rd (rv.erase k) h⟩
def popD : DOpM := fun ds _ Q => match ds[ds.length - 1]? with
  | some d => Q d ds.dropLast
  | none => False
theorem Reps.init {vs : List V} {ds : List D} (r : Reps K cad F vs ds) : Reps K cad F vs.dropLast ds.dropLast := by
  rw [List.dropLast_eq_take, List.dropLast_eq_take, r.len]
  exact r.take _
theorem ml_pop : MutL0 K cad rPop popD := fun F H a vs ds Q QD sF ha rv h q => by
  have h : match ds[ds.length - 1]? with | some d => QD d ds.dropLast | none => False := h
  cases e : ds[ds.length - 1]? with
  | none => rw [e] at h; exact h.elim
  | some d =>
    rw [e] at h
    obtain ⟨v, ev, rd⟩ := rv.get e
    exact ⟨a, vs, v, rfl, rfl, ha, by rw [rv.len]; exact ev, q d v _ _ rd rv.init h⟩
def reverseD : DOpM := fun ds _ Q => Q .non ds.reverse
theorem ml_reverse : MutL0 K cad rReverse reverseD := fun F H a vs ds Q QD sF ha rv h q => ⟨a, vs, rfl, rfl, ha, q .non _ _ _ .non rv.rev h⟩
def clearD : DOpM := fun _ _ Q => Q .non []
theorem ml_clear : MutL0 K cad rClear clearD := fun F H a vs ds Q QD sF ha rv h q => ⟨a, vs, rfl, rfl, ha, q .non _ _ _ .non .nil h⟩
def extendD : DOpM := fun ds as Q => match as with
  | [.lst es] => ds.length + es.length ≤ 1000000 ∧ Q .non (ds ++ es)
  | _ => False
theorem ml_extend : MutL K cad rExtend extendD := fun F H a vs ws ds es Q QD sF ha rv ra h q => by
  match es, ra, h with
  | [.lst es], .cons r .nil, h =>
    obtain ⟨b, us, rfl, hb, ru⟩ := r.lstI
    have l : vs.length + us.length ≤ sizeLine := sz_of (by rw [rv.len, ru.len]; exact h.1)
    exact ⟨a, b, vs, us, rfl, rfl, ha, sF _ _ hb, l, q .non _ _ _ .non (rv.app ru) h.2⟩
/-- x[i] = e, x a list of one's own -/
def dSub (f fo fi : DTE) : DTS := fun k δ => f δ (fun e δ1 => frzE e δ1 fun d δ2 => fo δ2 (fun o δ3 => fi δ3 (fun ie δ4 => iofD ie fun n => ownL o δ4 fun i t ds => match ixN ds.length n with
  | some j => k.nx (dset δ4 i (some (.own t (.lst (ds.set j d)))))
  | none => False) k.ex) k.ex) k.ex
theorem ds_sub {t to ti : TE} {f fo fi : DTE} (h : DE K cad E t f) (ho : DE K cad E to fo) (hi : DE K cad E ti fi) : DS K cad E (tAsg t (gSub to ti rSetL)) (dSub f fo fi) := fun R F pars δ σ H D k g l hf =>
  h R F pars δ σ H _ _ k.ex g (l.ex σ) hf fun e δ1 v F1 H1 s1 g1 hv q => by
    obtain ⟨d, δ2, F2, s2, g2, r, q⟩ := frz_of g1 hv q
    refine ho R F2 pars δ2 σ H1 _ _ k.ex g2 ((l.ex σ).same (s1.trans s2)) q fun o δ3 w F3 H3 s3 g3 hw q => hi R F3 pars δ3 σ H3 _ _ k.ex g3 ((l.ex σ).same (s1.trans (s2.trans s3))) q fun ie δ4 u F4 H4 s4 g4 hu q => ?_
    obtain ⟨n, rfl, q⟩ := iof_of hu q
    obtain ⟨i, tk, ds, rfl, ev, ed, q⟩ := ownL_of (hw.same s4) q
    obtain ⟨a, vs, rfl, ha, rv⟩ := SqLat g4 ev ed
    cases ej : ixN ds.length n with
    | none => rw [ej] at q; exact q.elim
    | some j =>
      rw [ej] at q
      have r4 := r.same ((s3.trans s4).s)
      obtain ⟨b, us, eb, _, _, g5⟩ := g4.writeL ed ev (rv.set j r4)
      cases eb
      exact ⟨a, vs, n, j, rfl, rfl, ha, by rw [rv.len]; exact ej, l.nx _ _ F4 _ (s1.trans (s2.trans (s3.trans s4))) g5 q⟩
end
end PD

set_option Elab.async false
set_option linter.all false
set_option maxRecDepth 100000
set_option maxHeartbeats 4000000
/-! Own layer: what is gone over, loops, comprehensions. -/
namespace PD
open L2 ClX
open PySem PySem.Spec PyProof.Rows
/-- st: the slot of the list of one's own that is gone over -/
def stayD (st : Option Nat) (all : List D) (δ : DEnv) (P : Prop) : Prop := match st with
  | none => P
  | some i => (match dget δ i with
    | some (.own _ (.lst ds)) => ds = all
    | _ => False) ∧ P
def Stay (st : Option Nat) (all : List D) (δ : DEnv) : Prop := match st with
  | none => True
  | some i => ∃ t, dget δ i = some (.own t (.lst all))
theorem stay_of {st : Option Nat} {all : List D} {δ : DEnv} {P : Prop} (h : stayD st all δ P) : Stay st all δ ∧ P := by
  cases st with
  | none => exact ⟨trivial, h⟩
  | some i =>
    obtain ⟨h, p⟩ := h
    refine ⟨?_, p⟩
    cases e : dget δ i with
    | none => rw [e] at h; exact h.elim
    | some s =>
      rw [e] at h
      match s, e, h with
      | .own t (.lst ds), e, h => exact ⟨t, by rw [e]; cases (show ds = all from h); rfl⟩
      | .own t (.dic ds), _, h => exact h.elim
      | .own t (.row c x n), _, h => exact h.elim
      | .own t (.ext φ), _, h => exact h.elim
      | .val d, _, h => exact h.elim
/-- at the slot stands what was there at first -/
def AtV (st : Option Nat) (σ0 σ : L2.St) : Prop := match st with
  | none => True
  | some i => σ[i]? = σ0[i]?
structure Walk (K : PySem.W.Frag) (cad : Cn → Addr) (J : It) (st : Option Nat) (items : List D) (F : Hp) (σ0 : L2.St) : Prop where
  go : ∀ i R F2 pars δ σ H, Same F F2 → Good K cad R F2 pars δ σ H → Stay st items δ → AtV st σ0 σ → i < items.length → J.go i H
  yld : ∀ i R F2 pars δ σ H x H', Same F F2 → Good K cad R F2 pars δ σ H → Stay st items δ → AtV st σ0 σ → i < items.length → J.yld i H x H' → ∃ F3 d, Ext R F2 F3 ∧ Good K cad R F3 pars δ σ H' ∧ items[i]? = some d ∧ Rep K cad F3 x d
  stop : ∀ i R F2 pars δ σ H, Same F F2 → Good K cad R F2 pars δ σ H → Stay st items δ → AtV st σ0 σ → items.length ≤ i → J.stop i H
abbrev DTI := DEnv → (Option Nat → List D → DEnv → Prop) → DX → Prop
def DI (K : PySem.W.Frag) (cad : Cn → Addr) (E : L2.St → XK) (wi : TI) (f : DTI) : Prop := ∀ (R F : Hp) (pars : List V) (δ : DEnv) (σ : L2.St) (H : Hp) (Q : It → Hp → Prop) (QD : Option Nat → List D → DEnv → Prop) (QX : DX), Good K cad R F pars δ σ H → XOk K cad (E σ) R F pars σ QX → f δ QD QX →
  (∀ st ds δ' F' H' J, Ext R F F' → Good K cad R F' pars δ' σ H' → Walk K cad J st ds F' σ → QD st ds δ' → Q J H') → wi σ H Q
section
variable {K : PySem.W.Frag} {cad : Cn → Addr} {E : L2.St → XK} {R F F' H H' : Hp} {pars : List V} {δ : DEnv} {σ : L2.St} {De : Ends} {k : DK}
theorem walk_list {a : Addr} {vs : List V} {ds : List D} (ha : F a = some (.lst vs)) (r : Reps K cad F vs ds) : Walk K cad (Itl K a) none ds F σ where
  go := fun i R F2 pars δ σ H s g _ _ lt => by
    obtain ⟨d, ed⟩ : ∃ d, ds[i]? = some d := ⟨ds[i], List.getElem?_eq_getElem lt⟩
    obtain ⟨v, ev, _⟩ := r.get ed
    exact ⟨vs, v, .of (g.sF _ _ (s _ _ ha)), ev⟩
  yld := fun i R F2 pars δ σ H x H' s g _ _ _ y => by
    obtain ⟨rfl, y⟩ := y
    have ev := y vs (.of (g.sF _ _ (s _ _ ha)))
    obtain ⟨d, ed, rd⟩ := r.getV ev
    exact ⟨F2, d, .refl, g, ed, rd.same s⟩
  stop := fun i R F2 pars δ σ H s g _ _ le => ⟨vs, .of (g.sF _ _ (s _ _ ha)), by rw [r.len]; exact le⟩
def diL (f : DTE) : DTI := fun δ Q QX => f δ (fun e δ1 => frzE e δ1 fun d δ2 => lofD d fun ds => Q none ds δ2) QX
theorem di_list {t : TE} {f : DTE} (h : DE K cad E t f) : DI K cad E (iList K t) (diL f) := fun R F pars δ σ H Q QD QX g x hf q =>
  h R F pars δ σ H _ _ QX g x hf fun e δ1 v F1 H1 s1 g1 hv h1 => by
    obtain ⟨d, δ2, F2, s2, g2, r, h2⟩ := frz_of g1 hv h1
    cases d with
    | lst ds =>
      obtain ⟨a, vs, rfl, ha, t⟩ := r.lstI
      exact ⟨a, rfl, ⟨vs, .of (g2.sF _ _ ha)⟩, q none ds δ2 F2 H1 _ (s1.trans s2) g2 (walk_list ha t) h2⟩
    | _ => exact h2.elim
/-- a list of one's own, as it stands -/
def diV (i : Nat) : DTI := fun δ Q _ => match dget δ i with
  | some (.own _ (.lst ds)) => Q (some i) ds δ
  | some (.val (.lst ds)) => Q none ds δ
  | _ => False
theorem di_listV {i : Nat} : DI K cad E (iList K (tVar i)) (diV i) := fun R F pars δ σ H Q QD QX g x hf q => by
  unfold diV at hf
  cases e : dget δ i with
  | none => rw [e] at hf; exact hf.elim
  | some s =>
    rw [e] at hf
    match s, e, hf with
    | .own t (.dic ds), _, h => exact h.elim
    | .own t (.row c x n), _, h => exact h.elim
    | .own t (.ext φ), _, h => exact h.elim
    | .val d, e, h =>
      cases d with
      | lst ds =>
        obtain ⟨fp, g'⟩ := id g
        obtain ⟨v, ev, hv, _⟩ := g'.sl i _ e
        obtain ⟨a, vs, rfl, ha, t⟩ := Rep.lstI hv
        exact ⟨_, ev, a, rfl, ⟨vs, .of (g.sF _ _ ha)⟩, q none ds δ F H _ .refl g (walk_list ha t) h⟩
      | _ => exact h.elim
    | .own t (.lst ds), e, h =>
      obtain ⟨fp, g'⟩ := id g
      obtain ⟨v, ev, _, _⟩ := g'.sl i _ e
      obtain ⟨a, vs, rfl, ha, rv⟩ := SqLat g ev e
      refine ⟨_, ev, a, rfl, ⟨vs, .of ha⟩, q (some i) ds δ F H _ .refl g ?_ h⟩
      have here : ∀ {R F2 : Hp} {pars : List V} {δ : DEnv} {σ2 : L2.St} {H : Hp}, Good K cad R F2 pars δ σ2 H → Stay (some i) ds δ → AtV (some i) σ σ2 → ∃ ws, H a = some (.lst ws) ∧ Reps K cad F2 ws ds := fun {R F2 pars δ σ2 H} g2 st av => by
        obtain ⟨t2, e2⟩ := st
        have ev2 : σ2[i]? = some (some (.ref a)) := by rw [show σ2[i]? = σ[i]? from av]; exact ev
        obtain ⟨b, ws, eb, hb, rb⟩ := SqLat g2 ev2 e2
        cases eb
        exact ⟨ws, hb, rb⟩
      refine ⟨fun j R F2 pars δ σ2 H s g2 st av lt => ?_, fun j R F2 pars δ σ2 H x H' s g2 st av _ y => ?_, fun j R F2 pars δ σ2 H s g2 st av le => ?_⟩
      · obtain ⟨ws, hb, rb⟩ := here g2 st av
        obtain ⟨w, ew, _⟩ := rb.get (List.getElem?_eq_getElem lt)
        exact ⟨ws, w, .of hb, ew⟩
      · obtain ⟨ws, hb, rb⟩ := here g2 st av
        obtain ⟨rfl, y⟩ := y
        obtain ⟨d, ed, rd⟩ := rb.getV (y ws (.of hb))
        exact ⟨F2, d, .refl, g2, ed, rd⟩
      · obtain ⟨ws, hb, rb⟩ := here g2 st av
        exact ⟨ws, .of hb, by rw [rb.len]; exact le⟩
def rngD (lo : Int) (n : Nat) : List D := (List.range n).map fun i => .int (lo + (i : Nat))
theorem rngD_get {lo : Int} {n i : Nat} (h : i < n) : (rngD lo n)[i]? = some (.int (lo + i)) := by
  unfold rngD
  rw [List.getElem?_map, List.getElem?_range h]
  rfl
theorem rngD_len (lo : Int) (n : Nat) : (rngD lo n).length = n := by
  unfold rngD
  rw [List.length_map, List.length_range]
theorem walk_rng (lo : Int) (n : Nat) : Walk K cad (Itr lo n) none (rngD lo n) F σ where
  go := fun i R F2 pars δ σ H s g _ _ lt => by rw [rngD_len] at lt; exact lt
  yld := fun i R F2 pars δ σ H x H' s g _ _ lt y => by
    rw [rngD_len] at lt
    obtain ⟨rfl, rfl⟩ := y
    exact ⟨F2, _, .refl, g, rngD_get lt, .int _⟩
  stop := fun i R F2 pars δ σ H s g _ _ le => by rw [rngD_len] at le; exact le
def dRng1 (fa : DTA) : DTI := fun δ Q QX => fa δ (fun es δ1 => vwKs δ1 es fun ds => match ds with
  | [.int j] => (-(2 ^ 62) ≤ j ∧ j < 2 ^ 62) ∧ Q none (rngD 0 j.toNat) δ1
  | _ => False) QX
theorem di_rng1 {ta : TA} {n : Nat} {fa : DTA} (h : DA K cad E ta n fa) : DI K cad E (iRng1 ta) (dRng1 fa) := fun R F pars δ σ H Q QD QX g x hf q =>
  h R F pars δ σ H _ _ QX g x hf fun es δ1 vs F1 H1 s1 g1 hv _ h1 => by
    obtain ⟨ds, vw, h2⟩ := views_of g1 hv h1
    match ds, vw, h2 with
    | [.int j], vw, h2 =>
      obtain ⟨v, rfl, vx⟩ := vw.one
      obtain rfl := vx.intI
      exact ⟨j, rfl, h2.1.1, h2.1.2, q none _ δ1 F1 H1 _ s1 g1 (walk_rng 0 _) h2.2⟩
def dRng2 (fa : DTA) : DTI := fun δ Q QX => fa δ (fun es δ1 => vwKs δ1 es fun ds => match ds with
  | [.int i, .int j] => (-(2 ^ 62) ≤ i ∧ i < 2 ^ 62 ∧ -(2 ^ 62) ≤ j ∧ j < 2 ^ 62) ∧ Q none (rngD i (j - i).toNat) δ1
  | _ => False) QX
theorem di_rng2 {ta : TA} {n : Nat} {fa : DTA} (h : DA K cad E ta n fa) : DI K cad E (iRng2 ta) (dRng2 fa) := fun R F pars δ σ H Q QD QX g x hf q =>
  h R F pars δ σ H _ _ QX g x hf fun es δ1 vs F1 H1 s1 g1 hv _ h1 => by
    obtain ⟨ds, vw, h2⟩ := views_of g1 hv h1
    match ds, vw, h2 with
    | [.int i, .int j], vw, h2 =>
      obtain ⟨v, u, rfl, vx, vy⟩ := vw.two
      obtain rfl := vx.intI
      obtain rfl := vy.intI
      exact ⟨i, j, rfl, h2.1, q none _ δ1 F1 H1 _ s1 g1 (walk_rng i _) h2.2⟩
/-- pairs of a number and an item -/
def enumD : Nat → List D → List D
  | _, [] => []
  | n, d :: ds => .tup [.int (n : Nat), d] :: enumD (n + 1) ds
theorem enumD_get : ∀ {ds : List D} {n i : Nat} {d : D}, ds[i]? = some d → (enumD n ds)[i]? = some (.tup [.int ((n + i : Nat) : Int), d])
  | [], _, _, _, h => by cases h
  | _ :: _, n, 0, _, h => by cases h; rfl
  | _ :: ds, n, i + 1, d, h => by
    have z := enumD_get (ds := ds) (n := n + 1) (i := i) (d := d) h
    rw [show n + 1 + i = n + (i + 1) by omega] at z
    exact z
theorem enumD_len : ∀ (ds : List D) (n : Nat), (enumD n ds).length = ds.length
  | [], _ => rfl
  | _ :: ds, n => congrArg (· + 1) (enumD_len ds (n + 1))
theorem walk_enum {a : Addr} {vs : List V} {ds : List D} (ha : F a = some (.lst vs)) (r : Reps K cad F vs ds) : Walk K cad (Ite K a) none (enumD 0 ds) F σ where
  go := fun i R F2 pars δ σ H s g _ _ lt => by
    rw [enumD_len] at lt
    obtain ⟨v, ev, _⟩ := r.get (List.getElem?_eq_getElem lt)
    exact ⟨vs, v, .of (g.sF _ _ (s _ _ ha)), ev⟩
  yld := fun i R F2 pars δ σ H x H' s g _ _ lt y => by
    obtain ⟨T, z, rfl, hT, rfl, y⟩ := y
    have ev := y vs (.of (g.sF _ _ (s _ _ ha)))
    obtain ⟨d, ed, rd⟩ := r.getV ev
    obtain ⟨s2, g2⟩ := g.newF (o := .tup [.int (i : Nat), z]) hT
    refine ⟨_, _, s2, g2, enumD_get ed, .tup upd_same (.cons ?_ (.cons ((rd.same s).same s2.s) .nil))⟩
    rw [Nat.zero_add]
    exact .int _
  stop := fun i R F2 pars δ σ H s g _ _ le => ⟨vs, .of (g.sF _ _ (s _ _ ha)), by rw [enumD_len] at le; rw [r.len]; exact le⟩
def dEnum (fa : DTA) : DTI := fun δ Q QX => fa δ (fun es δ1 => frzEs es δ1 fun ds δ2 => match ds with
  | [.lst ds] => Q none (enumD 0 ds) δ2
  | _ => False) QX
theorem di_enum {ta : TA} {n : Nat} {fa : DTA} (h : DA K cad E ta n fa) : DI K cad E (iEnum K ta) (dEnum fa) := fun R F pars δ σ H Q QD QX g x hf q =>
  h R F pars δ σ H _ _ QX g x hf fun es δ1 vs F1 H1 s1 g1 hv _ h1 => by
    obtain ⟨ds, δ2, F2, s2, g2, r, _, h2⟩ := frzs_of g1 hv h1
    match ds, vs, r, h2 with
    | [.lst ds], [v], .cons r .nil, h2 =>
      obtain ⟨a, ws, rfl, ha, t⟩ := r.lstI
      exact ⟨a, ws, rfl, .of (g2.sF _ _ ha), q none _ δ2 F2 H1 _ (s1.trans s2) g2 (walk_enum ha t) h2⟩
def zipD : List D → List D → List D
  | d :: ds, e :: es => .tup [d, e] :: zipD ds es
  | _, _ => []
theorem zipD_get : ∀ {ds es : List D} {i : Nat} {d e : D}, ds[i]? = some d → es[i]? = some e → (zipD ds es)[i]? = some (.tup [d, e])
  | [], _, _, _, _, h, _ => by cases h
  | _ :: _, [], _, _, _, _, h => by cases h
  | _ :: _, _ :: _, 0, _, _, h, h' => by cases h; cases h'; rfl
  | _ :: ds, _ :: es, i + 1, d, e, h, h' => zipD_get (ds := ds) (es := es) (i := i) h h'
theorem zipD_len : ∀ (ds es : List D), (zipD ds es).length = min ds.length es.length
  | [], es => by cases es <;> simp [zipD]
  | _ :: _, [] => by simp [zipD]
  | _ :: ds, _ :: es => by
    show (zipD ds es).length + 1 = min (ds.length + 1) (es.length + 1)
    rw [zipD_len ds es]
    omega
theorem walk_zip {a b : Addr} {vs ws : List V} {ds es : List D} (ha : F a = some (.lst vs)) (r : Reps K cad F vs ds) (hb : F b = some (.lst ws)) (r' : Reps K cad F ws es) : Walk K cad (Itz K a b) none (zipD ds es) F σ where
  go := fun i R F2 pars δ σ H s g _ _ lt => by
    rw [zipD_len] at lt
    obtain ⟨v, ev, _⟩ := r.get (List.getElem?_eq_getElem (show i < ds.length by omega))
    obtain ⟨w, ew, _⟩ := r'.get (List.getElem?_eq_getElem (show i < es.length by omega))
    exact ⟨vs, ws, v, w, .of (g.sF _ _ (s _ _ ha)), .of (g.sF _ _ (s _ _ hb)), ev, ew⟩
  yld := fun i R F2 pars δ σ H x H' s g _ _ lt y => by
    obtain ⟨T, z, u, rfl, hT, rfl, y1, y2⟩ := y
    have ev := y1 vs (.of (g.sF _ _ (s _ _ ha)))
    have ew := y2 ws (.of (g.sF _ _ (s _ _ hb)))
    obtain ⟨d, ed, rd⟩ := r.getV ev
    obtain ⟨e, ee, re⟩ := r'.getV ew
    obtain ⟨s2, g2⟩ := g.newF (o := .tup [z, u]) hT
    exact ⟨_, _, s2, g2, zipD_get ed ee, .tup upd_same (.cons ((rd.same s).same s2.s) (.cons ((re.same s).same s2.s) .nil))⟩
  stop := fun i R F2 pars δ σ H s g _ _ le => ⟨vs, ws, .of (g.sF _ _ (s _ _ ha)), .of (g.sF _ _ (s _ _ hb)), by rw [zipD_len] at le; rw [r.len, r'.len]; omega⟩
def dZip (fa : DTA) : DTI := fun δ Q QX => fa δ (fun es δ1 => frzEs es δ1 fun ds δ2 => match ds with
  | [.lst ds, .lst es] => Q none (zipD ds es) δ2
  | _ => False) QX
theorem di_zip {ta : TA} {n : Nat} {fa : DTA} (h : DA K cad E ta n fa) : DI K cad E (iZip K ta) (dZip fa) := fun R F pars δ σ H Q QD QX g x hf q =>
  h R F pars δ σ H _ _ QX g x hf fun es δ1 vs F1 H1 s1 g1 hv _ h1 => by
    obtain ⟨ds, δ2, F2, s2, g2, r, _, h2⟩ := frzs_of g1 hv h1
    match ds, vs, r, h2 with
    | [.lst ds, .lst es], [v, w], .cons r (.cons r' .nil), h2 =>
      obtain ⟨a, us, rfl, ha, t⟩ := r.lstI
      obtain ⟨b, ws, rfl, hb, t'⟩ := r'.lstI
      exact ⟨a, b, us, ws, rfl, .of (g2.sF _ _ ha), .of (g2.sF _ _ hb), q none _ δ2 F2 H1 _ (s1.trans s2) g2 (walk_zip ha t hb t') h2⟩
/-- the signs of a text -/
def signsD (x : Str) : List D := x.cps.toList.map fun c => .str ⟨#[c]⟩
theorem walk_str {x : Str} (ok : SOk x) : Walk K cad (Its x) none (signsD x) F σ where
  go := fun i R F2 pars δ σ H s g _ _ lt => by
    unfold signsD at lt
    rw [List.length_map] at lt
    exact lt
  yld := fun i R F2 pars δ σ H v H' s g _ _ lt y => by
    obtain ⟨rfl, c, ec, rfl⟩ := y
    have e2 : x.cps.toList[i]? = some c := by rw [Array.getElem?_toList]; exact ec
    refine ⟨F2, .str ⟨#[c]⟩, .refl, g, ?_, .str _ (ok.one (List.mem_of_getElem? e2))⟩
    unfold signsD
    rw [List.getElem?_map, e2]
    rfl
  stop := fun i R F2 pars δ σ H s g _ _ le => by
    unfold signsD at le
    rw [List.length_map] at le
    exact le
def diS (f : DTE) : DTI := fun δ Q QX => f δ (fun e δ1 => vwK δ1 e fun d => match d with
  | .str x => Q none (signsD x) δ1
  | _ => False) QX
theorem di_str {t : TE} {f : DTE} (h : DE K cad E t f) : DI K cad E (iStr t) (diS f) := fun R F pars δ σ H Q QD QX g x hf q =>
  h R F pars δ σ H _ _ QX g x hf fun e δ1 v F1 H1 s1 g1 hv h1 => by
    obtain ⟨d, vw, h2⟩ := view_of g1 hv h1
    cases d with
    | str x =>
      obtain ⟨rfl, ok⟩ := vw.strI
      exact ⟨x, rfl, q none _ δ1 F1 H1 _ s1 g1 (walk_str ok) h2⟩
    | _ => exact h2.elim
theorem walk_tup {a : Addr} {vs : List V} {ds : List D} (ha : F a = some (.tup vs)) (r : Reps K cad F vs ds) : Walk K cad (Itt K a) none ds F σ where
  go := fun i R F2 pars δ σ H s g _ _ lt => by
    obtain ⟨v, ev, _⟩ := r.get (List.getElem?_eq_getElem lt)
    exact ⟨vs, v, .of (g.sF _ _ (s _ _ ha)), ev⟩
  yld := fun i R F2 pars δ σ H x H' s g _ _ _ y => by
    obtain ⟨rfl, y⟩ := y
    have ev := y vs (.of (g.sF _ _ (s _ _ ha)))
    obtain ⟨d, ed, rd⟩ := r.getV ev
    exact ⟨F2, d, .refl, g, ed, rd.same s⟩
  stop := fun i R F2 pars δ σ H s g _ _ le => ⟨vs, .of (g.sF _ _ (s _ _ ha)), by rw [r.len]; exact le⟩
def diT (f : DTE) : DTI := fun δ Q QX => f δ (fun e δ1 => frzE e δ1 fun d δ2 => match d with
  | .tup ds => Q none ds δ2
  | _ => False) QX
theorem di_tup {t : TE} {f : DTE} (h : DE K cad E t f) : DI K cad E (iTup K t) (diT f) := fun R F pars δ σ H Q QD QX g x hf q =>
  h R F pars δ σ H _ _ QX g x hf fun e δ1 v F1 H1 s1 g1 hv h1 => by
    obtain ⟨d, δ2, F2, s2, g2, r, h2⟩ := frz_of g1 hv h1
    cases d with
    | tup ds =>
      obtain ⟨a, vs, rfl, ha, t⟩ := r.tupI
      exact ⟨a, rfl, ⟨vs, .of (g2.sF _ _ ha)⟩, q none ds δ2 F2 H1 _ (s1.trans s2) g2 (walk_tup ha t) h2⟩
    | _ => exact h2.elim
/-! ### for -/
def forD (g : DTG) (body : DTS) (k : DK) : List D → DEnv → Prop
  | [], δ => k.nx δ
  | d :: ds, δ => g d δ (fun δ1 => body { k with nx := forD g body k ds, ct := forD g body k ds, bk := k.nx } δ1) k.ex
def dFor (fi : DTI) (g : DTG) (body : DTS) : DTS := fun k δ => fi δ (fun st ds δ1 => match st with
  | none => True ∧ forD g body k ds δ1
  | some _ => False) k.ex
theorem ds_for {wi : TI} {g : TG} {tb : TS} {fi : DTI} {gd : DTG} {body : DTS} {is : List Nat} (hi : DI K cad E wi fi) (hg : DG K cad E g gd is) (hb : DS K cad E tb body) : DS K cad E (tFor wi g tb) (dFor fi gd body) := fun R F pars δ σ H De k g0 l hf =>
  hi R F pars δ σ H _ _ k.ex g0 (l.ex σ) hf fun st ds δ1 F1 H1 J s1 g1 w q => by
    cases st with
    | some i => exact q.elim
    | none =>
      have q := q.2
      refine ⟨fun i m σ2 H2 => m = ds.length - i ∧ i ≤ ds.length ∧ ∃ F2 δ2, Ext R F1 F2 ∧ Good K cad R F2 pars δ2 σ2 H2 ∧ forD gd body k (ds.drop i) δ2, ⟨ds.length, by simp, Nat.zero_le _, F1, δ1, .refl, g1, by simpa using q⟩, ?_⟩
      rintro i m σ2 H2 ⟨rfl, hi, F2, δ2, s2, g2, q2⟩
      by_cases lt : i < ds.length
      · refine .inr ⟨w.go i R F2 pars δ2 σ2 H2 s2.s g2 trivial trivial lt, fun σ' H' => ∃ F3 δ3, Ext R F1 F3 ∧ Good K cad R F3 pars δ3 σ' H' ∧ forD gd body k (ds.drop (i + 1)) δ3, fun σ' H' ⟨F3, δ3, s3, g3, q3⟩ => ⟨ds.length - (i + 1), by omega, rfl, lt, F3, δ3, s3, g3, q3⟩, fun x H' y => ?_⟩
        obtain ⟨F3, d, s3, g3, ed, rd⟩ := w.yld i R F2 pars δ2 σ2 H2 x H' s2.s g2 trivial trivial lt y
        have edr : ds.drop i = d :: ds.drop (i + 1) := by
          rw [List.drop_eq_getElem_cons lt]
          rw [List.getElem?_eq_getElem lt] at ed
          rw [Option.some.inj ed]
        rw [edr] at q2
        have q2 : gd d δ2 (fun δ1 => body { k with nx := forD gd body k (ds.drop (i + 1)), ct := forD gd body k (ds.drop (i + 1)), bk := k.nx } δ1) k.ex := q2
        refine hg R F3 pars δ2 σ2 H' x d _ _ k.ex g3 (fun σ => (l.ex σ).same (s1.trans (s2.trans s3))) rd q2 fun δ4 σ4 F4 H4 s4 g4 _ _ q4 => ?_
        have l4 := l.same (s1.trans (s2.trans (s3.trans s4)))
        refine hb R F4 pars δ4 σ4 H4 _ { k with nx := forD gd body k (ds.drop (i + 1)), ct := forD gd body k (ds.drop (i + 1)), bk := k.nx } g4 ⟨fun δ5 σ5 F5 H5 s5 g5 q5 => ⟨F5, δ5, s2.trans (s3.trans (s4.trans s5)), g5, q5⟩, l4.rt, l4.nx, fun δ5 σ5 F5 H5 s5 g5 q5 => ⟨F5, δ5, s2.trans (s3.trans (s4.trans s5)), g5, q5⟩, l4.ex⟩ q4
      · have e : i = ds.length := by omega
        subst e
        rw [List.drop_length] at q2
        exact .inl ⟨w.stop _ R F2 pars δ2 σ2 H2 s2.s g2 trivial trivial (Nat.le_refl _), l.nx δ2 σ2 F2 H2 (s1.trans s2) g2 q2⟩
/-! ### while -/
def whileN (c : DTT) (body : DTS) (k : DK) : Nat → DEnv → Prop
  | 0, _ => False
  | n + 1, δ => c δ (fun b δ1 => ifD b (body { k with nx := whileN c body k n, ct := whileN c body k n, bk := k.nx } δ1) (k.nx δ1)) k.ex
def dWhile (c : DTT) (body : DTS) : DTS := fun k δ => ∃ n, whileN c body k n δ
theorem ds_while {c : TT} {tb : TS} {fc : DTT} {body : DTS} (hc : DT K cad E c fc) (hb : DS K cad E tb body) : DS K cad E (tWhile c tb) (dWhile fc body) := fun R F pars δ σ H De k g0 l ⟨n, hf⟩ => by
  refine ⟨fun m σ2 H2 => ∃ F2 δ2, Ext R F F2 ∧ Good K cad R F2 pars δ2 σ2 H2 ∧ whileN fc body k m δ2, ⟨n, F, δ, .refl, g0, hf⟩, ?_⟩
  rintro m σ2 H2 ⟨F2, δ2, s2, g2, q2⟩
  cases m with
  | zero => exact q2.elim
  | succ m =>
    have q2 : fc δ2 (fun b δ1 => ifD b (body { k with nx := whileN fc body k m, ct := whileN fc body k m, bk := k.nx } δ1) (k.nx δ1)) k.ex := q2
    refine hc R F2 pars δ2 σ2 H2 _ _ k.ex g2 ((l.ex σ2).same s2) q2 fun b δ3 F3 H3 s3 g3 q3 => ite_of q3 (fun q4 => ?_) fun q4 => l.nx δ3 σ2 F3 H3 (s2.trans s3) g3 q4
    refine ⟨fun σ' H' => ∃ F4 δ4, Ext R F F4 ∧ Good K cad R F4 pars δ4 σ' H' ∧ whileN fc body k m δ4, fun σ' H' ⟨F4, δ4, s4, g4, q5⟩ => ⟨m, Nat.lt_succ_self m, F4, δ4, s4, g4, q5⟩, ?_⟩
    have l3 := l.same (s2.trans s3)
    exact hb R F3 pars δ3 σ2 H3 _ { k with nx := whileN fc body k m, ct := whileN fc body k m, bk := k.nx } g3 ⟨fun δ5 σ5 F5 H5 s5 g5 q5 => ⟨F5, δ5, s2.trans (s3.trans s5), g5, q5⟩, l3.rt, l3.nx, fun δ5 σ5 F5 H5 s5 g5 q5 => ⟨F5, δ5, s2.trans (s3.trans s5), g5, q5⟩, l3.ex⟩ q4
/-! ### comprehensions -/
def wipeD (δ : DEnv) : List Nat → DEnv
  | [] => δ
  | v :: vs => dset (wipeD δ vs) v none
theorem Good.dropS (g : Good K cad R F pars δ σ H) (n : Nat) : Good K cad R F pars (dset δ n none) (σ.set n none) H := by
  obtain ⟨fp, g⟩ := g
  refine ⟨fp, g.sR, g.sF, by rw [dset_len, List.length_set]; exact g.len, fun i u e => ?_, g.off, g.sep⟩
  rcases dget_set_some e with ⟨_, z⟩ | ⟨ne, z⟩
  · cases z
  · obtain ⟨w, e1, h, t⟩ := g.sl i u z
    exact ⟨w, by rw [List.getElem?_set_ne (Ne.symm ne)]; exact e1, h, t⟩
theorem Good.wipe (g : Good K cad R F pars δ σ H) : ∀ vs : List Nat, Good K cad R F pars (wipeD δ vs) (L2.wipe σ vs) H
  | [] => g
  | v :: vs => (g.wipe vs).dropS v
theorem wipe_at {σ : L2.St} : ∀ {vs : List Nat} {i : Nat}, i ∉ vs → (L2.wipe σ vs)[i]? = σ[i]?
  | [], _, _ => rfl
  | v :: vs, i, h => by
    unfold L2.wipe
    rw [List.getElem?_set_ne fun e => h (by rw [e]; exact List.mem_cons_self), wipe_at fun z => h (List.mem_cons_of_mem _ z)]
theorem wipe_in {σ : L2.St} : ∀ {vs : List Nat} {i : Nat}, i ∈ vs → i < σ.length → (L2.wipe σ vs)[i]? = some none
  | v :: vs, i, h, l => by
    unfold L2.wipe
    by_cases e : i = v
    · subst e
      rw [List.getElem?_set_self (by rw [wipe_length]; exact l)]
    · rw [List.getElem?_set_ne (Ne.symm e)]
      exact wipe_in ((List.mem_cons.mp h).resolve_left e) l
theorem wipe_agree {σ σ2 : L2.St} {vs is : List Nat} (hl : σ2.length = σ.length) (h : ∀ j, j ∉ is → σ2[j]? = σ[j]?) (sub : ∀ j ∈ is, j ∈ vs) : L2.wipe σ2 vs = L2.wipe σ vs := by
  refine List.ext_getElem? fun j => ?_
  by_cases m : j ∈ vs
  · by_cases l : j < σ.length
    · rw [wipe_in m l, wipe_in m (by rw [hl]; exact l)]
    · rw [List.getElem?_eq_none (by rw [wipe_length]; omega), List.getElem?_eq_none (by rw [wipe_length]; omega)]
  · rw [wipe_at m, wipe_at m, h j fun z => m (sub j z)]
theorem wipe_wipe (σ : L2.St) (vs : List Nat) : L2.wipe (L2.wipe σ vs) vs = L2.wipe σ vs := wipe_agree (is := vs) (wipe_length σ vs) (fun j h => wipe_at h) fun _ h => h
theorem wipeD_get : ∀ {vs : List Nat} {j : Nat}, j ∈ vs → dget (wipeD δ vs) j = none
  | v :: vs, j, h => by
    unfold wipeD
    by_cases e : j = v
    · subst e
      cases q : dget (dset (wipeD δ vs) j none) j with
      | none => rfl
      | some s =>
        rcases dget_set_some q with ⟨_, z⟩ | ⟨z, _⟩
        · cases z
        · exact absurd rfl z
    · rw [dget_set_ne e]
      exact wipeD_get ((List.mem_cons.mp h).resolve_left e)
/-- behind the block, its own names are again what they were (values alone) -/
def unwipeD (δ δe : DEnv) : List Nat → (DEnv → Prop) → Prop
  | [], k => k δe
  | v :: vs, k => match dget δ v with
    | none => unwipeD δ δe vs k
    | some (.val d) => unwipeD δ (dset δe v (some (.val d))) vs k
    | some (.own _ _) => False
theorem Good.weak {σ' : L2.St} (g : Good K cad R F pars δ σ H) (hl : σ'.length = σ.length) (h : ∀ j s, dget δ j = some s → σ'[j]? = σ[j]?) : Good K cad R F pars δ σ' H := by
  obtain ⟨fp, g⟩ := g
  refine ⟨fp, g.sR, g.sF, g.len.trans hl.symm, fun i u e => ?_, g.off, g.sep⟩
  obtain ⟨w, e1, r⟩ := g.sl i u e
  exact ⟨w, by rw [h i u e]; exact e1, r⟩
theorem unwipe_of {δ0 : DEnv} {k : DEnv → Prop} (g0 : ∀ v d, dget δ0 v = some (.val d) → ∃ w, σ[v]? = some (some w) ∧ Rep K cad F w d) : ∀ {vs : List Nat} {δe : DEnv}, Good K cad R F pars δe σ H → unwipeD δ0 δe vs k → ∃ δ', Good K cad R F pars δ' σ H ∧ k δ'
  | [], δe, g, q => ⟨δe, g, q⟩
  | v :: vs, δe, g, q => by
    unfold unwipeD at q
    cases e : dget δ0 v with
    | none => rw [e] at q; exact unwipe_of g0 g q
    | some u =>
      rw [e] at q
      cases u with
      | own t o => exact q.elim
      | val d =>
        obtain ⟨w, ew, hw⟩ := g0 v d e
        have g2 := (g.consV hw).store v
        rw [set_id ew] at g2
        exact unwipe_of g0 g2 q
def noX : DX := fun _ _ _ => False
abbrev EN : L2.St → XK := fun _ => E0
theorem xok_no {E : XK} : XOk K cad E R F pars σ noX := fun _ _ _ _ _ _ _ _ _ q => q.elim
section
variable {C : Type}
/-- a block: what is made grows from turn to turn -/
abbrev DTB (C : Type) := C → DEnv → (C → DEnv → Prop) → Prop
def blD (g : DTG) (tt : DTT) (fb : DTB C) (vs : List Nat) (st : Option Nat) (all : List D) : List D → C → DEnv → (C → DEnv → Prop) → Prop
  | [], c, δ, Q => stayD st all δ (Q c δ)
  | d :: ds, c, δ, Q => stayD st all δ (g d δ (fun δ1 => tt δ1 (fun b δ2 => ifD b (fb c δ2 fun c' δ3 => blD g tt fb vs st all ds c' (wipeD δ3 vs) Q) (blD g tt fb vs st all ds c (wipeD δ2 vs) Q)) noX) noX)
def stOk (st : Option Nat) (vs : List Nat) : Prop := match st with
  | none => True
  | some i => (vs.contains i) = false
def dBl (fi : DTI) (g : DTG) (tt : DTT) (fb : DTB C) (vs : List Nat) (c0 : C) (O : C → Ob) : DTN := fun δ Q QX => fi δ (fun st ds δ1 => stOk st vs ∧ blD g tt fb vs st ds ds c0 (wipeD δ1 vs) fun c δe => unwipeD δ1 δe vs fun δ2 => Q (O c) δ2) QX
def BD (K : PySem.W.Frag) (cad : Cn → Addr) (D : Addr) (O : C → Ob) (body : L2.St → Hp → (Hp → Prop) → Prop) (fb : DTB C) : Prop := ∀ (R F : Hp) (pars : List V) (δ : DEnv) (σ : L2.St) (H : Hp) (c : C) (Nx : Hp → Prop) (QD : C → DEnv → Prop), Good K cad R F pars (some (.own none (O c)) :: δ) (some (.ref D) :: σ) H → fb c δ QD →
  (∀ c' δ' F' H', Ext R F F' → Good K cad R F' pars (some (.own none (O c')) :: δ') (some (.ref D) :: σ) H' → QD c' δ' → Nx H') → body σ H Nx
theorem bl_core {g : TG} {tt : TT} {gd : DTG} {ft : DTT} {fb : DTB C} {is vs : List Nat} {O : C → Ob} {c0 : C} {J : It} {st : Option Nat} {ds : List D} {D : Addr} {δ1 : DEnv} {Q : VK} {QD : C → DEnv → Prop} {body : L2.St → Hp → (Hp → Prop) → Prop} {o0 : HO} {F1 H1 : Hp} (hg : DG K cad EN g gd is) (ht : DT K cad EN tt ft) (sub : ∀ j ∈ is, j ∈ vs)
    (hb : BD K cad D O body fb) (g1 : Good K cad R F1 pars δ1 σ H1) (w : Walk K cad J st ds F1 σ) (no : stOk st vs)
    (start : Good K cad R F1 pars (some (.own none (O c0)) :: wipeD δ1 vs) (some (.ref D) :: L2.wipe σ vs) (upd H1 D o0)) (q1 : blD gd ft fb vs st ds ds c0 (wipeD δ1 vs) fun c δe => unwipeD δ1 δe vs fun δ2 => QD c δ2)
    (q : ∀ c δ' F' H', Ext R F1 F' → Good K cad R F' pars (some (.own none (O c)) :: δ') (some (.ref D) :: σ) H' → QD c δ' → Q (.ref D) H') :
    ∃ W : Nat → Nat → Hp → Prop, (∃ m, W 0 m (upd H1 D o0)) ∧ ∀ i m H, W i m H → (J.stop i H ∧ Q (.ref D) H) ∨ (J.go i H ∧ ∃ Nx : Hp → Prop, (∀ H', Nx H' → ∃ m', m' < m ∧ W (i + 1) m' H') ∧ ∀ x H', J.yld i H x H' → g x (L2.wipe σ vs) H' fun σ2 H2 => L2.wipe σ2 vs = L2.wipe σ vs ∧ tt σ2 H2 fun b H3 =>
      if b = true then body σ2 H3 Nx else Nx H3) := by
  have av : AtV st σ (L2.wipe σ vs) := by
    cases st with
    | none => trivial
    | some i =>
      have no : vs.contains i = false := no
      exact wipe_at fun m => by rw [show vs.contains i = true from List.contains_iff_mem.mpr m] at no; cases no
  refine ⟨fun i m H2 => m = ds.length - i ∧ i ≤ ds.length ∧ ∃ F2 δ2 c, Ext R F1 F2 ∧ Good K cad R F2 pars (some (.own none (O c)) :: δ2) (some (.ref D) :: L2.wipe σ vs) H2 ∧ (∀ j ∈ vs, dget δ2 j = none) ∧ blD gd ft fb vs st ds (ds.drop i) c δ2 (fun c δe => unwipeD δ1 δe vs fun δ2 => QD c δ2),
    ⟨ds.length, by simp, Nat.zero_le _, F1, _, c0, .refl, start, fun j hj => wipeD_get hj, by simpa using q1⟩, ?_⟩
  rintro i m H2 ⟨rfl, hi, F2, δ2, c, s2, g2, nv, q2⟩
  obtain ⟨R1, less, g3, back⟩ := g2.aside
  by_cases lt : i < ds.length
  · obtain ⟨d, ed⟩ : ∃ d, ds[i]? = some d := ⟨ds[i], List.getElem?_eq_getElem lt⟩
    have edr : ds.drop i = d :: ds.drop (i + 1) := by
      rw [List.drop_eq_getElem_cons lt]
      rw [List.getElem?_eq_getElem lt] at ed
      rw [Option.some.inj ed]
    rw [edr] at q2
    obtain ⟨sty, q2⟩ := stay_of (P := gd d δ2 (fun δ1' => ft δ1' (fun b δ2' => ifD b (fb c δ2' fun c' δ3 => blD gd ft fb vs st ds (ds.drop (i + 1)) c' (wipeD δ3 vs) (fun c δe => unwipeD δ1 δe vs fun δ2 => QD c δ2)) (blD gd ft fb vs st ds (ds.drop (i + 1)) c (wipeD δ2' vs) (fun c δe => unwipeD δ1 δe vs fun δ2 => QD c δ2))) noX) noX) q2
    refine .inr ⟨w.go i R1 F2 pars δ2 _ H2 s2.s g3 sty av lt, fun H' => ∃ F5 δ5 c5, Ext R F1 F5 ∧ Good K cad R F5 pars (some (.own none (O c5)) :: δ5) (some (.ref D) :: L2.wipe σ vs) H' ∧ (∀ j ∈ vs, dget δ5 j = none) ∧ blD gd ft fb vs st ds (ds.drop (i + 1)) c5 δ5 (fun c δe => unwipeD δ1 δe vs fun δ2 => QD c δ2),
      fun H' ⟨F5, δ5, c5, s5, g5, nv5, q5⟩ => ⟨ds.length - (i + 1), by omega, rfl, lt, F5, δ5, c5, s5, g5, nv5, q5⟩, fun v H' y => ?_⟩
    obtain ⟨F3, d', s3, g4, ed', rd⟩ := w.yld i R1 F2 pars δ2 _ H2 v H' s2.s g3 sty av lt y
    rw [ed] at ed'
    cases ed'
    refine hg R1 F3 pars δ2 _ H' v d _ _ noX g4 (fun _ => xok_no) rd q2 fun δ4 σ4 F4 H4 s4 g5 l4 k4 q4 => ?_
    have ew : L2.wipe σ4 vs = L2.wipe σ vs := (wipe_agree (σ := L2.wipe σ vs) (is := is) l4 k4 sub).trans (wipe_wipe σ vs)
    refine ⟨ew, ht R1 F4 pars δ4 σ4 H4 _ _ noX g5 xok_no q4 fun b δ5 F5 H5 s5 g6 q5 => ite_of q5 (fun q6 => ?_) fun q6 => ?_⟩
    · have s25 : Ext R1 F2 F5 := s3.trans (s4.trans s5)
      refine hb R F5 pars δ5 σ4 H5 c _ _ (back F5 H5 δ5 σ4 s25 g6) q6 fun c' δ6 F6 H6 s6 g7 q7 => ?_
      obtain ⟨R2, less2, g8, back2⟩ := g7.aside
      have g10 := g8.wipe vs
      rw [ew] at g10
      exact ⟨F6, wipeD δ6 vs, c', s2.trans ((s25.less less).trans s6), back2 F6 H6 _ _ .refl g10, fun j hj => wipeD_get hj, q7⟩
    · have s25 : Ext R1 F2 F5 := s3.trans (s4.trans s5)
      have g10 := g6.wipe vs
      rw [ew] at g10
      exact ⟨F5, wipeD δ5 vs, c, s2.trans (s25.less less), back F5 H5 _ _ s25 g10, fun j hj => wipeD_get hj, q6⟩
  · have e : i = ds.length := by omega
    subst e
    rw [List.drop_length] at q2
    obtain ⟨sty, q2⟩ := stay_of (P := unwipeD δ1 δ2 vs fun δ2 => QD c δ2) q2
    refine .inl ⟨w.stop _ R1 F2 pars δ2 _ H2 s2.s g3 sty av (Nat.le_refl _), ?_⟩
    have g4 : Good K cad R1 F2 pars δ2 σ H2 := g3.weak (wipe_length σ vs).symm fun j s e => (wipe_at fun m => by rw [nv j m] at e; cases e).symm
    obtain ⟨δ', g5, q5⟩ := unwipe_of (R := R1) (pars := pars) (F := F2) (H := H2) (δ0 := δ1) (σ := σ) (fun v d e => by
      obtain ⟨fp, g'⟩ := id g1
      obtain ⟨w, ew, hw, _⟩ := g'.sl v _ e
      exact ⟨w, ew, Rep.same s2.s hw⟩) g4 q2
    exact q c δ' F2 H2 s2 (back F2 H2 δ' σ .refl g5) q5
end
def fbL (te : DTE) : DTB (List D) := fun acc δ K => te δ (fun e δ3 => frzE e δ3 fun y δ4 => acc.length < 1000000 ∧ K (acc ++ [y]) δ4) noX
def dLc (fi : DTI) (g : DTG) (tt : DTT) (te : DTE) (vs : List Nat) : DTN := dBl fi g tt (fbL te) vs [] .lst
theorem dn_lc {wi : TI} {g : TG} {tt : TT} {te : TE} {fi : DTI} {gd : DTG} {ft : DTT} {fe : DTE} {is vs : List Nat} (hi : DI K cad E wi fi) (hg : DG K cad EN g gd is) (ht : DT K cad EN tt ft) (he : DE K cad EN te fe) (sub : ∀ j ∈ is, j ∈ vs) : DN K cad E (tLc wi g tt te vs) (dLc fi gd ft fe vs) := fun R F pars δ σ H Q QD QX g0 x hf q =>
  hi R F pars δ σ H _ _ QX g0 x hf fun st ds δ1 F1 H1 J s1 g1 w ⟨no, q1⟩ => by
    intro D hD
    refine bl_core (O := .lst) (c0 := []) (QD := fun c δ => QD (.lst c) δ) (body := fun σ2 H3 Nx => te σ2 H3 fun y H4 => ∃ acc, H4 D = some (.lst acc) ∧ acc.length < sizeLine ∧ Nx (upd H4 D (.lst (acc ++ [y])))) hg ht sub ?_ g1 w no ((g1.wipe vs).newL hD .nil) q1 fun c δ' F' H' s2 g2 q2 => q (.lst c) δ' _ F' H' (s1.trans s2) g2 q2
    intro R F pars δ σ H acc Nx QD g h q
    obtain ⟨R1, less, g2, back⟩ := g.aside
    refine he R1 F pars δ σ H _ _ noX g2 xok_no h fun e δ2 v F2 H2 s2 g3 hv h2 => ?_
    obtain ⟨y, δ3, F3, s3, g4, ry, lt, h3⟩ := frz_of g3 hv h2
    have gb := back F3 H2 δ3 σ (s2.trans s3) g4
    obtain ⟨a, accV, ea, hacc, racc⟩ := SqLat (i := 0) (v := .ref D) gb rfl rfl
    cases ea
    obtain ⟨b2, us, eb, _, _, gw⟩ := Good.writeL (n := 0) (v := .ref D) gb rfl rfl (racc.app (.one ry))
    cases eb
    exact ⟨accV, hacc, Nat.lt_of_lt_of_le (by rw [racc.len]; exact lt) (by decide : 1000000 ≤ sizeLine), q _ δ3 F3 _ ((s2.trans s3).less less) gw h3⟩
end
end PD

set_option Elab.async false
set_option linter.all false
set_option maxRecDepth 100000
set_option maxHeartbeats 4000000
/-! Own layer: what a def promises, in data; its calls. -/
namespace PD
open L2 ClX
open PySem PySem.Spec PyProof.Rows
/-- from the arguments: what is wanted of the answer and of the things of one's own behind it, what of an error -/
abbrev DSp := List Sl → (Sl → List Ob → Prop) → (Cn → List (Str × D) → List Ob → Prop) → Prop
def toksOk : List Sl → Nat → Prop
  | [], _ => True
  | .val _ :: r, n => toksOk r (n + 1)
  | .own t _ :: r, n => t = some n ∧ toksOk r (n + 1)
def putOb : List Sl → List Ob → List Sl
  | [], _ => []
  | .val d :: r, bs => .val d :: putOb r bs
  | .own t _ :: r, b :: bs => .own t b :: putOb r bs
  | .own t o :: r, [] => .own t o :: putOb r []
def SpD (K : PySem.W.Frag) (cad : Cn → Addr) (g : DSp) : Sp := fun vs H Q E => ∃ (R F : Hp) (ss : List Sl) (Q1 : Sl → List Ob → Prop) (QX1 : Cn → List (Str × D) → List Ob → Prop), Good K cad R F vs (slV ss) (vs.map some) H ∧ toksOk ss 0 ∧ g ss Q1 QX1 ∧
  (∀ r bs, Q1 r bs → ∀ v F' H', Ext R F F' → Good K cad R F' vs (some r :: slV (putOb ss bs)) (some v :: vs.map some) H' → Q v H') ∧
  ∀ c fs bs, QX1 c fs bs → ∀ od F' H', Ext R F F' → Good K cad R F' vs (slV (putOb ss bs)) (vs.map some) H' → ExAt K cad F' od fs → E (.ref (cad c)) od H'
/-- the things of one's own behind the body -/
def backsOf : List Sl → Nat → DEnv → (List Ob → Prop) → Prop
  | [], _, _, P => P []
  | .val _ :: r, n, δ, P => backsOf r (n + 1) δ P
  | .own _ _ :: r, n, δ, P => match dget δ n with
    | some (.own (some j) o) => j = n ∧ backsOf r (n + 1) δ fun bs => P (o :: bs)
    | _ => False
def kOf (ss : List Sl) (Q : Sl → List Ob → Prop) (QX : Cn → List (Str × D) → List Ob → Prop) : DK where
  nx := fun δ => backsOf ss 0 δ fun bs => Q (.val .non) bs
  rt := fun r δ => backsOf ss 0 δ fun bs => Q r bs
  bk := fun _ => False
  ct := fun _ => False
  ex := fun c fs δ => backsOf ss 0 δ fun bs => QX c fs bs
def kOf0 (ss : List Sl) (Q : Sl → List Ob → Prop) : DK where
  nx := fun δ => backsOf ss 0 δ fun bs => Q (.val .non) bs
  rt := fun r δ => backsOf ss 0 δ fun bs => Q r bs
  bk := fun _ => False
  ct := fun _ => False
  ex := noX
def nones : Nat → DEnv
  | 0 => []
  | n + 1 => none :: nones n
/-- the slots at the entry -/
def entryD : List Sl → Nat → DEnv
  | [], n => nones n
  | _ :: _, 0 => []
  | s :: ss, n + 1 => some s :: entryD ss n
section
variable {K : PySem.W.Frag} {cad : Cn → Addr} {E : L2.St → XK} {R F F' H H' : Hp} {pars : List V} {δ : DEnv} {σ : L2.St} {De : Ends} {k : DK}
theorem nones_len : ∀ n, (nones n).length = n
  | 0 => rfl
  | n + 1 => congrArg (· + 1) (nones_len n)
theorem nones_get : ∀ {n i : Nat}, dget (nones n) i = none
  | 0, _ => rfl
  | _ + 1, 0 => rfl
  | n + 1, i + 1 => nones_get (n := n)
theorem dget_slV : ∀ (ss : List Sl) (i : Nat), dget (slV ss) i = ss[i]?
  | [], _ => rfl
  | _ :: _, 0 => rfl
  | _ :: ss, i + 1 => dget_slV ss i
theorem entry_len : ∀ {ss : List Sl} {n : Nat}, ss.length ≤ n → (entryD ss n).length = n
  | [], n, _ => nones_len n
  | _ :: ss, n + 1, h => congrArg (· + 1) (entry_len (ss := ss) (Nat.le_of_succ_le_succ h))
theorem entry_get : ∀ {ss : List Sl} {n i : Nat}, ss.length ≤ n → dget (entryD ss n) i = ss[i]?
  | [], _, _, _ => nones_get
  | _ :: _, _ + 1, 0, _ => rfl
  | _ :: ss, n + 1, i + 1, h => entry_get (ss := ss) (Nat.le_of_succ_le_succ h)
theorem Good.entry {ss : List Sl} {vs : List V} {N : List Str} (g : Good K cad R F vs (slV ss) (vs.map some) H) (le : ss.length ≤ N.length) : Good K cad R F vs (entryD ss N.length) (L2.start N vs) H := by
  obtain ⟨fp, g⟩ := g
  have lv : ss.length = vs.length := by
    have := g.len
    unfold slV at this
    rw [List.length_map, List.length_map] at this
    exact this
  refine ⟨fp, g.sR, g.sF, ?_, fun i s e => ?_, g.off, g.sep⟩
  · rw [entry_len le]
    unfold L2.start
    rw [List.length_append, List.length_map, List.length_replicate]
    omega
  · rw [entry_get le] at e
    obtain ⟨v, ev, r⟩ := g.sl i s (by rw [dget_slV]; exact e)
    refine ⟨v, ?_, r⟩
    unfold L2.start
    rw [List.getElem?_append_left (by rw [List.length_map]; have := (List.getElem?_eq_some_iff.mp e).1; omega)]
    exact ev
theorem backs_rel : ∀ {ss : List Sl} {n : Nat} {δ : DEnv} {P : List Ob → Prop}, backsOf ss n δ P → ∃ bs, P bs ∧ ∀ i s, (putOb ss bs)[i]? = some s → (∃ d, s = .val d ∧ ss[i]? = some (.val d)) ∨ ∃ t o j b, s = .own t b ∧ ss[i]? = some (.own t o) ∧ j = n + i ∧ dget δ (n + i) = some (.own (some j) b)
  | [], n, δ, P, h => ⟨[], h, fun i s e => by cases e⟩
  | .val d :: r, n, δ, P, h => by
    obtain ⟨bs, p, q⟩ := backs_rel (ss := r) h
    refine ⟨bs, p, fun i s e => ?_⟩
    cases i with
    | zero => cases e; exact .inl ⟨d, rfl, rfl⟩
    | succ i =>
      have z := q i s e
      rw [show n + (i + 1) = n + 1 + i by omega]
      exact z
  | .own t o :: r, n, δ, P, h => by
    unfold backsOf at h
    cases e : dget δ n with
    | none => rw [e] at h; exact h.elim
    | some u =>
      rw [e] at h
      match u, e, h with
      | .val _, _, h => exact h.elim
      | .own none _, _, h => exact h.elim
      | .own (some j) b, e, h =>
        obtain ⟨ej, h⟩ := (show j = n ∧ backsOf r (n + 1) δ (fun bs => P (b :: bs)) from h)
        obtain ⟨bs, p, q⟩ := backs_rel (ss := r) h
        refine ⟨b :: bs, p, fun i s e2 => ?_⟩
        cases i with
        | zero => cases e2; exact .inr ⟨t, o, j, b, rfl, rfl, ej, e⟩
        | succ i =>
          have z := q i s e2
          rw [show n + (i + 1) = n + 1 + i by omega]
          exact z
theorem putOb_len : ∀ (ss : List Sl) (bs : List Ob), (putOb ss bs).length = ss.length
  | [], _ => rfl
  | .val _ :: r, bs => congrArg (· + 1) (putOb_len r bs)
  | .own _ _ :: r, _ :: bs => congrArg (· + 1) (putOb_len r bs)
  | .own _ _ :: r, [] => congrArg (· + 1) (putOb_len r [])
theorem toks_at : ∀ {ss : List Sl} {n i : Nat} {t : Option Nat} {o : Ob}, toksOk ss n → ss[i]? = some (.own t o) → t = some (n + i)
  | .val _ :: r, n, i + 1, t, o, h, e => by
    have := toks_at (ss := r) h e
    rw [show n + (i + 1) = n + 1 + i by omega]
    exact this
  | .own _ _ :: r, n, 0, t, o, h, e => by cases e; exact h.1
  | .own _ _ :: r, n, i + 1, t, o, h, e => by
    have := toks_at (ss := r) h.2 e
    rw [show n + (i + 1) = n + 1 + i by omega]
    exact this
  | .val _ :: _, _, 0, _, _, _, e => by cases e
/-- the parameters behind the body -/
theorem Good.backs {ss ss' : List Sl} {vs : List V} {F0 H0 : Hp} {δ' δ2 : DEnv} {σ' σ2 : L2.St} (off : Nat) (g0 : Good K cad R F0 vs (slV ss) (vs.map some) H0) (sF : Same F0 F) (tk : toksOk ss 0) (g : Good K cad R F vs δ' σ' H) (ln : ss'.length = ss.length)
    (q : ∀ i s, ss'[i]? = some s → (∃ d, s = .val d ∧ ss[i]? = some (.val d)) ∨ ∃ t o j b, s = .own t b ∧ ss[i]? = some (.own t o) ∧ j = i ∧ dget δ' (i + off) = some (.own (some j) b))
    (l2 : δ2.length = off) (l3 : σ2.length = off) (h2 : ∀ i s, dget δ2 i = some s → dget δ' i = some s) (h3 : ∀ i s, dget δ2 i = some s → σ2[i]? = σ'[i]?) :
    Good K cad R F vs (δ2 ++ slV ss') (σ2 ++ vs.map some) H := by
  obtain ⟨fp, g⟩ := g
  obtain ⟨fp0, g0⟩ := g0
  have lv : ss.length = vs.length := by
    have := g0.len
    unfold slV at this
    rw [List.length_map, List.length_map] at this
    exact this
  have dapp : ∀ {δ2 : DEnv} {δ3 : DEnv} {i : Nat}, dget (δ2 ++ δ3) i = if i < δ2.length then dget δ2 i else dget δ3 (i - δ2.length) := by
    intro δ2
    induction δ2 with
    | nil => intro δ3 i; simp
    | cons a r ih =>
      intro δ3 i
      cases i with
      | zero => simp [dget]
      | succ i =>
        show dget (r ++ δ3) i = _
        rw [ih]
        simp only [List.length_cons, Nat.add_lt_add_iff_right, Nat.add_sub_add_right]
        rfl
  refine ⟨fp, g.sR, g.sF, ?_, fun i s e => ?_, g.off, g.sep⟩
  · unfold slV
    rw [List.length_append, List.length_append, List.length_map, List.length_map, l2, l3, ln, lv]
  · rw [dapp, l2] at e
    by_cases lt : i < off
    · rw [if_pos lt] at e
      obtain ⟨v, ev, r⟩ := g.sl i s (h2 i s e)
      refine ⟨v, ?_, r⟩
      rw [List.getElem?_append_left (by rw [l3]; exact lt), h3 i s e]
      exact ev
    · rw [if_neg lt, dget_slV] at e
      have at2 : ∀ {v : V}, vs[i - off]? = some v → (σ2 ++ vs.map some)[i]? = some (some v) := fun {v} ev => by
        rw [List.getElem?_append_right (by rw [l3]; omega), l3, List.getElem?_map, ev]
        rfl
      rcases q _ s e with ⟨d, rfl, es⟩ | ⟨t, o, j, b, rfl, es, ej, eb⟩
      · obtain ⟨v, ev, hv, _⟩ := g0.sl (i - off) (.val d) (by rw [dget_slV]; exact es)
        rw [List.getElem?_map] at ev
        cases e2 : vs[i - off]? with
        | none => rw [e2] at ev; cases ev
        | some w =>
          rw [e2] at ev
          cases ev
          exact ⟨_, at2 e2, Rep.same sF hv, fun t o z => by cases z⟩
      · subst ej
        have ii : i - off + off = i := by omega
        rw [ii] at eb
        obtain ⟨v, ev, hv, tv⟩ := g.sl i _ eb
        have evs := tv _ _ rfl
        have et := toks_at tk es
        rw [Nat.zero_add] at et
        subst et
        exact ⟨v, at2 evs, hv, fun t o z => by cases z; exact evs⟩
theorem kOf_link {ss : List Sl} {vs : List V} {Q : Sl → List Ob → Prop} {QX : Cn → List (Str × D) → List Ob → Prop} {Qv : VK} {Ex : XK} (g : Good K cad R F vs (slV ss) (vs.map some) H) (tk : toksOk ss 0)
    (hQ : ∀ r bs, Q r bs → ∀ v F' H', Ext R F F' → Good K cad R F' vs (some r :: slV (putOb ss bs)) (some v :: vs.map some) H' → Qv v H')
    (hX : ∀ c fs bs, QX c fs bs → ∀ od F' H', Ext R F F' → Good K cad R F' vs (slV (putOb ss bs)) (vs.map some) H' → ExAt K cad F' od fs → Ex (.ref (cad c)) od H') :
    Link K cad (fun _ => Ex) R F vs { nx := fun _ H' => Qv .non H', rt := Qv } (kOf ss Q QX) := by
  have back : ∀ {δ' : DEnv} {σ' : L2.St} {F' H' : Hp} {r : Sl} {v : V} {P : List Ob → Prop}, Ext R F F' → Good K cad R F' vs (some r :: δ') (some v :: σ') H' → backsOf ss 0 δ' P → ∃ bs, P bs ∧ Good K cad R F' vs (some r :: slV (putOb ss bs)) (some v :: vs.map some) H' := fun {δ' σ' F' H' r v P} s g' hb => by
    obtain ⟨bs, p, q⟩ := backs_rel hb
    refine ⟨bs, p, Good.backs (δ2 := [some r]) (σ2 := [some v]) 1 g s.s tk g' (putOb_len ss bs) (fun i s e => ?_) rfl rfl (fun i s e => ?_) fun i s e => ?_⟩
    · rcases q i s e with z | ⟨t, o, j, b, e1, e2, e3, e4⟩
      · exact .inl z
      · refine .inr ⟨t, o, j, b, e1, e2, by omega, ?_⟩
        rw [Nat.zero_add] at e4
        exact e4
    · cases i with
      | zero => exact e
      | succ i => cases e
    · cases i with
      | zero => rfl
      | succ i => cases e
  refine ⟨fun δ' σ' F' H' s g' q => ?_, fun r δ' σ' v F' H' s g' q => ?_, fun _ _ _ _ _ _ q => q.elim, fun _ _ _ _ _ _ q => q.elim, fun σ c fs od δ' F' H' s g' x q => ?_⟩
  · obtain ⟨bs, p, g2⟩ := back s (g'.consV .non) q
    exact hQ _ bs p .non F' H' s g2
  · obtain ⟨bs, p, g2⟩ := back s g' q
    exact hQ _ bs p v F' H' s g2
  · obtain ⟨bs, p, g2⟩ := back s (g'.consV .non) q
    exact hX c fs bs p od F' H' s g2.tail x
theorem kOf0_link {ss : List Sl} {vs : List V} {Q : Sl → List Ob → Prop} {Qv : VK} (g : Good K cad R F vs (slV ss) (vs.map some) H) (tk : toksOk ss 0)
    (hQ : ∀ r bs, Q r bs → ∀ v F' H', Ext R F F' → Good K cad R F' vs (some r :: slV (putOb ss bs)) (some v :: vs.map some) H' → Qv v H') :
    Link K cad EN R F vs { nx := fun _ H' => Qv .non H', rt := Qv } (kOf0 ss Q) := by
  have l := kOf_link (Ex := E0) (QX := fun _ _ _ => False) g tk hQ (fun _ _ _ q => q.elim)
  exact ⟨l.nx, l.rt, l.bk, l.ct, fun σ => xok_no⟩
section
variable {P : Program} {w : World} {mg : Str → Option Value} {base : Heap}
/-- a def that does not raise -/
theorem okD {x qual : Str} {st : Stmt} {f : Addr} {N ps : List Str} {k : Nat} {g : DSp} (h : FnT K x qual st f) (S : FnScope N ps (defScope st)) (hb : BindsAll st x qual ps) (len : ∀ ss Q QX, g ss Q QX → ss.length = ps.length)
    (body : ∀ (cdv : Value) (A : Around) (outer : List Env) (s : Shared) (H : Hp) (E : XK), Room k (A.deeper (PyProof.Rows.envOfC qual (defScope st) s.heap.objs.size f cdv)) →
      ∃ t fd, PSs (cxOf CX0 P w K mg base N qual (defScope st) f cdv A outer s H E).nox (defBody st) t ∧ DS K cad EN t fd ∧ ∀ ss Q QX, g ss Q QX → fd (kOf0 ss Q) (entryD ss N.length)) :
    Ok1 P w K mg base (k + 1) f ps (SpD K cad g) := by
  have lens : ∀ {vs : List V} {ss : List Sl} {R F H : Hp}, Good K cad R F vs (slV ss) (vs.map some) H → vs.length = ss.length := fun {vs ss R F H} g => by
    have := g.len
    unfold slV at this
    rw [List.length_map, List.length_map] at this
    exact this.symm
  refine h.ok S hb (fun vs H Q E ⟨R, F, ss, Q1, QX1, gd, tk, q, _⟩ => (lens gd).trans (len _ _ _ q)) fun cdv A outer s H vs Q E hr ⟨R, F, ss, Q1, QX1, gd, tk, q, q1, q2⟩ => ?_
  obtain ⟨t, fd, ht, hd, hq⟩ := body cdv A outer s H E hr
  have le : ss.length ≤ N.length := by
    rw [len _ _ _ q, ← S.pre]
    exact List.length_take_le' _ _
  exact ⟨t, ht, hd R F vs _ _ H _ _ (gd.entry le) (kOf0_link gd tk q1) (hq ss _ _ q)⟩
/-- a def that may raise -/
theorem okXD {x qual : Str} {st : Stmt} {f : Addr} {N ps : List Str} {k : Nat} {g : DSp} (h : FnT K x qual st f) (S : FnScope N ps (defScope st)) (hb : BindsAll st x qual ps) (len : ∀ ss Q QX, g ss Q QX → ss.length = ps.length)
    (body : ∀ (cdv : Value) (A : Around) (outer : List Env) (s : Shared) (H : Hp) (E : XK), Room k (A.deeper (PyProof.Rows.envOfC qual (defScope st) s.heap.objs.size f cdv)) →
      ∃ t fd, PSs (cxOf (L2.CX P w) P w K mg base N qual (defScope st) f cdv A outer s H E) (defBody st) t ∧ DS K cad (fun _ => E) t fd ∧ ∀ ss Q QX, g ss Q QX → fd (kOf ss Q QX) (entryD ss N.length)) :
    OkX P w K mg base (k + 1) f ps (SpD K cad g) := by
  have lens : ∀ {vs : List V} {ss : List Sl} {R F H : Hp}, Good K cad R F vs (slV ss) (vs.map some) H → vs.length = ss.length := fun {vs ss R F H} g => by
    have := g.len
    unfold slV at this
    rw [List.length_map, List.length_map] at this
    exact this.symm
  refine h.okX S hb (fun vs H Q E ⟨R, F, ss, Q1, QX1, gd, tk, q, _⟩ => (lens gd).trans (len _ _ _ q)) fun cdv A outer s H vs Q E hr ⟨R, F, ss, Q1, QX1, gd, tk, q, q1, q2⟩ => ?_
  obtain ⟨t, fd, ht, hd, hq⟩ := body cdv A outer s H E hr
  have le : ss.length ≤ N.length := by
    rw [len _ _ _ q, ← S.pre]
    exact List.length_take_le' _ _
  exact ⟨t, ht, hd R F vs _ _ H _ _ (gd.entry le) (kOf_link gd tk q1 q2) (hq ss _ _ q)⟩
end
/-! ### calls -/
def varIx : Ev → Option Nat
  | .var i => some i
  | _ => none
def ndB : List Nat → Bool
  | [] => true
  | x :: xs => !xs.contains x && ndB xs
def varsOk (es : List Ev) (P : Prop) : Prop := ifD (ndB (es.filterMap varIx)) P False
def passArgs (δ : DEnv) : List Ev → Nat → (List Sl → Prop) → Prop
  | [], _, k => k []
  | .val d :: es, n, k => passArgs δ es (n + 1) fun ss => k (.val d :: ss)
  | .var i :: es, n, k => match dget δ i with
    | some (.own _ o) => passArgs δ es (n + 1) fun ss => k (.own (some n) o :: ss)
    | _ => False
  | .bor _ :: _, _, _ => False
def reOb (s : Option Sl) (b : Ob) : Option Sl := match s with
  | some (.own t _) => some (.own t b)
  | s => s
def putBack : DEnv → List Ev → List Sl → DEnv
  | δ, .var i :: es, .own _ b :: ss => putBack (dset δ i (reOb (dget δ i) b)) es ss
  | δ, _ :: es, _ :: ss => putBack δ es ss
  | δ, _, _ => δ
def frzR (r : Sl) (k : D → Prop) : Prop := match r with
  | .val d => k d
  | .own none o => vwO o k
  | _ => False
def ownR (r : Sl) (k : Ob → Prop) : Prop := match r with
  | .own none o => k o
  | _ => False
def callD (g : DSp) (δ : DEnv) (es : List Ev) (Q : Sl → DEnv → Prop) (QX : DX) : Prop := varsOk es (passArgs δ es 0 fun ss => g ss (fun r bs => Q r (putBack δ es (putOb ss bs))) fun c fs bs => QX c fs (putBack δ es (putOb ss bs)))
theorem ndB_of : ∀ {xs : List Nat}, ndB xs = true → xs.Nodup
  | [], _ => .nil
  | x :: xs, h => by
    unfold ndB at h
    rw [Bool.and_eq_true, Bool.not_eq_true'] at h
    refine List.nodup_cons.mpr ⟨fun m => ?_, ndB_of h.2⟩
    rw [List.contains_iff_mem.mpr m] at h
    exact absurd h.1 (by decide)
theorem pass_rel : ∀ {es : List Ev} {n : Nat} {k : List Sl → Prop}, passArgs δ es n k → ∃ ss : List Sl, k ss ∧ ss.length = es.length ∧ toksOk ss n ∧ ∀ (i : Nat) (s : Sl), ss[i]? = some s → (∃ d, s = Sl.val d ∧ es[i]? = some (Ev.val d)) ∨ ∃ (j : Nat) (t : Option Nat) (o : Ob), s = Sl.own (some (n + i)) o ∧ es[i]? = some (Ev.var j) ∧ dget δ j = some (.own t o)
  | [], n, k, h => ⟨[], h, rfl, trivial, fun i s e => by cases e⟩
  | .val d :: es, n, k, h => by
    obtain ⟨ss, q, l, t, r⟩ := pass_rel (es := es) h
    refine ⟨.val d :: ss, q, congrArg (· + 1) l, t, fun i s e => ?_⟩
    cases i with
    | zero => cases e; exact .inl ⟨d, rfl, rfl⟩
    | succ i => rw [show n + (i + 1) = n + 1 + i by omega]; exact r i s e
  | .var j :: es, n, k, h => by
    unfold passArgs at h
    cases e : dget δ j with
    | none => rw [e] at h; exact h.elim
    | some u =>
      rw [e] at h
      cases u with
      | val d => exact h.elim
      | own t o =>
        obtain ⟨ss, q, l, tk, r⟩ := pass_rel (es := es) h
        refine ⟨.own (some n) o :: ss, q, congrArg (· + 1) l, ⟨rfl, tk⟩, fun i s e2 => ?_⟩
        cases i with
        | zero => cases e2; exact .inr ⟨j, t, o, rfl, rfl, e⟩
        | succ i => rw [show n + (i + 1) = n + 1 + i by omega]; exact r i s e2
  | .bor _ :: _, _, _, h => h.elim
theorem putBack_len : ∀ (es : List Ev) (δ : DEnv) (ss : List Sl), (putBack δ es ss).length = δ.length
  | [], _, _ => by cases ‹List Sl› <;> rfl
  | e :: es, δ, [] => by cases e <;> rfl
  | .val _ :: es, δ, s :: ss => by cases s <;> exact putBack_len es δ ss
  | .bor _ :: es, δ, s :: ss => by cases s <;> exact putBack_len es δ ss
  | .var i :: es, δ, .val _ :: ss => putBack_len es δ ss
  | .var i :: es, δ, .own _ b :: ss => (putBack_len es _ ss).trans (dset_len ..)
theorem putBack_rel : ∀ {es : List Ev} {δ : DEnv} {ss : List Sl}, (es.filterMap varIx).Nodup → ss.length = es.length → ∀ (j : Nat) (s : Sl), dget (putBack δ es ss) j = some s →
    (∃ (k : Nat) (t t' : Option Nat) (o b : Ob), es[k]? = some (Ev.var j) ∧ ss[k]? = some (Sl.own t' b) ∧ dget δ j = some (.own t o) ∧ s = .own t b) ∨ (dget δ j = some s ∧ ((∀ k : Nat, es[k]? ≠ some (Ev.var j)) ∨ (∃ d, s = Sl.val d) ∨ ∃ (k : Nat) (d : D), es[k]? = some (Ev.var j) ∧ ss[k]? = some (Sl.val d)))
  | [], δ, ss, _, _, j, s, e => .inr ⟨by cases ss <;> exact e, .inl fun k z => by cases z⟩
  | e :: es, δ, [], _, l, _, _, _ => by cases l
  | .val d :: es, δ, u :: ss, nd, l, j, s, e => by
    have e : dget (putBack δ es ss) j = some s := by cases u <;> exact e
    rcases putBack_rel (es := es) nd (Nat.succ.inj l) j s e with ⟨k, t, t', o, b, a1, a2, a3⟩ | ⟨a1, a2⟩
    · exact .inl ⟨k + 1, t, t', o, b, a1, a2, a3⟩
    · refine .inr ⟨a1, a2.elim (fun z => .inl fun k => ?_) (fun z => .inr (z.elim .inl fun ⟨k, d, z1, z2⟩ => .inr ⟨k + 1, d, z1, z2⟩))⟩
      cases k with
      | zero => exact fun z => by cases z
      | succ k => exact z k
  | .bor d :: es, δ, u :: ss, nd, l, j, s, e => by
    have e : dget (putBack δ es ss) j = some s := by cases u <;> exact e
    rcases putBack_rel (es := es) nd (Nat.succ.inj l) j s e with ⟨k, t, t', o, b, a1, a2, a3⟩ | ⟨a1, a2⟩
    · exact .inl ⟨k + 1, t, t', o, b, a1, a2, a3⟩
    · refine .inr ⟨a1, a2.elim (fun z => .inl fun k => ?_) (fun z => .inr (z.elim .inl fun ⟨k, d, z1, z2⟩ => .inr ⟨k + 1, d, z1, z2⟩))⟩
      cases k with
      | zero => exact fun z => by cases z
      | succ k => exact z k
  | .var i :: es, δ, .val d :: ss, nd, l, j, s, e => by
    have nd2 := (List.nodup_cons.mp (show (i :: es.filterMap varIx).Nodup from nd)).2
    rcases putBack_rel (es := es) nd2 (Nat.succ.inj l) j s e with ⟨k, t, t', o, b, a1, a2, a3⟩ | ⟨a1, a2⟩
    · exact .inl ⟨k + 1, t, t', o, b, a1, a2, a3⟩
    · refine .inr ⟨a1, ?_⟩
      by_cases ji : i = j
      · subst ji
        exact .inr (.inr ⟨0, d, rfl, rfl⟩)
      · refine a2.elim (fun z => .inl fun k => ?_) (fun z => .inr (z.elim .inl fun ⟨k, d, z1, z2⟩ => .inr ⟨k + 1, d, z1, z2⟩))
        cases k with
        | zero => exact fun z => by cases z; exact ji rfl
        | succ k => exact z k
  | .var i :: es, δ, .own tt b :: ss, nd, l, j, s, e => by
    obtain ⟨ni, nd2⟩ := List.nodup_cons.mp (show (i :: es.filterMap varIx).Nodup from nd)
    have notin : ∀ k : Nat, es[k]? ≠ some (.var i) := fun k z => ni (List.mem_filterMap.mpr ⟨_, List.mem_of_getElem? z, rfl⟩)
    rcases putBack_rel (es := es) (δ := dset δ i (reOb (dget δ i) b)) nd2 (Nat.succ.inj l) j s e with ⟨k, t, t', o, b', a1, a2, a3, a4⟩ | ⟨a1, a2⟩
    · have ne : j ≠ i := fun z => notin k (by rw [a1, z])
      rw [dget_set_ne ne] at a3
      exact .inl ⟨k + 1, t, t', o, b', a1, a2, a3, a4⟩
    · rcases dget_set_some a1 with ⟨z1, z2⟩ | ⟨z1, z2⟩
      · subst z1
        unfold reOb at z2
        cases q : dget δ j with
        | none => rw [q] at z2; cases z2
        | some u =>
          rw [q] at z2
          cases u with
          | val d =>
            have z2 : some (Sl.val d) = some s := z2
            cases z2
            exact .inr ⟨rfl, .inr (.inl ⟨d, rfl⟩)⟩
          | own t o =>
            have z2 : some (Sl.own t b) = some s := z2
            cases z2
            exact .inl ⟨0, t, tt, o, b, rfl, rfl, rfl, rfl⟩
      · refine .inr ⟨z2, a2.elim (fun z => .inl fun k => ?_) (fun z => .inr (z.elim .inl fun ⟨k, d, z1, z2⟩ => .inr ⟨k + 1, d, z1, z2⟩))⟩
        cases k with
        | zero => exact fun z => by cases z; exact z1 rfl
        | succ k => exact z k
theorem hold_at : ∀ {vs : List V} {es : List Ev} {i : Nat} {e : Ev}, HoldEs K cad F σ vs es → es[i]? = some e → ∃ v, vs[i]? = some v ∧ HoldE K cad F σ v e
  | v :: vs, e' :: es, 0, e, h, q => by cases q; exact ⟨v, rfl, h.1⟩
  | v :: vs, e' :: es, i + 1, e, h, q => hold_at (vs := vs) (es := es) h.2 q
  | [], _ :: _, _, _, h, _ => h.elim
  | _ :: _, [], _, _, _, q => by cases q
  | [], [], _, _, _, q => by cases q
theorem call_core {g : DSp} {vs : List V} {es : List Ev} {Q : Sl → DEnv → Prop} {QX : DX} {Qv : VK} {Ex : XK} (gd : Good K cad R F pars δ σ H) (hv : HoldEs K cad F σ vs es) (q : callD g δ es Q QX)
    (hQ : ∀ r δ' v F' H', Ext R F F' → Good K cad R F' pars (some r :: δ') (some v :: σ) H' → Q r δ' → Qv v H') (hX : XOk K cad Ex R F pars σ QX) (hr : ∀ t o δ', Q (.own (some t) o) δ' → False) : SpD K cad g vs H Qv Ex := by
  unfold callD varsOk at q
  cases nb : ndB (es.filterMap varIx) with
  | false => rw [nb] at q; exact (show False from q).elim
  | true =>
    rw [nb] at q
    have nd := ndB_of nb
    obtain ⟨ss, q, ls, tk, rel⟩ := pass_rel (show passArgs δ es 0 _ from q)
    obtain ⟨fp, gd⟩ := gd
    have lv := HoldEs.len hv
    classical
    let Ps : Addr → Prop := fun b => ∃ k i : Nat, es[k]? = some (.var i) ∧ fp i b
    let Rc : Hp := fun b => if Ps b then none else H b
    have rcN : ∀ b, Ps b → Rc b = none := fun b h => if_pos h
    have rcH : ∀ b, ¬ Ps b → Rc b = H b := fun b h => if_neg h
    have uniq : ∀ {k l i : Nat}, es[k]? = some (.var i) → es[l]? = some (.var i) → k = l := fun {k l i} h1 h2 => by
      have key : ∀ {es : List Ev} {k l : Nat}, (es.filterMap varIx).Nodup → es[k]? = some (.var i) → es[l]? = some (.var i) → k = l := by
        intro es
        induction es with
        | nil => intro k l _ h1 _; cases h1
        | cons e es ih =>
          intro k l nd h1 h2
          cases k with
          | zero =>
            cases l with
            | zero => rfl
            | succ l =>
              cases h1
              have ni := (List.nodup_cons.mp (show (i :: es.filterMap varIx).Nodup from nd)).1
              exact (ni (List.mem_filterMap.mpr ⟨_, List.mem_of_getElem? (show es[l]? = some (.var i) from h2), rfl⟩)).elim
          | succ k =>
            cases l with
            | zero =>
              cases h2
              have ni := (List.nodup_cons.mp (show (i :: es.filterMap varIx).Nodup from nd)).1
              exact (ni (List.mem_filterMap.mpr ⟨_, List.mem_of_getElem? (show es[k]? = some (.var i) from h1), rfl⟩)).elim
            | succ l =>
              have nd2 : (es.filterMap varIx).Nodup := by
                cases e with
                | var j => exact (List.nodup_cons.mp (show (j :: es.filterMap varIx).Nodup from nd)).2
                | val d => exact nd
                | bor j => exact nd
              exact congrArg (· + 1) (ih nd2 h1 h2)
      exact key nd h1 h2
    let fc : Nat → Addr → Prop := fun k b => ∃ i : Nat, es[k]? = some (.var i) ∧ fp i b
    have gc : Good K cad Rc F vs (slV ss) (vs.map some) H := by
      refine ⟨fc, fun b o e => ?_, gd.sF, ?_, fun k s e => ?_, fun k b ⟨i, h1, h2⟩ => ?_, fun k l b ⟨i, h1, h2⟩ ⟨j, h3, h4⟩ => ?_⟩
      · by_cases h : Ps b
        · rw [rcN b h] at e; cases e
        · rw [rcH b h] at e; exact e
      · unfold slV
        rw [List.length_map, List.length_map, ls, lv]
      · rw [dget_slV] at e
        rcases rel k s e with ⟨d, rfl, h1⟩ | ⟨j, t, o, rfl, h1, h2⟩
        · obtain ⟨v, ev, hh⟩ := hold_at hv h1
          exact ⟨v, by rw [List.getElem?_map, ev]; rfl, hh, fun t o z => by cases z⟩
        · obtain ⟨v, ev, hh⟩ := hold_at hv h1
          obtain ⟨w, ew, hw, _⟩ := gd.sl j _ h2
          rw [show σ[j]? = some (some v) from hh] at ew
          cases ew
          obtain ⟨a, rfl, ho⟩ := hw
          refine ⟨_, by rw [List.getElem?_map, ev]; rfl, ⟨a, rfl, ?_⟩, fun t o z => by cases z; rw [Nat.zero_add]; exact ev⟩
          have ef : fc k = fp j := by
            funext b
            refine propext ⟨fun ⟨i, h3, h4⟩ => ?_, fun h => ⟨j, h1, h⟩⟩
            rw [h1] at h3
            cases h3
            exact h4
          rw [ef]
          exact ho
      · exact ⟨rcN b ⟨k, i, h1, h2⟩, (gd.off i b h2).2⟩
      · have eij := gd.sep i j b h2 h4
        subst eij
        exact uniq h1 h3
    have ownStay : ∀ {bs : List Ob} {k j : Nat}, es[k]? = some (.var j) → ∀ d, (putOb ss bs)[k]? ≠ some (.val d) := fun {bs k j} h1 d z => by
      have lk : k < ss.length := by rw [ls]; exact (List.getElem?_eq_some_iff.mp h1).1
      rcases rel k _ (List.getElem?_eq_getElem lk) with ⟨d2, e1, h2⟩ | ⟨i, t, o, e1, h2, _⟩
      · rw [h1] at h2; cases h2
      · have key : ∀ {ss : List Sl} {bs : List Ob} {k : Nat} {t : Option Nat} {o : Ob}, ss[k]? = some (.own t o) → (putOb ss bs)[k]? ≠ some (.val d) := by
          intro ss
          induction ss with
          | nil => intro bs k t o e; cases e
          | cons a r ih =>
            intro bs k t o e
            cases a with
            | val d2 =>
              cases k with
              | zero => cases e
              | succ k => exact ih (bs := bs) (show r[k]? = _ from e)
            | own t2 o2 =>
              cases bs with
              | nil =>
                cases k with
                | zero => exact fun z => by cases z
                | succ k => exact ih (bs := []) (show r[k]? = _ from e)
              | cons b bs =>
                cases k with
                | zero => exact fun z => by cases z
                | succ k => exact ih (bs := bs) (show r[k]? = _ from e)
        exact key (by rw [List.getElem?_eq_getElem lk, e1]) z
    have after : ∀ {r : Sl} {bs : List Ob} {v : V} {F' H' : Hp}, (∀ t o, r ≠ .own (some t) o) → Ext Rc F F' → Good K cad Rc F' vs (some r :: slV (putOb ss bs)) (some v :: vs.map some) H' → Ext R F F' ∧ Good K cad R F' pars (some r :: putBack δ es (putOb ss bs)) (some v :: σ) H' := fun {r bs v F' H'} rno x g' => by
      obtain ⟨fp', g'⟩ := g'
      have less : ∀ b, Rc b = none → R b = none := fun b e => by
        by_cases h : Ps b
        · obtain ⟨k, i, h1, h2⟩ := h
          exact (gd.off i b h2).1
        · rw [rcH b h] at e
          exact none_of gd.sR e
      have keep : ∀ i b o, fp i b → (∀ k : Nat, es[k]? ≠ some (.var i)) → H b = some o → H' b = some o := fun i b o h1 h2 e => by
        refine g'.sR _ _ ?_
        rw [rcH b fun ⟨k, j, h3, h4⟩ => h2 k (by rw [gd.sep i j b h1 h4]; exact h3)]
        exact e
      let fn : Nat → Addr → Prop := fun n => match n with
        | 0 => fp' 0
        | j + 1 => fun b => (∃ k : Nat, es[k]? = some (.var j) ∧ (∃ t b, (putOb ss bs)[k]? = some (.own t b)) ∧ fp' (k + 1) b) ∨ ((∀ k : Nat, es[k]? ≠ some (.var j)) ∧ fp j b)
      have wk : ∀ {n : Nat} {b : Addr}, fp' n b → Rc b = none ∧ F' b = none ∧ ∃ o, H' b = some o := fun {n b} h => g'.off n b h
      have ot : ∀ {j : Nat} {b : Addr}, fp j b → (∀ k : Nat, es[k]? ≠ some (.var j)) → ∃ o, H b = some o ∧ Rc b = some o := fun {j b} h h2 => by
        obtain ⟨_, _, o, e⟩ := gd.off j b h
        refine ⟨o, e, ?_⟩
        rw [rcH b fun ⟨k, i, h3, h4⟩ => h2 k (by rw [gd.sep j i b h h4]; exact h3)]
        exact e
      refine ⟨x.less less, fn, fun b o e => ?_, g'.sF, congrArg (· + 1) ((putBack_len ..).trans gd.len), fun n s e => ?_, fun n b h => ?_, fun n m b h h' => ?_⟩
      · refine g'.sR _ _ ?_
        by_cases h : Ps b
        · obtain ⟨k, i, h1, h2⟩ := h
          rw [(gd.off i b h2).1] at e
          cases e
        · rw [rcH b h]
          exact gd.sR _ _ e
      · cases n with
        | zero =>
          cases e
          obtain ⟨w, ew, hw, tw⟩ := g'.sl 0 r rfl
          cases ew
          exact ⟨v, rfl, hw, fun t o er => absurd er (rno t o)⟩
        | succ j =>
          have e : dget (putBack δ es (putOb ss bs)) j = some s := e
          rcases putBack_rel nd ((putOb_len ss bs).trans ls) j s e with ⟨k, t, t', o, b, h1, h2, h3, rfl⟩ | ⟨h1, h2⟩
          · obtain ⟨w, ew, hw, _⟩ := g'.sl (k + 1) _ (show dget (slV (putOb ss bs)) k = _ by rw [dget_slV]; exact h2)
            obtain ⟨u, eu, hu, tu⟩ := gd.sl j _ h3
            obtain ⟨y, ey, hy⟩ := hold_at hv h1
            have hy : σ[j]? = some (some y) := hy
            rw [hy] at eu
            cases eu
            have ew : (vs.map some)[k]? = some (some w) := ew
            rw [List.getElem?_map, ey] at ew
            cases ew
            obtain ⟨a, rfl, ho⟩ := hw
            refine ⟨_, hy, ⟨a, rfl, ?_⟩, fun t2 o2 z => by cases z; exact tu _ _ rfl⟩
            have ef : fn (j + 1) = fp' (k + 1) := by
              funext c
              refine propext ⟨fun h => ?_, fun h => .inl ⟨k, h1, ⟨t', b, h2⟩, h⟩⟩
              rcases h with ⟨l, h5, _, h6⟩ | ⟨h5, _⟩
              · rw [uniq h5 h1] at h6; exact h6
              · exact absurd h1 (h5 k)
            rw [ef]
            exact ho
          · obtain ⟨w, ew, hw, tw⟩ := gd.sl j s h1
            rcases h2 with h2 | ⟨d, rfl⟩ | ⟨k, d, h2, h3⟩
            · refine ⟨w, ew, ?_, tw⟩
              have ef : fn (j + 1) = fp j := by
                funext c
                refine propext ⟨fun h => ?_, fun h => .inr ⟨h2, h⟩⟩
                rcases h with ⟨l, h5, _, h6⟩ | ⟨_, h5⟩
                · exact absurd h5 (h2 l)
                · exact h5
              rw [ef]
              exact hw.move x.s fun b u hb e => keep j b u hb h2 e
            · exact ⟨w, ew, Rep.same x.s hw, tw⟩
            · exact absurd h3 (ownStay h2 d)
      · cases n with
        | zero =>
          obtain ⟨a, b2, c⟩ := wk (n := 0) h
          exact ⟨less b a, b2, c⟩
        | succ j =>
          rcases h with ⟨k, h1, _, h2⟩ | ⟨h1, h2⟩
          · obtain ⟨a, b2, c⟩ := wk h2
            exact ⟨less b a, b2, c⟩
          · obtain ⟨o, e, er⟩ := ot h2 h1
            refine ⟨(gd.off j b h2).1, ?_, o, g'.sR _ _ er⟩
            cases eF : F' b with
            | none => rfl
            | some u =>
              rcases x.n b (by rw [eF]; exact fun z => by cases z) with z | z
              · exact absurd (gd.off j b h2).2.1 z
              · rw [er] at z; cases z
      · have clash : ∀ {n j : Nat}, fp' n b → fp j b → (∀ k : Nat, es[k]? ≠ some (.var j)) → False := fun {n j} h1 h2 h3 => by
          obtain ⟨o, _, e⟩ := ot h2 h3
          rw [(wk h1).1] at e
          cases e
        cases n with
        | zero =>
          cases m with
          | zero => rfl
          | succ m =>
            rcases h' with ⟨l, _, _, h6⟩ | ⟨h5, h6⟩
            · cases g'.sep 0 (l + 1) b h h6
            · exact (clash (n := 0) h h6 h5).elim
        | succ n =>
          cases m with
          | zero =>
            rcases h with ⟨l, _, _, h6⟩ | ⟨h5, h6⟩
            · cases g'.sep 0 (l + 1) b h' h6
            · exact (clash (n := 0) h' h6 h5).elim
          | succ m =>
            rcases h with ⟨l, h5, _, h6⟩ | ⟨h5, h6⟩ <;> rcases h' with ⟨l', h7, _, h8⟩ | ⟨h7, h8⟩
            · have := g'.sep (l + 1) (l' + 1) b h6 h8
              cases this
              rw [h5] at h7
              cases h7
              rfl
            · exact (clash h6 h8 h7).elim
            · exact (clash h8 h6 h5).elim
            · exact congrArg (· + 1) (gd.sep n m b h6 h8)
    refine ⟨Rc, F, ss, _, _, gc, tk, q, fun r bs z v F' H' x g' => ?_, fun c fs bs z od F' H' x g' y => ?_⟩
    · obtain ⟨s, g2⟩ := after (fun t o e => by rw [e] at z; exact hr _ _ _ z) x g'
      exact hQ r _ v F' H' s g2 z
    · obtain ⟨s, g2⟩ := after (r := .val .non) (v := .non) (fun t o e => by cases e) x (g'.consV .non)
      exact hX c fs od _ F' H' s g2.tail y z
end
end PD

set_option Elab.async false
set_option linter.all false
set_option maxRecDepth 100000
set_option maxHeartbeats 4000000
/-! Own layer: calls of defs, records, isinstance, dicts, errors, over data. -/
namespace PD
open L2 ClX
open PySem PySem.Spec PyProof.Rows
section
variable {K : PySem.W.Frag} {cad : Cn → Addr} {E : L2.St → XK} {R F F' H H' : Hp} {pars : List V} {δ : DEnv} {σ : L2.St}
/-! ### calls -/
def rVal (Q : Ev → DEnv → Prop) (r : Sl) (δ : DEnv) : Prop := frzR r fun d => Q (.val d) δ
def rOwn (Q : Ob → DEnv → Prop) (r : Sl) (δ : DEnv) : Prop := ownR r fun o => Q o δ
theorem rVal_no {Q : Ev → DEnv → Prop} (t : Nat) (o : Ob) (δ' : DEnv) (h : rVal Q (.own (some t) o) δ') : False := h
theorem rOwn_no {Q : Ob → DEnv → Prop} (t : Nat) (o : Ob) (δ' : DEnv) (h : rOwn Q (.own (some t) o) δ') : False := h
theorem fin_val {Q : VK} {QD : Ev → DEnv → Prop} {F0 : Hp} (s0 : Ext R F0 F) (q : ∀ e δ' v F' H', Ext R F0 F' → Good K cad R F' pars δ' σ H' → HoldE K cad F' σ v e → QD e δ' → Q v H') :
    ∀ r δ' v F' H', Ext R F F' → Good K cad R F' pars (some r :: δ') (some v :: σ) H' → rVal QD r δ' → Q v H' := fun r δ' v F' H' s g h => by
  cases r with
  | val d =>
    obtain ⟨fp, g'⟩ := id g
    obtain ⟨w, ew, hw, _⟩ := g'.sl 0 _ rfl
    cases ew
    exact q (.val d) δ' v F' H' (s0.trans s) g.tail hw h
  | own t o =>
    cases t with
    | some t => exact (rVal_no _ _ _ h).elim
    | none =>
      obtain ⟨d, F2, s2, g2, r, h2⟩ := g.freeze (k := fun d => QD (.val d) δ') h
      exact q (.val d) δ' v F2 H' (s0.trans (s.trans s2)) g2 r h2
theorem fin_own {Q : VK} {QD : Ob → DEnv → Prop} {F0 : Hp} (s0 : Ext R F0 F) (q : ∀ o δ' v F' H', Ext R F0 F' → Good K cad R F' pars (some (.own none o) :: δ') (some v :: σ) H' → QD o δ' → Q v H') :
    ∀ r δ' v F' H', Ext R F F' → Good K cad R F' pars (some r :: δ') (some v :: σ) H' → rOwn QD r δ' → Q v H' := fun r δ' v F' H' s g h => by
  cases r with
  | val d => exact h.elim
  | own t o =>
    cases t with
    | some t => exact (rOwn_no _ _ _ h).elim
    | none => exact q o δ' v F' H' (s0.trans s) g h
def dCall (g : DSp) (fa : DTA) : DTE := fun δ Q QX => fa δ (fun es δ1 => callD g δ1 es (rVal Q) noX) QX
theorem de_call {g : DSp} {ta : TA} {n : Nat} {fa : DTA} (h : DA K cad E ta n fa) : DE K cad E (tCall (SpD K cad g) [] E0 ta) (dCall g fa) := fun R F pars δ σ H Q QD QX gd x hf q =>
  h R F pars δ σ H _ _ QX gd x hf fun es δ1 vs F1 H1 s1 g1 hv _ h1 => by
    show SpD K cad g (vs ++ []) H1 Q E0
    rw [List.append_nil]
    exact call_core g1 hv h1 (fin_val s1 q) xok_no rVal_no
def dnCall (g : DSp) (fa : DTA) : DTN := fun δ Q QX => fa δ (fun es δ1 => callD g δ1 es (rOwn Q) noX) QX
theorem dn_call {g : DSp} {ta : TA} {n : Nat} {fa : DTA} (h : DA K cad E ta n fa) : DN K cad E (tCall (SpD K cad g) [] E0 ta) (dnCall g fa) := fun R F pars δ σ H Q QD QX gd x hf q =>
  h R F pars δ σ H _ _ QX gd x hf fun es δ1 vs F1 H1 s1 g1 hv _ h1 => by
    show SpD K cad g (vs ++ []) H1 Q E0
    rw [List.append_nil]
    exact call_core g1 hv h1 (fin_own s1 q) xok_no rOwn_no
/-- .. of a def that may raise -/
def dCallX (g : DSp) (fa : DTA) : DTE := fun δ Q QX => fa δ (fun es δ1 => callD g δ1 es (rVal Q) QX) QX
theorem de_callX {g : DSp} {ta : TA} {n : Nat} {fa : DTA} (h : DA K cad E ta n fa) : DE K cad E (tCallS (SpD K cad g) E ta) (dCallX g fa) := fun R F pars δ σ H Q QD QX gd x hf q =>
  h R F pars δ σ H _ _ QX gd x hf fun es δ1 vs F1 H1 s1 g1 hv _ h1 => call_core g1 hv h1 (fin_val s1 q) (x.same s1) rVal_no
def dnCallX (g : DSp) (fa : DTA) : DTN := fun δ Q QX => fa δ (fun es δ1 => callD g δ1 es (rOwn Q) QX) QX
theorem dn_callX {g : DSp} {ta : TA} {n : Nat} {fa : DTA} (h : DA K cad E ta n fa) : DN K cad E (tCallS (SpD K cad g) E ta) (dnCallX g fa) := fun R F pars δ σ H Q QD QX gd x hf q =>
  h R F pars δ σ H _ _ QX gd x hf fun es δ1 vs F1 H1 s1 g1 hv _ h1 => call_core g1 hv h1 (fin_own s1 q) (x.same s1) rOwn_no
/-- .. which does not raise here -/
theorem de_callN {g : DSp} {ta : TA} {n : Nat} {fa : DTA} (h : DA K cad E ta n fa) : DE K cad E (tCallS (SpD K cad g) EN ta) (dCall g fa) := fun R F pars δ σ H Q QD QX gd x hf q =>
  h R F pars δ σ H _ _ QX gd x hf fun es δ1 vs F1 H1 s1 g1 hv _ h1 => call_core g1 hv h1 (fin_val s1 q) xok_no rVal_no
theorem dn_callN {g : DSp} {ta : TA} {n : Nat} {fa : DTA} (h : DA K cad E ta n fa) : DN K cad E (tCallS (SpD K cad g) EN ta) (dnCall g fa) := fun R F pars δ σ H Q QD QX gd x hf q =>
  h R F pars δ σ H _ _ QX gd x hf fun es δ1 vs F1 H1 s1 g1 hv _ h1 => call_core g1 hv h1 (fin_own s1 q) xok_no rOwn_no
/-- by keywords alone, in another sequence -/
def dCall3 (g : DSp) (fa : DTA) : DTE := fun δ Q QX => fa δ (fun es δ1 => callD g δ1 (swap3 [] es) (rVal Q) QX) QX
theorem HoldEs.swap3 {vs : List V} {es : List Ev} (h : HoldEs K cad F σ vs es) : HoldEs K cad F σ (L2.swap3 [] vs) (L2.swap3 [] es) := by
  match vs, es, h with
  | [a, b, c], [d, e, f], h => exact ⟨h.2.2.1, h.2.1, h.1, trivial⟩
  | [], [], _ => trivial
  | [_], [_], _ => trivial
  | [_, _], [_, _], _ => trivial
  | _ :: _ :: _ :: _ :: _, _ :: _ :: _ :: _ :: _, _ => trivial
  | [], _ :: _, h => exact h.elim
  | _ :: _, [], h => exact h.elim
  | [_], _ :: _ :: _, h => exact h.2.elim
  | _ :: _ :: _, [_], h => exact h.2.elim
  | [_, _], _ :: _ :: _ :: _, h => exact h.2.2.elim
  | _ :: _ :: _ :: _, [_, _], h => exact h.2.2.elim
  | [_, _, _], _ :: _ :: _ :: _ :: _, h => exact h.2.2.2.elim
  | _ :: _ :: _ :: _ :: _, [_, _, _], h => exact h.2.2.2.elim
/-! ### records -/
def isItem (x : Str) : Bool := decide (x.length ≤ 8) && (Txt.isascii x && (Txt.isalpha x && Txt.islower x))
def InitOk (K : PySem.W.Frag) (cad : Cn → Addr) (sp : Sp) (c : Kd) : Prop := ∀ (p dx : Addr) (x : Str) (n : Int) (H : Hp) (Q : VK) (E : XK), H p = some (.ins (cad c.cn) dx []) → isItem x = true → 0 ≤ n → n ≤ 60 →
  (∀ H' : Hp, H' p = some (.ins (cad c.cn) dx (rfs x n)) → But p H H' → Q .non H') → sp [.ref p, .str x, .int n] H Q E
theorem Good.newRow {p dx : Addr} {c : Kd} {x : Str} {n : Int} (g : Good K cad R F pars δ σ H) (np : H p = none) (s : Same H H') (e : H' p = some (.ins (cad c.cn) dx (rfs x n))) (ok : SOk x) : Good K cad R F pars (some (.own none (.row c x n)) :: δ) (some (.ref p) :: σ) H' := by
  have nR := none_of g.sR np
  have nF := none_of g.sF np
  obtain ⟨fp, g⟩ := g
  have g2 : GoodF K cad R F pars δ σ H' fp := g.more (fun _ _ e => e) s (g.sF.trans s) fun i b q => (g.off i b q).2.1
  refine Good.cons (S := fun b => b = p) g2 ⟨p, rfl, fun b => Iff.rfl, ok, dx, e⟩ (fun k o e => by cases e) (fun b eb => ?_) fun i b q eb => ?_
  · subst eb
    exact ⟨nR, nF, _, e⟩
  · subst eb
    obtain ⟨_, _, o, z⟩ := g.off i b q
    rw [np] at z
    cases z
theorem made_same2 {p dx : Addr} {o : HO} (np : H p = none) (nd : H dx = none) (b : But p (upd (upd H dx (.own p)) p o) H') : Same H H' := fun c u e =>
  b c u (by rw [upd_ne (ne_of_none e np), upd_ne (ne_of_none e nd)]; exact e) (ne_of_none e np)
def dMake (c : Kd) (fa : DTA) : DTN := fun δ Q QX => fa δ (fun es δ1 => frzEs es δ1 fun ds δ2 => match ds with
  | [.str x, .int n] => (isItem x = true ∧ 0 ≤ n ∧ n ≤ 60) ∧ Q (.row c x n) δ2
  | _ => False) QX
theorem dn_make {sp : Sp} {c : Kd} {Ec : XK} {ta : TA} {m : Nat} {fa : DTA} (hi : InitOk K cad sp c) (h : DA K cad E ta m fa) : DN K cad E (tMake (cad c.cn) sp [] Ec ta) (dMake c fa) := fun R F pars δ σ H Q QD QX gd x hf q =>
  h R F pars δ σ H _ _ QX gd x hf fun es δ1 vs F1 H1 s1 g1 hv _ h1 => by
    obtain ⟨ds, δ2, F2, s2, g2, r, _, h2⟩ := frzs_of g1 hv h1
    intro p dx np nd ne
    match ds, vs, r, h2 with
    | [.str z, .int n], [v, w], .cons ra (.cons rb .nil), h2 =>
      obtain ⟨rfl, ok⟩ := ra.strI
      obtain rfl := rb.intI
      refine hi p dx z n _ _ _ upd_same h2.1.1 h2.1.2.1 h2.1.2.2 fun H' e b => ⟨rfl, ?_⟩
      exact q _ δ2 _ F2 H' (s1.trans s2) (g2.newRow np (made_same2 np nd b) e ok) h2.2
/-- a property of records -/
def GetOk (K : PySem.W.Frag) (cad : Cn → Addr) (sp : Sp) (val : Str → Int → D) : Prop := ∀ (c : Kd) (a dx : Addr) (x : Str) (n : Int) (H : Hp) (Q : VK) (E : XK), SOk x → H a = some (.ins (cad c.cn) dx (rfs x n)) → (∀ (v : V), (∀ F, Rep K cad F v (val x n)) → Q v H) → sp [.ref a] H Q E
def dProp (val : Str → Int → D) (f : DTE) : DTE := fun δ Q QX => f δ (fun e δ1 => vwK δ1 e fun d => match d with
  | .row _ x n => Q (.val (val x n)) δ1
  | _ => False) QX
theorem de_prop {sp : Sp} {nm : Str} {p g : Addr} {val : Str → Int → D} {t : TE} {f : DTE} (hc : ∀ c : Kd, Cls K (cad c.cn) ∧ PropOf K (cad c.cn) nm p g) (hg : GetOk K cad sp val) (h : DE K cad E t f) : DE K cad E (tPropD K nm p g sp t) (dProp val f) := fun R F pars δ σ H Q QD QX gd x hf q =>
  h R F pars δ σ H _ _ QX gd x hf fun e δ1 v F1 H1 s1 g1 hv h1 => by
    obtain ⟨d, vw, h2⟩ := view_of g1 hv h1
    cases d with
    | row c z n =>
      obtain ⟨a, dx, rfl, ha, ok⟩ := vw.rowI g1.sF
      exact ⟨a, cad c.cn, dx, _, rfl, ha, (hc c).1, (hc c).2, hg c a dx z n H1 Q E0 ok ha fun v hv => q (.val _) δ1 v F1 H1 s1 g1 (hv F1) h2⟩
    | _ => exact h2.elim
/-- an attribute of records -/
theorem de_fld {nm : Str} {val : Str → Int → D} {t : TE} {f : DTE} (hc : ∀ c : Kd, Cls K (cad c.cn) ∧ NoAttr K (cad c.cn) nm) (hl : ∀ x n, SOk x → ∃ v, (rfs x n).lookup nm = some v ∧ ∀ F, Rep K cad F v (val x n)) (h : DE K cad E t f) : DE K cad E (tFld K t nm) (dProp val f) := fun R F pars δ σ H Q QD QX gd x hf q =>
  h R F pars δ σ H _ _ QX gd x hf fun e δ1 v F1 H1 s1 g1 hv h1 => by
    obtain ⟨d, vw, h2⟩ := view_of g1 hv h1
    cases d with
    | row c z n =>
      obtain ⟨a, dx, rfl, ha, ok⟩ := vw.rowI g1.sF
      obtain ⟨v, e, r⟩ := hl z n ok
      exact ⟨a, _, dx, _, v, rfl, ha, (hc c).1, (hc c).2, e, q (.val _) δ1 v F1 H1 s1 g1 (r F1) h2⟩
    | _ => exact h2.elim
theorem ksD : ¬ (("_item" : Str) = "_slot") := by decide +kernel
theorem rfsI {F : Hp} (x : Str) (n : Int) (h : SOk x) : ∃ v, (rfs x n).lookup ("_item" : Str) = some v ∧ ∀ F, Rep K cad F v (.str x) := ⟨.str x, by simp [rfs, List.lookup], fun F => .str x h⟩
theorem rfsS {F : Hp} (x : Str) (n : Int) (h : SOk x) : ∃ v, (rfs x n).lookup ("_slot" : Str) = some v ∧ ∀ F, Rep K cad F v (.int n) := by
  refine ⟨.int n, ?_, fun F => .int n⟩
  have e : (("_slot" : Str) == "_item") = false := beq_false_of_ne fun z => ksD z.symm
  simp [rfs, List.lookup, e]
theorem rfs_non {m : Str} (x : Str) (n : Int) (h1 : (m == "_item") = false) (h2 : (m == "_slot") = false) : (rfs x n).lookup m = none := by simp [rfs, List.lookup, h1, h2]
def sgK : Kd → Str
  | .N => ""
  | .I => "+"
  | .R => "-"
  | .F => "^"
/-- the sign off a record -/
def dSign (f : DTE) : DTE := fun δ Q QX => f δ (fun e δ1 => vwK δ1 e fun d => match d with
  | .row c _ _ => Q (.val (.str (sgK c))) δ1
  | _ => False) QX
theorem sg_ok (c : Kd) : SOk (sgK c) := by cases c <;> exact ⟨by decide +kernel, by decide⟩
theorem de_sign {t : TE} {f : DTE} (hc : ∀ c : Kd, Cls K (cad c.cn) ∧ ∃ u, Con K (cad c.cn) "SIGN" (.str (sgK c)) u) (h : DE K cad E t f) : DE K cad E (tCon K t "SIGN") (dSign f) := fun R F pars δ σ H Q QD QX gd x hf q =>
  h R F pars δ σ H _ _ QX gd x hf fun e δ1 v F1 H1 s1 g1 hv h1 => by
    obtain ⟨d, vw, h2⟩ := view_of g1 hv h1
    cases d with
    | row c z n =>
      obtain ⟨a, dx, rfl, ha, ok⟩ := vw.rowI g1.sF
      obtain ⟨cl, u, co⟩ := hc c
      exact ⟨a, _, dx, _, _, u, rfl, ha, cl, co, rfs_non z n (by decide +kernel) (by decide +kernel), q (.val _) δ1 _ F1 H1 s1 g1 (Rep.str _ (sg_ok c)) h2⟩
    | _ => exact h2.elim
/-! ### isinstance -/
inductive Bt where
  | none | bool | int | str | list | tuple | dict
  deriving DecidableEq
def Bt.nm : Bt → String
  | .none => "NoneType"
  | .bool => "bool"
  | .int => "int"
  | .str => "str"
  | .list => "list"
  | .tuple => "tuple"
  | .dict => "dict"
inductive TyT where
  | b (t : Bt) | c (k : Kd)
def tyD (d : D) : Option TyT := match d with
  | .non => some (.b .none)
  | .bl _ => some (.b .bool)
  | .int _ => some (.b .int)
  | .str _ => some (.b .str)
  | .lst _ => some (.b .list)
  | .tup _ => some (.b .tuple)
  | .dic _ => some (.b .dict)
  | .row k _ _ => some (.c k)
  | .err _ _ => none
  | .scr _ => none
def tvK (cad : Cn → Addr) : TyT → Value
  | .b t => .type t.nm
  | .c k => .ref (cad k.cn)
/-- what the classes of records are to isinstance -/
structure RowT (K : PySem.W.Frag) (cad : Cn → Addr) : Prop where
  cl : ∀ k : Kd, Cls K (cad k.cn)
  ty : ∀ k : Kd, InsT K (cad k.cn)
theorem ty_of {v : V} {d : D} {t : TyT} (T : RowT K cad) (sF : Same F H) (h : View K cad F H v d) (e : tyD d = some t) : TyX K H v (tvK cad t) := by
  cases d with
  | non => cases e; rw [h.nonI]; exact .base .non
  | bl b => cases e; rw [h.blI]; exact .base (.bl b)
  | int i => cases e; rw [h.intI]; exact .base (.int i)
  | str x => cases e; rw [h.strI.1]; exact .base (.str x)
  | lst ds => cases e; obtain ⟨a, vs, rfl, ha, _⟩ := h.lstI sF; exact .base (.lst ha)
  | tup ds => cases e; obtain ⟨a, vs, rfl, ha, _⟩ := h.tupI sF; exact .base (.tup ha)
  | dic ds =>
    cases e
    obtain ⟨a, vs, rfl, ha, _⟩ := h.dicI sF
    rcases ha with ha | ⟨o, ha⟩
    · exact .base (.dK ha)
    · exact .fDict ha
  | row k x n =>
    cases e
    obtain ⟨a, dx, rfl, ha, _⟩ := h.rowI sF
    have i := T.ty k
    exact .base (.ins ha (T.cl k) i.ha i.hn i.ht i.hm)
  | err c fs => cases e
  | scr ns => cases e
/-- the answers for one class, by the type -/
def TabOk (K : PySem.W.Frag) (cad : Cn → Addr) (u : Value) (tab : TyT → Option Bool) : Prop := ∀ t b, tab t = some b → PySem.W.kitOne K (tvK cad t) u = some b
def tabB (r : Bool) (u : Bt) : TyT → Option Bool
  | .b t => some (decide (t = u) || (decide (t = .bool) && decide (u = .int)))
  | .c _ => if r then some false else none
theorem tabB_ok {r : Bool} {u : Bt} (h : r = true → ∀ k : Kd, PySem.W.kitOne K (.ref (cad k.cn)) (.type u.nm) = some false) : TabOk K cad (.type u.nm) (tabB r u) := fun t b e => by
  cases t with
  | b t =>
    cases e
    cases t <;> cases u <;> exact kit_ty (by decide +kernel)
  | c k =>
    cases r with
    | false => cases e
    | true => cases e; exact h rfl k
def subK (k u : Kd) : Bool := decide (k = u) || decide (u = .N)
def tabC (u : Kd) : TyT → Option Bool
  | .b _ => some false
  | .c k => some (subK k u)
theorem tabC_ok {u : Kd} (h : ∀ t : Bt, PySem.W.kitOne K (.type t.nm) (.ref (cad u.cn)) = some false) (h' : ∀ k : Kd, PySem.W.kitOne K (.ref (cad k.cn)) (.ref (cad u.cn)) = some (subK k u)) : TabOk K cad (.ref (cad u.cn)) (tabC u) := fun t b e => by
  cases t with
  | b t => cases e; exact h t
  | c k => cases e; exact h' k
def dIsi (tab : TyT → Option Bool) (f : DTE) : DTE := fun δ Q QX => f δ (fun e δ1 => vwK δ1 e fun d => match tyD d with
  | some t => (match tab t with
    | some b => Q (.val (.bl b)) δ1
    | none => False)
  | none => False) QX
theorem de_isi {c : V} {u : Value} {tab : TyT → Option Bool} {t : TE} {f : DTE} (T : RowT K cad) (hc : ClsV c u) (ht : TabOk K cad u tab) (h : DE K cad E t f) : DE K cad E (tCB (rIsi K) (tCons t (tCons (tC c) tNil))) (dIsi tab f) := fun R F pars δ σ H Q QD QX gd x hf q =>
  h R F pars δ σ H _ _ QX gd x hf fun e δ1 v F1 H1 s1 g1 hv h1 => by
    obtain ⟨d, vw, h2⟩ := view_of g1 hv h1
    cases et : tyD d with
    | none => rw [et] at h2; exact h2.elim
    | some t =>
      rw [et] at h2
      cases eb : tab t with
      | none => simp only [eb] at h2
      | some b =>
        simp only [eb] at h2
        exact ⟨v, c, tvK cad t, u, b, rfl, hc, ty_of T g1.sF vw et, ht t b eb, q (.val _) δ1 _ F1 H1 s1 g1 (Rep.bl b) h2⟩
/-! errors -/
def dIsE (tab : Cn → Option Bool) (f : DTE) : DTE := fun δ Q QX => f δ (fun e δ1 => vwK δ1 e fun d => match d with
  | .err c _ => (match tab c with
    | some b => Q (.val (.bl b)) δ1
    | none => False)
  | _ => False) QX
theorem err_at {v : V} {c : Cn} {fs : List (Str × D)} (sF : Same F H) (h : View K cad F H v (.err c fs)) : ∃ a d, v = .ref a ∧ H a = some (errO (.ref (cad c)) d a) ∧ ∀ dd, d = some dd → ∃ fs, H dd = some (.xd fs) := by
  cases h with
  | rep h =>
    cases h with
    | err h => exact ⟨_, none, rfl, sF _ _ h, fun dd z => by cases z⟩
    | errF h g r => exact ⟨_, _, rfl, sF _ _ h, fun dd z => by cases z; exact ⟨_, sF _ _ g⟩⟩
theorem de_isE {cv : V} {u : Value} {tab : Cn → Option Bool} {t : TE} {f : DTE} (hc : ClsV cv u) (hx : ∀ c b, tab c = some b → ExcC K (cad c) ∧ PySem.W.kitOne K (.ref (cad c)) u = some b) (h : DE K cad E t f) : DE K cad E (tCB (rIsErr K) (tCons t (tCons (tC cv) tNil))) (dIsE tab f) := fun R F pars δ σ H Q QD QX gd x hf q =>
  h R F pars δ σ H _ _ QX gd x hf fun e δ1 v F1 H1 s1 g1 hv h1 => by
    obtain ⟨d, vw, h2⟩ := view_of g1 hv h1
    cases d with
    | err c fs =>
      cases eb : tab c with
      | none => simp only [eb] at h2
      | some b =>
        simp only [eb] at h2
        obtain ⟨a, dd, rfl, ha, hd⟩ := err_at g1.sF vw
        exact ⟨a, cad c, dd, cv, u, b, rfl, ha, hd, (hx c b eb).1, hc, (hx c b eb).2, q (.val _) δ1 _ F1 H1 s1 g1 (Rep.bl b) h2⟩
    | _ => exact h2.elim
/-! ### raise, try -/
def dRaise (c : Cn) : DTS := fun k δ => k.ex c [] δ
theorem ds_raise {c : Cn} {E : XK} : DS K cad (fun _ => E) (fun _ σ H => E (.ref (cad c)) none H) (dRaise c) := fun R F pars δ σ H De k g l h => l.ex σ c [] none δ F H .refl g rfl h
def dRaise1 (c : Cn) (fn : Str) (fa : DTA) : DTS := fun k δ => fa δ (fun es δ1 => frzEs es δ1 fun ds δ2 => match ds with
  | [d] => k.ex c [(fn, d)] δ2
  | _ => False) k.ex
theorem ds_raise1 {c : Cn} {fn : Str} {E : XK} {ta : TA} {n : Nat} {fa : DTA} (h : DA K cad (fun _ => E) ta n fa) : DS K cad (fun _ => E) (fun _ σ H => ta σ H fun vs H1 => ∃ v, vs = [v] ∧ ∀ d, H1 d = none → E (.ref (cad c)) (some d) (upd H1 d (.xd [(fn, v)]))) (dRaise1 c fn fa) := fun R F pars δ σ H De k g l hf =>
  h R F pars δ σ H _ _ k.ex g (l.ex σ) hf fun es δ1 vs F1 H1 s1 g1 hv _ h1 => by
    obtain ⟨ds, δ2, F2, s2, g2, r, _, h2⟩ := frzs_of g1 hv h1
    match ds, vs, r, h2 with
    | [d], [v], .cons ra .nil, h2 =>
      refine ⟨v, rfl, fun p np => ?_⟩
      obtain ⟨s3, g3⟩ := g2.newF (o := .xd [(fn, v)]) np
      exact l.ex σ c [(fn, d)] (some p) δ2 _ _ (s1.trans (s2.trans s3)) g3 ⟨p, v, rfl, upd_same, ra.same s3.s⟩ h2
/-- try: .. except LogError as e: .. (e in slot i) -/
def kSuite (i : Nat) (k : DK) : DK := { nx := fun δ2 => k.nx (dset δ2 i none), rt := k.rt, bk := fun δ2 => k.bk (dset δ2 i none), ct := fun δ2 => k.ct (dset δ2 i none), ex := noX }
def kTry (cs : List Cn) (i : Nat) (fs : DTS) (k : DK) : DK := { k with ex := fun c xs δ1 => c ∈ cs ∧ fs (kSuite i k) (dset δ1 i (some (.val (.err c xs)))) }
def dTry (cs : List Cn) (i : Nat) (fb fs : DTS) : DTS := fun k δ => fb (kTry cs i fs k) δ
theorem ds_try {cs : List Cn} {i : Nat} {c : Value} {tb : WX → TS} {ts : TS} {fb fs : DTS} (hx : ∀ x ∈ cs, PySem.W.exmOne K (.ref (cad x)) c = some true) (hb : ∀ W : WX, DS K cad (WE W) (tb W) fb) (hs : DS K cad EN ts fs) : DS K cad E (fun D σ H => tb (wKept K c i ts D) D σ H) (dTry cs i fb fs) := fun R F pars δ σ H De k g l hf => by
  refine hb (wKept K c i ts De) R F pars δ σ H De (kTry cs i fs k) g ⟨l.nx, l.rt, l.bk, l.ct, fun σ x xs od δ1 F1 H1 s1 g1 hxs q => ⟨hx x q.1, fun a na => ?_⟩⟩ hf
  obtain ⟨s2, g2⟩ := g1.newF (o := errO (.ref (cad x)) od a) na
  have r : Rep K cad (upd F1 a (errO (.ref (cad x)) od a)) (.ref a) (.err x xs) := by
    match xs, hxs with
    | [], e => cases (show od = none from e); exact .err upd_same
    | [(f, d)], ⟨dd, v, e, h1, h2⟩ =>
      cases e
      refine .errF upd_same (s2.s _ _ h1) (h2.same s2.s)
    | _ :: _ :: _, h => exact h.elim
  have g3 := (g2.consV r).store i
  have l2 := l.same (s1.trans s2)
  refine hs R _ pars _ _ _ _ (kSuite i k) g3 ⟨fun δ3 σ3 F3 H3 s3 g4 q3 => l2.nx _ _ F3 H3 s3 (g4.dropS i) q3, l2.rt, fun δ3 σ3 F3 H3 s3 g4 q3 => l2.bk _ _ F3 H3 s3 (g4.dropS i) q3, fun δ3 σ3 F3 H3 s3 g4 q3 => l2.ct _ _ F3 H3 s3 (g4.dropS i) q3, fun σ => xok_no⟩ q.2
end
end PD

set_option Elab.async false
set_option linter.all false
set_option maxRecDepth 100000
set_option maxHeartbeats 4000000
/-! Own layer: dicts, sets, sorting, methods that read, over data. -/
namespace PD
open L2 ClX
open PySem PySem.Spec PyProof.Rows
/-! ### dicts -/
def dlook (kvs : List (Key × D)) (k : Key) : Option D := (kvs.find? fun kv => decide (kv.1 = k)).map (·.2)
def dput (kvs : List (Key × D)) (k : Key) (v : D) : List (Key × D) := if (kvs.any fun kv => decide (kv.1 = k)) = true then kvs.map (fun kv => if kv.1 = k then (kv.1, v) else kv) else kvs ++ [(k, v)]
def keyD (d : D) (k : Key → Prop) : Prop := match d with
  | .int i => k (.inl i)
  | .str x => k (.inr x)
  | _ => False
def dicD (d : D) (k : List (Key × D) → Prop) : Prop := match d with
  | .dic kvs => k kvs
  | _ => False
section
variable {K : PySem.W.Frag} {cad : Cn → Addr} {E : L2.St → XK} {R F F' H H' : Hp} {pars : List V} {δ : DEnv} {σ : L2.St}
theorem look_v : ∀ {ks : List (Key × V)} {kvs : List (Key × D)} {k : Key}, RepK K cad F ks kvs → (∀ d, dlook kvs k = some d → ∃ v, valV ks k = some v ∧ Rep K cad F v d) ∧ (dlook kvs k = none → valV ks k = none)
  | _, _, k, .nil => ⟨fun d e => (by cases e), fun _ => rfl⟩
  | (k1, v) :: ks, (_, d) :: kvs, k, .cons hk h t => by
    obtain ⟨i1, i2⟩ := look_v (k := k) t
    by_cases e : k1 = k
    · refine ⟨fun d2 q => ⟨v, valV_pos e, ?_⟩, fun q => ?_⟩
      · unfold dlook at q
        rw [List.find?_cons_of_pos (by simpa using e)] at q
        cases q
        exact h
      · unfold dlook at q
        rw [List.find?_cons_of_pos (by simpa using e)] at q
        cases q
    · have q0 : dlook ((k1, d) :: kvs) k = dlook kvs k := by
        unfold dlook
        rw [List.find?_cons_of_neg (by simpa using e)]
      rw [q0, valV_neg (p := (k1, v)) e]
      exact ⟨i1, i2⟩
theorem look_some {ks : List (Key × V)} {kvs : List (Key × D)} {k : Key} (r : RepK K cad F ks kvs) : (valV ks k).isSome = (dlook kvs k).isSome := by
  obtain ⟨a, b⟩ := look_v (k := k) r
  cases e : dlook kvs k with
  | none => rw [b e]; rfl
  | some d => obtain ⟨v, ev, _⟩ := a d e; rw [ev]; rfl
theorem any_key : ∀ {ks : List (Key × V)} {kvs : List (Key × D)} {k : Key}, RepK K cad F ks kvs → (ks.any fun kv => decide (kv.1 = k)) = (kvs.any fun kv => decide (kv.1 = k))
  | _, _, _, .nil => rfl
  | _, _, k, .cons _ h t => by
    rw [List.any_cons, List.any_cons, any_key t]
theorem map_key {v : V} {d : D} (r : Rep K cad F v d) : ∀ {ks : List (Key × V)} {kvs : List (Key × D)} {k : Key}, RepK K cad F ks kvs → RepK K cad F (ks.map fun kv => if kv.1 = k then (kv.1, v) else kv) (kvs.map fun kv => if kv.1 = k then (kv.1, d) else kv)
  | _, _, _, .nil => .nil
  | (k1, v1) :: ks, (_, d1) :: kvs, k, .cons hk h t => by
    rw [List.map_cons, List.map_cons]
    by_cases e : k1 = k
    · rw [if_pos e, if_pos e]
      exact .cons hk r (map_key r t)
    · rw [if_neg e, if_neg e]
      exact .cons hk h (map_key r t)
theorem RepK.app : ∀ {ks ls : List (Key × V)} {kvs lvs : List (Key × D)}, RepK K cad F ks kvs → RepK K cad F ls lvs → RepK K cad F (ks ++ ls) (kvs ++ lvs)
  | _, _, _, _, .nil, g => g
  | _, _, _, _, .cons hk h t, g => .cons hk h (RepK.app t g)
theorem put_v {ks : List (Key × V)} {kvs : List (Key × D)} {k : Key} {v : V} {d : D} (hk : KOk k) (r : RepK K cad F ks kvs) (h : Rep K cad F v d) : RepK K cad F (putK ks k v) (dput kvs k d) := by
  unfold putK dput
  rw [any_key r]
  split
  · exact map_key h r
  · exact r.app (.cons hk h .nil)
theorem key_of {v : V} {d : D} {k : Key → Prop} (h : View K cad F H v d) (q : keyD d k) : ∃ key, v = kV key ∧ KOk key ∧ k key := by
  cases d with
  | int i => exact ⟨.inl i, h.intI, trivial, q⟩
  | str x => exact ⟨.inr x, h.strI.1, h.strI.2, q⟩
  | _ => exact q.elim
theorem dic_of {v : V} {d : D} {k : List (Key × D) → Prop} (sF : Same F H) (h : View K cad F H v d) (q : dicD d k) : ∃ a ks kvs, v = .ref a ∧ Rd H a (.dK ks) ∧ RepK K cad F ks kvs ∧ k kvs := by
  cases d with
  | dic kvs =>
    obtain ⟨a, ks, e, r, t⟩ := h.dicI sF
    exact ⟨a, ks, kvs, e, r, t, q⟩
  | _ => exact q.elim
theorem dgetR {a : Addr} {ks : List (Key × V)} {k : Key} (r : Rd H a (.dK ks)) : DGet H a (kV k) (valV ks k) := .inl ⟨ks, k, r, rfl, rfl⟩
@[irreducible] def lookD (kvs : List (Key × D)) (k : Key) (Q : D → Prop) : Prop := match dlook kvs k with
  | some v => Q v
  | none => False
theorem look_at {kvs : List (Key × D)} {k : Key} {v : D} {Q : D → Prop} (e : dlook kvs k = some v) (q : Q v) : lookD kvs k Q := by
  unfold lookD
  rw [e]
  exact q
def dDGet (fd fk : DTE) : DTE := fun δ Q QX => fd δ (fun e δ1 => fk δ1 (fun ke δ2 => vwK δ2 e fun d => vwK δ2 ke fun kd => dicD d fun kvs => keyD kd fun k => lookD kvs k fun v => Q (.val v) δ2) QX) QX
theorem de_dget {td ty : TE} {fd fk : DTE} (hd : DE K cad E td fd) (hk : DE K cad E ty fk) : DE K cad E (tDGet td ty) (dDGet fd fk) := fun R F pars δ σ H Q QD QX g x hf q =>
  hd R F pars δ σ H _ _ QX g x hf fun e δ1 v F1 H1 s1 g1 hv h1 => hk R F1 pars δ1 σ H1 _ _ QX g1 (x.same s1) h1 fun ke δ2 u F2 H2 s2 g2 hu h2 => by
    obtain ⟨d, vw, h3⟩ := view_of g2 (hv.same s2) h2
    obtain ⟨kd, vk, h4⟩ := view_of g2 hu h3
    obtain ⟨a, ks, kvs, rfl, rd, rk, h5⟩ := dic_of g2.sF vw h4
    obtain ⟨k, rfl, ko, h6⟩ := key_of vk h5
    unfold lookD at h6
    cases eq : dlook kvs k with
    | none => rw [eq] at h6; exact h6.elim
    | some d2 =>
      rw [eq] at h6
      obtain ⟨w, ew, rw'⟩ := (look_v rk).1 d2 eq
      refine ⟨a, w, rfl, ?_, q (.val d2) δ2 w F2 H2 (s1.trans s2) g2 rw' h6⟩
      rw [← ew]
      exact dgetR rd
def dDIn (neg : Bool) (fk fd : DTE) : DTE := fun δ Q QX => fk δ (fun ke δ1 => fd δ1 (fun e δ2 => vwK δ2 e fun d => vwK δ2 ke fun kd => dicD d fun kvs => keyD kd fun k => Q (.val (.bl (if neg then !(dlook kvs k).isSome else (dlook kvs k).isSome))) δ2) QX) QX
theorem de_din {td ty : TE} {fd fk : DTE} (hk : DE K cad E ty fk) (hd : DE K cad E td fd) : DE K cad E (tDIn ty td) (dDIn false fk fd) := fun R F pars δ σ H Q QD QX g x hf q =>
  hk R F pars δ σ H _ _ QX g x hf fun ke δ1 v F1 H1 s1 g1 hv h1 => hd R F1 pars δ1 σ H1 _ _ QX g1 (x.same s1) h1 fun e δ2 u F2 H2 s2 g2 hu h2 => by
    obtain ⟨d, vw, h3⟩ := view_of g2 hu h2
    obtain ⟨kd, vk, h4⟩ := view_of g2 (hv.same s2) h3
    obtain ⟨a, ks, kvs, rfl, rd, rk, h5⟩ := dic_of g2.sF vw h4
    obtain ⟨k, rfl, ko, h6⟩ := key_of vk h5
    refine ⟨a, _, rfl, dgetR rd, ?_⟩
    rw [look_some rk]
    exact q (.val _) δ2 _ F2 H2 (s1.trans s2) g2 (Rep.bl _) h6
theorem de_dnotin {td ty : TE} {fd fk : DTE} (hk : DE K cad E ty fk) (hd : DE K cad E td fd) : DE K cad E (tDNotIn ty td) (dDIn true fk fd) := fun R F pars δ σ H Q QD QX g x hf q =>
  hk R F pars δ σ H _ _ QX g x hf fun ke δ1 v F1 H1 s1 g1 hv h1 => hd R F1 pars δ1 σ H1 _ _ QX g1 (x.same s1) h1 fun e δ2 u F2 H2 s2 g2 hu h2 => by
    obtain ⟨d, vw, h3⟩ := view_of g2 hu h2
    obtain ⟨kd, vk, h4⟩ := view_of g2 (hv.same s2) h3
    obtain ⟨a, ks, kvs, rfl, rd, rk, h5⟩ := dic_of g2.sF vw h4
    obtain ⟨k, rfl, ko, h6⟩ := key_of vk h5
    refine ⟨a, _, rfl, dgetR rd, ?_⟩
    rw [look_some rk]
    exact q (.val _) δ2 _ F2 H2 (s1.trans s2) g2 (Rep.bl _) h6
theorem DkAt {i : Nat} {v : V} {t : Option Nat} {ds : List (Key × D)} (g : Good K cad R F pars δ σ H) (ev : σ[i]? = some (some v)) (e : dget δ i = some (.own t (.dic ds))) : ∃ a vs, v = .ref a ∧ H a = some (.dK vs) ∧ RepK K cad F vs ds := by
  obtain ⟨fp, g'⟩ := id g
  obtain ⟨v', ev', ⟨a, rfl, s, vs, ha, rv⟩, _⟩ := g'.sl i _ e
  rw [ev] at ev'
  cases ev'
  exact ⟨a, vs, rfl, ha, rv⟩
/-- d[k] = v, d a dict of one's own -/
def dDPut (fd fk fv : DTE) : DTS := fun k δ => fv δ (fun e δ1 => frzE e δ1 fun v δ2 => fd δ2 (fun de δ3 => fk δ3 (fun ke δ4 => vwK δ4 ke fun kd => keyD kd fun key => ownK de δ4 fun i t kvs => kvs.length < 1000000 ∧ k.nx (dset δ4 i (some (.own t (.dic (dput kvs key v)))))) k.ex) k.ex) k.ex
theorem ds_dput {td ty tv : TE} {fd fk fv : DTE} (hd : DE K cad E td fd) (hk : DE K cad E ty fk) (hv : DE K cad E tv fv) : DS K cad E (sDPut td ty tv) (dDPut fd fk fv) := fun R F pars δ σ H De k g l hf =>
  hv R F pars δ σ H _ _ k.ex g (l.ex σ) hf fun e δ1 v F1 H1 s1 g1 hw h1 => by
    obtain ⟨d, δ2, F2, s2, g2, r, h2⟩ := frz_of g1 hw h1
    refine hd R F2 pars δ2 σ H1 _ _ k.ex g2 ((l.ex σ).same (s1.trans s2)) h2 fun de δ3 w F3 H3 s3 g3 hde h3 => hk R F3 pars δ3 σ H3 _ _ k.ex g3 ((l.ex σ).same (s1.trans (s2.trans s3))) h3 fun ke δ4 u F4 H4 s4 g4 hu h4 => ?_
    obtain ⟨kd, vk, h5⟩ := view_of g4 hu h4
    obtain ⟨key, rfl, ko, h6⟩ := key_of vk h5
    obtain ⟨i, t, kvs, rfl, ev, ed, lt, h7⟩ := ownK_of (hde.same s4) h6
    obtain ⟨a, vs, rfl, ha, rv⟩ := DkAt g4 ev ed
    obtain ⟨b, us, eb, _, _, g5⟩ := g4.writeK ed ev (put_v (k := key) ko rv (r.same (s3.trans s4).s))
    cases eb
    refine ⟨a, _, rfl, DPut.k (k := key) ha (Nat.lt_of_lt_of_le (by rw [rv.len]; exact lt) (by decide : 1000000 ≤ sizeLine)), l.nx _ _ F4 _ (s1.trans (s2.trans (s3.trans s4))) g5 h7⟩
/-- {k: v for ..} -/
def fbK (fk fv : DTE) : DTB (List (Key × D)) := fun kvs δ Kc => fk δ (fun ke δ1 => fv δ1 (fun ve δ2 => frzE ve δ2 fun v δ3 => vwK δ3 ke fun kd => keyD kd fun key => kvs.length < 1000000 ∧ Kc (dput kvs key v) δ3) noX) noX
def dDc (fi : DTI) (g : DTG) (tt : DTT) (fk fv : DTE) (vs : List Nat) : DTN := dBl fi g tt (fbK fk fv) vs [] .dic
theorem dn_dc {wi : TI} {g : TG} {tt : TT} {tk tv : TE} {fi : DTI} {gd : DTG} {ft : DTT} {fk fv : DTE} {is vs : List Nat} (hi : DI K cad E wi fi) (hg : DG K cad EN g gd is) (ht : DT K cad EN tt ft) (hk : DE K cad EN tk fk) (hv : DE K cad EN tv fv) (sub : ∀ j ∈ is, j ∈ vs) : DN K cad E (tDc wi g tt tk tv vs) (dDc fi gd ft fk fv vs) := fun R F pars δ σ H Q QD QX g0 x hf q =>
  hi R F pars δ σ H _ _ QX g0 x hf fun st ds δ1 F1 H1 J s1 g1 w ⟨no, q1⟩ => by
    intro D hD
    refine bl_core (O := .dic) (c0 := []) (QD := fun c δ => QD (.dic c) δ) (body := fun σ2 H3 Nx => tk σ2 H3 fun y H4 => tv σ2 H4 fun z H5 => ∃ kvs k, y = kV k ∧ H5 D = some (.dK kvs) ∧ kvs.length < sizeLine ∧ Nx (upd H5 D (.dK (putK kvs k z)))) hg ht sub ?_ g1 w no ((g1.wipe vs).newK hD .nil) q1 fun c δ' F' H' s2 g2 q2 => q (.dic c) δ' _ F' H' (s1.trans s2) g2 q2
    intro R F pars δ σ H kvs Nx QD g h q
    obtain ⟨R1, less, g2, back⟩ := g.aside
    refine hk R1 F pars δ σ H _ _ noX g2 xok_no h fun ke δ2 v F2 H2 s2 g3 hke h2 => hv R1 F2 pars δ2 σ H2 _ _ noX g3 xok_no h2 fun ve δ3 u F3 H3 s3 g4 hve h3 => ?_
    obtain ⟨vd, δ4, F4, s4, g5, rv, h4⟩ := frz_of g4 hve h3
    obtain ⟨kd, vk, h5⟩ := view_of g5 (hke.same (s3.trans s4)) h4
    obtain ⟨key, rfl, ko, lt, h6⟩ := key_of vk h5
    have gb := back F4 H3 δ4 σ (s2.trans (s3.trans s4)) g5
    obtain ⟨a, ks, ea, hks, rks⟩ := DkAt (i := 0) (v := .ref D) gb rfl rfl
    cases ea
    obtain ⟨b2, us, eb, _, _, gw⟩ := Good.writeK (n := 0) (v := .ref D) gb rfl rfl (put_v (k := key) ko rks rv)
    cases eb
    exact ⟨ks, key, rfl, hks, Nat.lt_of_lt_of_le (by rw [rks.len]; exact lt) (by decide : 1000000 ≤ sizeLine), q _ δ4 F4 _ ((s2.trans (s3.trans s4)).less less) gw h6⟩
/-! ### sets of texts, by their sizes -/
def strsD0 (ds : List D) (k : List Str → Prop) : Prop := match ds with
  | [] => k []
  | .str x :: ds => strsD0 ds fun xs => k (x :: xs)
  | _ => False
theorem strs_of0 : ∀ {ds : List D} {k : List Str → Prop}, strsD0 ds k → ∃ xs : List Str, ds = xs.map D.str ∧ k xs
  | [], k, h => ⟨[], rfl, h⟩
  | d :: ds, k, h => by
    match d, h with
    | .str x, h =>
      obtain ⟨xs, e, h⟩ := strs_of0 (ds := ds) h
      exact ⟨x :: xs, by rw [e]; rfl, h⟩
theorem strs_map0 (xs : List Str) (k : List Str → Prop) (h : k xs) : strsD0 (xs.map D.str) k := by
  induction xs generalizing k with
  | nil => exact h
  | cons x xs ih => exact ih (fun xs => k (x :: xs)) h
@[irreducible] def strsD (ds : List D) (k : List Str → Prop) : Prop := strsD0 ds k
theorem strs_of {ds : List D} {k : List Str → Prop} (h : strsD ds k) : ∃ xs : List Str, ds = xs.map D.str ∧ k xs := by
  unfold strsD at h
  exact strs_of0 h
theorem strs_map (xs : List Str) (k : List Str → Prop) (h : k xs) : strsD (xs.map D.str) k := by
  unfold strsD
  exact strs_map0 xs k h
def dLenSet (f : DTE) : DTE := fun δ Q QX => f δ (fun e δ1 => vwK δ1 e fun d => lofD d fun ds => strsD ds fun xs => xs.length ≤ 4000 ∧ Q (.val (.int ((OwnSet.met xs xs.length).length : Nat))) δ1) QX
theorem de_lenSet {t : TE} {f : DTE} (h : DE K cad E t f) : DE K cad E (tLenSetS K t) (dLenSet f) := fun R F pars δ σ H Q QD QX g x hf q =>
  h R F pars δ σ H _ _ QX g x hf fun e δ1 v F1 H1 s1 g1 hv h1 => by
    obtain ⟨d, vw, h2⟩ := view_of g1 hv h1
    obtain ⟨a, vs, ds, rfl, ha, r, h3⟩ := lof_of g1.sF vw h2
    obtain ⟨xs, rfl, l, h4⟩ := strs_of h3
    obtain ⟨rfl, _⟩ := r.strs
    exact ⟨a, xs, rfl, .of ha, l, q (.val _) δ1 _ F1 H1 s1 g1 (Rep.int _) h4⟩
/-- len({.. for ..}), texts -/
def setO (P : Program) (w : World) (ms : List Str) : Ob := .ext fun F H a S => (∀ b, S b ↔ b = a) ∧ H a = some (OwnSet.TxS P w a ms)
theorem Good.newO {p : Addr} {o : Ob} {u : HO} (g : Good K cad R F pars δ σ H) (h : H p = none) (r : ∀ H' : Hp, H' p = some u → ObAt K cad F H' p (fun b => b = p) o) : Good K cad R F pars (some (.own none o) :: δ) (some (.ref p) :: σ) (upd H p u) := by
  have nR := none_of g.sR h
  have nF := none_of g.sF h
  obtain ⟨fp, g⟩ := g
  have g2 : GoodF K cad R F pars δ σ (upd H p u) fp := g.more (fun _ _ e => e) (Same.new h) (g.sF.trans (Same.new h)) fun i b q => (g.off i b q).2.1
  refine Good.cons (S := fun b => b = p) g2 ⟨p, rfl, r _ upd_same⟩ (fun k o e => by cases e) (fun b e => ?_) fun i b q e => ?_
  · subst e
    exact ⟨nR, nF, _, upd_same⟩
  · subst e
    obtain ⟨_, _, o, z⟩ := g.off i b q
    rw [h] at z
    cases z
def strE (e : Ev) (k : Str → Prop) : Prop := match e with
  | .val (.str x) => k x
  | _ => False
theorem strE_of {v : V} {e : Ev} {k : Str → Prop} (h : HoldE K cad F σ v e) (q : strE e k) : ∃ x, v = .str x ∧ k x := by
  cases e with
  | val d =>
    cases d with
    | str x => exact ⟨x, (Rep.strI h).1, q⟩
    | _ => exact q.elim
  | _ => exact q.elim
def fbS (fe : DTE) : DTB (List Str) := fun ms δ Kc => fe δ (fun e δ1 => strE e fun z => ms.length + 1 < 4096 ∧ Kc (OwnSet.putM ms z) δ1) noX
def dLenSx (P : Program) (w : World) (fi : DTI) (g : DTG) (tt : DTT) (fe : DTE) (vs : List Nat) : DTE := fun δ Q QX => fi δ (fun st ds δ1 => stOk st vs ∧ blD g tt (fbS fe) vs st ds ds [] (wipeD δ1 vs) fun ms δe => unwipeD δ1 δe vs fun δ2 => ms.length < 4096 ∧ Q (.val (.int (ms.length : Nat))) δ2) QX
theorem de_lenSx {P : Program} {w : World} {wi : TI} {g : TG} {tt : TT} {te : TE} {fi : DTI} {gd : DTG} {ft : DTT} {fe : DTE} {is vs : List Nat} (hi : DI K cad E wi fi) (hg : DG K cad EN g gd is) (ht : DT K cad EN tt ft) (he : DE K cad EN te fe) (sub : ∀ j ∈ is, j ∈ vs) : DE K cad E (tCB (OwnSet.rLenTx P w) (tCons (OwnSet.tSx P w wi g tt te vs) tNil)) (dLenSx P w fi gd ft fe vs) := fun R F pars δ σ H Q QD QX g0 x hf q =>
  hi R F pars δ σ H _ _ QX g0 x hf fun st ds δ1 F1 H1 J s1 g1 wk ⟨no, q1⟩ => by
    intro D hD
    have at_ : ∀ ms (F : Hp) (H' : Hp), H' D = some (OwnSet.TxS P w D ms) → ObAt K cad F H' D (fun b => b = D) (setO P w ms) := fun ms F H' e => ⟨rfl, ⟨fun b => Iff.rfl, e⟩, fun F2 H2 s k => ⟨fun b => Iff.rfl, k _ _ rfl e⟩⟩
    refine bl_core (fb := fbS fe) (O := setO P w) (c0 := []) (Q := fun v H => OwnSet.rLenTx P w [v] H Q) (QD := fun ms δ2 => ms.length < 4096 ∧ QD (.val (.int (ms.length : Nat))) δ2) (o0 := OwnSet.TxS P w D []) (body := fun σ2 H3 Nx => te σ2 H3 fun y H4 => ∃ (z : Str) (ms : List Str), y = .str z ∧ H4 D = some (OwnSet.TxS P w D ms) ∧ ms.length + 1 < scanBound ∧ Nx (upd H4 D (OwnSet.TxS P w D (OwnSet.putM ms z)))) hg ht sub ?_ g1 wk no ((g1.wipe vs).newO hD (at_ [] F1)) q1 fun ms δ' F' H' s2 g2 q2 => ?_
    · intro R F pars δ σ H ms Nx QD g h q
      obtain ⟨R1, less, g2, back⟩ := g.aside
      refine he R1 F pars δ σ H _ _ noX g2 xok_no h fun e δ2 v F2 H2 s2 g3 hv h2 => ?_
      obtain ⟨z, rfl, lt, h3⟩ := strE_of hv h2
      have gb := back F2 H2 δ2 σ s2 g3
      obtain ⟨fp, gb'⟩ := id gb
      obtain ⟨v', ev', ⟨a, ea, sS, ⟨sB, hD2⟩, st⟩, _⟩ := gb'.sl 0 _ rfl
      cases ev'
      cases ea
      refine ⟨z, ms, rfl, hD2, lt, q _ δ2 F2 _ (s2.less less) ?_ h3⟩
      have gw := gb.write (n := 0) (o' := setO P w (OwnSet.putM ms z)) (v := .ref D) (H' := upd H2 D (OwnSet.TxS P w D (OwnSet.putM ms z))) rfl rfl fun a S ea ho => by
        cases ea
        obtain ⟨sa, ⟨sb, hd⟩, _⟩ := ho
        refine ⟨⟨sa, ⟨sb, upd_same⟩, fun F3 H3 s3 k3 => ⟨sb, k3 _ _ sa upd_same⟩⟩, fun b u nb e => ?_, fun b hb => ?_⟩
        · rw [upd_ne fun z => nb ((sb b).mpr z)]
          exact e
        · rw [(sb b).mp hb]
          exact ⟨_, upd_same⟩
      exact gw
    · obtain ⟨lt, q3⟩ := q2
      obtain ⟨fp, g'⟩ := id g2
      obtain ⟨v', ev', ⟨a, ea, sS, ⟨sB, hD2⟩, st⟩, _⟩ := g'.sl 0 _ rfl
      cases ev'
      cases ea
      exact ⟨D, ms, rfl, hD2, lt, q (.val _) δ' _ F' H' (s1.trans s2) g2.tail (Rep.int _) q3⟩
/-! ### items of a new dict -/
def kD : Key → D
  | .inl i => .int i
  | .inr x => .str x
def itemsD (kvs : List (Key × D)) : List D := kvs.map fun p => .tup [kD p.1, p.2]
theorem itemsD_len (kvs : List (Key × D)) : (itemsD kvs).length = kvs.length := List.length_map ..
theorem RepK.getV : ∀ {ks : List (Key × V)} {kvs : List (Key × D)} {i : Nat} {k : Key} {v : V}, RepK K cad F ks kvs → ks[i]? = some (k, v) → ∃ d, kvs[i]? = some (k, d) ∧ KOk k ∧ Rep K cad F v d
  | _, _, _, _, _, .nil, e => by cases e
  | _, _, 0, _, _, .cons hk h _, e => by cases e; exact ⟨_, rfl, hk, h⟩
  | _, _, i + 1, _, _, .cons _ _ t, e => by
    obtain ⟨d, a, b, c⟩ := RepK.getV (i := i) t e
    exact ⟨d, a, b, c⟩
theorem kD_rep {k : Key} (h : KOk k) : Rep K cad F (kV k) (kD k) := by
  cases k with
  | inl i => exact .int i
  | inr x => exact .str x h
theorem walk_items {a : Addr} {o : Obj} {ks : List (Key × V)} {kvs : List (Key × D)} (ha : F a = some (.frz o (.dK ks))) (r : RepK K cad F ks kvs) : Walk K cad (Iti a o ks) none (itemsD kvs) F σ where
  go := fun i R F2 pars δ σ H s g _ _ lt => ⟨g.sF _ _ (s _ _ ha), by rw [itemsD_len] at lt; rw [r.len]; exact lt⟩
  yld := fun i R F2 pars δ σ H x H' s g _ _ lt y => by
    obtain ⟨T, k, v, ev, rfl, hT, rfl⟩ := y
    obtain ⟨d, ed, ko, rd⟩ := r.getV ev
    obtain ⟨s2, g2⟩ := g.newF (o := .tup [kV k, v]) hT
    refine ⟨_, _, s2, g2, ?_, .tup upd_same (.cons (kD_rep ko) (.cons ((rd.same s).same s2.s) .nil))⟩
    unfold itemsD
    rw [List.getElem?_map, ed]
    rfl
  stop := fun i R F2 pars δ σ H s g _ _ le => ⟨g.sF _ _ (s _ _ ha), by rw [itemsD_len] at le; rw [r.len]; exact le⟩
def dItems (f : DTN) : DTI := fun δ Q QX => f δ (fun o δ1 => match o with
  | .dic kvs => Q none (itemsD kvs) δ1
  | _ => False) QX
/-- the first thing, a dict, is locked for good -/
theorem Good.lock {v : V} {t : Option Nat} {kvs : List (Key × D)} (g : Good K cad R F pars (some (.own t (.dic kvs)) :: δ) (some v :: σ) H) : ∃ a ks, v = .ref a ∧ H a = some (.dK ks) ∧ ∀ od, Ext R F (upd F a (.frz od (.dK ks))) ∧ Good K cad R (upd F a (.frz od (.dK ks))) pars δ σ (upd H a (.frz od (.dK ks))) ∧ RepK K cad (upd F a (.frz od (.dK ks))) ks kvs := by
  obtain ⟨fp, g⟩ := g
  obtain ⟨w, e1, ⟨a, rfl, s, ks, ha, r⟩, _⟩ := g.sl 0 _ rfl
  cases e1
  refine ⟨a, ks, rfl, ha, fun od => ?_⟩
  have fa : fp 0 a := (s a).mpr rfl
  obtain ⟨nR, nF, _⟩ := g.off 0 a fa
  have sF : Same F (upd F a (.frz od (.dK ks))) := Same.new nF
  have keep : ∀ b u, b ≠ a → H b = some u → upd H a (.frz od (.dK ks)) b = some u := fun b u ne e => by rw [upd_ne ne]; exact e
  refine ⟨Ext.new nF nR, ⟨fun i => fp (i + 1), fun b o e => keep b o (ne_of_none e nR) (g.sR _ _ e), fun b o e => ?_, Nat.succ.inj g.len, fun i u e => ?_, fun i b q => ?_, fun i j b q r => Nat.succ.inj (g.sep _ _ b q r)⟩, r.same sF⟩
  · by_cases z : b = a
    · subst z; rw [upd_same] at e ⊢; exact e
    · rw [upd_ne z] at e; exact keep b o z (g.sF _ _ e)
  · obtain ⟨w, e1, h1, t1⟩ := g.sl (i + 1) u e
    refine ⟨w, e1, h1.move sF fun b u hb e => keep b u (fun z => ?_) e, t1⟩
    subst z
    cases g.sep (i + 1) 0 b hb fa
  · obtain ⟨a1, a2, o, a3⟩ := g.off (i + 1) b q
    have ne : b ≠ a := fun z => by subst z; cases g.sep (i + 1) 0 b q fa
    exact ⟨a1, by rw [upd_ne ne]; exact a2, o, keep b o ne a3⟩
theorem di_items {t : TE} {f : DTN} (h : DN K cad E t f) : DI K cad E (iItems (tFreeze t)) (dItems f) := fun R F pars δ σ H Q QD QX g x hf q =>
  h R F pars δ σ H _ _ QX g x hf fun o δ1 v F1 H1 s1 g1 h1 => by
    cases o with
    | dic kvs =>
      obtain ⟨a, ks, rfl, ha, lk⟩ := g1.lock
      refine ⟨a, .dK ks, rfl, ha, trivial, fun od => ?_⟩
      obtain ⟨s2, g2, r⟩ := lk od
      exact ⟨a, od, ks, rfl, upd_same, q none _ δ1 _ _ _ (s1.trans s2) g2 (walk_items upd_same r) h1⟩
    | _ => exact h1.elim
/-! ### sorting, summing -/
def sortedSD : DOpN := fun ds Q => match ds with
  | [.lst xs] => strsD xs fun ss => ss.length < 64 ∧ ∀ ys : List Str, ys.Perm ss → sortedS ys = true → Q (ys.map .str)
  | _ => False
theorem cn_sortedS : CallN K cad (rSortedS K) sortedSD := by
  intro R F pars δ σ H vs ds Q QD g vw h q
  match ds, vw, h with
  | [.lst xs], vw, h =>
    obtain ⟨ss, rfl, l, h2⟩ := strs_of h
    obtain ⟨v, rfl, vx⟩ := vw.one
    obtain ⟨a, us, rfl, ea, ra⟩ := vx.lstI g.sF
    obtain ⟨rfl, ok⟩ := ra.strs
    refine ⟨a, ss, rfl, .of ea, l, fun ys p pm so hp => q _ _ p hp (Reps.ofStrs fun y hy => ok y (pm.mem_iff.mp hy)) (h2 ys pm so)⟩
def intsD0 (ds : List D) (k : List Int → Prop) : Prop := match ds with
  | [] => k []
  | .int x :: ds => intsD0 ds fun xs => k (x :: xs)
  | _ => False
theorem ints_of0 : ∀ {ds : List D} {k : List Int → Prop}, intsD0 ds k → ∃ xs : List Int, ds = xs.map D.int ∧ k xs
  | [], k, h => ⟨[], rfl, h⟩
  | d :: ds, k, h => by
    match d, h with
    | .int x, h =>
      obtain ⟨xs, e, h⟩ := ints_of0 (ds := ds) h
      exact ⟨x :: xs, by rw [e]; rfl, h⟩
theorem ints_map0 (xs : List Int) (k : List Int → Prop) (h : k xs) : intsD0 (xs.map D.int) k := by
  induction xs generalizing k with
  | nil => exact h
  | cons x xs ih => exact ih (fun xs => k (x :: xs)) h
@[irreducible] def intsD (ds : List D) (k : List Int → Prop) : Prop := intsD0 ds k
theorem ints_of {ds : List D} {k : List Int → Prop} (h : intsD ds k) : ∃ xs : List Int, ds = xs.map D.int ∧ k xs := by
  unfold intsD at h
  exact ints_of0 h
theorem ints_map (xs : List Int) (k : List Int → Prop) (h : k xs) : intsD (xs.map D.int) k := by
  unfold intsD
  exact ints_map0 xs k h
def sortedID : DOpN := fun ds Q => match ds with
  | [.lst xs] => intsD xs fun ss => ss.length < 64 ∧ ∀ ys : List Int, ys.Perm ss → ys.Pairwise (· ≤ ·) → Q (ys.map .int)
  | _ => False
theorem cn_sorted : CallN K cad (rSorted K) sortedID := by
  intro R F pars δ σ H vs ds Q QD g vw h q
  match ds, vw, h with
  | [.lst xs], vw, h =>
    obtain ⟨ss, rfl, l, h2⟩ := ints_of h
    obtain ⟨v, rfl, vx⟩ := vw.one
    obtain ⟨a, us, rfl, ea, ra⟩ := vx.lstI g.sF
    obtain rfl := ra.ints
    exact ⟨a, ss, rfl, .of ea, l, fun ys p pm so hp => q _ _ p hp Reps.ofInts (h2 ys pm so)⟩
def sumD : DOpL := fun ds Q => match ds with
  | [.lst xs] => intsD xs fun ss => Q (.int ss.sum)
  | _ => False
theorem cd_sum : CallD K cad (rSum K) sumD := by
  intro R F pars δ σ H vs ds Q QD g vw h q
  match ds, vw, h with
  | [.lst xs], vw, h =>
    obtain ⟨ss, rfl, h2⟩ := ints_of h
    obtain ⟨v, rfl, vx⟩ := vw.one
    obtain ⟨a, us, rfl, ea, ra⟩ := vx.lstI g.sF
    obtain rfl := ra.ints
    exact ⟨a, ss, rfl, .of ea, q _ _ F H .refl g (.int _) h2⟩
/-! ### methods that read -/
def isBt (t : Bt) (d : D) (P : Prop) : Prop := match t, d with
  | .list, .lst _ => P
  | .str, .str _ => P
  | .dict, .dic _ => P
  | _, _ => False
abbrev DOpR := D → List D → (D → Prop) → Prop
def MtD (K : PySem.W.Frag) (cad : Cn → Addr) (r : V → List V → Hp → VK → Prop) (op : DOpR) : Prop := ∀ (R F : Hp) (pars : List V) (δ : DEnv) (σ : L2.St) (H : Hp) (x : V) (d : D) (vs : List V) (ds : List D) (Q : VK) (QD : D → Prop), Good K cad R F pars δ σ H → View K cad F H x d → Views K cad F H vs ds → op d ds QD →
  (∀ d v F' H', Ext R F F' → Good K cad R F' pars δ σ H' → Rep K cad F' v d → QD d → Q v H') → r x vs H Q
theorem ty_at {t : Bt} {v : V} {d : D} {P : Prop} (sF : Same F H) (h : View K cad F H v d) (q : isBt t d P) (nd : t ≠ .dict) : tyV K t.nm v H ∧ P := by
  cases t with
  | list =>
    cases d with
    | lst ds => obtain ⟨a, vs, rfl, ha, _⟩ := h.lstI sF; exact ⟨.inl ⟨rfl, vs, .of ha⟩, q⟩
    | _ => exact q.elim
  | str =>
    cases d with
    | str x => rw [h.strI.1]; exact ⟨rfl, q⟩
    | _ => exact q.elim
  | dict => exact absurd rfl nd
  | _ => cases d <;> exact (show False from q).elim
def dBM (t : Bt) (op : DOpR) (f : DTE) (fa : DTA) : DTE := fun δ Q QX => f δ (fun e δ1 => vwK δ1 e fun d0 => isBt t d0 (fa δ1 (fun es δ2 => vwK δ2 e fun d => vwKs δ2 es fun ds => op d ds fun r => Q (.val r) δ2) QX)) QX
theorem de_bm {t : Bt} {r : V → List V → Hp → VK → Prop} {op : DOpR} {to : TE} {ta : TA} {n : Nat} {f : DTE} {fa : DTA} (hm : MtD K cad r op) (h : DE K cad E to f) (ha : DA K cad E ta n fa) (nd : t ≠ .dict := by decide) : DE K cad E (tBM K t.nm r to ta) (dBM t op f fa) := fun R F pars δ σ H Q QD QX g x hf q =>
  h R F pars δ σ H _ _ QX g x hf fun e δ1 v F1 H1 s1 g1 hv h1 => by
    obtain ⟨d0, vw0, h2⟩ := view_of g1 hv h1
    obtain ⟨ty, h2⟩ := ty_at g1.sF vw0 h2 nd
    refine ⟨ty, ha R F1 pars δ1 σ H1 _ _ QX g1 (x.same s1) h2 fun es δ2 vs F2 H2 s2 g2 hvs _ h3 => ?_⟩
    obtain ⟨d, vw, h4⟩ := view_of g2 (hv.same s2) h3
    obtain ⟨ds, vws, h5⟩ := views_of g2 hvs h4
    exact hm R F2 pars δ2 σ H2 v d vs ds Q _ g2 vw vws h5 fun d v F3 H3 s3 g3 rr h6 => q (.val d) δ2 v F3 H3 (s1.trans (s2.trans s3)) g3 rr h6
def dBM0 (t : Bt) (op : DOpR) (f : DTE) : DTE := fun δ Q QX => f δ (fun e δ1 => vwK δ1 e fun d => isBt t d (op d [] fun r => Q (.val r) δ1)) QX
theorem de_bm0 {t : Bt} {r : V → List V → Hp → VK → Prop} {op : DOpR} {to : TE} {f : DTE} (hm : MtD K cad r op) (h : DE K cad E to f) (nd : t ≠ .dict := by decide) : DE K cad E (tBM0 K t.nm r to) (dBM0 t op f) := fun R F pars δ σ H Q QD QX g x hf q =>
  h R F pars δ σ H _ _ QX g x hf fun e δ1 v F1 H1 s1 g1 hv h1 => by
    obtain ⟨d0, vw0, h2⟩ := view_of g1 hv h1
    obtain ⟨ty, h2⟩ := ty_at g1.sF vw0 h2 nd
    exact ⟨ty, hm R F1 pars δ1 σ H1 v d0 [] [] Q _ g1 vw0 .nil h2 fun d v F3 H3 s3 g3 rr h6 => q (.val d) δ1 v F3 H3 (s1.trans s3) g3 rr h6⟩
def strOp (g : Str → D) : DOpR := fun d _ Q => match d with
  | .str x => Q (g x)
  | _ => False
theorem md_str {gv : Str → Bool} : MtD K cad (fun x xs H Q => ∃ a, x = .str a ∧ xs = [] ∧ True ∧ Q (.bl (gv a)) H) (fun d ds Q => ds.length = 0 ∧ strOp (fun x => .bl (gv x)) d ds Q) := by
  intro R F pars δ σ H x d vs ds Q QD g vx vw h q
  obtain ⟨l, h⟩ := h
  cases d with
  | str x =>
    obtain ⟨rfl, ok⟩ := vx.strI
    cases vw with
    | nil => exact ⟨x, rfl, rfl, trivial, q _ _ F H .refl g (.bl _) h⟩
    | cons _ _ => cases l
  | _ => exact h.elim
/-- the first place -/
def firstD (x : D) : List D → Option Nat
  | [] => none
  | y :: ys => if eqD y x then some 0 else (firstD x ys).map (· + 1)
def indexOp : DOpR := fun d as Q => match d, as with
  | .lst ds, [x] => flat1 x = true ∧ ds.all flat1 = true ∧ match firstD x ds with
    | some n => Q (.int (n : Nat))
    | none => False
  | _, _ => False
theorem first_v {x : V} {dx : D} (rx : Rep K cad F x dx) (fx : flat1 dx = true) : ∀ {vs : List V} {ds : List D} {n : Nat}, Reps K cad F vs ds → ds.all flat1 = true → firstD dx ds = some n → ∃ z, vs[n]? = some z ∧ eqV z x = true ∧ ∀ (m : Nat) (z' : V), m < n → vs[m]? = some z' → eqV z' x = false
  | [], [], _, .nil, _, e => by cases e
  | v :: vs, d :: ds, n, .cons h t, f, e => by
    rw [List.all_cons, Bool.and_eq_true] at f
    unfold firstD at e
    by_cases c : eqD d dx = true
    · rw [if_pos c] at e
      cases e
      exact ⟨v, rfl, by rw [eq_v h f.1 rx fx]; exact c, fun m _ lt => absurd lt (Nat.not_lt_zero m)⟩
    · rw [if_neg c] at e
      cases e2 : firstD dx ds with
      | none => rw [e2] at e; cases e
      | some k =>
        rw [e2] at e
        cases e
        obtain ⟨z, z1, z2, z3⟩ := first_v rx fx t f.2 e2
        refine ⟨z, z1, z2, fun m z' lt ez => ?_⟩
        cases m with
        | zero => cases ez; rw [eq_v h f.1 rx fx]; exact Bool.eq_false_iff.mpr c
        | succ m => exact z3 m z' (Nat.lt_of_succ_lt_succ lt) ez
theorem md_index : MtD K cad (rIndex K) indexOp := by
  intro R F pars δ σ H x d vs ds Q QD g vx vw h q
  match d, ds, vw, h with
  | .lst es, [y], vw, h =>
    obtain ⟨f1, f2, h⟩ := h
    obtain ⟨u, rfl, vy⟩ := vw.one
    obtain ⟨a, us, rfl, ha, r⟩ := vx.lstI g.sF
    have ry := vy.flat f1
    cases e : firstD y es with
    | none => rw [e] at h; exact h.elim
    | some n =>
      rw [e] at h
      obtain ⟨z, z1, z2, z3⟩ := first_v ry f1 r f2 e
      exact ⟨a, us, u, n, z, rfl, rfl, .of ha, flat_v ry f1, (in_v ry f1 r f2).1, z1, z2, z3, q _ _ F H .refl g (.int _) h⟩
/-- a sign in a written text -/
def ninSOp : DOp2 := fun x y Q => match x, y with
  | .str i, .str j => Q (.bl (!(!(Builtin.Str.occurrences j i 0 j.length 1).isEmpty)))
  | _, _ => False
theorem od_ninS : OpD K cad (fun x y H Q => ∃ i j, x = .str i ∧ y = .str j ∧ Q (.bl (!(!(Builtin.Str.occurrences j i 0 j.length 1).isEmpty))) H) ninSOp := by
  intro R F pars δ σ H x y dx dy Q QD g vx vy h q
  match dx, dy, h with
  | .str i, .str j, h =>
    obtain ⟨rfl, _⟩ := vx.strI
    obtain ⟨rfl, _⟩ := vy.strI
    exact ⟨i, j, rfl, rfl, q _ _ F H .refl g (.bl _) h⟩
end
end PD

set_option Elab.async false
set_option linter.all false
set_option maxRecDepth 100000
set_option maxHeartbeats 4000000
/-! Own layer: what one says of data: comprehensions that leave all as it is, equality, membership. -/
namespace PD
open L2 ClX
open PySem PySem.Spec PyProof.Rows
section
variable {g : DTG} {tt : DTT} {te : DTE} {vs : List Nat} {st : Option Nat} {all : List D} {δ : DEnv}
/-- one turn of a list's block; the slots are as they were -/
def Turn1 (g : DTG) (tt : DTT) (te : DTE) (vs : List Nat) (st : Option Nat) (all : List D) (δ : DEnv) (d : D) (o : Option D) : Prop := ∀ (acc : List D) (R1 : List D → DEnv → Prop), acc.length < 1000000 → R1 (acc ++ o.toList) δ →
  stayD st all δ (g d δ (fun δ1 => tt δ1 (fun b δ2 => ifD b (fbL te acc δ2 fun c' δ3 => R1 c' (wipeD δ3 vs)) (R1 acc (wipeD δ2 vs))) noX) noX)
theorem lc_opt {α : Type} {f : α → D} {h : α → Option D} {Q : List D → DEnv → Prop} : ∀ {xs : List α} {acc : List D}, (∀ x ∈ xs, Turn1 g tt te vs st all δ (f x) (h x)) → acc.length + xs.length ≤ 1000000 → stayD st all δ (Q (acc ++ xs.filterMap h) δ) → blD g tt (fbL te) vs st all (xs.map f) acc δ Q
  | [], acc, _, _, q => by rw [List.filterMap_nil, List.append_nil] at q; exact q
  | x :: xs, acc, hs, l, q => by
    rw [List.length_cons] at l
    refine hs x List.mem_cons_self acc (fun c δ' => blD g tt (fbL te) vs st all (xs.map f) c δ' Q) (by omega) ?_
    have lo : (h x).toList.length ≤ 1 := by cases h x <;> simp
    refine lc_opt (fun y hy => hs y (List.mem_cons_of_mem _ hy)) (by rw [List.length_append]; omega) ?_
    have e : acc ++ (h x).toList ++ xs.filterMap h = acc ++ (x :: xs).filterMap h := by
      rw [List.filterMap_cons, List.append_assoc]
      cases h x <;> rfl
    rw [e]
    exact q
/-- all entries -/
theorem lc_all {α : Type} {f k : α → D} {Q : List D → DEnv → Prop} {xs : List α} (hs : ∀ x ∈ xs, Turn1 g tt te vs st all δ (f x) (some (k x))) (l : xs.length ≤ 1000000) (q : stayD st all δ (Q (xs.map k) δ)) : blD g tt (fbL te) vs st all (xs.map f) [] δ Q := by
  refine lc_opt (h := fun x => some (k x)) hs (by simpa using l) ?_
  have e : xs.filterMap (fun x => some (k x)) = xs.map k := by
    induction xs with
    | nil => rfl
    | cons x xs ih => rw [List.filterMap_cons]; simp
  rw [e]
  exact q
/-- those of which p is true -/
theorem lc_flt {α : Type} {f k : α → D} {p : α → Bool} {Q : List D → DEnv → Prop} {xs : List α} (hs : ∀ x ∈ xs, Turn1 g tt te vs st all δ (f x) (if p x = true then some (k x) else none)) (l : xs.length ≤ 1000000) (q : stayD st all δ (Q ((xs.filter p).map k) δ)) : blD g tt (fbL te) vs st all (xs.map f) [] δ Q := by
  refine lc_opt (h := fun x => if p x = true then some (k x) else none) hs (by simpa using l) ?_
  have e : ∀ xs : List α, xs.filterMap (fun x => if p x = true then some (k x) else none) = (xs.filter p).map k := by
    intro xs
    induction xs with
    | nil => rfl
    | cons x xs ih =>
      rw [List.filterMap_cons, List.filter_cons]
      by_cases c : p x = true
      · simp [c, ih]
      · simp [c, ih]
  rw [e]
  exact q
/-- .. over data as they are -/
theorem lc_all' {k : D → D} {Q : List D → DEnv → Prop} {ds : List D} (hs : ∀ d ∈ ds, Turn1 g tt te vs st all δ d (some (k d))) (l : ds.length ≤ 1000000) (q : stayD st all δ (Q (ds.map k) δ)) : blD g tt (fbL te) vs st all ds [] δ Q := by
  have z := lc_all (g := g) (tt := tt) (te := te) (vs := vs) (st := st) (all := all) (δ := δ) (f := id) (k := k) (Q := Q) (xs := ds) hs l q
  rw [List.map_id] at z
  exact z
theorem lc_flt' {k : D → D} {p : D → Bool} {Q : List D → DEnv → Prop} {ds : List D} (hs : ∀ d ∈ ds, Turn1 g tt te vs st all δ d (if p d = true then some (k d) else none)) (l : ds.length ≤ 1000000) (q : stayD st all δ (Q ((ds.filter p).map k) δ)) : blD g tt (fbL te) vs st all ds [] δ Q := by
  have z := lc_flt (g := g) (tt := tt) (te := te) (vs := vs) (st := st) (all := all) (δ := δ) (f := id) (k := k) (p := p) (Q := Q) (xs := ds) hs l q
  rw [List.map_id] at z
  exact z
theorem lc_rng {k : Nat → D} {Q : List D → DEnv → Prop} {lo : Int} {n : Nat} (hs : ∀ i, i < n → Turn1 g tt te vs st all δ (.int (lo + (i : Nat))) (some (k i))) (l : n ≤ 1000000) (q : stayD st all δ (Q ((List.range n).map k) δ)) : blD g tt (fbL te) vs st all (rngD lo n) [] δ Q :=
  lc_all (f := fun i : Nat => .int (lo + (i : Nat))) (k := k) (fun i hi => hs i (List.mem_range.mp hi)) (by rw [List.length_range]; exact l) q
/-- a block by an invariant -/
theorem bl_inv {C : Type} {fb : DTB C} {Q : C → DEnv → Prop} {all : List D} (I : Nat → C → DEnv → Prop) : ∀ {ds : List D} {i : Nat} {c : C} {δ : DEnv}, I i c δ → (∀ j d c δ, ds[j]? = some d → I (i + j) c δ → stayD st all δ (g d δ (fun δ1 => tt δ1 (fun b δ2 => ifD b (fb c δ2 fun c' δ3 => I (i + j + 1) c' (wipeD δ3 vs)) (I (i + j + 1) c (wipeD δ2 vs))) noX) noX)) →
    (mono : ∀ d c δ (P P' : C → DEnv → Prop), (∀ c δ, P c δ → P' c δ) → g d δ (fun δ1 => tt δ1 (fun b δ2 => ifD b (fb c δ2 fun c' δ3 => P c' (wipeD δ3 vs)) (P c (wipeD δ2 vs))) noX) noX → g d δ (fun δ1 => tt δ1 (fun b δ2 => ifD b (fb c δ2 fun c' δ3 => P' c' (wipeD δ3 vs)) (P' c (wipeD δ2 vs))) noX) noX) →
    (∀ c δ, I (i + ds.length) c δ → stayD st all δ (Q c δ)) → blD g tt fb vs st all ds c δ Q
  | [], i, c, δ, h, _, _, hd => hd c δ h
  | d :: ds, i, c, δ, h, hs, mono, hd => by
    have z := hs 0 d c δ rfl h
    obtain ⟨sty, z⟩ := stay_of z
    have w : stayD st all δ (g d δ (fun δ1 => tt δ1 (fun b δ2 => ifD b (fb c δ2 fun c' δ3 => blD g tt fb vs st all ds c' (wipeD δ3 vs) Q) (blD g tt fb vs st all ds c (wipeD δ2 vs) Q)) noX) noX) := by
      have go := mono d c δ _ (fun c' δ' => blD g tt fb vs st all ds c' δ' Q) (fun c' δ' hI => bl_inv I (i := i + 1) hI (fun j d2 c2 δ2 e hj => by
        have y := hs (j + 1) d2 c2 δ2 e (by rw [show i + (j + 1) = i + 1 + j by omega]; exact hj)
        rw [show i + (j + 1) + 1 = i + 1 + j + 1 by omega] at y
        exact y) mono (fun c2 δ2 h2 => hd c2 δ2 (by rw [List.length_cons, show i + (ds.length + 1) = i + 1 + ds.length by omega]; exact h2))) z
      cases st with
      | none => exact go
      | some k =>
        obtain ⟨t, e⟩ := sty
        refine ⟨?_, go⟩
        rw [e]
    exact w
end
/-! ### equality -/
theorem eq_str (x y : Str) : eqD (.str x) (.str y) = decide (x = y) := by
  show (x == y) = _
  by_cases e : x = y
  · subst e; simp
  · rw [decide_eq_false e]; exact beq_false_of_ne e
theorem eq_int (i j : Int) : eqD (.int i) (.int j) = decide (i = j) := by
  show (i == j) = _
  by_cases e : i = j
  · subst e; simp
  · rw [decide_eq_false e]; exact beq_false_of_ne e
theorem eq_strs : ∀ xs ys : List Str, PyData.eqvAll (pyDs (xs.map D.str)) (pyDs (ys.map D.str)) = decide (xs = ys)
  | [], [] => rfl
  | [], y :: ys => rfl
  | x :: xs, [] => rfl
  | x :: xs, y :: ys => by
    show (PyData.eqv (pyD (.str x)) (pyD (.str y)) && PyData.eqvAll (pyDs (xs.map D.str)) (pyDs (ys.map D.str))) = _
    rw [eq_strs xs ys, show PyData.eqv (pyD (.str x)) (pyD (.str y)) = decide (x = y) from eq_str x y]
    by_cases e : x = y <;> by_cases e2 : xs = ys <;> simp [e, e2]
theorem eq_lstr (xs ys : List Str) : eqD (.lst (xs.map .str)) (.lst (ys.map .str)) = decide (xs = ys) := eq_strs xs ys
theorem in_strs (x : Str) : ∀ xs : List Str, inB (.str x) (xs.map .str) = decide (x ∈ xs)
  | [] => rfl
  | y :: ys => by
    have ih := in_strs x ys
    unfold inB at ih ⊢
    rw [List.map_cons, List.any_cons, ih, eq_str]
    by_cases e : y = x
    · subst e; simp
    · by_cases e2 : x ∈ ys
      · simp [e2]
      · rw [decide_eq_false e, decide_eq_false e2, decide_eq_false (by simp [e2]; exact fun q => e q.symm)]
        rfl
theorem flat1_strs (xs : List Str) : (xs.map D.str).all flat1 = true := by
  rw [List.all_map, List.all_eq_true]
  intro x _
  rfl
theorem flatN_strs (n : Nat) (xs : List Str) : flatN (n + 1) (.lst (xs.map .str)) = true := by
  show (xs.map D.str).all (flatN n) = true
  rw [List.all_map, List.all_eq_true]
  intro x _
  cases n <;> rfl
/-- the first place of a text -/
def ixS (xs : List Str) (x : Str) : Nat := xs.findIdx (· = x)
theorem first_strs {x : Str} : ∀ {xs : List Str}, x ∈ xs → firstD (.str x) (xs.map .str) = some (ixS xs x)
  | [], h => by cases h
  | y :: ys, h => by
    unfold firstD List.map
    dsimp only
    unfold ixS
    rw [eq_str, List.findIdx_cons]
    by_cases e : y = x
    · rw [decide_eq_true e]; rfl
    · rw [decide_eq_false e]
      rw [if_neg Bool.false_ne_true]
      have m : x ∈ ys := (List.mem_cons.mp h).resolve_left fun q => e q.symm
      rw [first_strs m]
      rfl
theorem ixS_lt {x : Str} {xs : List Str} (h : x ∈ xs) : ixS xs x < xs.length := by
  unfold ixS
  exact List.findIdx_lt_length_of_exists ⟨x, h, decide_eq_true rfl⟩
theorem ixS_at {x : Str} {xs : List Str} (h : x ∈ xs) : xs[ixS xs x]? = some x := by
  have l := ixS_lt h
  rw [List.getElem?_eq_getElem l]
  have := List.findIdx_getElem (p := fun y => decide (y = x)) (w := l)
  exact congrArg some (of_decide_eq_true this)
theorem at_nat {ds : List D} {i : Int} {d : D} {k : D → Prop} (h0 : 0 ≤ i) (e : ds[i.toNat]? = some d) (q : k d) : atD ds i k := by
  unfold atD
  have z := atI_nat e
  rw [Int.toNat_of_nonneg h0] at z
  rw [z]
  exact q
theorem at_n {ds : List D} {i : Nat} {d : D} {k : D → Prop} (e : ds[i]? = some d) (q : k d) : atD ds (i : Int) k := by
  unfold atD
  rw [atI_nat e]
  exact q
/-- slices -/
theorem cutD_all (ds : List D) : cutD ds none none = ds := by
  unfold cutD
  rw [HT.sIx_none, HT.sIx_none]
  simp
theorem cutD_to (ds : List D) (n : Nat) : cutD ds none (some (n : Int)) = ds.take n := by
  unfold cutD
  rw [HT.sIx_none, HT.sIx_nat]
  simp [List.take_eq_take_iff]
theorem cutD_from (ds : List D) (n : Nat) : cutD ds (some (n : Int)) none = ds.drop n := by
  unfold cutD
  rw [HT.sIx_none, HT.sIx_nat]
  by_cases h : n ≤ ds.length
  · rw [Nat.min_eq_left h]
    exact List.take_of_length_le (by rw [List.length_drop]; omega)
  · rw [Nat.min_eq_right (by omega), List.drop_length, List.drop_of_length_le (by omega)]
    simp
/-! ### for -/
theorem for_map {α : Type} {g : DTG} {body : DTS} {k : DK} {f : α → D} (I : List α → DEnv → Prop) : ∀ {xs : List α} {pre : List α} {δ : DEnv}, I pre δ → (∀ p x q δ, pre ++ xs = p ++ x :: q → I p δ → ∀ nx : DEnv → Prop, (∀ δ', I (p ++ [x]) δ' → nx δ') → g (f x) δ (fun δ1 => body { k with nx := nx, ct := nx, bk := k.nx } δ1) k.ex) → (∀ δ, I (pre ++ xs) δ → k.nx δ) → forD g body k (xs.map f) δ
  | [], pre, δ, h, _, hd => hd δ (by rw [List.append_nil]; exact h)
  | x :: xs, pre, δ, h, hs, hd => by
    refine hs pre x xs δ rfl h (forD g body k (xs.map f)) fun δ' h' => for_map I h' (fun p y q δ e => hs p y q δ (by rw [← e, List.append_assoc]; rfl)) fun δ h => hd δ (by rw [List.append_assoc] at h; exact h)
end PD

set_option Elab.async false
set_option linter.all false
set_option maxRecDepth 100000
set_option maxHeartbeats 4000000
/-! Own layer: items, records and logs as data; sets; a def called from the hand layer. -/
namespace PD
open L2 ClX
open PySem PySem.Spec PyProof.Rows
theorem ifA {b : Bool} {A B : Prop} (h : ifD b A B) (e : b = true) : A := by subst e; exact h
theorem ifB {b : Bool} {A B : Prop} (h : ifD b A B) (e : b = false) : B := by subst e; exact h
theorem ifY {b : Bool} {A B : Prop} (e : b = true) (h : A) : ifD b A B := by subst e; exact h
theorem ifN {b : Bool} {A B : Prop} (e : b = false) (h : B) : ifD b A B := by subst e; exact h
theorem bofE {b : Bool} {k : Bool → Prop} (c : Bool) (e : b = c) (h : k c) : bofD (.val (.bl b)) k := by subst e; exact h
theorem bofP {p : Prop} [Decidable p] {k : Bool → Prop} (h1 : p → k true) (h2 : ¬ p → k false) : bofD (.val (.bl (decide p))) k := by
  by_cases c : p
  · exact bofE true (decide_eq_true c) (h1 c)
  · exact bofE false (decide_eq_false c) (h2 c)
theorem bof2 {b : Bool} {k : Bool → Prop} (h1 : b = true → k true) (h2 : b = false → k false) : bofD (.val (.bl b)) k := by
  cases b with
  | true => exact h1 rfl
  | false => exact h2 rfl
theorem bls_fn {α : Type} {f : α → Bool} {xs : List α} {k : List Bool → Prop} (h : k (xs.map f)) : blsD (xs.map fun x => .bl (f x)) k := by
  have := bls_map (xs.map f) k h
  rw [List.map_map] at this
  exact this
theorem all_fn {α : Type} {f : α → Bool} {xs : List α} : (xs.map f).all id = xs.all f := by rw [List.all_map]; rfl
/-! ### plain data -/
/-- a record that can be: a good item, a good index -/
def rowB (x : Str) (n : Int) : Bool := isItem x && (decide (0 ≤ n) && decide (n ≤ 60))
theorem rowB_of {x : Str} {n : Int} (h : rowB x n = true) : isItem x = true ∧ 0 ≤ n ∧ n ≤ 60 := by
  unfold rowB at h
  rw [Bool.and_eq_true, Bool.and_eq_true] at h
  exact ⟨h.1, of_decide_eq_true h.2.1, of_decide_eq_true h.2.2⟩
theorem rowB_mk {x : Str} {n : Int} (h : isItem x = true) (h0 : 0 ≤ n) (h1 : n ≤ 60) : rowB x n = true := by
  unfold rowB
  rw [h, decide_eq_true h0, decide_eq_true h1]
  rfl
def tyB (d : D) : Bool := (tyD d).isSome && (match d with
  | .row _ x n => rowB x n
  | _ => true)
def tyB1 (d : D) : Bool := tyB d && (match d with
  | .lst ds => ds.all tyB
  | _ => true)
theorem ty_some {d : D} (h : tyB d = true) : ∃ t, tyD d = some t := by
  unfold tyB at h
  rw [Bool.and_eq_true] at h
  exact Option.isSome_iff_exists.mp h.1
theorem tyB1_lst {ds : List D} (h : ds.all tyB = true) : tyB1 (.lst ds) = true := h
/-! ### numbers, items -/
def isIntD (d : D) : Bool := match d with
  | .int _ => true
  | _ => false
def isItemD (d : D) : Bool := match d with
  | .str x => isItem x
  | _ => false
def isIdxD (d : D) : Bool := match d with
  | .int i => decide (0 ≤ i) && decide (i ≤ 60)
  | _ => false
theorem item_len {x : Str} (h : isItem x = true) : x.length ≤ 8 := by
  unfold isItem at h
  rw [Bool.and_eq_true] at h
  exact of_decide_eq_true h.1
theorem item_ok {x : Str} (h : isItem x = true) : SOk x := by
  refine ⟨?_, Nat.le_trans (item_len h) (by decide)⟩
  unfold isItem at h
  rw [Bool.and_eq_true, Bool.and_eq_true] at h
  have a : x.cps.all (· < 128) = true := h.2.1
  show x.cps.all (· < 0x110000) = true
  rw [Array.all_eq_true] at a ⊢
  intro i hi
  have := a i hi
  simp only [decide_eq_true_eq] at this ⊢
  omega
/-- the texts of a list -/
def strsOf : List D → List Str
  | [] => []
  | .str x :: ds => x :: strsOf ds
  | _ :: ds => strsOf ds
theorem strsOf_map : ∀ xs : List Str, strsOf (xs.map D.str) = xs
  | [] => rfl
  | x :: xs => congrArg (x :: ·) (strsOf_map xs)
def isItemsD : D → Bool
  | .lst ds => decide (ds.length ≤ 60) && (ds.all isItemD && decide (strsOf ds).Nodup)
  | _ => false
theorem items_strs : ∀ {ds : List D}, ds.all isItemD = true → ds = (strsOf ds).map D.str ∧ ∀ x ∈ strsOf ds, isItem x = true
  | [], _ => ⟨rfl, fun x h => by cases h⟩
  | d :: ds, h => by
    rw [List.all_cons, Bool.and_eq_true] at h
    obtain ⟨e, g⟩ := items_strs h.2
    cases d with
    | str x => exact ⟨congrArg (_ :: ·) e, fun y hy => (List.mem_cons.mp hy).elim (fun z => z ▸ h.1) (g y)⟩
    | _ => cases h.1
theorem all_strs {p : D → Bool} (xs : List Str) : (xs.map D.str).all p = xs.all fun x => p (.str x) := by rw [List.all_map]; rfl
theorem strs_at {ds : List D} {k : List Str → Prop} (h : ds.all isItemD = true) (q : k (strsOf ds)) : strsD ds k := by
  have e := (items_strs h).1
  rw [e]
  exact strs_map _ _ q
theorem strs_len {ds : List D} (h : ds.all isItemD = true) : (strsOf ds).length = ds.length := by
  have e := congrArg List.length (items_strs h).1
  rw [List.length_map] at e
  exact e.symm
/-- a good list of items -/
structure Its (xs : List Str) : Prop where
  l : xs.length ≤ 60
  a : ∀ x ∈ xs, isItem x = true
  n : xs.Nodup
theorem Its.b {xs : List Str} (h : Its xs) : isItemsD (.lst (xs.map D.str)) = true := by
  show (decide ((xs.map D.str).length ≤ 60) && ((xs.map D.str).all isItemD && decide (strsOf (xs.map D.str)).Nodup)) = true
  rw [List.length_map, decide_eq_true h.l, all_strs, strsOf_map, decide_eq_true h.n, show (xs.all fun x => isItemD (.str x)) = true from List.all_eq_true.mpr h.a]
  rfl
theorem its_of {d : D} (h : isItemsD d = true) : ∃ xs, d = .lst (xs.map .str) ∧ Its xs := by
  cases d with
  | lst ds =>
    have h : (decide (ds.length ≤ 60) && (ds.all isItemD && decide (strsOf ds).Nodup)) = true := h
    rw [Bool.and_eq_true, Bool.and_eq_true] at h
    obtain ⟨e, g⟩ := items_strs h.2.1
    exact ⟨strsOf ds, congrArg _ e, by rw [strs_len h.2.1]; exact of_decide_eq_true h.1, g, of_decide_eq_true h.2.2⟩
  | _ => cases h
theorem Its.ty {xs : List Str} (_ : Its xs) : tyB1 (.lst (xs.map D.str)) = true := by
  refine tyB1_lst ?_
  rw [all_strs]
  exact List.all_eq_true.mpr fun _ _ => rfl
/-! ### records -/
/-- a record: its kind, its item, its index -/
structure Rw where
  k : Kd
  x : Str
  n : Int
  deriving DecidableEq
def Rw.d (r : Rw) : D := .row r.k r.x r.n
def rowsOf : List D → List Rw
  | [] => []
  | .row k x n :: ds => ⟨k, x, n⟩ :: rowsOf ds
  | _ :: ds => rowsOf ds
theorem rowsOf_map : ∀ rs : List Rw, rowsOf (rs.map Rw.d) = rs
  | [] => rfl
  | x :: xs => congrArg (x :: ·) (rowsOf_map xs)
def isRec (d : D) : Bool := match d with
  | .row .. => true
  | _ => false
def hasKind (d : D) : Bool := match d with
  | .row k _ _ => decide (k ≠ .N)
  | _ => false
theorem rows_of : ∀ {ds : List D}, ds.all hasKind = true → ds = (rowsOf ds).map Rw.d ∧ ∀ r ∈ rowsOf ds, r.k ≠ .N
  | [], _ => ⟨rfl, fun x h => by cases h⟩
  | d :: ds, h => by
    rw [List.all_cons, Bool.and_eq_true] at h
    obtain ⟨e, g⟩ := rows_of h.2
    cases d with
    | row k x n => exact ⟨congrArg (_ :: ·) e, fun y hy => (List.mem_cons.mp hy).elim (fun z => z ▸ of_decide_eq_true h.1) (g y)⟩
    | _ => cases h.1
theorem rows_len {ds : List D} (h : ds.all hasKind = true) : (rowsOf ds).length = ds.length := by
  have e := congrArg List.length (rows_of h).1
  rw [List.length_map] at e
  exact e.symm
theorem all_rows {p : D → Bool} (rs : List Rw) : (rs.map Rw.d).all p = rs.all fun r => p r.d := by rw [List.all_map]; rfl
def isRecsD (m : Int) : D → Bool
  | .lst ds => decide ((ds.length : Int) ≤ m) && ds.all hasKind
  | _ => false
/-- of one kind -/
def oneKind : List Rw → Bool
  | [] => true
  | r :: rs => rs.all fun s => decide (s.k = r.k)
def isLogD : D → Bool
  | .lst ds => (decide (ds.length ≤ 40) && ds.all hasKind) && (oneKind (rowsOf ds) && decide ((rowsOf ds).map Rw.x).Nodup)
  | _ => false
/-- a log -/
structure Log (rs : List Rw) : Prop where
  v : ∀ r ∈ rs, rowB r.x r.n = true
  l : rs.length ≤ 40
  k : ∀ r ∈ rs, r.k ≠ .N
  o : ∀ r ∈ rs, ∀ s ∈ rs, r.k = s.k
  n : (rs.map Rw.x).Nodup
theorem one_kind {rs : List Rw} : oneKind rs = true ↔ ∀ r ∈ rs, ∀ s ∈ rs, r.k = s.k := by
  cases rs with
  | nil => exact ⟨fun _ r h => (by cases h), fun _ => rfl⟩
  | cons a rs =>
    show (rs.all fun s => decide (s.k = a.k)) = true ↔ _
    rw [List.all_eq_true]
    refine ⟨fun h => ?_, fun h s hs => decide_eq_true (h s (List.mem_cons_of_mem _ hs) a List.mem_cons_self)⟩
    have g : ∀ s ∈ a :: rs, s.k = a.k := fun s hs => (List.mem_cons.mp hs).elim (fun z => z ▸ rfl) fun z => of_decide_eq_true (h s z)
    exact fun r hr s hs => (g r hr).trans (g s hs).symm
theorem Log.b {rs : List Rw} (h : Log rs) : isLogD (.lst (rs.map Rw.d)) = true := by
  show ((decide ((rs.map Rw.d).length ≤ 40) && (rs.map Rw.d).all hasKind) && (oneKind (rowsOf (rs.map Rw.d)) && decide ((rowsOf (rs.map Rw.d)).map Rw.x).Nodup)) = true
  rw [List.length_map, decide_eq_true h.l, all_rows, rowsOf_map, decide_eq_true h.n, one_kind.mpr h.o, show (rs.all fun r => hasKind r.d) = true from List.all_eq_true.mpr fun r hr => decide_eq_true (h.k r hr)]
  rfl
theorem log_of {d : D} (h : isLogD d = true) (t : tyB1 d = true) : ∃ rs, d = .lst (rs.map Rw.d) ∧ Log rs := by
  cases d with
  | lst ds =>
    have h : ((decide (ds.length ≤ 40) && ds.all hasKind) && (oneKind (rowsOf ds) && decide ((rowsOf ds).map Rw.x).Nodup)) = true := h
    rw [Bool.and_eq_true, Bool.and_eq_true, Bool.and_eq_true] at h
    obtain ⟨e, g⟩ := rows_of h.1.2
    refine ⟨rowsOf ds, congrArg _ e, fun r hr => ?_, by rw [rows_len h.1.2]; exact of_decide_eq_true h.1.1, g, one_kind.mp h.2.1, of_decide_eq_true h.2.2⟩
    have t : ds.all tyB = true := t
    rw [e, all_rows] at t
    exact List.all_eq_true.mp t r hr
  | _ => cases h
theorem Log.ty {rs : List Rw} (h : Log rs) : tyB1 (.lst (rs.map Rw.d)) = true := by
  refine tyB1_lst ?_
  rw [all_rows]
  exact List.all_eq_true.mpr fun r hr => h.v r hr
/-! ### the sizes of sets -/
def putMs (ms : List Str) (xs : List Str) : List Str := xs.foldl OwnSet.putM ms
theorem putM_mem (ms : List Str) (y z : Str) : z ∈ OwnSet.putM ms y ↔ z ∈ ms ∨ z = y := by
  have a : (OwnSet.putM ms y).any (· == z) = (ms.any (· == z) || decide (z = y)) := OwnSet.putM_any ms y z
  have b : ∀ xs : List Str, xs.any (· == z) = true ↔ z ∈ xs := fun xs => by
    rw [List.any_eq_true]
    exact ⟨fun ⟨u, h, e⟩ => by rw [← eq_of_beq e]; exact h, fun h => ⟨z, h, beq_self_eq_true z⟩⟩
  rw [← b, a, Bool.or_eq_true, b, decide_eq_true_iff]
theorem putM_nodup {ms : List Str} (y : Str) (h : ms.Nodup) : (OwnSet.putM ms y).Nodup := by
  unfold OwnSet.putM
  split
  · exact h
  · rename_i c
    refine List.nodup_append.mpr ⟨h, by simp, fun a ha b hb => ?_⟩
    rw [List.mem_singleton] at hb
    subst hb
    exact fun e => c (List.any_eq_true.mpr ⟨a, ha, by rw [e]; exact beq_self_eq_true _⟩)
theorem putMs_mem : ∀ {xs ms : List Str} {z : Str}, z ∈ putMs ms xs ↔ z ∈ ms ∨ z ∈ xs
  | [], ms, z => by simp [putMs]
  | x :: xs, ms, z => by
    show z ∈ putMs (OwnSet.putM ms x) xs ↔ _
    rw [putMs_mem, putM_mem, List.mem_cons, or_assoc]
theorem putMs_nodup : ∀ {xs ms : List Str}, ms.Nodup → (putMs ms xs).Nodup
  | [], _, h => h
  | x :: xs, ms, h => putMs_nodup (xs := xs) (putM_nodup x h)
theorem putMs_len : ∀ (xs ms : List Str), (putMs ms xs).length ≤ ms.length + xs.length
  | [], ms => Nat.le_refl _
  | x :: xs, ms => by
    have := putMs_len xs (OwnSet.putM ms x)
    have l : (OwnSet.putM ms x).length ≤ ms.length + 1 := by rw [OwnSet.putM_len]; split <;> omega
    show (putMs (OwnSet.putM ms x) xs).length ≤ _
    rw [List.length_cons]
    omega
theorem putMs_full : ∀ (xs ms : List Str), ms.Nodup → ((putMs ms xs).length = ms.length + xs.length ↔ (ms ++ xs).Nodup)
  | [], ms, h => by simp [putMs, h]
  | x :: xs, ms, h => by
    have l := putMs_len xs (OwnSet.putM ms x)
    show (putMs (OwnSet.putM ms x) xs).length = ms.length + (xs.length + 1) ↔ _
    have ln := OwnSet.putM_len ms x
    by_cases c : ms.any (· == x) = true
    · rw [if_pos c] at ln
      have m : x ∈ ms := by
        obtain ⟨u, h1, h2⟩ := List.any_eq_true.mp c
        rw [← eq_of_beq h2]; exact h1
      refine ⟨fun e => by omega, fun nd => ?_⟩
      exact absurd rfl ((List.nodup_append.mp nd).2.2 x m x List.mem_cons_self)
    · rw [if_neg c] at ln
      have e : OwnSet.putM ms x = ms ++ [x] := by unfold OwnSet.putM; rw [if_neg c]
      have z := putMs_full xs (OwnSet.putM ms x) (putM_nodup x h)
      rw [e, List.append_assoc, List.singleton_append] at z
      rw [e, ← z, List.length_append]
      simp only [List.length_cons, List.length_nil]
      constructor <;> intro q <;> omega
theorem putMs_set (xs : List Str) : (putMs [] xs).length = xs.length ↔ xs.Nodup := by
  have := putMs_full xs [] List.nodup_nil
  simpa using this
theorem putMs_one (xs : List Str) : (putMs [] xs).length ≤ 1 ↔ ∀ a ∈ xs, ∀ b ∈ xs, a = b := by
  have mem : ∀ z, z ∈ putMs [] xs ↔ z ∈ xs := fun z => by rw [putMs_mem]; simp
  have nd : (putMs [] xs).Nodup := putMs_nodup List.nodup_nil
  generalize putMs [] xs = ms at mem nd
  constructor
  · intro l a ha b hb
    match ms, l with
    | [], _ => exact absurd ((mem a).mpr ha) List.not_mem_nil
    | [y], _ => rw [List.mem_singleton.mp ((mem a).mpr ha), List.mem_singleton.mp ((mem b).mpr hb)]
    | _ :: _ :: _, l => exact absurd l (by simp)
  · intro h
    match ms, nd with
    | [], _ => exact Nat.zero_le _
    | [y], _ => exact Nat.le_refl _
    | a :: b :: r, nd =>
      have e := h a ((mem a).mp List.mem_cons_self) b ((mem b).mp (by simp))
      rw [e] at nd
      exact absurd nd (by simp)
/-- the block of a set of texts, the slots as they were -/
theorem sx_all {α : Type} {g : DTG} {tt : DTT} {te : DTE} {vs : List Nat} {st : Option Nat} {all : List D} {δ : DEnv} {f : α → D} {h : α → Str} {Q : List Str → DEnv → Prop} : ∀ {xs : List α} {ms : List Str},
    (∀ x ∈ xs, ∀ (ms : List Str) (R1 : List Str → DEnv → Prop), ms.length + 1 < 4096 → R1 (OwnSet.putM ms (h x)) δ → stayD st all δ (g (f x) δ (fun δ1 => tt δ1 (fun b δ2 => ifD b (fbS te ms δ2 fun c' δ3 => R1 c' (wipeD δ3 vs)) (R1 ms (wipeD δ2 vs))) noX) noX)) →
    ms.length + xs.length < 4096 → stayD st all δ (Q (putMs ms (xs.map h)) δ) → blD g tt (fbS te) vs st all (xs.map f) ms δ Q
  | [], ms, _, _, q => q
  | x :: xs, ms, hs, l, q => by
    rw [List.length_cons] at l
    have lo : (OwnSet.putM ms (h x)).length ≤ ms.length + 1 := by rw [OwnSet.putM_len]; split <;> omega
    refine hs x List.mem_cons_self ms (fun c δ' => blD g tt (fbS te) vs st all (xs.map f) c δ' Q) (by omega) ?_
    exact sx_all (fun y hy => hs y (List.mem_cons_of_mem _ hy)) (by omega) q
/-! ### a def over data, called from the hand layer with values -/
section
variable {K : PySem.W.Frag} {cad : Cn → Addr} {F H : Hp}
theorem good_vals {vs : List V} {ds : List D} (s : Same F H) (r : Reps K cad F vs ds) : Good K cad H F vs (slV (ds.map .val)) (vs.map some) H := by
  refine ⟨fun _ _ => False, fun _ _ e => e, s, ?_, fun i u e => ?_, fun _ _ h => h.elim, fun _ _ _ h => h.elim⟩
  · unfold slV
    rw [List.length_map, List.length_map, List.length_map, r.len]
  · rw [dget_slV] at e
    rw [List.getElem?_map] at e
    cases e2 : ds[i]? with
    | none => rw [e2] at e; cases e
    | some d =>
      rw [e2] at e
      cases e
      obtain ⟨v, ev, rv⟩ := r.get e2
      exact ⟨v, by rw [List.getElem?_map, ev]; rfl, rv, fun t o z => by cases z⟩
theorem toks_vals : ∀ (ds : List D) (n : Nat), toksOk (ds.map .val) n
  | [], _ => trivial
  | _ :: ds, n => toks_vals ds (n + 1)
theorem SpD.flat {g : DSp} {vs : List V} {ds : List D} {Q : VK} {E : XK} (s : Same F H) (r : Reps K cad F vs ds)
    (h : g (ds.map .val) (fun r bs => ∃ d, r = .val d ∧ ∀ v F' H', Same H H' → Same F F' → Rep K cad F' v d → Q v H') (fun _ _ _ => False)) : SpD K cad g vs H Q E :=
  ⟨H, F, ds.map .val, _, _, good_vals s r, toks_vals ds 0, h, fun r bs ⟨d, e, q⟩ v F' H' x gd => by
    subst e
    obtain ⟨fp, gd⟩ := gd
    obtain ⟨w, ew, hw, _⟩ := gd.sl 0 _ rfl
    cases ew
    exact q v F' H' gd.sR x.s hw, fun c fs bs q => q.elim⟩
end
end PD

set_option Elab.async false
set_option linter.all false
set_option maxRecDepth 100000
set_option maxHeartbeats 4000000
/-! Own layer: dicts of texts, the known items, rooms, shifts, ranges as data. -/
namespace PD
open L2 ClX
open PySem PySem.Spec PyProof.Rows
/-! ### dicts with texts as keys -/
def dicL (l : List (Str × D)) : List (Key × D) := l.map fun p => (.inr p.1, p.2)
theorem dicL_len (l : List (Str × D)) : (dicL l).length = l.length := List.length_map ..
theorem dicL_app (l m : List (Str × D)) : dicL (l ++ m) = dicL l ++ dicL m := List.map_append ..
theorem dput_new {l : List (Str × D)} {x : Str} {d : D} (h : x ∉ l.map (·.1)) : dput (dicL l) (.inr x) d = dicL (l ++ [(x, d)]) := by
  unfold dput
  have e : ((dicL l).any fun kv => decide (kv.1 = .inr x)) = false := by
    rw [List.any_eq_false]
    intro kv hk q
    obtain ⟨p, hp, rfl⟩ := List.mem_map.mp hk
    have q := of_decide_eq_true q
    exact h (List.mem_map.mpr ⟨p, hp, Sum.inr.inj q⟩)
  rw [e, if_neg Bool.false_ne_true, dicL_app]
  rfl
theorem dlook_of {l : List (Str × D)} {x : Str} {d : D} (nd : (l.map (·.1)).Nodup) (h : (x, d) ∈ l) : dlook (dicL l) (.inr x) = some d := by
  induction l with
  | nil => cases h
  | cons p l ih =>
    rw [List.map_cons, List.nodup_cons] at nd
    unfold dlook dicL
    rw [List.map_cons, List.find?_cons]
    by_cases e : p.1 = x
    · rw [decide_eq_true (show (Sum.inr p.1 : Key) = .inr x by rw [e])]
      rcases List.mem_cons.mp h with rfl | h
      · rfl
      · exact absurd (List.mem_map.mpr ⟨_, h, e.symm⟩) nd.1
    · rw [decide_eq_false (fun q => e (Sum.inr.inj q))]
      refine ih nd.2 ((List.mem_cons.mp h).resolve_left fun q => e ?_)
      rw [← q]
theorem dlook_none {l : List (Str × D)} {x : Str} (h : x ∉ l.map (·.1)) : dlook (dicL l) (.inr x) = none := by
  unfold dlook
  rw [Option.map_eq_none_iff, List.find?_eq_none]
  intro kv hk q
  obtain ⟨p, hp, rfl⟩ := List.mem_map.mp hk
  have q := of_decide_eq_true q
  exact h (List.mem_map.mpr ⟨p, hp, Sum.inr.inj q⟩)
theorem dlook_isSome {l : List (Str × D)} {x : Str} : (dlook (dicL l) (.inr x)).isSome = decide (x ∈ l.map (·.1)) := by
  by_cases h : x ∈ l.map (·.1)
  · rw [decide_eq_true h]
    unfold dlook
    rw [Option.isSome_map, List.find?_isSome]
    obtain ⟨p, hp, e⟩ := List.mem_map.mp h
    exact ⟨_, List.mem_map.mpr ⟨p, hp, rfl⟩, decide_eq_true (by show (Sum.inr p.1 : Key) = .inr x; rw [e])⟩
  · rw [dlook_none h, decide_eq_false h]
    rfl
/-- {k: v for ..}, the keys all different, the slots as they were -/
theorem dc_all {α : Type} {g : DTG} {tt : DTT} {fk fv : DTE} {vs : List Nat} {st : Option Nat} {all : List D} {δ : DEnv} {f : α → D} {kf : α → Str} {vf : α → D} {Q : List (Key × D) → DEnv → Prop} : ∀ {xs : List α} {pre : List (Str × D)},
    (∀ x ∈ xs, ∀ (kvs : List (Key × D)) (R1 : List (Key × D) → DEnv → Prop), kvs.length < 1000000 → R1 (dput kvs (.inr (kf x)) (vf x)) δ → stayD st all δ (g (f x) δ (fun δ1 => tt δ1 (fun b δ2 => ifD b (fbK fk fv kvs δ2 fun c' δ3 => R1 c' (wipeD δ3 vs)) (R1 kvs (wipeD δ2 vs))) noX) noX)) →
    (pre.map (·.1) ++ xs.map kf).Nodup → pre.length + xs.length ≤ 1000000 → stayD st all δ (Q (dicL (pre ++ xs.map fun x => (kf x, vf x))) δ) → blD g tt (fbK fk fv) vs st all (xs.map f) (dicL pre) δ Q
  | [], pre, _, _, _, q => by
    rw [List.map_nil, List.append_nil] at q
    exact q
  | x :: xs, pre, hs, nd, l, q => by
    rw [List.length_cons] at l
    refine hs x List.mem_cons_self (dicL pre) (fun c δ' => blD g tt (fbK fk fv) vs st all (xs.map f) c δ' Q) (by rw [dicL_len]; omega) ?_
    rw [List.map_cons] at nd
    have ni : kf x ∉ pre.map (·.1) := fun h => (List.nodup_append.mp nd).2.2 _ h _ List.mem_cons_self rfl
    rw [dput_new ni]
    refine dc_all (pre := pre ++ [(kf x, vf x)]) (fun y hy => hs y (List.mem_cons_of_mem _ hy)) ?_ (by rw [List.length_append]; simp only [List.length_cons, List.length_nil]; omega) ?_
    · rw [List.map_append, List.append_assoc]
      exact nd
    · rw [List.append_assoc]
      exact q
/-! ### pairs of a number and an item -/
theorem enumD_map {α : Type} (f : α → D) : ∀ (xs : List α) (n : Nat), enumD n (xs.map f) = (xs.zipIdx n).map fun p => .tup [.int (p.2 : Nat), f p.1]
  | [], _ => rfl
  | x :: xs, n => by
    show D.tup [.int (n : Nat), f x] :: enumD (n + 1) (xs.map f) = _
    rw [enumD_map f xs (n + 1), List.zipIdx_cons, List.map_cons]
theorem zip_fst {α : Type} : ∀ (xs : List α) (n : Nat), (xs.zipIdx n).map (·.1) = xs
  | [], _ => rfl
  | x :: xs, n => by rw [List.zipIdx_cons, List.map_cons, zip_fst xs (n + 1)]
theorem ixS_of {xs : List Str} {x : Str} {i : Nat} (nd : xs.Nodup) (h : xs[i]? = some x) : ixS xs x = i := by
  have m : x ∈ xs := List.mem_of_getElem? h
  have a := ixS_at m
  obtain ⟨l1, e1⟩ := List.getElem?_eq_some_iff.mp a
  obtain ⟨l2, e2⟩ := List.getElem?_eq_some_iff.mp h
  exact (List.getElem_inj nd).mp (e1.trans e2.symm)
theorem zip_ix {β : Type} {xs : List Str} (nd : xs.Nodup) (v : Str → Nat → β) : (xs.zipIdx).map (fun p => v p.1 p.2) = xs.map fun x => v x (ixS xs x) := by
  refine List.ext_getElem? fun i => ?_
  rw [List.getElem?_map, List.getElem?_map, List.getElem?_zipIdx]
  cases e : xs[i]? with
  | none => rfl
  | some x =>
    show some (v x (0 + i)) = some (v x (ixS xs x))
    rw [ixS_of nd e, Nat.zero_add]
/-! ### a log and a list of items -/
def names (rs : List Rw) : List Str := rs.map Rw.x
def rowsL : D → List Rw
  | .lst ds => rowsOf ds
  | _ => []
def strsL : D → List Str
  | .lst ds => strsOf ds
  | _ => []
def isFr : List Rw → Bool
  | [] => false
  | r :: _ => decide (r.k = .F)
def sgOf : List Rw → Str
  | [] => ""
  | r :: _ => sgK r.k
def isKnownD (rs : List Rw) (d : D) : Bool := isItemsD d && rs.all fun r => decide (r.x ∈ strsL d)
/-- the items of the log, as they lie in the list -/
def known (rs : List Rw) (xs : List Str) : List Str := xs.filter fun x => decide (x ∈ names rs)
def roomOf (rs : List Rw) (xs : List Str) (x : Str) : Int := if isFr rs = true then ((known rs xs).length : Nat) - 1 - (ixS (known rs xs) x : Nat) else (ixS (known rs xs) x : Nat)
def roomsL (rs : List Rw) (xs : List Str) : List (Str × D) := (known rs xs).map fun x => (x, .int (roomOf rs xs x))
def shiftOf (rs : List Rw) (xs : List Str) (r : Rw) : Int := if isFr rs = true then r.n - (ixS xs r.x : Nat) else (ixS xs r.x : Nat) - r.n
def shiftsL (rs : List Rw) (xs : List Str) : List (Str × D) := rs.map fun r => (r.x, .int (shiftOf rs xs r))
/-- the lowest and the highest index -/
def lowOf (rs : List Rw) (xs : List Str) (x : Str) : Int := if isFr rs = true then (ixS xs x : Nat) else (ixS xs x : Nat) - roomOf rs xs x
def highOf (rs : List Rw) (xs : List Str) (x : Str) : Int := if isFr rs = true then (ixS xs x : Nat) + roomOf rs xs x else (ixS xs x : Nat)
/-- the record of an item -/
def slotOf (rs : List Rw) (x : Str) : Int := match rs.find? fun r => decide (r.x = x) with
  | some r => r.n
  | none => 0
theorem slotOf_mem {rs : List Rw} {r : Rw} (nd : (names rs).Nodup) (h : r ∈ rs) : slotOf rs r.x = r.n := by
  unfold slotOf
  induction rs with
  | nil => cases h
  | cons a rs ih =>
    unfold names at nd
    rw [List.map_cons, List.nodup_cons] at nd
    rw [List.find?_cons]
    by_cases e : a.x = r.x
    · rw [decide_eq_true e]
      rcases List.mem_cons.mp h with rfl | h
      · rfl
      · exact absurd (List.mem_map.mpr ⟨r, h, e.symm⟩) nd.1
    · rw [decide_eq_false e]
      exact ih nd.2 ((List.mem_cons.mp h).resolve_left fun q => e (by rw [q]))
/-- how a log's index is wrong -/
inductive Cert where
  | low | high
  deriving DecidableEq
def Cert.s : Cert → Str
  | .low => "low"
  | .high => "high"
def shiftX (rs : List Rw) (xs : List Str) (x : Str) : Int := if isFr rs = true then slotOf rs x - (ixS xs x : Nat) else (ixS xs x : Nat) - slotOf rs x
def certOf (rs : List Rw) (xs : List Str) (x : Str) : Option Cert := if shiftX rs xs x < 0 then some .low else if roomOf rs xs x < shiftX rs xs x then some .high else none
def certL (rs : List Rw) (xs : List Str) : List (Cert × Str) := (known rs xs).filterMap fun x => (certOf rs xs x).map fun c => (c, x)
def certD (p : Cert × Str) : D := .tup [.str p.1.s, .str p.2]
theorem known_mem {rs : List Rw} {xs : List Str} {x : Str} : x ∈ known rs xs ↔ x ∈ xs ∧ x ∈ names rs := by
  unfold known
  rw [List.mem_filter, decide_eq_true_iff]
theorem known_sub {rs : List Rw} {xs : List Str} : (known rs xs).Sublist xs := List.filter_sublist
theorem known_nodup {rs : List Rw} {xs : List Str} (h : xs.Nodup) : (known rs xs).Nodup := h.sublist known_sub
theorem known_len {rs : List Rw} {xs : List Str} : (known rs xs).length ≤ xs.length := List.length_filter_le ..
theorem roomsL_keys {rs : List Rw} {xs : List Str} : (roomsL rs xs).map (·.1) = known rs xs := by
  unfold roomsL
  rw [List.map_map]
  exact List.map_id _
theorem shiftsL_keys {rs : List Rw} {xs : List Str} : (shiftsL rs xs).map (·.1) = names rs := by
  unfold shiftsL
  rw [List.map_map]
  rfl
theorem rooms_zip {rs : List Rw} {xs : List Str} (nd : xs.Nodup) (c : Bool) (e : isFr rs = c) : (known rs xs).zipIdx.map (fun p => (p.1, D.int (if c = true then ((known rs xs).length : Nat) - 1 - (p.2 : Nat) else (p.2 : Nat)))) = roomsL rs xs := by
  subst e
  exact zip_ix (known_nodup nd) fun x i => (x, D.int (if isFr rs = true then ((known rs xs).length : Nat) - 1 - (i : Nat) else (i : Nat)))
theorem roomsL_look {rs : List Rw} {xs : List Str} {x : Str} (nd : xs.Nodup) (h : x ∈ known rs xs) : dlook (dicL (roomsL rs xs)) (.inr x) = some (.int (roomOf rs xs x)) :=
  dlook_of (by rw [roomsL_keys]; exact known_nodup nd) (List.mem_map.mpr ⟨x, h, rfl⟩)
theorem shiftsL_look {rs : List Rw} {xs : List Str} {r : Rw} (nd : (names rs).Nodup) (h : r ∈ rs) : dlook (dicL (shiftsL rs xs)) (.inr r.x) = some (.int (shiftOf rs xs r)) :=
  dlook_of (by rw [shiftsL_keys]; exact nd) (List.mem_map.mpr ⟨r, h, rfl⟩)
theorem knownD_b {rs : List Rw} {xs : List Str} (h : Its xs) (k : ∀ r ∈ rs, r.x ∈ xs) : isKnownD rs (.lst (xs.map .str)) = true := by
  unfold isKnownD
  rw [h.b, Bool.true_and, List.all_eq_true]
  intro r hr
  refine decide_eq_true ?_
  show r.x ∈ strsOf (xs.map .str)
  rw [strsOf_map]
  exact k r hr
theorem knownD_of {rs : List Rw} {d : D} (h : isKnownD rs d = true) : ∃ xs, d = .lst (xs.map .str) ∧ Its xs ∧ ∀ r ∈ rs, r.x ∈ xs := by
  unfold isKnownD at h
  rw [Bool.and_eq_true] at h
  obtain ⟨xs, rfl, i⟩ := its_of h.1
  refine ⟨xs, rfl, i, fun r hr => ?_⟩
  have := of_decide_eq_true (List.all_eq_true.mp h.2 r hr)
  have z : r.x ∈ strsOf (xs.map .str) := this
  rw [strsOf_map] at z
  exact z
theorem rowsL_map (rs : List Rw) : rowsL (.lst (rs.map Rw.d)) = rs := rowsOf_map rs
theorem strsL_map (xs : List Str) : strsL (.lst (xs.map D.str)) = xs := strsOf_map xs
theorem room_nonneg {rs : List Rw} {xs : List Str} {x : Str} (h : x ∈ known rs xs) : 0 ≤ roomOf rs xs x := by
  have := ixS_lt h
  unfold roomOf
  split <;> omega
theorem shiftX_mem {rs : List Rw} {xs : List Str} {r : Rw} (nd : (names rs).Nodup) (h : r ∈ rs) : shiftX rs xs r.x = shiftOf rs xs r := by
  unfold shiftX shiftOf
  rw [slotOf_mem nd h]
theorem shiftsX_look {rs : List Rw} {xs : List Str} {x : Str} (nd : (names rs).Nodup) (h : x ∈ names rs) : dlook (dicL (shiftsL rs xs)) (.inr x) = some (.int (shiftX rs xs x)) := by
  obtain ⟨r, hr, rfl⟩ := List.mem_map.mp h
  rw [shiftX_mem nd hr]
  exact shiftsL_look nd hr
/-- right: the index lies in the item's range -/
theorem cert_none {rs : List Rw} {xs : List Str} {x : Str} : certOf rs xs x = none ↔ lowOf rs xs x ≤ slotOf rs x ∧ slotOf rs x ≤ highOf rs xs x := by
  unfold certOf lowOf highOf shiftX
  cases isFr rs with
  | true =>
    simp only [if_true]
    split
    · exact ⟨fun h => (by cases h), fun h => by omega⟩
    · split
      · exact ⟨fun h => (by cases h), fun h => by omega⟩
      · exact ⟨fun _ => by omega, fun _ => rfl⟩
  | false =>
    simp only [Bool.false_eq_true, if_false]
    split
    · exact ⟨fun h => (by cases h), fun h => by omega⟩
    · split
      · exact ⟨fun h => (by cases h), fun h => by omega⟩
      · exact ⟨fun _ => by omega, fun _ => rfl⟩
end PD

set_option Elab.async false
set_option linter.all false
set_option maxRecDepth 100000
set_option maxHeartbeats 4000000
/-! Own layer: more built-in calls over data. -/
namespace PD
open L2 ClX
open PySem PySem.Spec PyProof.Rows
section
variable {K : PySem.W.Frag} {cad : Cn → Addr} {E : L2.St → XK} {R F F' H H' : Hp} {pars : List V} {δ : DEnv} {σ : L2.St}
theorem View.grow {v : V} {d : D} (h : View K cad F H v d) (sF : Same F F') (sH : Same H H') : View K cad F' H' v d := by
  cases h with
  | rep h => exact .rep (h.same sF)
  | lst h t => exact .lst (sH _ _ h) (t.same sF)
  | dic h t => exact .dic (sH _ _ h) (t.same sF)
  | row h hx => exact .row (sH _ _ h) hx
/-! ### own lists from + and * -/
def dnCat (fa fb : DTE) : DTN := fun δ Q QX => fa δ (fun a δ1 => fb δ1 (fun b δ2 => vwK δ2 a fun x => vwK δ2 b fun y => lofD x fun xs => lofD y fun ys => xs.length + ys.length ≤ 1000000 ∧ Q (.lst (xs ++ ys)) δ2) QX) QX
theorem dn_cat {ta tb : TE} {fa fb : DTE} (ha : DE K cad E ta fa) (hb : DE K cad E tb fb) : DN K cad E (tOp rAddX ta tb) (dnCat fa fb) := fun R F pars δ σ H Q QD QX g x hf q =>
  ha R F pars δ σ H _ _ QX g x hf fun a δ1 v F1 H1 s1 g1 hv h1 => hb R F1 pars δ1 σ H1 _ _ QX g1 (x.same s1) h1 fun b δ2 u F2 H2 s2 g2 hu h2 => by
    obtain ⟨dx, vx, h3⟩ := view_of g2 (hv.same s2) h2
    obtain ⟨dy, vy, h4⟩ := view_of g2 hu h3
    obtain ⟨p, vs, xs, rfl, hp, rp, h5⟩ := lof_of g2.sF vx h4
    obtain ⟨r, ws, ys, rfl, hr, rr, h6⟩ := lof_of g2.sF vy h5
    have l : vs.length + ws.length ≤ sizeLine := sz_of (by rw [rp.len, rr.len]; exact h6.1)
    refine .inr (.inr ⟨p, r, vs, ws, rfl, rfl, hp, hr, l, fun n hn => ?_⟩)
    exact q _ δ2 _ F2 _ (s1.trans s2) (g2.newL hn (rp.app rr)) h6.2
def dnRep (fa fb : DTE) : DTN := fun δ Q QX => fa δ (fun a δ1 => fb δ1 (fun b δ2 => vwK δ2 a fun x => vwK δ2 b fun y => lofD x fun xs => match y with
  | .int k => (-(2 ^ 63) ≤ k ∧ k < 2 ^ 63 ∧ xs.length * k.toNat ≤ 1000000) ∧ Q (.lst (List.replicate k.toNat xs).flatten) δ2
  | _ => False) QX) QX
theorem dn_rep {ta tb : TE} {fa fb : DTE} (ha : DE K cad E ta fa) (hb : DE K cad E tb fb) : DN K cad E (tOp rMulX ta tb) (dnRep fa fb) := fun R F pars δ σ H Q QD QX g x hf q =>
  ha R F pars δ σ H _ _ QX g x hf fun a δ1 v F1 H1 s1 g1 hv h1 => hb R F1 pars δ1 σ H1 _ _ QX g1 (x.same s1) h1 fun b δ2 u F2 H2 s2 g2 hu h2 => by
    obtain ⟨dx, vx, h3⟩ := view_of g2 (hv.same s2) h2
    obtain ⟨dy, vy, h4⟩ := view_of g2 hu h3
    obtain ⟨p, vs, xs, rfl, hp, rp, h5⟩ := lof_of g2.sF vx h4
    match dy, vy, h5 with
    | .int k, vy, h5 =>
      obtain rfl := vy.intI
      have l : vs.length * k.toNat ≤ sizeLine := sz_of (by rw [rp.len]; exact h5.1.2.2)
      have l1 : -(2 ^ 63) ≤ k := h5.1.1
      have l2 : k < 2 ^ 63 := h5.1.2.1
      refine .inr ⟨p, k, vs, rfl, rfl, hp, l1, l2, l, fun n hn => ?_⟩
      exact q _ δ2 _ F2 _ (s1.trans s2) (g2.newL hn (rp.repl k.toNat)) h5.2
/-! ### a call with keywords -/
abbrev DOpKw := List D → List D → (D → Prop) → Prop
def CallKD (K : PySem.W.Frag) (cad : Cn → Addr) (r : List V → List V → Hp → VK → Prop) (op : DOpKw) : Prop := ∀ (R F : Hp) (pars : List V) (δ : DEnv) (σ : L2.St) (H : Hp) (vs us : List V) (ds es : List D) (Q : VK) (QD : D → Prop), Good K cad R F pars δ σ H → Views K cad F H vs ds → Views K cad F H us es → op ds es QD →
  (∀ d v F' H', Ext R F F' → Good K cad R F' pars δ σ H' → Rep K cad F' v d → QD d → Q v H') → r vs us H Q
def dCKw (op : DOpKw) (fa fk : DTA) : DTE := fun δ Q QX => fa δ (fun es δ1 => fk δ1 (fun ks δ2 => vwKs δ2 es fun ds => vwKs δ2 ks fun us => op ds us fun d => Q (.val d) δ2) QX) QX
theorem de_ckw {r : List V → List V → Hp → VK → Prop} {op : DOpKw} {ta tk : TA} {n m : Nat} {fa fk : DTA} (hc : CallKD K cad r op) (ha : DA K cad E ta n fa) (hk : DA K cad E tk m fk) : DE K cad E (tCKw r ta tk) (dCKw op fa fk) := fun R F pars δ σ H Q QD QX g x hf q =>
  ha R F pars δ σ H _ _ QX g x hf fun es δ1 vs F1 H1 s1 g1 hv _ h1 => hk R F1 pars δ1 σ H1 _ _ QX g1 (x.same s1) h1 fun ks δ2 us F2 H2 s2 g2 hu _ h2 => by
    obtain ⟨ds, vw, h3⟩ := views_of g2 (hv.same s2) h2
    obtain ⟨ws, vk, h4⟩ := views_of g2 hu h3
    exact hc R F2 pars δ2 σ H2 vs us ds ws Q _ g2 vw vk h4 fun d z F3 H3 s3 g3 rr h5 => q (.val d) δ2 z F3 H3 (s1.trans (s2.trans s3)) g3 rr h5
/-- max([..], default=d) -/
def maxDefD : DOpKw := fun ds es Q => match ds, es with
  | [.lst xs], [.int d] => intsD xs fun ns => (ns = [] → Q (.int d)) ∧ ∀ m, m ∈ ns → (∀ y ∈ ns, y ≤ m) → Q (.int m)
  | _, _ => False
theorem cd_maxDef : CallKD K cad (rMaxDef K) maxDefD := by
  intro R F pars δ σ H vs us ds es Q QD g vw vu h q
  match ds, es, vw, vu, h with
  | [.lst xs], [.int d], vw, vu, h =>
    obtain ⟨v, rfl, vx⟩ := vw.one
    obtain ⟨u, rfl, vy⟩ := vu.one
    obtain rfl := vy.intI
    obtain ⟨a, ws, rfl, ha, r⟩ := vx.lstI g.sF
    obtain ⟨ns, rfl, h0, h1⟩ := ints_of (show intsD xs _ from h)
    obtain rfl := r.ints
    exact ⟨a, ns, d, rfl, rfl, .of ha, fun e => q _ _ F H .refl g (.int _) (h0 e), fun m m1 m2 => q _ _ F H .refl g (.int _) (h1 m m1 m2)⟩
/-! ### tuple(..), list.count of a truth value -/
def tupleD : DOpL := fun ds Q => match ds with
  | [.lst xs] => Q (.tup xs)
  | [.tup xs] => Q (.tup xs)
  | _ => False
theorem cd_tuple : CallD K cad (fun xs H Q => ∃ p ys, xs = [.ref p] ∧ ((SqL K H p ys ∧ ∀ l, H l = none → Q (.ref l) (upd H l (.tup ys))) ∨ (SqT K H p ys ∧ Q (.ref p) H))) tupleD := by
  intro R F pars δ σ H vs ds Q QD g vw h q
  match ds, vw, h with
  | [.lst xs], vw, h =>
    obtain ⟨v, rfl, vx⟩ := vw.one
    obtain ⟨a, ws, rfl, ha, r⟩ := vx.lstI g.sF
    refine ⟨a, ws, rfl, .inl ⟨.of ha, fun l hl => ?_⟩⟩
    obtain ⟨s, g2⟩ := g.newF (o := .tup ws) hl
    exact q (.tup xs) _ _ _ s g2 (.tup upd_same (r.same s.s)) h
  | [.tup xs], vw, h =>
    obtain ⟨v, rfl, vx⟩ := vw.one
    have vx' := vx
    obtain ⟨a, ws, rfl, ha, r⟩ := vx.tupI g.sF
    refine ⟨a, ws, rfl, .inr ⟨.of ha, ?_⟩⟩
    cases vx' with
    | rep rp => exact q (.tup xs) _ F H .refl g rp h
def countBD : DOpR := fun d as Q => match d, as with
  | .lst xs, [.bl b] => blsD xs fun bs => Q (.int (bs.count b : Nat))
  | _, _ => False
theorem md_countB : MtD K cad (fun x xs H Q => ∃ (p : Addr) (bs : List Bool) (b : Bool), x = .ref p ∧ xs = [.bl b] ∧ SqL K H p (bs.map V.bl) ∧ Q (.int ((bs.count b : Nat) : Int)) H) countBD := by
  intro R F pars δ σ H x d vs ds Q QD g vx vw h q
  match d, ds, vw, h with
  | .lst xs, [.bl b], vw, h =>
    obtain ⟨u, rfl, vy⟩ := vw.one
    obtain rfl := vy.blI
    obtain ⟨a, ws, rfl, ha, r⟩ := vx.lstI g.sF
    obtain ⟨bs, rfl, h2⟩ := bls_of (show blsD xs _ from h)
    obtain rfl := r.bls
    exact ⟨a, bs, b, rfl, rfl, .of ha, q _ _ F H .refl g (.int _) h2⟩
/-! ### dict([(k, v), ..]) -/
def prsD0 (ds : List D) (k : List (Key × D) → Prop) : Prop := match ds with
  | [] => k []
  | .tup [a, b] :: ds => keyD a fun key => prsD0 ds fun kvs => k ((key, b) :: kvs)
  | _ => False
theorem prs_map0 {k : List (Key × D) → Prop} : ∀ xs : List Str, k (xs.map fun x => (.inr x, .int 0)) → prsD0 (xs.map fun x => .tup [.str x, .int 0]) k
  | [], h => h
  | _ :: xs, h => prs_map0 (k := fun kvs => k (_ :: kvs)) xs h
@[irreducible] def prsD (ds : List D) (k : List (Key × D) → Prop) : Prop := prsD0 ds k
theorem prs_map {k : List (Key × D) → Prop} (xs : List Str) (h : k (xs.map fun x => (.inr x, .int 0))) : prsD (xs.map fun x => .tup [.str x, .int 0]) k := by
  unfold prsD
  exact prs_map0 xs h
def dputs (kvs more : List (Key × D)) : List (Key × D) := more.foldl (fun acc kv => dput acc kv.1 kv.2) kvs
theorem merge_v : ∀ {ms : List (Key × V)} {nds : List (Key × D)} {ks : List (Key × V)} {kvs : List (Key × D)}, RepK K cad F ks kvs → RepK K cad F ms nds → RepK K cad F (mergeK ks ms) (dputs kvs nds)
  | _, _, _, _, r, .nil => r
  | (k, v) :: ms, (_, d) :: nds, ks, kvs, r, .cons hk h t => show RepK K cad F (mergeK (putK ks k v) ms) (dputs (dput kvs k d) nds) from merge_v (put_v hk r h) t
theorem prs_of0 : ∀ {vs : List V} {ds : List D} {k : List (Key × D) → Prop}, Same F H → Reps K cad F vs ds → prsD0 ds k → ∃ (ps : List Addr) (kvs : List (Key × V)) (nds : List (Key × D)), vs = ps.map V.ref ∧ Paired (fun p kv => SqT K H p [kV kv.1, kv.2]) ps kvs ∧ RepK K cad F kvs nds ∧ k nds
  | _, _, k, s, .nil, q => ⟨[], [], [], rfl, .nil, .nil, q⟩
  | v :: vs, d :: ds, k, s, .cons h t, q => by
    match d, h, q with
    | .tup [a, b], h, q =>
      obtain ⟨p, ws, rfl, hp, r⟩ := h.tupI
      match ws, r with
      | [x, y], .cons ra (.cons rb .nil) =>
        obtain ⟨key, rfl, ko, q⟩ := key_of (H := H) (.rep ra) (show keyD a _ from q)
        obtain ⟨ps, kvs, nds, rfl, pr, rk, q⟩ := prs_of0 s t q
        exact ⟨p :: ps, (key, y) :: kvs, (key, b) :: nds, rfl, .cons (.of (s _ _ hp)) pr, .cons ko rb rk, q⟩
theorem prs_of {vs : List V} {ds : List D} {k : List (Key × D) → Prop} (s : Same F H) (r : Reps K cad F vs ds) (q : prsD ds k) : ∃ (ps : List Addr) (kvs : List (Key × V)) (nds : List (Key × D)), vs = ps.map V.ref ∧ Paired (fun p kv => SqT K H p [kV kv.1, kv.2]) ps kvs ∧ RepK K cad F kvs nds ∧ k nds := by
  unfold prsD at q
  exact prs_of0 s r q
def dnDictP (fa : DTA) : DTN := fun δ Q QX => fa δ (fun es δ1 => vwKs δ1 es fun ds => match ds with
  | [d] => lofD d fun xs => prsD xs fun kvs => Q (.dic (dputs [] kvs)) δ1
  | _ => False) QX
theorem dn_dictP {ta : TA} {n : Nat} {fa : DTA} (ha : DA K cad E ta n fa) : DN K cad E (tCB (fun xs H Q => ∃ (a : Addr) (ps : List Addr) (kvs : List (Key × V)), xs = [.ref a] ∧ SqL K H a (ps.map V.ref) ∧ Paired (fun p kv => SqT K H p [kV kv.1, kv.2]) ps kvs ∧
    ∀ p, H p = none → Q (.ref p) (upd H p (.dK (mergeK [] kvs)))) ta) (dnDictP fa) := fun R F pars δ σ H Q QD QX g x hf q =>
  ha R F pars δ σ H _ _ QX g x hf fun es δ1 vs F1 H1 s1 g1 hv _ h1 => by
    obtain ⟨ds, vw, h2⟩ := views_of g1 hv h1
    match ds, vw, h2 with
    | [d], vw, h2 =>
      obtain ⟨v, rfl, vx⟩ := vw.one
      obtain ⟨a, ws, xs, rfl, ha, r, h3⟩ := lof_of g1.sF vx h2
      obtain ⟨ps, kvs, nds, rfl, pr, rk, h4⟩ := prs_of g1.sF r h3
      exact ⟨a, ps, kvs, rfl, .of ha, pr, fun p hp => q _ δ1 _ F1 _ s1 (g1.newK hp (merge_v .nil rk)) h4⟩
/-! ### {k: v, ..} -/
abbrev DTPs := DEnv → (List (Key × D) → DEnv → Prop) → DX → Prop
def DPs (K : PySem.W.Frag) (cad : Cn → Addr) (E : L2.St → XK) (t : List (TE × TE)) (n : Nat) (f : DTPs) : Prop := ∀ (R F : Hp) (pars : List V) (δ : DEnv) (σ : L2.St) (H : Hp) (Q : List (V × V) → Hp → Prop) (QD : List (Key × D) → DEnv → Prop) (QX : DX), Good K cad R F pars δ σ H → XOk K cad (E σ) R F pars σ QX → f δ QD QX →
  (∀ kvs δ' ks F' H', Ext R F F' → Good K cad R F' pars δ' σ H' → RepK K cad F' ks kvs → kvs.length = n → QD kvs δ' → Q (ks.map fun kv => (kV kv.1, kv.2)) H') → tPairs t σ H Q
def dpNil : DTPs := fun δ Q _ => Q [] δ
theorem dp_nil : DPs K cad E [] 0 dpNil := fun R F pars δ σ H Q QD QX g _ h q => q [] δ [] F H .refl g .nil rfl h
def dpCons (fk fv : DTE) (u : DTPs) : DTPs := fun δ Q QX => fk δ (fun ke δ1 => vwK δ1 ke fun kd => keyD kd fun key => fv δ1 (fun e δ2 => frzE e δ2 fun d δ3 => u δ3 (fun kvs δ4 => Q ((key, d) :: kvs) δ4) QX) QX) QX
theorem dp_cons {tk tv : TE} {ts : List (TE × TE)} {n : Nat} {fk fv : DTE} {u : DTPs} (hk : DE K cad E tk fk) (hv : DE K cad E tv fv) (hu : DPs K cad E ts n u) : DPs K cad E ((tk, tv) :: ts) (n + 1) (dpCons fk fv u) := fun R F pars δ σ H Q QD QX g x hf q =>
  hk R F pars δ σ H _ _ QX g x hf fun ke δ1 v F1 H1 s1 g1 hke h1 => by
    obtain ⟨kd, vk, h2⟩ := view_of g1 hke h1
    obtain ⟨key, rfl, ko, h3⟩ := key_of vk h2
    refine hv R F1 pars δ1 σ H1 _ _ QX g1 (x.same s1) h3 fun e δ2 w F2 H2 s2 g2 hw h4 => ?_
    obtain ⟨d, δ3, F3, s3, g3, r, h5⟩ := frz_of g2 hw h4
    refine hu R F3 pars δ3 σ H2 _ _ QX g3 (x.same (s1.trans (s2.trans s3))) h5 fun kvs δ4 ks F4 H4 s4 g4 rk l h6 => ?_
    exact q ((key, d) :: kvs) δ4 ((key, w) :: ks) F4 H4 (s1.trans (s2.trans (s3.trans s4))) g4 (.cons ko (r.same s4.s) rk) (congrArg (· + 1) l) h6
def dnDisp (f : DTPs) : DTN := fun δ Q QX => f δ (fun kvs δ1 => Q (.dic (dputs [] kvs)) δ1) QX
theorem dn_disp {t : List (TE × TE)} {n : Nat} {f : DTPs} (h : DPs K cad E t n f) (hn : n ≤ 15 := by decide) : DN K cad E (tDisp t) (dnDisp f) := fun R F pars δ σ H Q QD QX g x hf q => fun p hp => by
  have g0 := g.newK hp (.nil : RepK K cad F [] [])
  obtain ⟨R', less, g1, back⟩ := g0.aside
  refine h R' F pars δ σ _ _ _ QX g1 (fun c fs od δ' F' H' y g3 a z => x c fs od δ' F' H' (y.less less) (back F' H' δ' σ y g3).tail a z) hf fun kvs δ1 ks F1 H1 s1 g2 rk l h1 => ?_
  have g3 := back F1 H1 δ1 σ s1 g2
  obtain ⟨a, vs, e, ha, r0⟩ := DkAt (i := 0) g3 rfl rfl
  cases e
  cases r0
  refine ⟨ha, ks, rfl, ?_, ?_⟩
  · rw [rk.len, l]; exact hn
  obtain ⟨b, ws, eb, _, _, g4⟩ := Good.writeK (n := 0) g3 rfl rfl (merge_v (.nil : RepK K cad F1 [] []) rk)
  cases eb
  exact q _ δ1 _ F1 _ (s1.less less) g4 h1
/-! ### isinstance with several classes -/
def tCs : List V → TA
  | [] => tNil
  | v :: vs => tCons (tC v) (tCs vs)
theorem tCs_run : ∀ (cs : List V) (σ : L2.St) (H : Hp) (Q : List V → Hp → Prop), Q cs H → tCs cs σ H Q
  | [], _, _, _, q => q
  | c :: cs, σ, H, Q, q => tCs_run cs σ H (fun vs H1 => Q (c :: vs) H1) q
def anyT {α : Type} : List (α → Option Bool) → α → Option Bool
  | [], _ => some false
  | t :: ts, c => match t c with
    | some true => some true
    | some false => anyT ts c
    | none => none
/-- the classes, and the answers for each -/
inductive EtL (K : PySem.W.Frag) (cad : Cn → Addr) : List V → List Value → List (Cn → Option Bool) → Prop
  | nil : EtL K cad [] [] []
  | cons {v : V} {u : Value} {tab : Cn → Option Bool} {vs : List V} {us : List Value} {tabs : List (Cn → Option Bool)} (hc : ClsV v u) (ht : ∀ c b, tab c = some b → ExcC K (cad c) ∧ PySem.W.kitOne K (.ref (cad c)) u = some b) (t : EtL K cad vs us tabs) : EtL K cad (v :: vs) (u :: us) (tab :: tabs)
theorem EtL.cls : ∀ {vs : List V} {us : List Value} {tabs : List (Cn → Option Bool)}, EtL K cad vs us tabs → Paired ClsV vs us
  | _, _, _, .nil => .nil
  | _, _, _, .cons h _ t => .cons h t.cls
theorem EtL.any : ∀ {vs : List V} {us : List Value} {tabs : List (Cn → Option Bool)} {c : Cn} {b : Bool}, EtL K cad vs us tabs → anyT tabs c = some b → PySem.W.kitAny K (.ref (cad c)) us = some b
  | _, _, _, c, b, .nil, e => e
  | _, _, _, c, b, .cons (tab := tab) _ ht t, e => by
    unfold anyT at e
    cases q : tab c with
    | none => rw [q] at e; cases e
    | some r =>
      rw [q] at e
      refine kitAny_cons (ht c r q).2 (fun z => ?_) fun z => ?_
      · subst z
        exact t.any e
      · subst z
        exact (Option.some.inj e).symm
theorem EtL.exc {v : V} {u : Value} {tab : Cn → Option Bool} {vs : List V} {us : List Value} {tabs : List (Cn → Option Bool)} {c : Cn} {b : Bool} (h : EtL K cad (v :: vs) (u :: us) (tab :: tabs)) (e : anyT (tab :: tabs) c = some b) : ExcC K (cad c) := by
  cases h with
  | cons hc ht t =>
    unfold anyT at e
    cases q : tab c with
    | none => rw [q] at e; cases e
    | some r => exact (ht c r q).1
theorem de_isET {v : V} {u : Value} {tab : Cn → Option Bool} {vs : List V} {us : List Value} {tabs : List (Cn → Option Bool)} {t : TE} {f : DTE} (L : EtL K cad (v :: vs) (u :: us) (tab :: tabs)) (hn : (v :: vs).length ≤ 1000000) (h : DE K cad E t f) : DE K cad E (tCB (rIsErrT K) (tCons t (tCons (tTup (tCs (v :: vs))) tNil))) (dIsE (anyT (tab :: tabs)) f) := fun R F pars δ σ H Q QD QX gd x hf q =>
  h R F pars δ σ H _ _ QX gd x hf fun e δ1 w F1 H1 s1 g1 hv h1 => by
    obtain ⟨d, vw, h2⟩ := view_of g1 hv h1
    cases d with
    | err c fs =>
      have h2 : (match anyT (tab :: tabs) c with | some b => QD (.val (.bl b)) δ1 | none => False) := h2
      cases q2 : anyT (tab :: tabs) c with
      | none => rw [q2] at h2; exact h2.elim
      | some b =>
        rw [q2] at h2
        obtain ⟨a, dd, rfl, ha, hdd⟩ := err_at g1.sF vw
        show tTup (tCs (v :: vs)) σ H1 _
        unfold tTup
        refine tCs_run (v :: vs) σ H1 _ ?_
        refine ⟨sz_of hn, fun p hp => ?_⟩
        obtain ⟨s2, g2⟩ := g1.newF (o := .tup (v :: vs)) hp
        have sH : Same H1 (upd H1 p (.tup (v :: vs))) := Same.new hp
        refine ⟨a, cad c, p, dd, v :: vs, u :: us, b, rfl, sH _ _ ha, fun z e => ?_, L.exc q2, upd_same, L.cls, L.any q2, q (.val (.bl b)) δ1 _ _ _ (s1.trans s2) g2 (.bl b) h2⟩
        obtain ⟨fs, hz⟩ := hdd z e
        exact ⟨fs, sH _ _ hz⟩
    | _ => exact h2.elim
/-- of values -/
inductive TtL (K : PySem.W.Frag) (cad : Cn → Addr) : List V → List Value → List (TyT → Option Bool) → Prop
  | nil : TtL K cad [] [] []
  | cons {v : V} {u : Value} {tab : TyT → Option Bool} {vs : List V} {us : List Value} {tabs : List (TyT → Option Bool)} (hc : ClsV v u) (ht : TabOk K cad u tab) (t : TtL K cad vs us tabs) : TtL K cad (v :: vs) (u :: us) (tab :: tabs)
theorem TtL.cls : ∀ {vs : List V} {us : List Value} {tabs : List (TyT → Option Bool)}, TtL K cad vs us tabs → Paired ClsV vs us
  | _, _, _, .nil => .nil
  | _, _, _, .cons h _ t => .cons h t.cls
theorem TtL.any : ∀ {vs : List V} {us : List Value} {tabs : List (TyT → Option Bool)} {c : TyT} {b : Bool}, TtL K cad vs us tabs → anyT tabs c = some b → PySem.W.kitAny K (tvK cad c) us = some b
  | _, _, _, c, b, .nil, e => e
  | _, _, _, c, b, .cons (tab := tab) _ ht t, e => by
    unfold anyT at e
    cases q : tab c with
    | none => rw [q] at e; cases e
    | some r =>
      rw [q] at e
      refine kitAny_cons (ht c r q) (fun z => ?_) fun z => ?_
      · subst z
        exact t.any e
      · subst z
        exact (Option.some.inj e).symm
theorem de_isiT {vs : List V} {us : List Value} {tabs : List (TyT → Option Bool)} {t : TE} {f : DTE} (T : RowT K cad) (L : TtL K cad vs us tabs) (hn : vs.length ≤ 1000000) (h : DE K cad E t f) : DE K cad E (tCB (rIsiT K) (tCons t (tCons (tTup (tCs vs)) tNil))) (dIsi (anyT tabs) f) := fun R F pars δ σ H Q QD QX gd x hf q =>
  h R F pars δ σ H _ _ QX gd x hf fun e δ1 w F1 H1 s1 g1 hv h1 => by
    obtain ⟨d, vw, h2⟩ := view_of g1 hv h1
    cases q1 : tyD d with
    | none => rw [q1] at h2; exact h2.elim
    | some ty =>
      rw [q1] at h2
      have h2 : (match anyT tabs ty with | some b => QD (.val (.bl b)) δ1 | none => False) := h2
      cases q2 : anyT tabs ty with
      | none => rw [q2] at h2; exact h2.elim
      | some b =>
        rw [q2] at h2
        refine tCs_run vs σ H1 _ ?_
        refine ⟨sz_of hn, fun p hp => ?_⟩
        obtain ⟨s2, g2⟩ := g1.newF (o := .tup vs) hp
        have vw' := vw.grow s2.s (Same.new (o := .tup vs) hp)
        exact ⟨w, p, vs, tvK cad ty, us, b, rfl, upd_same, L.cls, ty_of T g2.sF vw' q1, L.any q2, q (.val (.bl b)) δ1 _ _ _ (s1.trans s2) g2 (.bl b) h2⟩
end
end PD

set_option Elab.async false
set_option linter.all false
set_option maxRecDepth 100000
set_option maxHeartbeats 4000000
/-! Own layer: repairs as data. -/
namespace PD
open L2 ClX
open PySem PySem.Spec PyProof.Rows
/-! ### places in a list and in a part of it -/
theorem ixS_split {xs : List Str} {x : Str} (h : x ∈ xs) : ∃ p q, xs = p ++ x :: q ∧ x ∉ p ∧ ixS xs x = p.length := by
  have l := ixS_lt h
  have a := ixS_at h
  obtain ⟨l1, e1⟩ := List.getElem?_eq_some_iff.mp a
  refine ⟨xs.take (ixS xs x), xs.drop (ixS xs x + 1), ?_, fun m => ?_, by rw [List.length_take]; omega⟩
  · conv => lhs; rw [← List.take_append_drop (ixS xs x) xs]
    rw [List.drop_eq_getElem_cons l1, e1]
  · obtain ⟨i, hi, e⟩ := List.mem_iff_getElem.mp m
    rw [List.length_take] at hi
    rw [List.getElem_take] at e
    have := List.not_of_lt_findIdx (p := fun y => decide (y = x)) (xs := xs) (i := i) (show i < ixS xs x by omega)
    rw [e] at this
    simp at this
theorem ixS_app {p q : List Str} {x : Str} (h : x ∉ p) : ixS (p ++ x :: q) x = p.length := by
  unfold ixS
  rw [List.findIdx_append]
  have e : p.findIdx (fun y => decide (y = x)) = p.length := by
    rw [List.findIdx_eq_length]
    intro y hy
    exact decide_eq_false fun z => h (z ▸ hy)
  rw [e, if_neg (Nat.lt_irrefl _)]
  rw [List.findIdx_cons, decide_eq_true rfl]
  simp
theorem ixS_filter {xs : List Str} {x : Str} {f : Str → Bool} (h : x ∈ xs) (hf : f x = true) : ixS (xs.filter f) x ≤ ixS xs x ∧ (xs.filter f).length - ixS (xs.filter f) x ≤ xs.length - ixS xs x ∧ ixS xs x < xs.length ∧ ixS (xs.filter f) x < (xs.filter f).length := by
  obtain ⟨p, q, rfl, np, e⟩ := ixS_split h
  rw [e, List.filter_append, List.filter_cons, if_pos hf]
  rw [ixS_app (fun m => np (List.mem_filter.mp m).1)]
  have a := List.length_filter_le f p
  have b := List.length_filter_le f q
  rw [List.length_append, List.length_append, List.length_cons, List.length_cons]
  omega
theorem range_bounds {rs : List Rw} {xs : List Str} {x : Str} (h : x ∈ xs) (hk : x ∈ names rs) : 0 ≤ lowOf rs xs x ∧ lowOf rs xs x ≤ highOf rs xs x ∧ highOf rs xs x < xs.length ∧ 0 ≤ roomOf rs xs x := by
  have z := ixS_filter (f := fun x => decide (x ∈ names rs)) h (decide_eq_true hk)
  have z : ixS (known rs xs) x ≤ ixS xs x ∧ (known rs xs).length - ixS (known rs xs) x ≤ xs.length - ixS xs x ∧ ixS xs x < xs.length ∧ ixS (known rs xs) x < (known rs xs).length := z
  unfold lowOf highOf roomOf
  split <;> omega
/-! ### the nearest index -/
def nearOf (rs : List Rw) (xs : List Str) (r : Rw) : Int :=
  let n := if highOf rs xs r.x < r.n then highOf rs xs r.x else r.n
  if n > lowOf rs xs r.x then n else lowOf rs xs r.x
theorem near_bounds {rs : List Rw} {xs : List Str} {r : Rw} (I : Its xs) (h : r.x ∈ xs) (hr : r ∈ rs) : 0 ≤ nearOf rs xs r ∧ nearOf rs xs r ≤ 60 := by
  have z := range_bounds (rs := rs) h (List.mem_map.mpr ⟨r, hr, rfl⟩)
  have l := I.l
  unfold nearOf
  simp only
  split <;> split <;> omega
def nearR (rs : List Rw) (xs : List Str) (r : Rw) : Rw := ⟨r.k, r.x, nearOf rs xs r⟩
def isGrownD (d : D) : Bool := isLogD d && !isFr (rowsL d)
/-! ### indices in order -/
def slots (rs : List Rw) : List Int := rs.map Rw.n
def sortI (ns : List Int) : List Int := ns.mergeSort
theorem sortI_perm (ns : List Int) : (sortI ns).Perm ns := List.mergeSort_perm ..
theorem sortI_sorted (ns : List Int) : (sortI ns).Pairwise (· ≤ ·) := by
  have := List.pairwise_mergeSort (le := fun a b : Int => decide (a ≤ b)) (fun a b c h1 h2 => by simp only [decide_eq_true_eq] at *; omega) (fun a b => by simp only [Bool.or_eq_true, decide_eq_true_eq]; omega) ns
  exact this.imp fun h => of_decide_eq_true h
theorem sortI_of {ns ys : List Int} (h : ys.Perm ns) (s : ys.Pairwise (· ≤ ·)) : ys = sortI ns :=
  List.Perm.eq_of_pairwise (fun a b _ _ h1 h2 => Int.le_antisymm h1 h2) s (sortI_sorted ns) (h.trans (sortI_perm ns).symm)
/-- by how much the indices in order outgrow their places -/
def excess (ns : List Int) : List Int := (sortI ns).zipIdx.map fun p => p.1 - (p.2 : Nat)
/-- the most of it -/
def IsLeast (ns : List Int) (m : Int) : Prop := (ns = [] ∧ m = 0) ∨ (m ∈ excess ns ∧ ∀ y ∈ excess ns, y ≤ m)
def manyStep (m : Int) (s : Int) : Int := if s ≤ m then m + 1 else m
def manyOf (ns : List Int) : Int := (sortI ns).foldl manyStep 0
theorem many_le : ∀ (ns : List Int) (m : Int), m ≤ ns.foldl manyStep m ∧ ns.foldl manyStep m ≤ m + ns.length
  | [], m => ⟨Int.le_refl _, by show m ≤ m + ((0 : Nat) : Int); omega⟩
  | n :: ns, m => by
    obtain ⟨a, b⟩ := many_le ns (manyStep m n)
    have : m ≤ manyStep m n ∧ manyStep m n ≤ m + 1 := by unfold manyStep; split <;> omega
    rw [List.foldl_cons, List.length_cons]
    omega
end PD

set_option Elab.async false
set_option linter.all false
set_option maxRecDepth 100000
set_option maxHeartbeats 4000000
/-! Own layer: what the laws draw from, as data; drawing without putting back. -/
namespace PD
open L2 ClX
open PySem PySem.Spec PyProof.Rows
/-! ### blocks by an invariant -/
theorem bl_walk {C : Type} {g : DTG} {tt : DTT} {fb : DTB C} {vs : List Nat} {st : Option Nat} {all : List D} {Q : C → DEnv → Prop} (I : Nat → C → DEnv → Prop) : ∀ {ds : List D} {i : Nat} {c : C} {δ : DEnv}, I i c δ →
    (∀ (j : Nat) (d : D) (c : C) (δ : DEnv) (R1 : C → DEnv → Prop), ds[j]? = some d → I (i + j) c δ → (∀ c' δ', I (i + j + 1) c' δ' → R1 c' δ') → stayD st all δ (g d δ (fun δ1 => tt δ1 (fun b δ2 => ifD b (fb c δ2 fun c' δ3 => R1 c' (wipeD δ3 vs)) (R1 c (wipeD δ2 vs))) noX) noX)) →
    (∀ c δ, I (i + ds.length) c δ → stayD st all δ (Q c δ)) → blD g tt fb vs st all ds c δ Q
  | [], i, c, δ, h, _, hd => hd c δ h
  | d :: ds, i, c, δ, h, hs, hd => hs 0 d c δ (fun c' δ' => blD g tt fb vs st all ds c' δ' Q) rfl h fun c' δ' h' => bl_walk I (i := i + 1) h' (fun j d2 c2 δ2 R1 e hj hn => by
      have y := hs (j + 1) d2 c2 δ2 R1 e (by rw [show i + (j + 1) = i + 1 + j by omega]; exact hj)
      rw [show i + (j + 1) + 1 = i + 1 + j + 1 by omega] at y
      exact y hn) fun c2 δ2 h2 => hd c2 δ2 (by rw [List.length_cons, show i + (ds.length + 1) = i + 1 + ds.length by omega]; exact h2)
/-- for, one thing being kept -/
theorem for_each {g : DTG} {body : DTS} {k : DK} (I : DEnv → Prop) : ∀ {ds : List D} {δ : DEnv}, I δ → (∀ d ∈ ds, ∀ δ, I δ → ∀ nx : DEnv → Prop, (∀ δ', I δ' → nx δ') → g d δ (fun δ1 => body { k with nx := nx, ct := nx, bk := k.nx } δ1) k.ex) → (∀ δ, I δ → k.nx δ) → forD g body k ds δ
  | [], δ, h, _, hd => hd δ h
  | d :: ds, δ, h, hs, hd => hs d List.mem_cons_self δ h (forD g body k ds) fun δ' h' => for_each I h' (fun e he => hs e (List.mem_cons_of_mem _ he)) hd
/-- .. by the number of turns -/
theorem for_turns {g : DTG} {body : DTS} {k : DK} (I : Nat → DEnv → Prop) : ∀ {ds : List D} {i : Nat} {δ : DEnv}, I i δ → (∀ (j : Nat) (d : D), d ∈ ds → i ≤ j → j < i + ds.length → ∀ δ, I j δ → ∀ nx : DEnv → Prop, (∀ δ', I (j + 1) δ' → nx δ') → g d δ (fun δ1 => body { k with nx := nx, ct := nx, bk := k.nx } δ1) k.ex) → (∀ δ, I (i + ds.length) δ → k.nx δ) → forD g body k ds δ
  | [], i, δ, h, _, hd => hd δ h
  | d :: ds, i, δ, h, hs, hd => hs i d List.mem_cons_self (Nat.le_refl _) (by rw [List.length_cons]; omega) δ h (forD g body k ds) fun δ' h' => for_turns I (i := i + 1) h' (fun j e he l1 l2 => hs j e (List.mem_cons_of_mem _ he) (by omega) (by rw [List.length_cons]; omega)) fun δ h => hd δ (by rw [List.length_cons, show i + (ds.length + 1) = i + 1 + ds.length by omega]; exact h)
/-- .. over range(lo, lo + n) -/
theorem bl_rng {C : Type} {g : DTG} {tt : DTT} {fb : DTB C} {vs : List Nat} {st : Option Nat} {all : List D} {Q : C → DEnv → Prop} (I : Nat → C → DEnv → Prop) {lo : Int} {n : Nat} {c : C} {δ : DEnv} (h : I 0 c δ)
    (hs : ∀ (j : Nat) (c : C) (δ : DEnv) (R1 : C → DEnv → Prop), j < n → I j c δ → (∀ c' δ', I (j + 1) c' δ' → R1 c' δ') → stayD st all δ (g (.int (lo + (j : Nat))) δ (fun δ1 => tt δ1 (fun b δ2 => ifD b (fb c δ2 fun c' δ3 => R1 c' (wipeD δ3 vs)) (R1 c (wipeD δ2 vs))) noX) noX))
    (hd : ∀ c δ, I n c δ → stayD st all δ (Q c δ)) : blD g tt fb vs st all (rngD lo n) c δ Q := by
  refine bl_walk I h (fun j d c δ R1 e hj hn => ?_) (fun c δ h2 => hd c δ (by rw [rngD_len, Nat.zero_add] at h2; exact h2))
  rw [Nat.zero_add] at hj hn
  have l : j < n := by
    have := (List.getElem?_eq_some_iff.mp e).1
    rw [rngD_len] at this
    exact this
  rw [rngD_get l] at e
  cases e
  exact hs j c δ R1 l hj hn
/-- for over range(lo, lo + n) -/
theorem for_rng {g : DTG} {body : DTS} {k : DK} (I : Nat → DEnv → Prop) {lo : Int} {n : Nat} {δ : DEnv} (h : I 0 δ)
    (hs : ∀ (j : Nat) (δ : DEnv), j < n → I j δ → ∀ nx : DEnv → Prop, (∀ δ', I (j + 1) δ' → nx δ') → g (.int (lo + (j : Nat))) δ (fun δ1 => body { k with nx := nx, ct := nx, bk := k.nx } δ1) k.ex)
    (hd : ∀ δ, I n δ → k.nx δ) : forD g body k (rngD lo n) δ := by
  unfold rngD
  refine for_map (fun p δ => I p.length δ) (pre := []) h (fun p x q δ e hI nx hn => ?_) fun δ hI => hd δ (by rw [List.nil_append, List.length_range] at hI; exact hI)
  have e2 : (List.range n)[p.length]? = some x := by
    rw [List.nil_append] at e
    rw [e, List.getElem?_append_right (Nat.le_refl _), Nat.sub_self]
    rfl
  have l : p.length < n := by
    have := (List.getElem?_eq_some_iff.mp e2).1
    rw [List.length_range] at this
    exact this
  rw [List.getElem?_range l] at e2
  cases e2
  exact hs p.length δ l hI nx fun δ' h' => hn δ' (by rw [List.length_append]; exact h')
/-- the turn of a block with a test -/
theorem flt_turn {b : Bool} {x : D} {acc : List D} {δ : DEnv} {R1 : List D → DEnv → Prop} (l : acc.length < 1000000) (q : R1 (acc ++ (if b = true then some x else none).toList) δ) : ifD b (acc.length < 1000000 ∧ R1 (acc ++ [x]) δ) (R1 acc δ) := by
  cases b with
  | true => exact ⟨l, q⟩
  | false =>
    rw [if_neg Bool.false_ne_true, Option.toList_none, List.append_nil] at q
    exact q
theorem nodup_rev {α : Type} {xs : List α} (h : xs.Nodup) : xs.reverse.Nodup := (List.reverse_perm xs).nodup_iff.mpr h
/-- a tape: digits still to be used, a seed, how often it was asked (n at most) -/
def SrcD (n : Nat) (o : Ob) : Prop := ∃ g m c : Int, o = .lst [.int g, .int m, .int c] ∧ 0 ≤ m ∧ m < 2 ^ 140 ∧ 0 ≤ c ∧ c ≤ (n : Int)
theorem SrcD.le {n m : Nat} {o : Ob} (h : SrcD n o) (l : n ≤ m) : SrcD m o := by
  obtain ⟨g, a, c, e, h1, h2, h3, h4⟩ := h
  exact ⟨g, a, c, e, h1, h2, h3, by omega⟩
theorem big39 : ((10 : Int) ^ (39 : Int).toNat + 3) = 1000000000000000000000000000000000000003 := by decide +kernel
theorem big41 : ((10 : Int) ^ (41 : Int).toNat + 37) = 100000000000000000000000000000000000000037 := by decide +kernel
theorem big38 : ((10 : Int) ^ (38 : Int).toNat + 133) = 100000000000000000000000000000000000133 := by decide +kernel
theorem atZ_at {ns : List Int} {k : Nat} {Q : Int → Prop} (h : k < ns.length) (q : Q ns[k]) : atZ ns (k : Nat) Q := by
  unfold atZ
  rw [atI_nat (List.getElem?_eq_getElem h)]
  exact q
/-- the first answer of a def that draws from a tape -/
def gNext : DSp := fun ss Q _ => ∃ (o : Ob) (n : Nat) (size : Int), ss = [.own (some 0) o, .val (.int size)] ∧ 0 < size ∧ size < 2 ^ 200 ∧ SrcD n o ∧ n < 2 ^ 60 ∧ ∀ (r : Int) (o' : Ob), 0 ≤ r → r < size → SrcD (n + 1) o' → Q (.val (.int r)) [o']
/-- a place of a list, taken out -/
theorem pop_at {α : Type} {f : α → D} {xs : List α} {i : Int} {Q : D → List D → Prop} (h0 : 0 ≤ i) (h1 : i < xs.length) (l : xs.length ≤ 1000000) (q : ∀ (x : α) (n : Nat), xs[n]? = some x → (n : Int) = i → Q (f x) ((xs.eraseIdx n).map f)) : popAtD (xs.map f) [.int i] Q := by
  unfold popAtD
  refine ⟨⟨by omega, by omega⟩, ?_⟩
  have lt : i.toNat < xs.length := by omega
  have e : seqIndex? i (xs.map f).length = some i.toNat := by
    unfold seqIndex?
    have c1 : ¬ i < 0 := by omega
    have c2 : (decide (0 ≤ i) && decide (i < (xs.length : Int))) = true := by rw [decide_eq_true h0, decide_eq_true h1]; rfl
    rw [List.length_map]
    simp only [if_neg c1]
    rw [if_pos c2]
  rw [e]
  have e2 : (xs.map f)[i.toNat]? = some (f xs[i.toNat]) := by rw [List.getElem?_map, List.getElem?_eq_getElem lt]; rfl
  show (match (xs.map f)[i.toNat]? with | some d => Q d ((xs.map f).eraseIdx i.toNat) | none => False)
  rw [e2]
  have := q xs[i.toNat] i.toNat (List.getElem?_eq_getElem lt) (by omega)
  have em : ∀ (xs : List α) (n : Nat), (xs.map f).eraseIdx n = (xs.eraseIdx n).map f := fun xs => by
    induction xs with
    | nil => intro n; rfl
    | cons x xs ih =>
      intro n
      cases n with
      | zero => rfl
      | succ n => exact congrArg (_ :: ·) (ih n)
  rw [em]
  exact this
end PD

set_option Elab.async false
set_option linter.all false
set_option maxRecDepth 100000
set_option maxHeartbeats 4000000
/-! Own layer: the items that the laws with a tape draw. -/
namespace PD
open L2 ClX
open PySem PySem.Spec PyProof.Rows
def chs : List Nat := (Str.ofString "abcdefghijklmnopqrstuvwxyz").cps.toList
def sgn (c : Nat) : Str := ⟨#[c]⟩
def pool78 : List Str := chs.map sgn ++ chs.map (fun c => ("z" : Str) ++ sgn c) ++ chs.map fun c => ("abcdefg" : Str) ++ sgn c
theorem pool_items : ∀ x ∈ pool78, isItem x = true := by
  have : pool78.all isItem = true := by decide +kernel
  exact List.all_eq_true.mp this
theorem pool_nodup : pool78.Nodup := by decide +kernel
theorem pool_len : pool78.length = 78 := by decide +kernel
theorem pool_odd : ∀ x ∈ pool78, x ≠ "odd" ∧ x ≠ "odds" := by
  have : pool78.all (fun x => !decide (x = "odd") && !decide (x = "odds")) = true := by decide +kernel
  intro x hx
  have := List.all_eq_true.mp this x hx
  simpa using this
theorem pool_map : chs.map (fun c => D.str (sgn c)) ++ chs.map (fun c => D.str (("z" : Str) ++ sgn c)) ++ chs.map (fun c => D.str (("abcdefg" : Str) ++ sgn c)) = pool78.map D.str := by
  unfold pool78
  rw [List.map_append, List.map_append, List.map_map, List.map_map, List.map_map]
  rfl
/-- a part of a list, drawn one after another, the rest still there -/
structure Drawn (all xs ys : List Str) : Prop where
  p : (xs ++ ys).Perm all
theorem Drawn.init (all : List Str) : Drawn all [] all := ⟨List.Perm.refl _⟩
theorem erase_perm {α : Type} : ∀ {ys : List α} {n : Nat} {x : α}, ys[n]? = some x → (x :: ys.eraseIdx n).Perm ys
  | [], _, _, h => by cases h
  | y :: ys, 0, x, h => by cases h; exact List.Perm.refl _
  | y :: ys, n + 1, x, h => (List.Perm.swap y x _).trans (List.Perm.cons y (erase_perm (ys := ys) h))
theorem Drawn.step {all xs ys : List Str} {x : Str} {n : Nat} (h : Drawn all xs ys) (e : ys[n]? = some x) : Drawn all (xs ++ [x]) (ys.eraseIdx n) := by
  refine ⟨List.Perm.trans ?_ h.p⟩
  rw [List.append_assoc]
  refine List.Perm.append_left xs ?_
  exact erase_perm e
theorem Drawn.len {all xs ys : List Str} (h : Drawn all xs ys) : xs.length + ys.length = all.length := by rw [← h.p.length_eq, List.length_append]
theorem Drawn.sub {all xs ys : List Str} (h : Drawn all xs ys) : ∀ x ∈ xs, x ∈ all := fun x hx => h.p.mem_iff.mp (List.mem_append_left _ hx)
theorem Drawn.nodup {all xs ys : List Str} (h : Drawn all xs ys) (nd : all.Nodup) : xs.Nodup := (List.nodup_append.mp (h.p.nodup_iff.mpr nd)).1
/-- items of the laws -/
structure Few (xs : List Str) : Prop where
  s : ∀ x ∈ xs, x ∈ pool78
  n : xs.Nodup
theorem Few.its {xs : List Str} (h : Few xs) (l : xs.length ≤ 60) : Its xs := ⟨l, fun x hx => pool_items x (h.s x hx), h.n⟩
def gItems : DSp := fun ss Q _ => ∃ (o : Ob) (n many : Nat), ss = [.own (some 0) o, .val (.int many)] ∧ many ≤ 78 ∧ SrcD n o ∧ n < 2 ^ 59 ∧ ∀ (xs : List Str) (o' : Ob), Few xs → xs.length = many → SrcD (n + 78) o' → Q (.own none (.lst (xs.map .str))) [o']
/-- some of a list's items, in some order -/
def gDrawn : DSp := fun ss Q _ => ∃ (o : Ob) (n most : Nat) (xs : List Str), ss = [.own (some 0) o, .val (.lst (xs.map .str)), .val (.int most)] ∧ xs.length ≤ 1000 ∧ SrcD n o ∧ n < 2 ^ 59 ∧ ∀ (ys zs : List Str) (o' : Ob), Drawn xs ys zs → ys.length ≤ most → SrcD (n + 1001) o' → Q (.own none (.lst (ys.map .str))) [o']
def kdN (i : Int) : Kd := if i = 0 then .I else if i = 1 then .R else .F
theorem kdN_ne (i : Int) : kdN i ≠ .N := by unfold kdN; split <;> (try split) <;> exact fun h => by cases h
def gMade : DSp := fun ss Q _ => ∃ (i n : Int) (x : Str), ss = [.val (.int i), .val (.str x), .val (.int n)] ∧ isItem x = true ∧ 0 ≤ n ∧ n ≤ 60 ∧ Q (.val (.row (kdN i) x n)) []
/-! ### pieces of lists -/
theorem cutD_map_to {α : Type} (f : α → D) (xs : List α) (n : Nat) : cutD (xs.map f) none (some (n : Int)) = (xs.take n).map f := by rw [cutD_to, List.map_take]
theorem cutD_map_from {α : Type} (f : α → D) (xs : List α) (n : Nat) : cutD (xs.map f) (some (n : Int)) none = (xs.drop n).map f := by rw [cutD_from, List.map_drop]
theorem at_mem {ds : List D} {i : Int} {k : D → Prop} (h0 : 0 ≤ i) (h1 : i < ds.length) (q : ∀ d ∈ ds, k d) : atD ds i k := by
  have lt : i.toNat < ds.length := by omega
  exact at_nat h0 (List.getElem?_eq_getElem lt) (q _ (List.getElem_mem lt))
theorem mid_names {α β : Type} {f : α → β} {xs : List α} {e : α} {k : Nat} (h : f e ∈ xs.map f) : ¬ ((xs.take k ++ [e] ++ xs.drop k).map f).Nodup := by
  intro nd
  rw [List.append_assoc, List.map_append] at nd
  obtain ⟨_, n2, n3⟩ := List.nodup_append.mp nd
  rw [← List.take_append_drop k xs, List.map_append] at h
  rcases List.mem_append.mp h with m | m
  · exact n3 _ m _ (by simp) rfl
  · rw [List.singleton_append, List.map_cons, List.nodup_cons] at n2
    exact n2.1 m
theorem mid_mem {α : Type} {xs : List α} {e : α} {k : Nat} : e ∈ xs.take k ++ [e] ++ xs.drop k := by simp
theorem mid_mem' {α : Type} {xs : List α} {e x : α} {k : Nat} (h : x ∈ xs) : x ∈ xs.take k ++ [e] ++ xs.drop k := by
  rw [← List.take_append_drop k xs] at h
  rcases List.mem_append.mp h with m | m <;> simp [m]
theorem mid_of {α : Type} {xs : List α} {e x : α} {k : Nat} (h : x ∈ xs.take k ++ [e] ++ xs.drop k) : x ∈ xs ∨ x = e := by
  rcases List.mem_append.mp h with m | m
  · rcases List.mem_append.mp m with m | m
    · exact .inl (List.mem_of_mem_take m)
    · exact .inr (List.mem_singleton.mp m)
  · exact .inl (List.mem_of_mem_drop m)
theorem mid_map {α : Type} (f : α → D) (xs : List α) (e : α) (k : Nat) : (xs.take k).map f ++ [f e] ++ (xs.drop k).map f = (xs.take k ++ [e] ++ xs.drop k).map f := by simp
theorem all_take {p : D → Bool} {ds : List D} (h : ds.all p = true) (k : Nat) : (ds.take k).all p = true := List.all_eq_true.mpr fun x hx => List.all_eq_true.mp h x (List.mem_of_mem_take hx)
theorem all_drop {p : D → Bool} {ds : List D} (h : ds.all p = true) (k : Nat) : (ds.drop k).all p = true := List.all_eq_true.mpr fun x hx => List.all_eq_true.mp h x (List.mem_of_mem_drop hx)
/-! ### bad logs, bad lists of items -/
def BadLog (d : D) : Prop := tyB1 d = true ∧ isLogD d = false
theorem all_mid {p : D → Bool} {xs ys : List D} {e : D} (h : p e = false) : (xs ++ [e] ++ ys).all p = false := by
  rw [List.all_append, List.all_append, List.all_cons, h]
  simp
theorem ty_mid {xs ys : List D} {e : D} (hx : xs.all tyB = true) (he : tyB e = true) (hy : ys.all tyB = true) : tyB1 (.lst (xs ++ [e] ++ ys)) = true := by
  refine tyB1_lst ?_
  rw [List.all_append, List.all_append, hx, hy, List.all_cons, he]
  rfl
theorem log_kind {ds : List D} (h : ds.all hasKind = false) : isLogD (.lst ds) = false := by
  show ((decide (ds.length ≤ 40) && ds.all hasKind) && _) = false
  rw [h, Bool.and_false, Bool.false_and]
/-- an entry that is no record with a kind -/
theorem bad_mid {xs ys : List D} {e : D} (hx : xs.all tyB = true) (he : tyB e = true) (hk : hasKind e = false) (hy : ys.all tyB = true) : BadLog (.lst (xs ++ [e] ++ ys)) := ⟨ty_mid hx he hy, log_kind (all_mid hk)⟩
/-- records alone -/
theorem bad_rows {rs : List Rw} (v : ∀ r ∈ rs, rowB r.x r.n = true) (h : ¬ (rs.length ≤ 40 ∧ (∀ r ∈ rs, ∀ s ∈ rs, r.k = s.k) ∧ (names rs).Nodup)) : BadLog (.lst (rs.map Rw.d)) := by
  have t : tyB1 (.lst (rs.map Rw.d)) = true := tyB1_lst (by rw [all_rows]; exact List.all_eq_true.mpr v)
  refine ⟨t, ?_⟩
  cases e : isLogD (.lst (rs.map Rw.d)) with
  | false => rfl
  | true =>
    obtain ⟨ss, e2, L⟩ := log_of e t
    have := congrArg rowsL e2
    rw [rowsL_map, rowsL_map] at this
    subst this
    exact absurd ⟨L.l, L.o, L.n⟩ h
def BadIts (rs : List Rw) (d : D) : Prop := tyB1 d = true ∧ isKnownD rs d = false
theorem its_item {ds : List D} (h : ds.all isItemD = false) : isItemsD (.lst ds) = false := by
  show (decide (ds.length ≤ 60) && (ds.all isItemD && _)) = false
  rw [h, Bool.false_and, Bool.and_false]
theorem known_bad {rs : List Rw} {d : D} (h : isItemsD d = false) : isKnownD rs d = false := by
  unfold isKnownD
  rw [h, Bool.false_and]
theorem bad_its_mid {rs : List Rw} {xs ys : List D} {e : D} (hx : xs.all tyB = true) (he : tyB e = true) (hk : isItemD e = false) (hy : ys.all tyB = true) : BadIts rs (.lst (xs ++ [e] ++ ys)) := ⟨ty_mid hx he hy, known_bad (its_item (all_mid hk))⟩
theorem bad_strs {rs : List Rw} {xs : List Str} (h : ¬ (xs.length ≤ 60 ∧ xs.Nodup ∧ ∀ r ∈ rs, r.x ∈ xs)) : BadIts rs (.lst (xs.map .str)) := by
  refine ⟨tyB1_lst (by rw [all_strs]; exact List.all_eq_true.mpr fun _ _ => rfl), ?_⟩
  cases e : isKnownD rs (.lst (xs.map .str)) with
  | false => rfl
  | true =>
    obtain ⟨ys, e2, I, ks⟩ := knownD_of e
    have := congrArg strsL e2
    rw [strsL_map, strsL_map] at this
    subst this
    exact absurd ⟨I.l, I.n, ks⟩ h
theorem sub_len {α : Type} [DecidableEq α] : ∀ {xs ys : List α}, xs.Nodup → (∀ x ∈ xs, x ∈ ys) → xs.length ≤ ys.length
  | [], _, _, _ => Nat.zero_le _
  | x :: xs, ys, nd, h => by
    rw [List.nodup_cons] at nd
    have m := h x List.mem_cons_self
    have := sub_len (ys := ys.erase x) nd.2 fun y hy => (List.mem_erase_of_ne (show y ≠ x from fun e => nd.1 (by rw [← e]; exact hy))).mpr (h y (List.mem_cons_of_mem _ hy))
    rw [List.length_erase_of_mem m] at this
    have p : 0 < ys.length := List.length_pos_of_mem m
    rw [List.length_cons]
    omega
/-! ### equality with itself -/
theorem eqvs_refl {n : Nat} (ih : ∀ d : D, flatN n d = true → PyData.eqv (pyD d) (pyD d) = true) : ∀ ds : List D, ds.all (flatN n) = true → PyData.eqvAll (pyDs ds) (pyDs ds) = true
  | [], _ => rfl
  | d :: ds, h => by
    rw [List.all_cons, Bool.and_eq_true] at h
    show (PyData.eqv (pyD d) (pyD d) && PyData.eqvAll (pyDs ds) (pyDs ds)) = true
    rw [ih d h.1, eqvs_refl ih ds h.2]
    rfl
theorem eq_refl : ∀ (n : Nat) (d : D), flatN n d = true → eqD d d = true := by
  intro n
  induction n with
  | zero =>
    intro d f
    cases d with
    | non => rfl
    | bl b => cases b <;> rfl
    | int i => rw [eq_int]; exact decide_eq_true rfl
    | str x => rw [eq_str]; exact decide_eq_true rfl
    | _ => cases f
  | succ n ih =>
    intro d f
    cases d with
    | non => rfl
    | bl b => cases b <;> rfl
    | int i => rw [eq_int]; exact decide_eq_true rfl
    | str x => rw [eq_str]; exact decide_eq_true rfl
    | lst ds => exact eqvs_refl ih ds f
    | tup ds => exact eqvs_refl ih ds f
    | _ => cases f
end PD

set_option Elab.async false
set_option linter.all false
set_option maxRecDepth 100000
set_option maxHeartbeats 4000000
/-! Own layer: methods of records over data, their own ==, texts, repr compared. -/
namespace PD
open L2 ClX
open PySem PySem.Spec PyProof.Rows
/-! ### defs that show data; a last parameter by keyword -/
section
variable {P : Program} {w : World} {K : PySem.W.Frag} {cad : Cn → Addr} {mg : Str → Option Value} {base : Heap}
theorem okGD {x qual : Str} {st : Stmt} {f : Addr} {N ps : List Str} {k : Nat} {g : DSp} (h : FnT K x qual st f) (S : FnScope N ps (defScope st)) (hb : BindsAll st x qual ps) (len : ∀ ss Q QX, g ss Q QX → ss.length = ps.length)
    (body : ∀ (cdv : Value) (A : Around) (outer : List Env) (s : Shared) (H : Hp), Room k (A.deeper (PyProof.Rows.envOfC qual (defScope st) s.heap.objs.size f cdv)) → A.guards = some [] →
      ∃ t fd, PSs (cxOf CX0 P w K mg base N qual (defScope st) f cdv A outer s H E0).nox (defBody st) t ∧ DS K cad EN t fd ∧ ∀ ss Q QX, g ss Q QX → fd (kOf0 ss Q) (entryD ss N.length)) :
    OkG P w K mg base (k + 1) f ps (SpD K cad g) := by
  have lens : ∀ {vs : List V} {ss : List Sl} {R F H : Hp}, Good K cad R F vs (slV ss) (vs.map some) H → vs.length = ss.length := fun {vs ss R F H} g => by
    have := g.len
    unfold slV at this
    rw [List.length_map, List.length_map] at this
    exact this.symm
  refine h.okG S hb (fun vs H Q E ⟨R, F, ss, Q1, QX1, gd, tk, q, _⟩ => (lens gd).trans (len _ _ _ q)) fun cdv A outer s H vs Q hr gg ⟨R, F, ss, Q1, QX1, gd, tk, q, q1, q2⟩ => ?_
  obtain ⟨t, fd, ht, hd, hq⟩ := body cdv A outer s H hr gg
  have le : ss.length ≤ N.length := by
    rw [len _ _ _ q, ← S.pre]
    exact List.length_take_le' _ _
  exact ⟨t, ht, hd R F vs _ _ H _ _ (gd.entry le) (kOf0_link gd tk q1) (hq ss _ _ q)⟩
theorem okXKD {x qual kw p0 : Str} {st : Stmt} {f : Addr} {N : List Str} {k : Nat} {g : DSp} (h : FnT K x qual st f) (S : FnScope N [p0, kw] (defScope st))
    (hb : ∀ (kV doc pm : Value) (an : Option Addr) (cdv ct u v : Value), bindArgs (PySem.W.fnOf x qual (defArgs st) (defBody st) (defScope st) .none kV doc pm an cdv ct) ⟨[u], [(kw, v)]⟩ = pure [(p0, u), (kw, v)])
    (len : ∀ ss Q QX, g ss Q QX → ss.length = 2)
    (body : ∀ (cdv : Value) (A : Around) (outer : List Env) (s : Shared) (H : Hp) (E : XK), Room k (A.deeper (PyProof.Rows.envOfC qual (defScope st) s.heap.objs.size f cdv)) →
      ∃ t fd, PSs (cxOf (L2.CX P w) P w K mg base N qual (defScope st) f cdv A outer s H E) (defBody st) t ∧ DS K cad (fun _ => E) t fd ∧ ∀ ss Q QX, g ss Q QX → fd (kOf ss Q QX) (entryD ss N.length)) :
    OkXK P w K mg base (k + 1) f [p0, kw] kw (SpD K cad g) := by
  have lens : ∀ {vs : List V} {ss : List Sl} {R F H : Hp}, Good K cad R F vs (slV ss) (vs.map some) H → vs.length = ss.length := fun {vs ss R F H} g => by
    have := g.len
    unfold slV at this
    rw [List.length_map, List.length_map] at this
    exact this.symm
  refine h.okXK S hb (fun vs H Q E ⟨R, F, ss, Q1, QX1, gd, tk, q, _⟩ => (lens gd).trans (len _ _ _ q)) fun cdv A outer s H vs Q E hr ⟨R, F, ss, Q1, QX1, gd, tk, q, q1, q2⟩ => ?_
  obtain ⟨t, fd, ht, hd, hq⟩ := body cdv A outer s H E hr
  have le : ss.length ≤ N.length := by
    have := len _ _ _ q
    have e := S.pre
    have := congrArg List.length e
    rw [List.length_take] at this
    have : ([p0, kw] : List Str).length = 2 := rfl
    omega
  exact ⟨t, ht, hd R F vs _ _ H _ _ (gd.entry le) (kOf_link gd tk q1 q2) (hq ss _ _ q)⟩
end
section
variable {K : PySem.W.Frag} {cad : Cn → Addr} {E : L2.St → XK} {R F F' H H' : Hp} {pars : List V} {δ : DEnv} {σ : L2.St}
/-! ### methods of records -/
def rowD (d : D) (k : Kd → Prop) : Prop := match d with
  | .row c _ _ => k c
  | _ => False
def dMethF (Fk : Kd → Prop) (g : Kd → DSp) (f : DTE) (fa : DTA) : DTE := fun δ Q QX => f δ (fun e δ1 => vwK δ1 e fun d => rowD d fun c => Fk c ∧ fa δ1 (fun es δ2 => callD (g c) δ2 (e :: es) (rVal Q) QX) QX) QX
def dMethFN (Fk : Kd → Prop) (g : Kd → DSp) (f : DTE) (fa : DTA) : DTE := fun δ Q QX => f δ (fun e δ1 => vwK δ1 e fun d => rowD d fun c => Fk c ∧ fa δ1 (fun es δ2 => callD (g c) δ2 (e :: es) (rVal Q) noX) QX) QX
/-- where each kind has the method -/
def MtF (K : PySem.W.Frag) (cad : Cn → Addr) (m : Str) (Fk : Kd → Prop) (Fs : Addr → Sp → Prop) (g : Kd → DSp) : Prop := (∀ c : Kd, Fk c → Cls K (cad c.cn) ∧ ∃ a, Meth K (cad c.cn) m a ∧ Fs a (SpD K cad (g c))) ∧ ∀ x n, (rfs x n).lookup m = none
theorem de_methF {m : Str} {Fs : Addr → Sp → Prop} {Fk : Kd → Prop} {g : Kd → DSp} {t : TE} {f : DTE} {ta : TA} {n : Nat} {fa : DTA} (hc : MtF K cad m Fk Fs g) (h : DE K cad E t f) (ha : DA K cad E ta n fa) : DE K cad E (oMethF K m Fs E t ta) (dMethF Fk g f fa) := fun R F pars δ σ H Q QD QX gd x hf q =>
  h R F pars δ σ H _ _ QX gd x hf fun e δ1 v F1 H1 s1 g1 hv h1 => by
    obtain ⟨d, vw, h2⟩ := view_of g1 hv h1
    cases d with
    | row c z n0 =>
      obtain ⟨a, dx, rfl, ea, ok⟩ := vw.rowI g1.sF
      obtain ⟨fk, h3⟩ := h2
      obtain ⟨cl, b, me, fs⟩ := hc.1 c fk
      refine ⟨a, _, dx, _, b, _, rfl, ea, hc.2 z n0, cl, me, fs, ?_⟩
      refine ha R F1 pars δ1 σ H1 _ _ QX g1 (x.same s1) h3 fun es δ2 vs F2 H2 s2 g2 hvs _ h4 => ?_
      exact call_core (vs := .ref a :: vs) (es := e :: es) g2 ⟨HoldE.same hv s2, hvs⟩ h4 (fin_val (s1.trans s2) q) ((x.same s1).same s2) rVal_no
    | _ => exact h2.elim
theorem de_methFN {m : Str} {Fs : Addr → Sp → Prop} {Fk : Kd → Prop} {g : Kd → DSp} {t : TE} {f : DTE} {ta : TA} {n : Nat} {fa : DTA} (hc : MtF K cad m Fk Fs g) (h : DE K cad E t f) (ha : DA K cad E ta n fa) : DE K cad E (oMethF K m Fs EN t ta) (dMethFN Fk g f fa) := fun R F pars δ σ H Q QD QX gd x hf q =>
  h R F pars δ σ H _ _ QX gd x hf fun e δ1 v F1 H1 s1 g1 hv h1 => by
    obtain ⟨d, vw, h2⟩ := view_of g1 hv h1
    cases d with
    | row c z n0 =>
      obtain ⟨a, dx, rfl, ea, ok⟩ := vw.rowI g1.sF
      obtain ⟨fk, h3⟩ := h2
      obtain ⟨cl, b, me, fs⟩ := hc.1 c fk
      refine ⟨a, _, dx, _, b, _, rfl, ea, hc.2 z n0, cl, me, fs, ?_⟩
      refine ha R F1 pars δ1 σ H1 _ _ QX g1 (x.same s1) h3 fun es δ2 vs F2 H2 s2 g2 hvs _ h4 => ?_
      exact call_core (vs := .ref a :: vs) (es := e :: es) g2 ⟨HoldE.same hv s2, hvs⟩ h4 (fin_val (s1.trans s2) q) xok_no rVal_no
    | _ => exact h2.elim
/-- .. by one keyword -/
def dMethFK (g : DSp) (f : DTE) (fa : DTA) : DTE := fun δ Q QX => f δ (fun e δ1 => vwK δ1 e fun d => rowD d fun _ => fa δ1 (fun es δ2 => es.length = 1 ∧ callD g δ2 (e :: es) (rVal Q) QX) QX) QX
theorem de_methFK {m : Str} {b : Addr} {g : DSp} {t : TE} {f : DTE} {ta : TA} {n : Nat} {fa : DTA} (hc : ∀ c : Kd, Cls K (cad c.cn) ∧ Meth K (cad c.cn) m b) (hn : ∀ x n, (rfs x n).lookup m = none) (h : DE K cad E t f) (ha : DA K cad E ta n fa) : DE K cad E (oMethFK K m b (SpD K cad g) E t ta) (dMethFK g f fa) := fun R F pars δ σ H Q QD QX gd x hf q =>
  h R F pars δ σ H _ _ QX gd x hf fun e δ1 v F1 H1 s1 g1 hv h1 => by
    obtain ⟨d, vw, h2⟩ := view_of g1 hv h1
    cases d with
    | row c z n0 =>
      obtain ⟨a, dx, rfl, ea, ok⟩ := vw.rowI g1.sF
      refine ⟨a, _, dx, _, rfl, ea, hn z n0, (hc c).1, (hc c).2, ?_⟩
      refine ha R F1 pars δ1 σ H1 _ _ QX g1 (x.same s1) h2 fun es δ2 vs F2 H2 s2 g2 hvs _ h4 => ?_
      have l : vs.length = 1 := by rw [HoldEs.len hvs]; exact h4.1
      have e1 : glue1 [V.ref a] vs = .ref a :: vs := by
        unfold glue1
        rw [if_pos ⟨rfl, l⟩]
        rfl
      rw [e1]
      exact call_core (vs := .ref a :: vs) (es := e :: es) g2 ⟨HoldE.same hv s2, hvs⟩ h4.2 (fin_val (s1.trans s2) q) ((x.same s1).same s2) rVal_no
    | _ => exact h2.elim
/-! ### a record of one's own: its index is stored -/
def ownRw (e : Ev) (δ : DEnv) (k : Nat → Option Nat → Kd → Str → Int → Prop) : Prop := match e with
  | .var i => match dget δ i with
    | some (.own t (.row c x n)) => k i t c x n
    | _ => False
  | _ => False
theorem ownRw_of {e : Ev} {v : V} {k : Nat → Option Nat → Kd → Str → Int → Prop} (h : HoldE K cad F σ v e) (q : ownRw e δ k) : ∃ i t c x n, e = .var i ∧ σ[i]? = some (some v) ∧ dget δ i = some (.own t (.row c x n)) ∧ k i t c x n := by
  cases e with
  | var i =>
    unfold ownRw at q
    dsimp only at q
    cases e : dget δ i with
    | none => rw [e] at q; exact q.elim
    | some s =>
      rw [e] at q
      cases s with
      | val d => exact q.elim
      | own t o =>
        cases o with
        | row c x n => exact ⟨i, t, c, x, n, rfl, h, e, q⟩
        | _ => exact q.elim
  | _ => exact q.elim
theorem putF_slot (x : Str) (n m : Int) : putF "_slot" (.int m) (rfs x n) = rfs x m := by
  have e : (("_item" : Str) == "_slot") = false := beq_false_of_ne ksD
  have e2 : (("_slot" : Str) == "_item") = false := beq_false_of_ne fun z => ksD z.symm
  simp [putF, rfs, e, e2, ksD]
def dFldS (fo fv : DTE) : DTS := fun k δ => fv δ (fun e δ1 => fo δ1 (fun o δ2 => iofD e fun m => ownRw o δ2 fun i t c x _ => k.nx (dset δ2 i (some (.own t (.row c x m))))) k.ex) k.ex
theorem ds_fldS {to tv : TE} {fo fv : DTE} (hc : ∀ c : Kd, Cls K (cad c.cn) ∧ NoAttr K (cad c.cn) "_slot") (ho : DE K cad E to fo) (hv : DE K cad E tv fv) : DS K cad E (sFld K to tv "_slot") (dFldS fo fv) := fun R F pars δ σ H D k g l hf =>
  hv R F pars δ σ H _ _ k.ex g (l.ex σ) hf fun e δ1 v F1 H1 s1 g1 hv1 h1 =>
    ho R F1 pars δ1 σ H1 _ _ k.ex g1 ((l.same s1).ex σ) h1 fun o δ2 u F2 H2 s2 g2 hu h2 => by
      obtain ⟨m, rfl, h3⟩ := iof_of (HoldE.same hv1 s2) h2
      obtain ⟨i, t, c, x, n, rfl, ew, eo, h4⟩ := ownRw_of hu h3
      obtain ⟨fp, gf⟩ := id g2
      obtain ⟨u', e1, ⟨a, rfl, s, ok, dx, ha⟩, _⟩ := gf.sl i _ eo
      rw [ew] at e1
      cases e1
      refine ⟨a, _, dx, _, rfl, ha, (hc c).1, (hc c).2, (by show 2 < 1000; decide), ?_⟩
      refine (l.same (s1.trans s2)).nx _ σ F2 _ .refl (g2.write (o' := .row c x m) eo ew fun a' S e2 h' => ?_) h4
      cases e2
      obtain ⟨s', ok', dx', ha'⟩ := h'
      rw [ha] at ha'
      cases ha'
      refine ⟨⟨s', ok', dx, by rw [upd_same, putF_slot]⟩, fun b w nb e => by rw [upd_ne (fun z => nb ((s' b).mpr z))]; exact e, fun b hb => ?_⟩
      obtain rfl := (s' b).mp hb
      exact ⟨_, upd_same⟩
/-! ### the text of a record, another property by the kind -/
def GetOkC (K : PySem.W.Frag) (cad : Cn → Addr) (sp : Sp) (val : Kd → Str → Int → D) : Prop := ∀ (c : Kd) (a dx : Addr) (x : Str) (n : Int) (H : Hp) (Q : VK) (E : XK), SOk x → x.length ≤ 100 → 0 ≤ n → n ≤ 60 → H a = some (.ins (cad c.cn) dx (rfs x n)) → (∀ (v : V), (∀ F, Rep K cad F v (val c x n)) → Q v H) → sp [.ref a] H Q E
def dPropC (val : Kd → Str → Int → D) (f : DTE) : DTE := fun δ Q QX => f δ (fun e δ1 => vwK δ1 e fun d => match d with
  | .row c x n => (x.length ≤ 100 ∧ 0 ≤ n ∧ n ≤ 60) ∧ Q (.val (val c x n)) δ1
  | _ => False) QX
theorem de_propC {sp : Sp} {nm : Str} {p g : Addr} {val : Kd → Str → Int → D} {t : TE} {f : DTE} (hc : ∀ c : Kd, Cls K (cad c.cn) ∧ PropOf K (cad c.cn) nm p g) (hg : GetOkC K cad sp val) (h : DE K cad E t f) : DE K cad E (tPropD K nm p g sp t) (dPropC val f) := fun R F pars δ σ H Q QD QX gd x hf q =>
  h R F pars δ σ H _ _ QX gd x hf fun e δ1 v F1 H1 s1 g1 hv h1 => by
    obtain ⟨d, vw, h2⟩ := view_of g1 hv h1
    cases d with
    | row c z n =>
      obtain ⟨a, dx, rfl, ha, ok⟩ := vw.rowI g1.sF
      exact ⟨a, cad c.cn, dx, _, rfl, ha, (hc c).1, (hc c).2, hg c a dx z n H1 Q E0 ok h2.1.1 h2.1.2.1 h2.1.2.2 ha fun v hv => q (.val _) δ1 v F1 H1 s1 g1 (hv F1) h2.2⟩
    | _ => exact h2.elim
/-! ### their own == -/
def EqOk (K : PySem.W.Frag) (cad : Cn → Addr) (sp : Sp) : Prop := ∀ (c : Kd) (a b dx dy : Addr) (x y : Str) (n m : Int) (H : Hp) (Q : VK) (E : XK), SOk x → SOk y → H a = some (.ins (cad c.cn) dx (rfs x n)) → H b = some (.ins (cad c.cn) dy (rfs y m)) → (∀ H', Same H H' → Q (.bl (decide (x = y) && decide (n = m))) H') → sp [.ref a, .ref b] H Q E
def eqRowD : DOp2 := fun a b Q => match a with
  | .row k x n => (match b with
    | .row u y m => k = u ∧ Q (.bl (decide (x = y) && decide (n = m)))
    | _ => False)
  | _ => False
theorem od_eqRow {sp : Sp} {f : Addr} (hm : ∀ c : Kd, Meth K (cad c.cn) "__eq__" f) (he : EqOk K cad sp) : OpD K cad (rEqOwn K f sp) eqRowD := by
  intro R F pars δ σ H x y dx dy Q QD g vx vy h q
  cases dx with
  | row k a n =>
    cases dy with
    | row u b m =>
      obtain ⟨rfl, h⟩ := h
      obtain ⟨p, dp, rfl, hp, ox⟩ := vx.rowI g.sF
      obtain ⟨p2, dp2, rfl, hp2, oy⟩ := vy.rowI g.sF
      refine ⟨p, p2, _, dp, dp2, _, _, rfl, rfl, hp, hp2, hm k, he k p p2 dp dp2 a b n m H _ _ ox oy hp hp2 fun H' s => ⟨_, rfl, ?_⟩⟩
      exact q _ _ F H' .refl (g.grow s) (.bl _) h
    | _ => exact h.elim
  | _ => exact h.elim
/-! ### repr of data, compared -/
def showsB (d : D) : Bool := (pyD d).showable && (!(pyD d).hasDict && (decide ((pyD d).depth ≤ 40) && decide ((pyD d).shown.length ≤ sizeLine)))
theorem shows_of {d : D} (h : showsB d = true) : Shows (pyD d) := by
  unfold showsB at h
  simp only [Bool.and_eq_true, Bool.not_eq_true', decide_eq_true_eq] at h
  exact ⟨h.1, h.2.1, h.2.2.1, h.2.2.2⟩
theorem shows_mk {d : D} (h : Shows (pyD d)) : showsB d = true := by
  unfold showsB
  simp only [Bool.and_eq_true, Bool.not_eq_true', decide_eq_true_eq]
  exact ⟨h.sh, h.nd, h.dp, h.sz⟩
def dReprNe (fa fb : DTE) : DTE := fun δ Q QX => fa δ (fun a δ1 => vwK δ1 a fun x => (flatN 30 x = true ∧ showsB x = true) ∧ fb δ1 (fun b δ2 => vwK δ2 b fun y => (flatN 30 y = true ∧ showsB y = true) ∧ Q (.val (.bl (!decide ((pyD x).shown = (pyD y).shown)))) δ2) QX) QX
theorem de_reprNe {ta tb : TE} {fa fb : DTE} (ha : DE K cad E ta fa) (hb : DE K cad E tb fb) : DE K cad E (tOp (rNeX K) (tCB (rRepr K) (tCons ta tNil)) (tCB (rRepr K) (tCons tb tNil))) (dReprNe fa fb) := fun R F pars δ σ H Q QD QX gd x hf q =>
  ha R F pars δ σ H _ _ QX gd x hf fun e δ1 v F1 H1 s1 g1 hv h1 => by
    obtain ⟨d, vw, ⟨f1, sh1⟩, h2⟩ := view_of g1 hv h1
    obtain ⟨a1, _, _⟩ := vw.dp g1.sF f1
    refine ⟨v, _, rfl, a1, shows_of sh1, ?_⟩
    refine hb R F1 pars δ1 σ H1 _ _ QX g1 (x.same s1) h2 fun e2 δ2 v2 F2 H2 s2 g2 hv2 h3 => ?_
    obtain ⟨d2, vw2, ⟨f2, sh2⟩, h4⟩ := view_of g2 hv2 h3
    obtain ⟨a2, _, _⟩ := vw2.dp g2.sF f2
    refine ⟨v2, _, rfl, a2, shows_of sh2, .inl ⟨rfl, ?_⟩⟩
    rw [show decide (V.str (pyD d).shown = V.str (pyD d2).shown) = decide ((pyD d).shown = (pyD d2).shown) from decide_eq_decide.mpr ⟨fun z => by injection z, fun z => by rw [z]⟩]
    exact q (.val _) δ2 _ F2 H2 (s1.trans s2) g2 (.bl _) h4
/-! ### str of a small number -/
def strD : DOpL := fun ds Q => match ds with
  | [.int i] => (0 ≤ i ∧ i ≤ 60) ∧ Q (.str (toString i))
  | _ => False
theorem num_ok {i : Int} (h0 : 0 ≤ i) (h1 : i ≤ 60) : SOk (toString i : Str) ∧ (toString i : Str).length ≤ 2 := by
  have all : ∀ m : Fin 61, PySem.PyData.strOk (toString ((m : Nat) : Int) : Str) = true ∧ (toString ((m : Nat) : Int) : Str).length ≤ 2 := by decide +kernel
  obtain ⟨n, rfl⟩ := Int.eq_ofNat_of_zero_le h0
  have := all ⟨n, by omega⟩
  exact ⟨⟨this.1, Nat.le_trans this.2 (by decide)⟩, this.2⟩
theorem cd_str : CallD K cad (fun xs H Q => ∃ i, xs = [.int i] ∧ i.natAbs.log2 < 1920 ∧ Q (.str (toString i)) H) strD := by
  intro R F pars δ σ H vs ds Q QD g vw h q
  match ds, vw, h with
  | [.int i], vw, h =>
    obtain ⟨v, rfl, vx⟩ := vw.one
    obtain rfl := vx.intI
    have lg : i.natAbs.log2 < 1920 := by
      have all : ∀ m : Fin 61, ((m : Nat)).log2 < 1920 := by decide +kernel
      obtain ⟨⟨h0, h1⟩, _⟩ := h
      exact all ⟨i.natAbs, by omega⟩
    exact ⟨i, rfl, lg, q _ _ F H .refl g (.str _ (num_ok h.1.1 h.1.2).1) h.2⟩
end
end PD

set_option Elab.async false
set_option linter.all false
set_option maxRecDepth 100000
set_option maxHeartbeats 4000000
/-! Own layer: ==, != and in, where items may be instances with an own __eq__: both answers. -/
namespace GQ2
open PySem PySem.SeqAt
open AutoSeq1 (wpAny_loadPart')
open MeetsSeq MeetsSeq2 MeetsSeq3 SeqRoads2 GQ

section
variable {prog : Program} {w : World} {A : Around} {R : Result → Shared → Prop} {s : Shared} {C dx b l : Addr} {items : Array Value} {n : Nat} {dd : Option Addr} {sl : Array (Option Value)}
/-! a built-in's == leaves the answer to the instance -/
theorem list_eq_dec (hl : s.heap.get? l = some { cls := .type "list", data := .seq items n }) (hi : PySem.W.Looks (model prog w) s.heap (isInstance (.ref b) (.type "list")) false) (q : R (.ok (.ret .notImplemented)) s) :
    wpAny (model prog w) A.in1 (Builtin.«list.__eq__» ⟨[.ref l, .ref b], []⟩) (FinOf prog w A R) (fun e s' => R (.error e) s') s := by
  obtain ⟨hp, g, d, tk, os⟩ := s
  wp_walk using wpAny_loadPart' hl, hi.here
  exact q
theorem tup_eq_dec (hl : s.heap.get? l = some { cls := .type "tuple", dict := dd, data := .seq items n, slots := sl }) (hi : PySem.W.Looks (model prog w) s.heap (isInstance (.ref b) (.type "tuple")) false) (q : R (.ok (.ret .notImplemented)) s) :
    wpAny (model prog w) A.in1 (Builtin.«tuple.__eq__» ⟨[.ref l, .ref b], []⟩) (FinOf prog w A R) (fun e s' => R (.error e) s') s := by
  obtain ⟨hp, g, d, tk, os⟩ := s
  wp_walk using wpAny_loadPart' hl, hi.here
  exact q
theorem dict_eq_dec (hl : s.TypeIs (.ref l) "dict") (hi : PySem.W.Looks (model prog w) s.heap (isInstance (.ref b) (.type "dict")) false) (q : R (.ok (.ret .notImplemented)) s) :
    wpAny (model prog w) A.in1 (Builtin.«dict.__eq__» ⟨[.ref l, .ref b], []⟩) (FinOf prog w A R) (fun e s' => R (.error e) s') s := by
  show wpAny _ _ (Builtin.Dict.dictSlotArgs "__eq__" ⟨[.ref l, .ref b], []⟩ >>= _) _ _ s
  refine wpAny_bind ?_
  unfold Builtin.Dict.dictSlotArgs
  refine wpAny_bind (wpAny_notOrdered_dict hl ?_)
  show wpAny _ _ (pure (Value.ref l, Value.ref b)) _ _ s
  refine wpAny_pure ?_
  refine wpAny_bind (hi.here ?_)
  obtain ⟨hp, g, d, tk, os⟩ := s
  wp_walk
  exact q
theorem str_eq_dec {x : Str} {t : Tok} (hb : s.heap.get? b = some (PySem.W.instObj C dx)) (q : R (.ok (.ret .notImplemented)) s) :
    wpAny (model prog w) A.in1 (Builtin.«str.__eq__» ⟨[.str x t, .ref b], []⟩) (FinOf prog w A R) (fun e s' => R (.error e) s') s := by
  obtain ⟨hp, g, d, tk, os⟩ := s
  wp_walk using wpAny_load hb
  exact q
theorem int_eq_dec {x : Int} {t : Tok} (hb : s.heap.get? b = some (PySem.W.instObj C dx)) (q : R (.ok (.ret .notImplemented)) s) :
    wpAny (model prog w) A.in1 (Builtin.«int.__eq__» ⟨[.int x t, .ref b], []⟩) (FinOf prog w A R) (fun e s' => R (.error e) s') s := by
  obtain ⟨hp, g, d, tk, os⟩ := s
  wp_walk using wpAny_load hb
  exact q
theorem bool_eq_dec {x : Bool} (hb : s.heap.get? b = some (PySem.W.instObj C dx)) (q : R (.ok (.ret .notImplemented)) s) :
    wpAny (model prog w) A.in1 (Builtin.«int.__eq__» ⟨[.bool x, .ref b], []⟩) (FinOf prog w A R) (fun e s' => R (.error e) s') s := by
  obtain ⟨hp, g, d, tk, os⟩ := s
  wp_walk using wpAny_load hb
  exact q
theorem none_eq_dec (q : R (.ok (.ret .notImplemented)) s) :
    wpAny (model prog w) A.in1 (Builtin.«NoneType.__eq__» ⟨[.none, .ref b], []⟩) (FinOf prog w A R) (fun e s' => R (.error e) s') s := by
  obtain ⟨hp, g, d, tk, os⟩ := s
  wp_walk
  exact q
theorem list_ne_dec (hl : s.heap.get? l = some { cls := .type "list", data := .seq items n }) (hi : PySem.W.Looks (model prog w) s.heap (isInstance (.ref b) (.type "list")) false) (q : R (.ok (.ret .notImplemented)) s) :
    wpAny (model prog w) A.in1 (Builtin.«list.__ne__» ⟨[.ref l, .ref b], []⟩) (FinOf prog w A R) (fun e s' => R (.error e) s') s := by
  obtain ⟨hp, g, d, tk, os⟩ := s
  wp_walk using wpAny_loadPart' hl, hi.here
  exact q
theorem tup_ne_dec (hl : s.heap.get? l = some { cls := .type "tuple", dict := dd, data := .seq items n, slots := sl }) (hi : PySem.W.Looks (model prog w) s.heap (isInstance (.ref b) (.type "tuple")) false) (q : R (.ok (.ret .notImplemented)) s) :
    wpAny (model prog w) A.in1 (Builtin.«tuple.__ne__» ⟨[.ref l, .ref b], []⟩) (FinOf prog w A R) (fun e s' => R (.error e) s') s := by
  obtain ⟨hp, g, d, tk, os⟩ := s
  wp_walk using wpAny_loadPart' hl, hi.here
  exact q
theorem dict_ne_dec (hl : s.TypeIs (.ref l) "dict") (hi : PySem.W.Looks (model prog w) s.heap (isInstance (.ref b) (.type "dict")) false) (q : R (.ok (.ret .notImplemented)) s) :
    wpAny (model prog w) A.in1 (Builtin.«dict.__ne__» ⟨[.ref l, .ref b], []⟩) (FinOf prog w A R) (fun e s' => R (.error e) s') s := by
  show wpAny _ _ (Builtin.Dict.dictSlotArgs "__ne__" ⟨[.ref l, .ref b], []⟩ >>= _) _ _ s
  refine wpAny_bind ?_
  unfold Builtin.Dict.dictSlotArgs
  refine wpAny_bind (wpAny_notOrdered_dict hl ?_)
  show wpAny _ _ (pure (Value.ref l, Value.ref b)) _ _ s
  refine wpAny_pure ?_
  refine wpAny_bind (hi.here ?_)
  obtain ⟨hp, g, d, tk, os⟩ := s
  wp_walk
  exact q
theorem str_ne_dec {x : Str} {t : Tok} (hb : s.heap.get? b = some (PySem.W.instObj C dx)) (q : R (.ok (.ret .notImplemented)) s) :
    wpAny (model prog w) A.in1 (Builtin.«str.__ne__» ⟨[.str x t, .ref b], []⟩) (FinOf prog w A R) (fun e s' => R (.error e) s') s := by
  obtain ⟨hp, g, d, tk, os⟩ := s
  wp_walk using wpAny_load hb
  exact q
theorem int_ne_dec {x : Int} {t : Tok} (hb : s.heap.get? b = some (PySem.W.instObj C dx)) (q : R (.ok (.ret .notImplemented)) s) :
    wpAny (model prog w) A.in1 (Builtin.«int.__ne__» ⟨[.int x t, .ref b], []⟩) (FinOf prog w A R) (fun e s' => R (.error e) s') s := by
  obtain ⟨hp, g, d, tk, os⟩ := s
  wp_walk using wpAny_load hb
  exact q
theorem bool_ne_dec {x : Bool} (hb : s.heap.get? b = some (PySem.W.instObj C dx)) (q : R (.ok (.ret .notImplemented)) s) :
    wpAny (model prog w) A.in1 (Builtin.«int.__ne__» ⟨[.bool x, .ref b], []⟩) (FinOf prog w A R) (fun e s' => R (.error e) s') s := by
  obtain ⟨hp, g, d, tk, os⟩ := s
  wp_walk using wpAny_load hb
  exact q
theorem none_ne_dec (q : R (.ok (.ret .notImplemented)) s) :
    wpAny (model prog w) A.in1 (Builtin.«NoneType.__ne__» ⟨[.none, .ref b], []⟩) (FinOf prog w A R) (fun e s' => R (.error e) s') s := by
  obtain ⟨hp, g, d, tk, os⟩ := s
  wp_walk
  exact q
end
section
variable {prog : Program} {w : World} {A : Around} {E : Value → Shared → Prop} {s : Shared} {K : PySem.W.Frag} {C dx b f : Addr} {u : Value} {T : String} {op : CmpOp}
/-- a built-in value on the left, the instance answers -/
theorem rc_backs {Q : Value → Shared → Prop} (hop : op = .Eq ∨ op = .NotEq) (hu : A.units < cLine) (X : K.In s.heap) (ha : s.TypeIs u T) (hb : s.heap.get? b = some (PySem.W.instObj C dx)) (hs : PySem.W.subIn K (.ref C) (.type T) = some false)
    (dec : ∀ {Q : Option Value → Shared → Prop}, Q none s → wpAny (model prog w) A (tryCompare u (cmpInfo op).2.1 (.ref b)) Q E s)
    (h : wpAny (model prog w) A (tryCompare (.ref b) (cmpInfo op).2.2 u) (fun r s' => ∃ v, r = some v ∧ Q v s') E s) : wpAny (model prog w) A (richCompare op u (.ref b)) Q E s := by
  rcases hi : cmpInfo op with ⟨sym, f, r⟩
  rw [hi] at dec h
  simp only [richCompare, hi, ha.oneThing_none]
  try with_reducible refine wpAny_holding ?_
  refine wpAny_bind (wpAny_cRoomFor_or (.inr hu) ?_)
  refine wpAny_bind (wpAny_typeOf ha (wpAny_bind (wpAny_typeOf_ref hb ?_)))
  rw [show (Value.type T != (PySem.W.instObj C dx).cls) = true from rfl]
  simp only [if_true]
  refine wpAny_bind ((PySem.W.looks_subIn X hs).here ?_)
  simp only [Bool.false_eq_true, if_false, Bool.not_false, if_true]
  refine wpAny_bind (m := tryCompare u _ (.ref b)) (dec ?_)
  refine wpAny_bind (wpAny_mono h (fun v s' z => ?_) fun _ _ e => e)
  obtain ⟨v, rfl, q⟩ := z
  exact wpAny_pure q
end

section
variable {prog : Program} {w : World} {A : Around} {E : Value → Shared → Prop} {s : Shared} {K : PySem.W.Frag} {C C' dx b x f : Addr} {ox oy : Obj} {od od' : Option Obj} {v tb : Value} {op : CmpOp}
/-- the instance's own == -/
theorem try_eqOwn {Q : Option Value → Shared → Prop} (X : K.In s.heap) (I : PySem.W.InstAt s.heap x ox C od) (hs : PySem.W.findIn K (.ref C) "__eq__" = some (some (.ref f))) (hf : PySem.W.isFn K (.ref f) = true)
    (h : wpAny (model prog w) A (call (.ref f) [.ref x, v]) (fun r s' => ∃ k, r = .bool k ∧ Q (some (.bool k)) s') E s) : wpAny (model prog w) A (tryCompare (.ref x) "__eq__" v) Q E s := by
  unfold tryCompare
  refine wpAny_bind (PySem.W.ifBound_K X I hs hf (wpAny_mono h (fun r s' hv => ?_) fun _ _ e => e))
  obtain ⟨k, rfl, q⟩ := hv
  exact wpAny_pure q
/-- object's != by the instance's own == -/
theorem try_neOwn {Q : Option Value → Shared → Prop} (hu : A.units + 1 < cLine) (X : K.In s.heap) (I : PySem.W.InstAt s.heap x ox C od) (hn : PySem.W.findIn K (.ref C) "__ne__" = some (some (.builtin "object.__ne__"))) (ho : PySem.W.subIn K (.ref C) (.type "object") = some true)
    (hs : PySem.W.findIn K (.ref C) "__eq__" = some (some (.ref f))) (hf : PySem.W.isFn K (.ref f) = true)
    (h : wpAny (model prog w) A.in1 (call (.ref f) [.ref x, v]) (fun r s' => ∃ k, r = .bool k ∧ Q (some (.bool (!k))) s') E s) : wpAny (model prog w) A (tryCompare (.ref x) "__ne__" v) Q E s := by
  unfold tryCompare
  refine wpAny_bind ?_
  refine NtL.csib (id := "object.__ne__") (I.type.andThen (PySem.W.looks_findIn X hn)) (F.cmp_object.ne.bind _) ?_
  refine wpAny_call (codeAny_call_builtin F.cmp_object.ne.plain F.cmpEntry_ne (PySem.W.check_slot F.cmpKind_ne F.cmpSplit_ne (I.type.andThen (PySem.W.looks_subIn X ho)) (F.cmpArgs_ne _ _) ?_))
  unfold Builtin.«object.__ne__»
  repeat (first
    | with_reducible refine wpAny_cRoomFor (A := A.in1) hu ?_
    | (refine wpAny_bind (m := callSpecialIfBound? (.ref x) (Str.ofString "__eq__") [v])
        (PySem.W.ifBound_K X I hs hf (wpAny_mono h (fun r s' hr => by
          obtain ⟨k, rfl, hq⟩ := hr
          repeat (first | exact wpAny_pure hq | exact wpAny_truthy_bool hq | (refine wpAny_bind (m := truthy (.bool _)) (wpAny_truthy_bool ?_)) | wp_step)) fun _ _ e => e)))
    | wp_step)
theorem rc_own {Q : Value → Shared → Prop} (hu : A.units < cLine) (X : K.In s.heap) (I : PySem.W.InstAt s.heap x ox C od) (hb : PySem.W.Looks (model prog w) s.heap (typeOf v) tb) (hn : PySem.W.notFirst K C tb = true)
    (one : wpAny (model prog w) A (tryCompare (.ref x) (cmpInfo op).2.1 v) (fun r s' => ∃ v, r = some v ∧ Q v s') E s) : wpAny (model prog w) A (richCompare op (.ref x) v) Q E s := by
  unfold richCompare
  simp only [oneThing_ref]
  refine wpAny_holding (wpAny_bind (wpAny_cRoomFor hu ?_))
  refine wpAny_bind (I.type.here (wpAny_bind (hb.here ?_)))
  split
  · rename_i q
    have e : PySem.W.subIn K tb (.ref C) = some false := by
      rcases Bool.or_eq_true_iff.mp hn with e | e
      · rw [beq_iff_eq.mp e] at q; simp at q
      · exact beq_iff_eq.mp e
    refine wpAny_bind ((PySem.W.looks_subIn X e).here ?_)
    simp only [Bool.false_eq_true, if_false]
    refine wpAny_bind (wpAny_mono one (fun r s' z => ?_) fun _ _ e => e)
    obtain ⟨v, rfl, hq⟩ := z
    exact wpAny_pure hq
  · refine wpAny_bind (wpAny_pure ?_)
    simp only [Bool.false_eq_true, if_false]
    refine wpAny_bind (wpAny_mono one (fun r s' z => ?_) fun _ _ e => e)
    obtain ⟨v, rfl, hq⟩ := z
    exact wpAny_pure hq
/-- the right one's class is below the left one's -/
theorem rc_first {Q : Value → Shared → Prop} (hu : A.units < cLine) (X : K.In s.heap) (I : PySem.W.InstAt s.heap x ox C od) (J : PySem.W.InstAt s.heap b oy C' od') (hne : C ≠ C') (hs : PySem.W.subIn K (.ref C') (.ref C) = some true)
    (one : wpAny (model prog w) A (tryCompare (.ref b) (cmpInfo op).2.2 (.ref x)) (fun r s' => ∃ v, r = some v ∧ Q v s') E s) : wpAny (model prog w) A (richCompare op (.ref x) (.ref b)) Q E s := by
  unfold richCompare
  simp only [oneThing_ref]
  refine wpAny_holding (wpAny_bind (wpAny_cRoomFor hu ?_))
  refine wpAny_bind (I.type.here (wpAny_bind (J.type.here ?_)))
  rw [show (Value.ref C != Value.ref C') = true from bne_iff_ne.mpr fun e => hne (by injection e)]
  simp only [if_true]
  refine wpAny_bind ((PySem.W.looks_subIn X hs).here ?_)
  simp only [if_true]
  refine wpAny_bind (wpAny_mono one (fun r s' z => ?_) fun _ _ e => e)
  obtain ⟨v, rfl, hq⟩ := z
  exact wpAny_bind (wpAny_rule (wpAny_pure hq))
end

/-! lists, tuples -/
section
variable {prog : Program} {w : World} {A : Around} {R : Result → Shared → Prop}
/-- at each turn the two lists are read anew: N items each, the i-th two give e i -/
def ListI (prog : Program) (w : World) (A : Around) (E : Value → Shared → Prop) (l b : Addr) (N : Nat) (e : Nat → Bool) (I : Shared → Prop) : Prop :=
  ∀ s, I s → ∃ (items items2 : Array Value) (n n2 : Nat), s.heap.get? l = some { cls := .type "list", data := .seq items n } ∧ s.heap.get? b = some { cls := .type "list", data := .seq items2 n2 } ∧ items.size = N ∧ items2.size = N ∧
    ∀ i (h1 : i < items.size) (h2 : i < items2.size), wpAny (model prog w) A.in1 (eqBool items[i] items2[i]) (fun r s' => r = e i ∧ I s') E s
theorem all_upto {e : Nat → Bool} {N i : Nat} (h : ∀ j, j < i → e j = true) (hi : i = N) : (List.range N).all e = true := List.all_eq_true.mpr fun j hj => h j (by subst hi; exact List.mem_range.mp hj)
theorem all_not {e : Nat → Bool} {N i : Nat} (h : e i = false) (hi : i < N) : (List.range N).all e = false := by
  rw [← Bool.not_eq_true, List.all_eq_true]
  intro z
  rw [z i (List.mem_range.mpr hi)] at h
  cases h
theorem loop_eq (l b : Addr) (N : Nat) (e : Nat → Bool) (I : Shared → Prop) (hl : ListI prog w A (fun e s' => R (.error e) s') l b N e I)
    (fin : ∀ s, I s → R (.ok (.ret (.bool ((List.range N).all e)))) s) (k : Nat) :
    ∀ i : Nat, N - i = k → i ≤ N → (∀ j, j < i → e j = true) → ∀ s, I s →
      wpAny (model prog w) A.in1 (Builtin.«list.__eq__.loop» ⟨[.ref l, .ref b, rawInt i, rawInt 2], []⟩) (FinOf prog w A R) (fun e s' => R (.error e) s') s := by
  induction k with
  | zero =>
    intro i hk hi hall s h
    obtain ⟨items, items2, n, n2, hl1, hb1, hs1, hs2, _⟩ := hl _ h
    have hi' : i = N := by omega
    have hR := fin s h
    rw [all_upto hall hi'] at hR
    obtain ⟨hp, g, d, tk, os⟩ := s
    wp_walk using wpAny_loadPart' hl1, wpAny_loadPart' hb1
    have hi1 : items[((i : Nat) : Int).toNat]? = none := by simp; omega
    have hi2 : items2[((i : Nat) : Int).toNat]? = none := by simp; omega
    rw [hi1, hi2]
    wp_walk using wpAny_loadPart' hl1, wpAny_loadPart' hb1
    show R (.ok (.ret (.bool (items.size == items2.size)))) _
    rw [hs1, hs2]
    simpa using hR
  | succ k ih =>
    intro i hk hi hall s h
    obtain ⟨items, items2, n, n2, hl1, hb1, hs1, hs2, turn⟩ := hl _ h
    have hlt : i < items.size := by omega
    have hlt2 : i < items2.size := by omega
    have ht := turn i hlt hlt2
    obtain ⟨hp, g, d, tk, os⟩ := s
    wp_walk using wpAny_loadPart' hl1, wpAny_loadPart' hb1
    have hi1 : items[((i : Nat) : Int).toNat]? = some items[i] := by simp [hlt]
    have hi2 : items2[((i : Nat) : Int).toNat]? = some items2[i] := by simp [hlt2]
    have hc : ((i : Int) + 1) = ((i + 1 : Nat) : Int) := by omega
    rw [hi1, hi2]
    refine wpAny_bind (wpAny_mono ht (fun r s2 h2 => ?_) fun _ _ x => x)
    obtain ⟨hr, h2⟩ := h2
    subst hr
    cases he : e i with
    | true =>
      have hrec := ih (i + 1) (by omega) (by omega) (fun j hj => by
        by_cases z : j = i
        · rw [z]; exact he
        · exact hall j (by omega)) s2 h2
      obtain ⟨hp2, g2, d2, tk2, os2⟩ := s2
      wp_walk
      rw [hc]
      exact ⟨plainId_quiet plain_eq_loop _, codeAny_builtin entry_eq_loop (by
        rw [Around.under_plainId plain_eq_loop _]
        exact hrec)⟩
    | false =>
      have hR := fin s2 h2
      rw [all_not he (by omega)] at hR
      obtain ⟨items, items2, n, n2, hl1, hb1, hs1, hs2, _⟩ := hl _ h2
      have hlt : i < items.size := by omega
      have hlt2 : i < items2.size := by omega
      have hi1 : items[((i : Nat) : Int).toNat]? = some items[i] := by simp [hlt]
      have hi2 : items2[((i : Nat) : Int).toNat]? = some items2[i] := by simp [hlt2]
      obtain ⟨hp2, g2, d2, tk2, os2⟩ := s2
      wp_walk using wpAny_loadPart' hl1, wpAny_loadPart' hb1
      rw [hi1, hi2]
      wp_walk
      exact hR
theorem loop_ne (l b : Addr) (N : Nat) (e : Nat → Bool) (I : Shared → Prop) (hl : ListI prog w A (fun e s' => R (.error e) s') l b N e I)
    (fin : ∀ s, I s → R (.ok (.ret (.bool (!(List.range N).all e)))) s) (k : Nat) :
    ∀ i : Nat, N - i = k → i ≤ N → (∀ j, j < i → e j = true) → ∀ s, I s →
      wpAny (model prog w) A.in1 (Builtin.«list.__eq__.loop» ⟨[.ref l, .ref b, rawInt i, rawInt 3], []⟩) (FinOf prog w A R) (fun e s' => R (.error e) s') s := by
  induction k with
  | zero =>
    intro i hk hi hall s h
    obtain ⟨items, items2, n, n2, hl1, hb1, hs1, hs2, _⟩ := hl _ h
    have hi' : i = N := by omega
    have hR := fin s h
    rw [all_upto hall hi'] at hR
    obtain ⟨hp, g, d, tk, os⟩ := s
    wp_walk using wpAny_loadPart' hl1, wpAny_loadPart' hb1
    have hi1 : items[((i : Nat) : Int).toNat]? = none := by simp; omega
    have hi2 : items2[((i : Nat) : Int).toNat]? = none := by simp; omega
    rw [hi1, hi2]
    wp_walk using wpAny_loadPart' hl1, wpAny_loadPart' hb1
    show R (.ok (.ret (.bool (items.size != items2.size)))) _
    rw [hs1, hs2]
    simpa using hR
  | succ k ih =>
    intro i hk hi hall s h
    obtain ⟨items, items2, n, n2, hl1, hb1, hs1, hs2, turn⟩ := hl _ h
    have hlt : i < items.size := by omega
    have hlt2 : i < items2.size := by omega
    have ht := turn i hlt hlt2
    obtain ⟨hp, g, d, tk, os⟩ := s
    wp_walk using wpAny_loadPart' hl1, wpAny_loadPart' hb1
    have hi1 : items[((i : Nat) : Int).toNat]? = some items[i] := by simp [hlt]
    have hi2 : items2[((i : Nat) : Int).toNat]? = some items2[i] := by simp [hlt2]
    have hc : ((i : Int) + 1) = ((i + 1 : Nat) : Int) := by omega
    rw [hi1, hi2]
    refine wpAny_bind (wpAny_mono ht (fun r s2 h2 => ?_) fun _ _ x => x)
    obtain ⟨hr, h2⟩ := h2
    subst hr
    cases he : e i with
    | true =>
      have hrec := ih (i + 1) (by omega) (by omega) (fun j hj => by
        by_cases z : j = i
        · rw [z]; exact he
        · exact hall j (by omega)) s2 h2
      obtain ⟨hp2, g2, d2, tk2, os2⟩ := s2
      wp_walk
      rw [hc]
      exact ⟨plainId_quiet plain_eq_loop _, codeAny_builtin entry_eq_loop (by
        rw [Around.under_plainId plain_eq_loop _]
        exact hrec)⟩
    | false =>
      have hR := fin s2 h2
      rw [all_not he (by omega)] at hR
      obtain ⟨items, items2, n, n2, hl1, hb1, hs1, hs2, _⟩ := hl _ h2
      have hlt : i < items.size := by omega
      have hlt2 : i < items2.size := by omega
      have hi1 : items[((i : Nat) : Int).toNat]? = some items[i] := by simp [hlt]
      have hi2 : items2[((i : Nat) : Int).toNat]? = some items2[i] := by simp [hlt2]
      obtain ⟨hp2, g2, d2, tk2, os2⟩ := s2
      wp_walk using wpAny_loadPart' hl1, wpAny_loadPart' hb1
      rw [hi1, hi2]
      wp_walk
      exact hR
theorem list_eqB (l b : Addr) (N : Nat) (e : Nat → Bool) (I : Shared → Prop) (hl : ListI prog w A (fun e s' => R (.error e) s') l b N e I)
    (fin : ∀ s, I s → R (.ok (.ret (.bool ((List.range N).all e)))) s) {s : Shared} (h : I s) :
    wpAny (model prog w) A.in1 (Builtin.«list.__eq__» ⟨[.ref l, .ref b], []⟩) (FinOf prog w A R) (fun e s' => R (.error e) s') s := by
  obtain ⟨items, items2, n, n2, hl1, hb1, hs1, hs2, _⟩ := hl _ h
  have hrec := loop_eq (A := A) (R := R) l b N e I hl fin _ 0 rfl (Nat.zero_le _) (fun j hj => absurd hj (Nat.not_lt_zero _)) s h
  obtain ⟨hp, g, d, tk, os⟩ := s
  have f3 := AutoSeq1.sub_list_list
  have hne : ¬ (items.size != items2.size) = true := by simp [hs1, hs2]
  wp_walk using wpAny_loadPart' hl1, wpAny_loadPart' hb1
  exact ⟨plainId_quiet plain_eq_loop _, codeAny_builtin entry_eq_loop (by
    rw [Around.under_plainId plain_eq_loop _]
    exact hrec)⟩
theorem tup_eqB (l b : Addr) (items items2 : Array Value) (n n2 : Nat) (dd dd2 : Option Addr) (sl sl2 : Array (Option Value)) (e : Nat → Bool) (I : Shared → Prop)
    (turn : ∀ i (h1 : i < items.size) (h2 : i < items2.size) s, I s → wpAny (model prog w) A.in1 (eqBool items[i] items2[i]) (fun r s' => r = e i ∧ I s') (fun e s' => R (.error e) s') s)
    (fin : ∀ s, I s → R (.ok (.ret (.bool (((List.range (min items.size items2.size)).all e && items.size == items2.size))))) s) {s : Shared} (hl1 : s.heap.get? l = some { cls := .type "tuple", dict := dd, data := .seq items n, slots := sl }) (hb1 : s.heap.get? b = some { cls := .type "tuple", dict := dd2, data := .seq items2 n2, slots := sl2 }) (h : I s) :
    wpAny (model prog w) A.in1 (Builtin.«tuple.__eq__» ⟨[.ref l, .ref b], []⟩) (FinOf prog w A R) (fun e s' => R (.error e) s') s := by
  have f2 := AutoSeq1.sub_tuple_tuple
  have hZ : (items.toList.zip items2.toList).length = min items.size items2.size := by simp
  have h0 := h
  obtain ⟨hp, g, d, tk, os⟩ := s
  wp_walk using wpAny_loadPart' hl1, wpAny_loadPart' hb1, wpAny_forIn_list _ (fun rest b s' => b.1 = none ∧ ∃ i, rest = (items.toList.zip items2.toList).drop i ∧ i ≤ min items.size items2.size ∧ (∀ j, j < i → e j = true) ∧ I s') _
  case turn =>
    rintro ⟨y, x⟩ rest b s' ⟨hb', i, hz, hi, hall, hI⟩
    have hlt : i < (items.toList.zip items2.toList).length := by
      rcases Nat.lt_or_ge i (items.toList.zip items2.toList).length with h' | h'
      · exact h'
      · rw [List.drop_of_length_le h'] at hz; cases hz
    have hm : i < min items.size items2.size := hZ ▸ hlt
    have h1 : i < items.size := Nat.lt_of_lt_of_le hm (Nat.min_le_left _ _)
    have h2 : i < items2.size := Nat.lt_of_lt_of_le hm (Nat.min_le_right _ _)
    rw [List.drop_eq_getElem_cons hlt] at hz
    injection hz with hyx hrest
    have hy : y = items[i] := by have := congrArg Prod.fst hyx; simpa using this
    have hx : x = items2[i] := by have := congrArg Prod.snd hyx; simpa using this
    subst hy hx
    refine wpAny_bind (wpAny_mono (turn i h1 h2 s' hI) (fun r s2 q2 => ?_) fun _ _ x => x)
    obtain ⟨hr, q2⟩ := q2
    subst hr
    cases he : e i with
    | true =>
      wp_walk
      exact ⟨rfl, i + 1, hrest, hm, (fun j hj => by
        by_cases z : j = i
        · rw [z]; exact he
        · exact hall j (by omega)), q2⟩
    | false =>
      have hR := fin s2 q2
      rw [all_not he hm, Bool.false_and] at hR
      wp_walk
      exact hR
  case fin =>
    rintro ⟨b1, b2⟩ s' ⟨hb', i, hz, hi, hall, hI⟩
    simp only at hb'
    subst hb'
    have hge : min items.size items2.size ≤ i := by
      rcases Nat.lt_or_ge i (items.toList.zip items2.toList).length with h' | h'
      · rw [List.drop_eq_getElem_cons h'] at hz; cases hz
      · exact hZ ▸ h'
    have hR := fin s' hI
    rw [all_upto hall (by omega), Bool.true_and] at hR
    wp_walk
    simpa [Builtin.Tuple.tupleCompareSizes] using hR
  case h =>
    exact ⟨rfl, 0, rfl, Nat.zero_le _, (fun j hj => absurd hj (Nat.not_lt_zero _)), h0⟩
theorem list_neB (l b : Addr) (N : Nat) (e : Nat → Bool) (I : Shared → Prop) (hl : ListI prog w A (fun e s' => R (.error e) s') l b N e I)
    (fin : ∀ s, I s → R (.ok (.ret (.bool (!(List.range N).all e)))) s) {s : Shared} (h : I s) :
    wpAny (model prog w) A.in1 (Builtin.«list.__ne__» ⟨[.ref l, .ref b], []⟩) (FinOf prog w A R) (fun e s' => R (.error e) s') s := by
  obtain ⟨items, items2, n, n2, hl1, hb1, hs1, hs2, _⟩ := hl _ h
  have hrec := loop_ne (A := A) (R := R) l b N e I hl fin _ 0 rfl (Nat.zero_le _) (fun j hj => absurd hj (Nat.not_lt_zero _)) s h
  obtain ⟨hp, g, d, tk, os⟩ := s
  have f3 := AutoSeq1.sub_list_list
  have hne : ¬ (items.size != items2.size) = true := by simp [hs1, hs2]
  wp_walk using wpAny_loadPart' hl1, wpAny_loadPart' hb1
  exact ⟨plainId_quiet plain_eq_loop _, codeAny_builtin entry_eq_loop (by
    rw [Around.under_plainId plain_eq_loop _]
    exact hrec)⟩
theorem tup_neB (l b : Addr) (items items2 : Array Value) (n n2 : Nat) (dd dd2 : Option Addr) (sl sl2 : Array (Option Value)) (e : Nat → Bool) (I : Shared → Prop)
    (turn : ∀ i (h1 : i < items.size) (h2 : i < items2.size) s, I s → wpAny (model prog w) A.in1 (eqBool items[i] items2[i]) (fun r s' => r = e i ∧ I s') (fun e s' => R (.error e) s') s)
    (fin : ∀ s, I s → R (.ok (.ret (.bool (!((List.range (min items.size items2.size)).all e && items.size == items2.size))))) s) {s : Shared} (hl1 : s.heap.get? l = some { cls := .type "tuple", dict := dd, data := .seq items n, slots := sl }) (hb1 : s.heap.get? b = some { cls := .type "tuple", dict := dd2, data := .seq items2 n2, slots := sl2 }) (h : I s) :
    wpAny (model prog w) A.in1 (Builtin.«tuple.__ne__» ⟨[.ref l, .ref b], []⟩) (FinOf prog w A R) (fun e s' => R (.error e) s') s := by
  have f2 := AutoSeq1.sub_tuple_tuple
  have hZ : (items.toList.zip items2.toList).length = min items.size items2.size := by simp
  have h0 := h
  obtain ⟨hp, g, d, tk, os⟩ := s
  wp_walk using wpAny_loadPart' hl1, wpAny_loadPart' hb1, wpAny_forIn_list _ (fun rest b s' => b.1 = none ∧ ∃ i, rest = (items.toList.zip items2.toList).drop i ∧ i ≤ min items.size items2.size ∧ (∀ j, j < i → e j = true) ∧ I s') _
  case turn =>
    rintro ⟨y, x⟩ rest b s' ⟨hb', i, hz, hi, hall, hI⟩
    have hlt : i < (items.toList.zip items2.toList).length := by
      rcases Nat.lt_or_ge i (items.toList.zip items2.toList).length with h' | h'
      · exact h'
      · rw [List.drop_of_length_le h'] at hz; cases hz
    have hm : i < min items.size items2.size := hZ ▸ hlt
    have h1 : i < items.size := Nat.lt_of_lt_of_le hm (Nat.min_le_left _ _)
    have h2 : i < items2.size := Nat.lt_of_lt_of_le hm (Nat.min_le_right _ _)
    rw [List.drop_eq_getElem_cons hlt] at hz
    injection hz with hyx hrest
    have hy : y = items[i] := by have := congrArg Prod.fst hyx; simpa using this
    have hx : x = items2[i] := by have := congrArg Prod.snd hyx; simpa using this
    subst hy hx
    refine wpAny_bind (wpAny_mono (turn i h1 h2 s' hI) (fun r s2 q2 => ?_) fun _ _ x => x)
    obtain ⟨hr, q2⟩ := q2
    subst hr
    cases he : e i with
    | true =>
      wp_walk
      exact ⟨rfl, i + 1, hrest, hm, (fun j hj => by
        by_cases z : j = i
        · rw [z]; exact he
        · exact hall j (by omega)), q2⟩
    | false =>
      have hR := fin s2 q2
      rw [all_not he hm, Bool.false_and] at hR
      wp_walk
      exact hR
  case fin =>
    rintro ⟨b1, b2⟩ s' ⟨hb', i, hz, hi, hall, hI⟩
    simp only at hb'
    subst hb'
    have hge : min items.size items2.size ≤ i := by
      rcases Nat.lt_or_ge i (items.toList.zip items2.toList).length with h' | h'
      · rw [List.drop_eq_getElem_cons h'] at hz; cases hz
      · exact hZ ▸ h'
    have hR := fin s' hI
    rw [all_upto hall (by omega), Bool.true_and] at hR
    wp_walk
    exact hR
  case h =>
    exact ⟨rfl, 0, rfl, Nat.zero_le _, (fun j hj => absurd hj (Nat.not_lt_zero _)), h0⟩
/-- in: the list's items, one after another -/
def InI (prog : Program) (w : World) (A : Around) (E : Value → Shared → Prop) (l : Addr) (x : Value) (N : Nat) (e : Nat → Bool) (I : Shared → Prop) : Prop :=
  ∀ s, I s → ∃ (items : Array Value) (n : Nat), s.heap.get? l = some { cls := .type "list", data := .seq items n } ∧ items.size = N ∧
    ∀ i (h1 : i < items.size), wpAny (model prog w) A.in1 (eqBool items[i] x) (fun r s' => r = e i ∧ I s') E s
theorem any_upto {e : Nat → Bool} {N i : Nat} (h : ∀ j, j < i → e j = false) (hi : N ≤ i) : (List.range N).any e = false := by
  rw [← Bool.not_eq_true, List.any_eq_true]
  rintro ⟨j, hj, z⟩
  rw [h j (Nat.lt_of_lt_of_le (List.mem_range.mp hj) hi)] at z
  cases z
theorem any_yes {e : Nat → Bool} {N i : Nat} (h : e i = true) (hi : i < N) : (List.range N).any e = true := List.any_eq_true.mpr ⟨i, List.mem_range.mpr hi, h⟩
theorem loop_in (l : Addr) (x : Value) (N : Nat) (e : Nat → Bool) (I : Shared → Prop) (hl : InI prog w A (fun e s' => R (.error e) s') l x N e I)
    (fin : ∀ s, I s → R (.ok (.ret (.bool ((List.range N).any e)))) s) (k : Nat) :
    ∀ i : Nat, N - i = k → (∀ j, j < i → e j = false) → ∀ s, I s →
      wpAny (model prog w) A.in1 (Builtin.«list.__contains__.loop» ⟨[.ref l, x, rawInt i], []⟩) (FinOf prog w A R) (fun e s' => R (.error e) s') s := by
  induction k with
  | zero =>
    intro i hk hall s h
    obtain ⟨items, n, hl1, hs1, _⟩ := hl _ h
    have hR := fin s h
    rw [any_upto hall (by omega)] at hR
    obtain ⟨hp, g, d, tk, os⟩ := s
    wp_walk using wpAny_loadPart' hl1
    have hi1 : items[((i : Nat) : Int).toNat]? = none := by simp; omega
    rw [hi1]
    wp_walk
    exact hR
  | succ k ih =>
    intro i hk hall s h
    obtain ⟨items, n, hl1, hs1, turn⟩ := hl _ h
    have hlt : i < items.size := by omega
    have ht := turn i hlt
    obtain ⟨hp, g, d, tk, os⟩ := s
    wp_walk using wpAny_loadPart' hl1
    have hi1 : items[((i : Nat) : Int).toNat]? = some items[i] := by simp [hlt]
    have hc : ((i : Int) + 1) = ((i + 1 : Nat) : Int) := by omega
    rw [hi1]
    refine wpAny_bind (wpAny_mono ht (fun r s2 h2 => ?_) fun _ _ x => x)
    obtain ⟨hr, h2⟩ := h2
    subst hr
    cases he : e i with
    | true =>
      have hR := fin s2 h2
      rw [any_yes he (by omega)] at hR
      obtain ⟨hp2, g2, d2, tk2, os2⟩ := s2
      wp_walk
      exact hR
    | false =>
      have hrec := ih (i + 1) (by omega) (fun j hj => by
        by_cases z : j = i
        · rw [z]; exact he
        · exact hall j (by omega)) s2 h2
      obtain ⟨hp2, g2, d2, tk2, os2⟩ := s2
      wp_walk
      rw [hc]
      exact ⟨plainId_quiet plain_contains_loop _, codeAny_builtin entry_contains_loop (by
        rw [Around.under_plainId plain_contains_loop _]
        exact hrec)⟩
theorem list_inB (l : Addr) (x : Value) (N : Nat) (e : Nat → Bool) (I : Shared → Prop) (hl : InI prog w A (fun e s' => R (.error e) s') l x N e I)
    (fin : ∀ s, I s → R (.ok (.ret (.bool ((List.range N).any e)))) s) {s : Shared} (h : I s) :
    wpAny (model prog w) A.in1 (Builtin.«list.__contains__» ⟨[.ref l, x], []⟩) (FinOf prog w A R) (fun e s' => R (.error e) s') s := by
  obtain ⟨items, n, hl1, hs1, _⟩ := hl _ h
  have hrec := loop_in (A := A) (R := R) l x N e I hl fin _ 0 rfl (fun j hj => absurd hj (Nat.not_lt_zero _)) s h
  obtain ⟨hp, g, d, tk, os⟩ := s
  wp_walk using wpAny_loadPart' hl1
  exact ⟨plainId_quiet plain_contains_loop _, codeAny_builtin entry_contains_loop (by
    rw [Around.under_plainId plain_contains_loop _]
    exact hrec)⟩
theorem loop_count (l : Addr) (x : Value) (N : Nat) (e : Nat → Bool) (I : Shared → Prop) (hl : InI prog w A (fun e s' => R (.error e) s') l x N e I)
    (fin : ∀ s t, I s → R (.ok (.ret (.int (((List.range N).countP e : Nat) : Int) t))) { s with toks := s.toks + 1 }) (k : Nat) :
    ∀ (i : Nat) (c : Nat), N - i = k → i ≤ N → c = (List.range i).countP e → ∀ s, I s →
      wpAny (model prog w) A.in1 (Builtin.«list.count.loop» ⟨[.ref l, x, rawInt i, rawInt (c : Int)], []⟩) (FinOf prog w A R) (fun e s' => R (.error e) s') s := by
  induction k with
  | zero =>
    intro i c hk hi hc0 s h
    obtain ⟨items, n, hl1, hs1, _⟩ := hl _ h
    have hR := fin s s.toks h
    have hi' : i = N := by omega
    subst hi'
    rw [← hc0] at hR
    obtain ⟨hp, g, d, tk, os⟩ := s
    wp_walk using wpAny_loadPart' hl1
    have hi1 : items[((i : Nat) : Int).toNat]? = none := by simp; omega
    rw [hi1]
    wp_walk
    exact hR
  | succ k ih =>
    intro i c hk hi hc0 s h
    obtain ⟨items, n, hl1, hs1, turn⟩ := hl _ h
    have hlt : i < items.size := by omega
    have ht := turn i hlt
    obtain ⟨hp, g, d, tk, os⟩ := s
    wp_walk using wpAny_loadPart' hl1
    have hi1 : items[((i : Nat) : Int).toNat]? = some items[i] := by simp [hlt]
    have hc : ((i : Int) + 1) = ((i + 1 : Nat) : Int) := by omega
    rw [hi1]
    refine wpAny_bind (wpAny_mono ht (fun r s2 h2 => ?_) fun _ _ x => x)
    obtain ⟨hr, h2⟩ := h2
    subst hr
    have hrec := ih (i + 1) (c + if e i then 1 else 0) (by omega) (by omega) (by rw [hc0, List.range_succ, List.countP_append, List.countP_singleton]) s2 h2
    obtain ⟨hp2, g2, d2, tk2, os2⟩ := s2
    wp_walk
    rw [hc]
    refine ⟨plainId_quiet plain_count_loop _, codeAny_builtin entry_count_loop (by
      rw [Around.under_plainId plain_count_loop _]
      cases he : e i with
      | true =>
        rw [he, if_pos rfl, Int.natCast_add] at hrec
        first | exact hrec | (simp only [he, if_true]; exact hrec) | (simp only [if_true]; exact hrec)
      | false =>
        rw [he, if_neg Bool.false_ne_true, Nat.add_zero] at hrec
        first | exact hrec | (simp only [he, Bool.false_eq_true, if_false]; exact hrec) | (simp only [Bool.false_eq_true, if_false]; exact hrec))⟩
theorem list_countB (l : Addr) (x : Value) (N : Nat) (e : Nat → Bool) (I : Shared → Prop) (hl : InI prog w A (fun e s' => R (.error e) s') l x N e I)
    (fin : ∀ s t, I s → R (.ok (.ret (.int (((List.range N).countP e : Nat) : Int) t))) { s with toks := s.toks + 1 }) {s : Shared} (h : I s) :
    wpAny (model prog w) A.in1 (Builtin.«list.count» ⟨[.ref l, x], []⟩) (FinOf prog w A R) (fun e s' => R (.error e) s') s := by
  obtain ⟨items, n, hl1, hs1, _⟩ := hl _ h
  have hrec := loop_count (A := A) (R := R) l x N e I hl fin _ 0 0 rfl (Nat.zero_le _) rfl s h
  obtain ⟨hp, g, d, tk, os⟩ := s
  wp_walk using wpAny_loadPart' hl1
  exact ⟨plainId_quiet plain_count_loop _, codeAny_builtin entry_count_loop (by
    rw [Around.under_plainId plain_count_loop _]
    exact hrec)⟩
end
end GQ2
namespace L2
open PySem PySem.Spec PyProof.Rows SeqAt
/-- what a class with an own == must have -/
structure OwnC (K : PySem.W.Frag) (C f : Addr) : Prop where
  eq : PySem.W.findIn K (.ref C) "__eq__" = some (some (.ref f))
  fn : PySem.W.isFn K (.ref f) = true
  ne : PySem.W.findIn K (.ref C) "__ne__" = some (some (.builtin "object.__ne__"))
  ob : PySem.W.subIn K (.ref C) (.type "object") = some true
  nNo : PySem.W.subIn K (.ref C) (.type "NoneType") = some false
  nBl : PySem.W.subIn K (.ref C) (.type "bool") = some false
  nIn : PySem.W.subIn K (.ref C) (.type "int") = some false
  nSt : PySem.W.subIn K (.ref C) (.type "str") = some false
  nLi : PySem.W.subIn K (.ref C) (.type "list") = some false
  nTu : PySem.W.subIn K (.ref C) (.type "tuple") = some false
  nDi : PySem.W.subIn K (.ref C) (.type "dict") = some false
/-- a value of a built-in type -/
inductive BtV (H : Hp) : V → String → Prop where
  | non : BtV H .non "NoneType"
  | bl (b : Bool) : BtV H (.bl b) "bool"
  | int (i : Int) : BtV H (.int i) "int"
  | str (x : Str) : BtV H (.str x) "str"
  | lst {a : Addr} {xs : List V} (h : H a = some (.lst xs)) : BtV H (.ref a) "list"
  | tup {a : Addr} {xs : List V} (h : H a = some (.tup xs)) : BtV H (.ref a) "tuple"
  | dic {a : Addr} {kvs : List (Key × V)} (h : Rd H a (.dK kvs)) : BtV H (.ref a) "dict"
theorem Rd.ext {H H' : Hp} {a : Addr} {u : HO} (h : Rd H a u) (e : Ext H H') : Rd H' a u := h.elim (fun h => .inl (e _ _ h)) fun ⟨o, h⟩ => .inr ⟨o, e _ _ h⟩
theorem BtV.ext {H H' : Hp} {x : V} {T : String} (h : BtV H x T) (e : Ext H H') : BtV H' x T := by
  cases h with
  | non => exact .non
  | bl b => exact .bl b
  | int i => exact .int i
  | str x => exact .str x
  | lst h => exact .lst (e _ _ h)
  | tup h => exact .tup (e _ _ h)
  | dic h => exact .dic (h.ext e)
theorem TyX.ext {K : PySem.W.Frag} {H H' : Hp} {x : V} {t : Value} (h : TyX K H x t) (e : Ext H H') : TyX K H' x t := by
  cases h with
  | base b =>
    refine .base ?_
    cases b with
    | non => exact .non
    | bl b => exact .bl b
    | int i => exact .int i
    | str x => exact .str x
    | flt x => exact .flt x
    | lst h => exact .lst (e _ _ h)
    | frz h => exact .frz (e _ _ h)
    | tup h => exact .tup (e _ _ h)
    | dK h => exact .dK (e _ _ h)
    | dT h => exact .dT (e _ _ h)
    | ins h a b c d f => exact .ins (e _ _ h) a b c d f
  | byt b => exact .byt b
  | set h => exact .set (e _ _ h)
  | kList h c => exact .kList h c
  | kTuple h c => exact .kTuple h c
  | kDict h c => exact .kDict h c
  | fTuple h => exact .fTuple (e _ _ h)
  | fDict h => exact .fDict (e _ _ h)
/-- two built-in kinds whose values are never equal -/
def apart : String → String → Bool
  | "list", "list" => false
  | "tuple", "tuple" => false
  | "dict", _ => false
  | "list", _ => true
  | "tuple", _ => true
  | _, "list" => true
  | _, "tuple" => true
  | _, "dict" => true
  | _, _ => false
section
variable (K : PySem.W.Frag) (f : Addr) (sp : Sp)
/-- what == of two values answers -/
inductive EqR (H : Hp) : Nat → V → V → Bool → Prop where
  | flat {n : Nat} {x y : V} (fx : flatV x = true) (fy : flatV y = true) : EqR H n x y (eqV x y)
  | lists {n : Nat} {a b : Addr} {xs ys : List V} (ha : H a = some (.lst xs)) (hb : H b = some (.lst ys)) (l : xs.length = ys.length) (e : Nat → Bool) (p : ∀ i x y, xs[i]? = some x → ys[i]? = some y → EqR H n x y (e i)) :
      EqR H (n + 1) (.ref a) (.ref b) ((List.range xs.length).all e)
  | listsN {n : Nat} {a b : Addr} {xs ys : List V} (ha : H a = some (.lst xs)) (hb : H b = some (.lst ys)) (l : ¬ xs.length = ys.length) : EqR H n (.ref a) (.ref b) false
  | tups {n : Nat} {a b : Addr} {xs ys : List V} (ha : H a = some (.tup xs)) (hb : H b = some (.tup ys)) (e : Nat → Bool) (p : ∀ i x y, xs[i]? = some x → ys[i]? = some y → EqR H n x y (e i)) :
      EqR H (n + 1) (.ref a) (.ref b) ((List.range (min xs.length ys.length)).all e && xs.length == ys.length)
  | kinds {n : Nat} {x y : V} {S T : String} (hx : BtV H x S) (hy : BtV H y T) (h : apart S T = true) : EqR H n x y false
  | own {n : Nat} {a C dx : Addr} {fs : List (Str × V)} {y : V} {t : Value} {b : Bool} (ha : H a = some (.ins C dx fs)) (o : OwnC K C f) (ty : TyX K H y t) (nf : PySem.W.notFirst K C t = true) (same : y = .ref a → b = true)
      (hs : ∀ H0, Ext H H0 → sp [.ref a, y] H0 (fun r H' => r = .bl b ∧ Ext H0 H') E0) : EqR H n (.ref a) y b
  | ownB {n : Nat} {c C dx : Addr} {fs : List (Str × V)} {x : V} {T : String} {b : Bool} (hx : BtV H x T) (hc : H c = some (.ins C dx fs)) (o : OwnC K C f) (hs : ∀ H0, Ext H H0 → sp [.ref c, x] H0 (fun r H' => r = .bl b ∧ Ext H0 H') E0) : EqR H n x (.ref c) b
  | ownF {n : Nat} {a c C0 C dx dy : Addr} {fs gs : List (Str × V)} {b : Bool} (ha : H a = some (.ins C0 dx fs)) (hc : H c = some (.ins C dy gs)) (ne : C0 ≠ C) (su : PySem.W.subIn K (.ref C) (.ref C0) = some true) (o : OwnC K C f)
      (hs : ∀ H0, Ext H H0 → sp [.ref c, .ref a] H0 (fun r H' => r = .bl b ∧ Ext H0 H') E0) : EqR H n (.ref a) (.ref c) b
end
section
variable {K : PySem.W.Frag} {f : Addr} {sp : Sp} {H H' : Hp}
theorem EqR.ext {n : Nat} {x y : V} {b : Bool} (h : EqR K f sp H n x y b) (e : Ext H H') : EqR K f sp H' n x y b := by
  induction h with
  | flat fx fy => exact .flat fx fy
  | lists ha hb l eb p ih => exact .lists (e _ _ ha) (e _ _ hb) l eb fun i x y h1 h2 => ih i x y h1 h2
  | listsN ha hb l => exact .listsN (e _ _ ha) (e _ _ hb) l
  | tups ha hb eb p ih => exact .tups (e _ _ ha) (e _ _ hb) eb fun i x y h1 h2 => ih i x y h1 h2
  | kinds hx hy h => exact .kinds (hx.ext e) (hy.ext e) h
  | own ha o ty nf s hs => exact .own (e _ _ ha) o (ty.ext e) nf s fun H0 e0 => hs H0 (e.trans e0)
  | ownB hx hc o hs => exact .ownB (hx.ext e) (e _ _ hc) o fun H0 e0 => hs H0 (e.trans e0)
  | ownF ha hc ne su o hs => exact .ownF (e _ _ ha) (e _ _ hc) ne su o fun H0 e0 => hs H0 (e.trans e0)
theorem eqV_refl (x : V) (h : flatV x = true) : eqV x x = true := by
  cases x with
  | non => rfl
  | bl b => exact beq_self_eq_true b
  | int i => exact beq_self_eq_true i
  | str x => exact beq_self_eq_true x
  | _ => cases h
theorem EqR.refl {n : Nat} {x y : V} {b : Bool} (h : EqR K f sp H n x y b) (exy : x = y) : b = true := by
  induction h with
  | flat fx fy => subst exy; exact eqV_refl _ fx
  | @lists n a b xs ys ha hb l eb p ih =>
    injection exy with z
    subst z
    rw [ha] at hb
    cases hb
    refine List.all_eq_true.mpr fun i hi => ?_
    have hi := List.mem_range.mp hi
    exact ih i _ _ (List.getElem?_eq_getElem hi) (List.getElem?_eq_getElem hi) rfl
  | @listsN n a b xs ys ha hb l =>
    injection exy with z
    subst z
    rw [ha] at hb
    cases hb
    exact absurd rfl l
  | @tups n a b xs ys ha hb eb p ih =>
    injection exy with z
    subst z
    rw [ha] at hb
    cases hb
    rw [beq_self_eq_true, Bool.and_true]
    refine List.all_eq_true.mpr fun i hi => ?_
    have hi := List.mem_range.mp hi
    rw [Nat.min_self] at hi
    exact ih i _ _ (List.getElem?_eq_getElem hi) (List.getElem?_eq_getElem hi) rfl
  | kinds hx hy h =>
    subst exy
    cases hx <;> cases hy <;> first
      | (cases h; done)
      | (simp_all; done)
      | (rename_i h1 _ h2; rcases h2 with h2 | ⟨_, h2⟩ <;> (rw [h1] at h2; cases h2))
  | own ha o ty nf s hs => exact s exy.symm
  | ownB hx hc o hs =>
    subst exy
    cases hx with
    | lst h => rw [h] at hc; cases hc
    | tup h => rw [h] at hc; cases hc
    | dic h =>
      rcases h with h | ⟨_, h⟩
      · rw [h] at hc; cases hc
      · rw [h] at hc; cases hc
  | ownF ha hc ne su o hs =>
    injection exy with z
    subst z
    rw [ha] at hc
    cases hc
    exact absurd rfl ne
end
section
variable {X : Cx} {k : Nat} {f : Addr} {ps : List Str} {sp : Sp} {A : Around} {pins : List (Addr × Obj)} {σ : St} {H : Hp} {s : Shared} {x y : V} {u v : Value}
/-- the own == is called -/
theorem call_own {Q : Value → Shared → Prop} {b : Bool} (G : Ok1 X.prog X.w X.K X.mg X.base k f ps sp) (sb : Sub X k A) (I : Inv X pins σ H s) (rx : RelV x u) (ry : RelV y v) (h : ∀ H0, Ext H H0 → sp [x, y] H0 (fun r H' => r = .bl b ∧ Ext H0 H') E0)
    (q : ∀ s' H', Inv X pins σ H' s' → Ext H H' → Q (.bool b) s') : wpAny (model X.prog X.w) A (call (.ref f) [u, v]) Q X.xe s := by
  obtain ⟨⟨fd, F, bd⟩, kp⟩ := G
  have hsp := h H Ext.rfl'
  have e0 : Env0 X.prog X.w X.K X.mg X.base A X.stack s H := by
    have e := I.env0
    exact ⟨by rw [sb.fr]; exact e.frames, e.mod, e.bs, e.bsz, e.funs, e.frf, e.hok, e.bare⟩
  have hl := F.len _ _ _ _ hsp
  have r2 : Vals [x, y] [u, v] := .cons rx (.cons ry .nil)
  refine wpAny_call (codeAny_mono (F.run A X.stack s H ⟨[u, v], []⟩ [u, v] [x, y] _ E0 sb.room e0 (by
    have := bd s [u, v] I.kIn (by simpa using hl)
    simpa using this) r2 hsp) fun r s' hq => ?_)
  cases r with
  | error e => exact pass0 pins σ H s e s' I hq
  | ok fl =>
    cases fl with
    | ret w =>
      obtain ⟨z, H', I', rz, ez, ex⟩ := I.after hq
      subst ez
      cases rz
      exact q s' H' I' ex
    | next => exact False.elim hq
    | brk => exact False.elim hq
    | cont => exact False.elim hq
def ans (op : CmpOp) (b : Bool) : Bool := match op with
  | .Eq => b
  | _ => !b
theorem inst_of {a C dx : Addr} {fs : List (Str × V)} (I : Inv X pins σ H s) (ha : H a = some (.ins C dx fs)) : s.heap.get? a = some (PySem.W.instObj C dx) ∧ ∃ od, PySem.W.InstAt s.heap a (PySem.W.instObj C dx) C (some od) := by
  obtain ⟨mA, O, _⟩ := ins_get I.hok ha
  obtain ⟨od, J, _⟩ := O.look
  exact ⟨O.obj, od, J⟩
/-- the instance's answer, to == and to != -/
theorem try_own {Q : Option Value → Shared → Prop} {op : CmpOp} {a C dx : Addr} {fs : List (Str × V)} {b : Bool} (hop : op = .Eq ∨ op = .NotEq) (G : Ok1 X.prog X.w X.K X.mg X.base k f ps sp) (sb : Sub X (k + 1) A) (I : Inv X pins σ H s) (ha : H a = some (.ins C dx fs)) (o : OwnC X.K C f) (ry : RelV y v)
    (h : ∀ H0, Ext H H0 → sp [.ref a, y] H0 (fun r H' => r = .bl b ∧ Ext H0 H') E0) (q : ∀ s' H', Inv X pins σ H' s' → Ext H H' → Q (some (.bool (ans op b))) s') :
    wpAny (model X.prog X.w) A (tryCompare (.ref a) (cmpInfo op).2.1 v) Q X.xe s := by
  obtain ⟨hg, od, J⟩ := inst_of I ha
  rcases hop with rfl | rfl
  · exact GQ2.try_eqOwn I.kIn J o.eq o.fn (call_own G (sb.mono (Nat.le_succ k)) I (show RelV (.ref a) (.ref a) from rfl) ry h fun s' H' I' e => ⟨b, rfl, q s' H' I' e⟩)
  · exact GQ2.try_neOwn (by have := sb.room.un; omega) I.kIn J o.ne o.ob o.eq o.fn (call_own G sb.in1 I (show RelV (.ref a) (.ref a) from rfl) ry h fun s' H' I' e => ⟨b, rfl, q s' H' I' e⟩)
theorem try_own' {Q : Option Value → Shared → Prop} {op : CmpOp} {a C dx : Addr} {fs : List (Str × V)} {b : Bool} (hop : op = .Eq ∨ op = .NotEq) (G : Ok1 X.prog X.w X.K X.mg X.base k f ps sp) (sb : Sub X (k + 1) A) (I : Inv X pins σ H s) (ha : H a = some (.ins C dx fs)) (o : OwnC X.K C f) (ry : RelV y v)
    (h : ∀ H0, Ext H H0 → sp [.ref a, y] H0 (fun r H' => r = .bl b ∧ Ext H0 H') E0) (q : ∀ s' H', Inv X pins σ H' s' → Ext H H' → Q (some (.bool (ans op b))) s') :
    wpAny (model X.prog X.w) A (tryCompare (.ref a) (cmpInfo op).2.2 v) Q X.xe s := by
  have z := try_own hop G sb I ha o ry h q
  rcases hop with rfl | rfl <;> exact z
end
end L2

set_option Elab.async false
set_option linter.all false
set_option maxRecDepth 100000
set_option maxHeartbeats 4000000
/-! Own layer: a value of another built-in kind compared with a dict. -/
namespace GQ2
open PySem PySem.SeqAt
open AutoSeq1 (wpAny_loadPart')
open MeetsSeq MeetsSeq2 MeetsSeq3 SeqRoads2 GQ
section
variable {prog : Program} {w : World} {A : Around} {R : Result → Shared → Prop} {s : Shared} {b : Addr} {es : Array DictEntry} {ep : Nat} {dd : Option Addr} {sl : Array (Option Value)} {T U : String} {u : Value}
theorem ty_keep {s s' : Shared} (h : s.TypeIs u T) (k : ∀ b o, s.heap.get? b = some o → s'.heap.get? b = some o) : s'.TypeIs u T := by
  cases u with
  | ref a => obtain ⟨o, e, c⟩ := h; exact ⟨o, k _ _ e, c⟩
  | _ => exact h
theorem looks_not (h : s.TypeIs u T) (e : isSubtype (.type T) (.type U) = pure false) : PySem.W.Looks (model prog w) s.heap (isInstance u (.type U)) false := fun A Q E s' k q => wpAny_isInstance (ty_keep h k) e q
theorem str_eq_dct {x : Str} {t : Tok} (hb : s.heap.get? b = some { cls := .type "dict", dict := dd, data := .dict es ep, slots := sl }) (q : R (.ok (.ret .notImplemented)) s) :
    wpAny (model prog w) A.in1 (Builtin.«str.__eq__» ⟨[.str x t, .ref b], []⟩) (FinOf prog w A R) (fun e s' => R (.error e) s') s := by
  obtain ⟨hp, g, d, tk, os⟩ := s
  wp_walk using wpAny_load hb
  exact q
theorem str_ne_dct {x : Str} {t : Tok} (hb : s.heap.get? b = some { cls := .type "dict", dict := dd, data := .dict es ep, slots := sl }) (q : R (.ok (.ret .notImplemented)) s) :
    wpAny (model prog w) A.in1 (Builtin.«str.__ne__» ⟨[.str x t, .ref b], []⟩) (FinOf prog w A R) (fun e s' => R (.error e) s') s := by
  obtain ⟨hp, g, d, tk, os⟩ := s
  wp_walk using wpAny_load hb
  exact q
theorem int_eq_dct {x : Int} {t : Tok} (hb : s.heap.get? b = some { cls := .type "dict", dict := dd, data := .dict es ep, slots := sl }) (q : R (.ok (.ret .notImplemented)) s) :
    wpAny (model prog w) A.in1 (Builtin.«int.__eq__» ⟨[.int x t, .ref b], []⟩) (FinOf prog w A R) (fun e s' => R (.error e) s') s := by
  obtain ⟨hp, g, d, tk, os⟩ := s
  wp_walk using wpAny_load hb
  exact q
theorem int_ne_dct {x : Int} {t : Tok} (hb : s.heap.get? b = some { cls := .type "dict", dict := dd, data := .dict es ep, slots := sl }) (q : R (.ok (.ret .notImplemented)) s) :
    wpAny (model prog w) A.in1 (Builtin.«int.__ne__» ⟨[.int x t, .ref b], []⟩) (FinOf prog w A R) (fun e s' => R (.error e) s') s := by
  obtain ⟨hp, g, d, tk, os⟩ := s
  wp_walk using wpAny_load hb
  exact q
theorem bool_eq_dct {x : Bool} (hb : s.heap.get? b = some { cls := .type "dict", dict := dd, data := .dict es ep, slots := sl }) (q : R (.ok (.ret .notImplemented)) s) :
    wpAny (model prog w) A.in1 (Builtin.«int.__eq__» ⟨[.bool x, .ref b], []⟩) (FinOf prog w A R) (fun e s' => R (.error e) s') s := by
  obtain ⟨hp, g, d, tk, os⟩ := s
  wp_walk using wpAny_load hb
  exact q
theorem bool_ne_dct {x : Bool} (hb : s.heap.get? b = some { cls := .type "dict", dict := dd, data := .dict es ep, slots := sl }) (q : R (.ok (.ret .notImplemented)) s) :
    wpAny (model prog w) A.in1 (Builtin.«int.__ne__» ⟨[.bool x, .ref b], []⟩) (FinOf prog w A R) (fun e s' => R (.error e) s') s := by
  obtain ⟨hp, g, d, tk, os⟩ := s
  wp_walk using wpAny_load hb
  exact q
/-- a dict leaves the answer -/
theorem dct_eq_dec (hl : s.TypeIs (.ref b) "dict") (hi : PySem.W.Looks (model prog w) s.heap (isInstance u (.type "dict")) false) (q : R (.ok (.ret .notImplemented)) s) :
    wpAny (model prog w) A.in1 (Builtin.«dict.__eq__» ⟨[.ref b, u], []⟩) (FinOf prog w A R) (fun e s' => R (.error e) s') s := by
  show wpAny _ _ (Builtin.Dict.dictSlotArgs "__eq__" ⟨[.ref b, u], []⟩ >>= _) _ _ s
  refine wpAny_bind ?_
  unfold Builtin.Dict.dictSlotArgs
  refine wpAny_bind (wpAny_notOrdered_dict hl ?_)
  show wpAny _ _ (pure (Value.ref b, u)) _ _ s
  refine wpAny_pure ?_
  refine wpAny_bind (hi.here ?_)
  obtain ⟨hp, g, d, tk, os⟩ := s
  wp_walk
  exact q
theorem dct_ne_dec (hl : s.TypeIs (.ref b) "dict") (hi : PySem.W.Looks (model prog w) s.heap (isInstance u (.type "dict")) false) (q : R (.ok (.ret .notImplemented)) s) :
    wpAny (model prog w) A.in1 (Builtin.«dict.__ne__» ⟨[.ref b, u], []⟩) (FinOf prog w A R) (fun e s' => R (.error e) s') s := by
  show wpAny _ _ (Builtin.Dict.dictSlotArgs "__ne__" ⟨[.ref b, u], []⟩ >>= _) _ _ s
  refine wpAny_bind ?_
  unfold Builtin.Dict.dictSlotArgs
  refine wpAny_bind (wpAny_notOrdered_dict hl ?_)
  show wpAny _ _ (pure (Value.ref b, u)) _ _ s
  refine wpAny_pure ?_
  refine wpAny_bind (hi.here ?_)
  obtain ⟨hp, g, d, tk, os⟩ := s
  wp_walk
  exact q
end
section
variable {prog : Program} {w : World} {A : Around} {E : Value → Shared → Prop} {s : Shared} {b : Addr} {u : Value} {T : String} {op : CmpOp}
/-- both leave it: not the same thing -/
theorem rc_dct {Q : Value → Shared → Prop} (hop : op = .Eq ∨ op = .NotEq) (hu : A.units < cLine) (ha : s.TypeIs u T) (hb : s.TypeIs (.ref b) "dict") (hne : (Value.type T != Value.type "dict") = true) (hsub : isSubtype (.type "dict") (.type T) = pure false) (hsub2 : isSubtype (.type T) (.type "dict") = pure false)
    (dec : ∀ {Q : Option Value → Shared → Prop}, Q none s → wpAny (model prog w) A (tryCompare u (cmpInfo op).2.1 (.ref b)) Q E s)
    (hk : ∀ {Q : Bool → Shared → Prop}, Q false s → wpAny (model prog w) A (isSame u (.ref b)) Q E s)
    (h1 : op = .Eq → Q (.bool false) s) (h2 : op = .NotEq → Q (.bool true) s) : wpAny (model prog w) A (richCompare op u (.ref b)) Q E s := by
  have hi := looks_not (prog := prog) (w := w) ha hsub2
  rcases hop with rfl | rfl
  · simp only [richCompare, ha.oneThing_none]
    try with_reducible refine wpAny_holding ?_
    refine wpAny_bind (wpAny_cRoomFor_or (.inr hu) ?_)
    refine wpAny_bind (wpAny_typeOf ha (wpAny_bind (wpAny_typeOf hb ?_)))
    simp only [hne, if_true]
    refine wpAny_bind (wpAny_of_eq hsub ?_)
    simp only [Bool.false_eq_true, if_false, Bool.not_false, if_true]
    refine wpAny_bind (m := tryCompare u _ (.ref b)) (dec ?_)
    refine wpAny_bind (m := tryCompare (.ref b) _ u) (wpAny_tryCompare_declines hb PySem.F.slot_dict_eq_refl (GQ.call_here PySem.F.slot_dict_eq_refl hb PySem.F.entry_dict_eq (PySem.F.args_dict_eq_2 _ _) (dct_eq_dec hb hi ⟨rfl, ?_⟩)))
    exact wpAny_bind (wpAny_rule (wpAny_bind (hk (wpAny_pure (h1 rfl)))))
  · simp only [richCompare, ha.oneThing_none]
    try with_reducible refine wpAny_holding ?_
    refine wpAny_bind (wpAny_cRoomFor_or (.inr hu) ?_)
    refine wpAny_bind (wpAny_typeOf ha (wpAny_bind (wpAny_typeOf hb ?_)))
    simp only [hne, if_true]
    refine wpAny_bind (wpAny_of_eq hsub ?_)
    simp only [Bool.false_eq_true, if_false, Bool.not_false, if_true]
    refine wpAny_bind (m := tryCompare u _ (.ref b)) (dec ?_)
    refine wpAny_bind (m := tryCompare (.ref b) _ u) (wpAny_tryCompare_declines hb PySem.F.slot_dict_ne_refl (GQ.call_here PySem.F.slot_dict_ne_refl hb PySem.F.entry_dict_ne (PySem.F.args_dict_ne_2 _ _) (dct_ne_dec hb hi ⟨rfl, ?_⟩)))
    exact wpAny_bind (wpAny_rule (wpAny_bind (hk (wpAny_pure (h2 rfl)))))
end
end GQ2

set_option Elab.async false
set_option linter.all false
set_option maxRecDepth 100000
set_option maxHeartbeats 4000000
/-! Own layer: ==, != and in by the relation EqR. -/
namespace L2
open PySem PySem.Spec PyProof.Rows SeqAt
section
variable {X : Cx} {k : Nat} {f : Addr} {ps : List Str} {sp : Sp} {A : Around} {pins : List (Addr × Obj)} {σ : St} {H : Hp} {s : Shared} {x y : V} {u v : Value} {T : String} {E : Value → Shared → Prop} {C c dx : Addr} {fs : List (Str × V)}
theorem bt_type (I : Inv X pins σ H s) (hx : BtV H x T) (rx : RelV x u) : s.TypeIs u T := by
  cases hx with
  | non => cases rx; exact rfl
  | bl b => cases rx; exact rfl
  | int i => obtain ⟨t, rfl⟩ := rx; exact rfl
  | str z => obtain ⟨t, rfl⟩ := rx; exact rfl
  | @lst a xs h =>
    cases rx
    obtain ⟨_, its, n, _, e⟩ := I.hok a _ h
    exact ⟨_, e, rfl⟩
  | @tup a xs h =>
    cases rx
    obtain ⟨_, its, _, o, e, c, _⟩ := I.hok a _ h
    exact ⟨o, e, c⟩
  | @dic a kvs h =>
    cases rx
    obtain ⟨_, _, vs, _, d⟩ := h.ok I.hok
    exact d.typeIs
theorem bt_sub (hx : BtV H x T) (o : OwnC X.K C f) : PySem.W.subIn X.K (.ref C) (.type T) = some false := by
  cases hx with
  | non => exact o.nNo
  | bl b => exact o.nBl
  | int i => exact o.nIn
  | str z => exact o.nSt
  | lst h => exact o.nLi
  | tup h => exact o.nTu
  | dic h => exact o.nDi
theorem bt_dec {op : CmpOp} {Q : Option Value → Shared → Prop} (hop : op = .Eq ∨ op = .NotEq) (I : Inv X pins σ H s) (hx : BtV H x T) (rx : RelV x u) (hc : H c = some (.ins C dx fs)) (o : OwnC X.K C f) (q : Q none s) :
    wpAny (model X.prog X.w) A (tryCompare u (cmpInfo op).2.1 (.ref c)) Q E s := by
  obtain ⟨hg, od, J⟩ := inst_of I hc
  have li : PySem.W.Looks (model X.prog X.w) s.heap (isInstance (.ref c) (.type T)) false := J.type.andThen (PySem.W.looks_subIn I.kIn (bt_sub hx o))
  have hT := bt_type I hx rx
  cases hx with
  | non =>
    cases rx
    rcases hop with rfl | rfl
    · exact wpAny_tryCompare_declines hT PySem.F.slot_NoneType_eq (GQ.call_here PySem.F.slot_NoneType_eq hT PySem.F.entry_NoneType_eq (PySem.F.args_NoneType_eq_2 _ _) (GQ2.none_eq_dec ⟨rfl, q⟩))
    · exact wpAny_tryCompare_declines hT PySem.F.slot_NoneType_ne (GQ.call_here PySem.F.slot_NoneType_ne hT PySem.F.entry_NoneType_ne (PySem.F.args_NoneType_ne_2 _ _) (GQ2.none_ne_dec ⟨rfl, q⟩))
  | bl b =>
    cases rx
    rcases hop with rfl | rfl
    · exact wpAny_tryCompare_declines hT PySem.F.slot_bool_eq (GQ.call_here PySem.F.slot_bool_eq hT PySem.F.entry_int_eq (PySem.F.args_int_eq_2 _ _) (GQ2.bool_eq_dec hg ⟨rfl, q⟩))
    · exact wpAny_tryCompare_declines hT PySem.F.slot_bool_ne (GQ.call_here PySem.F.slot_bool_ne hT PySem.F.entry_int_ne (PySem.F.args_int_ne_2 _ _) (GQ2.bool_ne_dec hg ⟨rfl, q⟩))
  | int i =>
    obtain ⟨t, rfl⟩ := rx
    rcases hop with rfl | rfl
    · exact wpAny_tryCompare_declines hT PySem.F.slot_int_eq (GQ.call_here PySem.F.slot_int_eq hT PySem.F.entry_int_eq (PySem.F.args_int_eq_2 _ _) (GQ2.int_eq_dec hg ⟨rfl, q⟩))
    · exact wpAny_tryCompare_declines hT PySem.F.slot_int_ne (GQ.call_here PySem.F.slot_int_ne hT PySem.F.entry_int_ne (PySem.F.args_int_ne_2 _ _) (GQ2.int_ne_dec hg ⟨rfl, q⟩))
  | str z =>
    obtain ⟨t, rfl⟩ := rx
    rcases hop with rfl | rfl
    · exact wpAny_tryCompare_declines hT PySem.F.slot_str_eq (GQ.call_here PySem.F.slot_str_eq hT PySem.F.entry_str_eq (PySem.F.args_str_eq_2 _ _) (GQ2.str_eq_dec hg ⟨rfl, q⟩))
    · exact wpAny_tryCompare_declines hT PySem.F.slot_str_ne (GQ.call_here PySem.F.slot_str_ne hT PySem.F.entry_str_ne (PySem.F.args_str_ne_2 _ _) (GQ2.str_ne_dec hg ⟨rfl, q⟩))
  | @lst a xs h =>
    cases rx
    obtain ⟨_, its, n, _, e⟩ := I.hok a _ h
    rcases hop with rfl | rfl
    · exact wpAny_tryCompare_declines hT PySem.F.slot_list_eq (GQ.call_here PySem.F.slot_list_eq hT PySem.F.entry_list_eq (PySem.F.args_list_eq_2 _ _) (GQ2.list_eq_dec e li ⟨rfl, q⟩))
    · exact wpAny_tryCompare_declines hT PySem.F.slot_list_ne (GQ.call_here PySem.F.slot_list_ne hT PySem.F.entry_list_ne (PySem.F.args_list_ne_2 _ _) (GQ2.list_ne_dec e li ⟨rfl, q⟩))
  | @tup a xs h =>
    cases rx
    obtain ⟨_, its, _, ⟨oc, od, dt, sl⟩, e, cc, n, ed⟩ := I.hok a _ h
    simp only at cc ed
    subst cc ed
    rcases hop with rfl | rfl
    · exact wpAny_tryCompare_declines hT PySem.F.slot_tuple_eq (GQ.call_here PySem.F.slot_tuple_eq hT PySem.F.entry_tuple_eq (PySem.F.args_tuple_eq_2 _ _) (GQ2.tup_eq_dec e li ⟨rfl, q⟩))
    · exact wpAny_tryCompare_declines hT PySem.F.slot_tuple_ne (GQ.call_here PySem.F.slot_tuple_ne hT PySem.F.entry_tuple_ne (PySem.F.args_tuple_ne_2 _ _) (GQ2.tup_ne_dec e li ⟨rfl, q⟩))
  | @dic a kvs h =>
    cases rx
    rcases hop with rfl | rfl
    · exact wpAny_tryCompare_declines hT PySem.F.slot_dict_eq (GQ.call_here PySem.F.slot_dict_eq hT PySem.F.entry_dict_eq (PySem.F.args_dict_eq_2 _ _) (GQ2.dict_eq_dec hT li ⟨rfl, q⟩))
    · exact wpAny_tryCompare_declines hT PySem.F.slot_dict_ne (GQ.call_here PySem.F.slot_dict_ne hT PySem.F.entry_dict_ne (PySem.F.args_dict_ne_2 _ _) (GQ2.dict_ne_dec hT li ⟨rfl, q⟩))
theorem dct_get (I : Inv X pins σ H s) {a : Addr} {kvs : List (Key × V)} (h : Rd H a (.dK kvs)) : s.TypeIs (.ref a) "dict" ∧ ∃ dd es ep sl, s.heap.get? a = some { cls := .type "dict", dict := dd, data := .dict es ep, slots := sl } := by
  obtain ⟨_, _, vs, _, d⟩ := h.ok I.hok
  obtain ⟨o, e, c⟩ := d.typeIs
  obtain ⟨⟨oc, dd, dt, sl⟩, es, ep, ho, hc, hd, _⟩ := d
  rw [ho] at e
  cases e
  simp only at c hd
  subst c hd
  exact ⟨⟨_, ho, rfl⟩, _, _, _, _, ho⟩
/-- a value of another built-in kind, and a dict -/
theorem rc_kdct {op : CmpOp} {Q : Value → Shared → Prop} (hop : op = .Eq ∨ op = .NotEq) (hu : A.units < cLine) (I : Inv X pins σ H s) (hx : BtV H x T) (ap : apart T "dict" = true) (rx : RelV x u) {a : Addr} {kvs : List (Key × V)} (h : Rd H a (.dK kvs)) (q : Q (.bool (ans op false)) s) :
    wpAny (model X.prog X.w) A (richCompare op u (.ref a)) Q E s := by
  obtain ⟨hT, dd, es, ep, sl, hd⟩ := dct_get I h
  have hU := bt_type I hx rx
  have q1 : op = .Eq → Q (.bool false) s := fun e => by subst e; exact q
  have q2 : op = .NotEq → Q (.bool true) s := fun e => by subst e; exact q
  cases hx with
  | non =>
    cases rx
    refine GQ2.rc_dct hop hu hU hT (by decide) PySem.F.sub_dict_NoneType PySem.F.sub_NoneType_dict (fun {Q} qn => ?_) (fun q => wpAny_of_eq rfl q) q1 q2
    rcases hop with rfl | rfl
    · exact wpAny_tryCompare_declines hU PySem.F.slot_NoneType_eq (GQ.call_here PySem.F.slot_NoneType_eq hU PySem.F.entry_NoneType_eq (PySem.F.args_NoneType_eq_2 _ _) (GQ2.none_eq_dec ⟨rfl, qn⟩))
    · exact wpAny_tryCompare_declines hU PySem.F.slot_NoneType_ne (GQ.call_here PySem.F.slot_NoneType_ne hU PySem.F.entry_NoneType_ne (PySem.F.args_NoneType_ne_2 _ _) (GQ2.none_ne_dec ⟨rfl, qn⟩))
  | bl b =>
    cases rx
    refine GQ2.rc_dct hop hu hU hT (by decide) PySem.F.sub_dict_bool PySem.F.sub_bool_dict (fun {Q} qn => ?_) (fun q => wpAny_of_eq rfl q) q1 q2
    rcases hop with rfl | rfl
    · exact wpAny_tryCompare_declines hU PySem.F.slot_bool_eq (GQ.call_here PySem.F.slot_bool_eq hU PySem.F.entry_int_eq (PySem.F.args_int_eq_2 _ _) (GQ2.bool_eq_dct hd ⟨rfl, qn⟩))
    · exact wpAny_tryCompare_declines hU PySem.F.slot_bool_ne (GQ.call_here PySem.F.slot_bool_ne hU PySem.F.entry_int_ne (PySem.F.args_int_ne_2 _ _) (GQ2.bool_ne_dct hd ⟨rfl, qn⟩))
  | int i =>
    obtain ⟨t, rfl⟩ := rx
    refine GQ2.rc_dct hop hu hU hT (by decide) PySem.F.sub_dict_int PySem.F.sub_int_dict (fun {Q} qn => ?_) (fun q => wpAny_of_eq rfl q) q1 q2
    rcases hop with rfl | rfl
    · exact wpAny_tryCompare_declines hU PySem.F.slot_int_eq (GQ.call_here PySem.F.slot_int_eq hU PySem.F.entry_int_eq (PySem.F.args_int_eq_2 _ _) (GQ2.int_eq_dct hd ⟨rfl, qn⟩))
    · exact wpAny_tryCompare_declines hU PySem.F.slot_int_ne (GQ.call_here PySem.F.slot_int_ne hU PySem.F.entry_int_ne (PySem.F.args_int_ne_2 _ _) (GQ2.int_ne_dct hd ⟨rfl, qn⟩))
  | str z =>
    obtain ⟨t, rfl⟩ := rx
    refine GQ2.rc_dct hop hu hU hT (by decide) PySem.F.sub_dict_str PySem.F.sub_str_dict (fun {Q} qn => ?_) (fun q => wpAny_of_eq rfl q) q1 q2
    rcases hop with rfl | rfl
    · exact wpAny_tryCompare_declines hU PySem.F.slot_str_eq (GQ.call_here PySem.F.slot_str_eq hU PySem.F.entry_str_eq (PySem.F.args_str_eq_2 _ _) (GQ2.str_eq_dct hd ⟨rfl, qn⟩))
    · exact wpAny_tryCompare_declines hU PySem.F.slot_str_ne (GQ.call_here PySem.F.slot_str_ne hU PySem.F.entry_str_ne (PySem.F.args_str_ne_2 _ _) (GQ2.str_ne_dct hd ⟨rfl, qn⟩))
  | @lst c xs hc =>
    cases rx
    obtain ⟨_, its, n, _, e⟩ := I.hok c _ hc
    have ne : c ≠ a := fun z => by subst z; rw [hd] at e; exact absurd (Option.some.inj e) (by simp)
    have li := GQ2.looks_not (prog := X.prog) (w := X.w) (U := "list") hT PySem.F.sub_dict_list
    refine GQ2.rc_dct hop hu hU hT (by decide) PySem.F.sub_dict_list PySem.F.sub_list_dict (fun {Q} qn => ?_) (fun q => SeqAt.wpAny_isSame_ref_other' ne e hd (by simp) q) q1 q2
    rcases hop with rfl | rfl
    · exact wpAny_tryCompare_declines hU PySem.F.slot_list_eq (GQ.call_here PySem.F.slot_list_eq hU PySem.F.entry_list_eq (PySem.F.args_list_eq_2 _ _) (GQ2.list_eq_dec e li ⟨rfl, qn⟩))
    · exact wpAny_tryCompare_declines hU PySem.F.slot_list_ne (GQ.call_here PySem.F.slot_list_ne hU PySem.F.entry_list_ne (PySem.F.args_list_ne_2 _ _) (GQ2.list_ne_dec e li ⟨rfl, qn⟩))
  | @tup c xs hc =>
    cases rx
    obtain ⟨_, its, _, ⟨oc, od, dt, sl2⟩, e, cc, n, ed⟩ := I.hok c _ hc
    simp only at cc ed
    subst cc ed
    have ne : c ≠ a := fun z => by subst z; rw [hd] at e; exact absurd (Option.some.inj e) (by simp)
    have li := GQ2.looks_not (prog := X.prog) (w := X.w) (U := "tuple") hT PySem.F.sub_dict_tuple
    refine GQ2.rc_dct hop hu hU hT (by decide) PySem.F.sub_dict_tuple PySem.F.sub_tuple_dict (fun {Q} qn => ?_) (fun q => SeqAt.wpAny_isSame_ref_other' ne e hd (by simp) q) q1 q2
    rcases hop with rfl | rfl
    · exact wpAny_tryCompare_declines hU PySem.F.slot_tuple_eq (GQ.call_here PySem.F.slot_tuple_eq hU PySem.F.entry_tuple_eq (PySem.F.args_tuple_eq_2 _ _) (GQ2.tup_eq_dec e li ⟨rfl, qn⟩))
    · exact wpAny_tryCompare_declines hU PySem.F.slot_tuple_ne (GQ.call_here PySem.F.slot_tuple_ne hU PySem.F.entry_tuple_ne (PySem.F.args_tuple_ne_2 _ _) (GQ2.tup_ne_dec e li ⟨rfl, qn⟩))
  | dic h0 => cases ap
theorem bt_tyx {K : PySem.W.Frag} (hx : BtV H x T) : TyX K H x (.type T) := by
  cases hx with
  | non => exact .base .non
  | bl b => exact .base (.bl b)
  | int i => exact .base (.int i)
  | str z => exact .base (.str z)
  | lst h => exact .base (.lst h)
  | tup h => exact .base (.tup h)
  | dic h =>
    rcases h with h | ⟨o, h⟩
    · exact .base (.dK h)
    · exact .fDict h
theorem looks_ty {t : Value} (I : Inv X pins σ H s) (ry : RelV y v) (ty : TyX X.K H y t) : PySem.W.Looks (model X.prog X.w) s.heap (typeOf v) t := by
  obtain ⟨P, Z, p, _⟩ := kit_of I ry ty
  exact Z.ty _ _ I.kIn p
end
/-- == inside a built-in, for all that EqR tells at n -/
def EqSAt (X : Cx) (f : Addr) (sp : Sp) (k n : Nat) : Prop := ∀ (H : Hp) (x y : V) (b : Bool), EqR X.K f sp H n x y b → ∀ (A : Around) (pins : List (Addr × Obj)) (σ : St) (s : Shared) (u v : Value), Sub X (n + k + 1) A → Inv X pins σ H s → RelV x u → RelV y v →
  wpAny (model X.prog X.w) A (eqBool u v) (fun r s' => r = b ∧ ∃ H', Inv X pins σ H' s' ∧ Ext H H') X.xe s
section
variable {X : Cx} {k n : Nat} {f : Addr} {ps : List Str} {sp : Sp} {A : Around} {pins : List (Addr × Obj)} {σ : St} {H : Hp} {s : Shared} {x y : V} {u v : Value} {b : Bool} {op : CmpOp}
/-- what the loop over the items keeps -/
def Kept (X : Cx) (pins : List (Addr × Obj)) (σ : St) (H : Hp) (s' : Shared) : Prop := ∃ H', Inv X pins σ H' s' ∧ Ext H H'
theorem turnS (ih : EqSAt X f sp k n) (sb : Sub X (n + 1 + k + 1) A) {xs ys : List V} {its its2 : List Value} {e : Nat → Bool} (p : ∀ i x y, xs[i]? = some x → ys[i]? = some y → EqR X.K f sp H n x y (e i)) (r : Vals xs its) (r2 : Vals ys its2)
    (i : Nat) (h1 : i < its.toArray.size) (h2 : i < its2.toArray.size) (s' : Shared) (l : Kept X pins σ H s') :
    wpAny (model X.prog X.w) A.in1 (eqBool its.toArray[i] its2.toArray[i]) (fun r s2 => r = e i ∧ Kept X pins σ H s2) X.xe s' := by
  obtain ⟨H1, I1, e1⟩ := l
  have g1 : its[i]? = some its.toArray[i] := by
    have h1' : i < its.length := by simpa using h1
    rw [List.getElem?_eq_getElem h1'] <;> simp
  have g2 : its2[i]? = some its2.toArray[i] := by
    have h2' : i < its2.length := by simpa using h2
    rw [List.getElem?_eq_getElem h2'] <;> simp
  have k1 : i < xs.length := by rw [r.length]; simpa using h1
  have k2 : i < ys.length := by rw [r2.length]; simpa using h2
  obtain ⟨u, hu, ru⟩ := r.get (List.getElem?_eq_getElem k1)
  obtain ⟨v, hv, rv⟩ := r2.get (List.getElem?_eq_getElem k2)
  rw [g1] at hu
  rw [g2] at hv
  rw [Option.some.inj hu, Option.some.inj hv]
  have sb' : Sub X (n + k + 1) A.in1 := Sub.in1 (sb.mono (by omega))
  refine wpAny_mono (ih H1 _ _ _ ((p i _ _ (List.getElem?_eq_getElem k1) (List.getElem?_eq_getElem k2)).ext e1) A.in1 pins σ s' u v sb' I1 ru rv) (fun r s2 q => ?_) fun _ _ x => x
  obtain ⟨hr, H2, I2, e2⟩ := q
  exact ⟨hr, H2, I2, e1.trans e2⟩
theorem ne_flags (h : EqR X.K f sp H n x y b) (fx : flatV x = true) (fy : flatV y = true) : b = eqV x y := by
  cases h with
  | flat _ _ => rfl
  | kinds hx hy h => cases hx <;> cases hy <;> first | (cases h; done) | (cases fx; done) | (cases fy; done)
  | lists => cases fx
  | listsN => cases fx
  | tups => cases fx
  | own => cases fx
  | ownB => cases fy
  | ownF => cases fx
set_option hygiene false in
local macro_rules | `(tactic| walk_at "rk") => `(tactic| refine wpAny_mono (?h : wpAny _ _ _ (fun r s' => r = Value.bool _ ∧ _) _ _) (fun r s' q => ?_) fun _ _ x => x)
/-- a rich comparison where one of the two is an object -/
theorem rcS (hop : op = .Eq ∨ op = .NotEq) (G : Ok1 X.prog X.w X.K X.mg X.base k f ps sp) (ih : ∀ m, m + 1 = n → EqSAt X f sp k m) (h : EqR X.K f sp H n x y b) (nf : flatV x = false ∨ flatV y = false) (sb : Sub X (n + k + 1) A) (I : Inv X pins σ H s) (rx : RelV x u) (ry : RelV y v) :
    wpAny (model X.prog X.w) A (richCompare op u v) (fun r s' => r = .bool (ans op b) ∧ ∃ H', Inv X pins σ H' s' ∧ Ext H H') X.xe s := by
  have hu : A.units < cLine := by have := sb.room.un; omega
  have sb1 : Sub X (k + 1) A := sb.mono (by omega)
  cases h with
  | flat fx fy => rcases nf with z | z <;> simp_all
  | @lists n a c xs ys ha hb l e p =>
    cases rx
    cases ry
    obtain ⟨_, its, n1, r1, e1⟩ := I.hok a _ ha
    obtain ⟨_, its2, n2, r2, e2⟩ := I.hok c _ hb
    have LI : GQ2.ListI X.prog X.w A X.xe a c xs.length e (Kept X pins σ H) := fun s' q => by
      obtain ⟨H1, I1, x1⟩ := id q
      obtain ⟨_, its, k1, r, e1⟩ := I1.hok a _ (x1 _ _ ha)
      obtain ⟨_, its2, k2, r2, e2⟩ := I1.hok c _ (x1 _ _ hb)
      exact ⟨its.toArray, its2.toArray, k1, k2, e1, e2, by rw [List.size_toArray, ← r.length], by rw [List.size_toArray, ← r2.length, ← l], fun i h1 h2 => turnS (ih n rfl) sb p r r2 i h1 h2 s' q⟩
    rcases hop with rfl | rfl
    · refine wpAny_richCompare_same_room (op := .Eq) ⟨_, e1, rfl⟩ ⟨_, e2, rfl⟩ PySem.F.slot_list_eq (GQ.call_here PySem.F.slot_list_eq ⟨_, e1, rfl⟩ PySem.F.entry_list_eq (PySem.F.args_list_eq_2 _ _) ?_) hu
      exact GQ2.list_eqB (R := wants (fun v s' => v ≠ .notImplemented ∧ _) X.xe) a c xs.length e (Kept X pins σ H) LI (fun s' q => ⟨(fun z => nomatch z), rfl, q⟩) ⟨H, I, Ext.rfl'⟩
    · refine wpAny_richCompare_same_room (op := .NotEq) ⟨_, e1, rfl⟩ ⟨_, e2, rfl⟩ PySem.F.slot_list_ne (GQ.call_here PySem.F.slot_list_ne ⟨_, e1, rfl⟩ PySem.F.entry_list_ne (PySem.F.args_list_ne_2 _ _) ?_) hu
      exact GQ2.list_neB (R := wants (fun v s' => v ≠ .notImplemented ∧ _) X.xe) a c xs.length e (Kept X pins σ H) LI (fun s' q => ⟨(fun z => nomatch z), rfl, q⟩) ⟨H, I, Ext.rfl'⟩
  | @listsN _ a c xs ys ha hb l =>
    cases rx
    cases ry
    obtain ⟨_, its, n1, r1, e1⟩ := I.hok a _ ha
    obtain ⟨_, its2, n2, r2, e2⟩ := I.hok c _ hb
    have hz : (its.toArray.size != its2.toArray.size) = true := by
      rw [List.size_toArray, List.size_toArray, ← r1.length, ← r2.length]
      exact bne_iff_ne.mpr l
    rcases hop with rfl | rfl
    · exact (SeqAt.RcAt.lists_lengths ⟨_, e1, rfl, _, rfl⟩ ⟨_, e2, rfl, _, rfl⟩ hz hu) X.prog X.w X.xe _ ⟨rfl, H, I, Ext.rfl'⟩
    · exact (SeqAt.RcNeAt.lists_lengths ⟨_, e1, rfl, _, rfl⟩ ⟨_, e2, rfl, _, rfl⟩ hz hu) X.prog X.w X.xe _ ⟨rfl, H, I, Ext.rfl'⟩
  | @tups n a c xs ys ha hb e p =>
    cases rx
    cases ry
    obtain ⟨_, its, r1, ⟨oc, od, dt, sl⟩, e1, c1, n1, d1⟩ := I.hok a _ ha
    obtain ⟨_, its2, r2, ⟨oc2, od2, dt2, sl2⟩, e2, c2, n2, d2⟩ := I.hok c _ hb
    simp only at c1 d1 c2 d2
    subst c1 d1 c2 d2
    have l1 : its.toArray.size = xs.length := by rw [List.size_toArray, ← r1.length]
    have l2 : its2.toArray.size = ys.length := by rw [List.size_toArray, ← r2.length]
    rw [← l1, ← l2]
    rcases hop with rfl | rfl
    · refine wpAny_richCompare_same_room (op := .Eq) ⟨_, e1, rfl⟩ ⟨_, e2, rfl⟩ PySem.F.slot_tuple_eq (GQ.call_here PySem.F.slot_tuple_eq ⟨_, e1, rfl⟩ PySem.F.entry_tuple_eq (PySem.F.args_tuple_eq_2 _ _) ?_) hu
      exact GQ2.tup_eqB (R := wants (fun v s' => v ≠ .notImplemented ∧ _) X.xe) a c its.toArray its2.toArray n1 n2 od od2 sl sl2 e (Kept X pins σ H) (fun i h1 h2 s' q => turnS (ih n rfl) sb p r1 r2 i h1 h2 s' q) (fun s' q => ⟨(fun z => nomatch z), rfl, q⟩) e1 e2 ⟨H, I, Ext.rfl'⟩
    · refine wpAny_richCompare_same_room (op := .NotEq) ⟨_, e1, rfl⟩ ⟨_, e2, rfl⟩ PySem.F.slot_tuple_ne (GQ.call_here PySem.F.slot_tuple_ne ⟨_, e1, rfl⟩ PySem.F.entry_tuple_ne (PySem.F.args_tuple_ne_2 _ _) ?_) hu
      exact GQ2.tup_neB (R := wants (fun v s' => v ≠ .notImplemented ∧ _) X.xe) a c its.toArray its2.toArray n1 n2 od od2 sl sl2 e (Kept X pins σ H) (fun i h1 h2 s' q => turnS (ih n rfl) sb p r1 r2 i h1 h2 s' q) (fun s' q => ⟨(fun z => nomatch z), rfl, q⟩) e1 e2 ⟨H, I, Ext.rfl'⟩
  | @kinds _ _ _ S T hx hy ap =>
    have key : ∀ (c : Addr) (kvs : List (Key × V)), Rd H c (.dK kvs) → RelV (.ref c) v → apart S "dict" = true → wpAny (model X.prog X.w) A (richCompare op u v) (fun r s' => r = .bool (ans op false) ∧ ∃ H', Inv X pins σ H' s' ∧ Ext H H') X.xe s := fun c kvs h2 ry ap => by
      cases ry
      exact rc_kdct hop hu I hx ap rx h2 ⟨rfl, H, I, Ext.rfl'⟩
    cases hx with
    | non =>
      cases hy with
      | non => cases ap
      | bl q => cases ap
      | int q => cases ap
      | str q => cases ap
      | @lst c ys h2 =>
        cases rx
        cases ry
        obtain ⟨_, its2, n2, _, e2⟩ := I.hok _ _ h2
        rcases hop with rfl | rfl
        · exact (SeqAt.RcAt.none_list ⟨_, e2, rfl, _, rfl⟩ hu) X.prog X.w X.xe _ ⟨rfl, H, I, Ext.rfl'⟩
        · exact (SeqAt.RcNeAt.none_list ⟨_, e2, rfl, _, rfl⟩ hu) X.prog X.w X.xe _ ⟨rfl, H, I, Ext.rfl'⟩
      | @tup c ys h2 =>
        cases rx
        cases ry
        obtain ⟨_, its2, _, o2, e2, c2, n2, d2⟩ := I.hok _ _ h2
        rcases hop with rfl | rfl
        · exact (SeqAt.RcAt.none_tuple ⟨_, e2, c2, _, d2⟩ hu) X.prog X.w X.xe _ ⟨rfl, H, I, Ext.rfl'⟩
        · exact (SeqAt.RcNeAt.none_tuple ⟨_, e2, c2, _, d2⟩ hu) X.prog X.w X.xe _ ⟨rfl, H, I, Ext.rfl'⟩
      | dic h2 => exact key _ _ h2 ry ap
    | bl p =>
      cases hy with
      | non => cases ap
      | bl q => cases ap
      | int q => cases ap
      | str q => cases ap
      | @lst c ys h2 =>
        cases rx
        cases ry
        obtain ⟨_, its2, n2, _, e2⟩ := I.hok _ _ h2
        rcases hop with rfl | rfl
        · exact (SeqAt.RcAt.bool_list p ⟨_, e2, rfl, _, rfl⟩ hu) X.prog X.w X.xe _ ⟨rfl, H, I, Ext.rfl'⟩
        · exact (SeqAt.RcNeAt.bool_list p ⟨_, e2, rfl, _, rfl⟩ hu) X.prog X.w X.xe _ ⟨rfl, H, I, Ext.rfl'⟩
      | @tup c ys h2 =>
        cases rx
        cases ry
        obtain ⟨_, its2, _, o2, e2, c2, n2, d2⟩ := I.hok _ _ h2
        rcases hop with rfl | rfl
        · exact (SeqAt.RcAt.bool_tuple p ⟨_, e2, c2, _, d2⟩ hu) X.prog X.w X.xe _ ⟨rfl, H, I, Ext.rfl'⟩
        · exact (SeqAt.RcNeAt.bool_tuple p ⟨_, e2, c2, _, d2⟩ hu) X.prog X.w X.xe _ ⟨rfl, H, I, Ext.rfl'⟩
      | dic h2 => exact key _ _ h2 ry ap
    | int p =>
      cases hy with
      | non => cases ap
      | bl q => cases ap
      | int q => cases ap
      | str q => cases ap
      | @lst c ys h2 =>
        obtain ⟨t1, rfl⟩ := rx
        cases ry
        obtain ⟨_, its2, n2, _, e2⟩ := I.hok _ _ h2
        rcases hop with rfl | rfl
        · exact (SeqAt.RcAt.int_list p t1 ⟨_, e2, rfl, _, rfl⟩ hu) X.prog X.w X.xe _ ⟨rfl, H, I, Ext.rfl'⟩
        · exact (SeqAt.RcNeAt.int_list p t1 ⟨_, e2, rfl, _, rfl⟩ hu) X.prog X.w X.xe _ ⟨rfl, H, I, Ext.rfl'⟩
      | @tup c ys h2 =>
        obtain ⟨t1, rfl⟩ := rx
        cases ry
        obtain ⟨_, its2, _, o2, e2, c2, n2, d2⟩ := I.hok _ _ h2
        rcases hop with rfl | rfl
        · exact (SeqAt.RcAt.int_tuple p t1 ⟨_, e2, c2, _, d2⟩ hu) X.prog X.w X.xe _ ⟨rfl, H, I, Ext.rfl'⟩
        · exact (SeqAt.RcNeAt.int_tuple p t1 ⟨_, e2, c2, _, d2⟩ hu) X.prog X.w X.xe _ ⟨rfl, H, I, Ext.rfl'⟩
      | dic h2 => exact key _ _ h2 ry ap
    | str p =>
      cases hy with
      | non => cases ap
      | bl q => cases ap
      | int q => cases ap
      | str q => cases ap
      | @lst c ys h2 =>
        obtain ⟨t1, rfl⟩ := rx
        cases ry
        obtain ⟨_, its2, n2, _, e2⟩ := I.hok _ _ h2
        rcases hop with rfl | rfl
        · exact (SeqAt.RcAt.str_list p t1 ⟨_, e2, rfl, _, rfl⟩ hu) X.prog X.w X.xe _ ⟨rfl, H, I, Ext.rfl'⟩
        · exact (SeqAt.RcNeAt.str_list p t1 ⟨_, e2, rfl, _, rfl⟩ hu) X.prog X.w X.xe _ ⟨rfl, H, I, Ext.rfl'⟩
      | @tup c ys h2 =>
        obtain ⟨t1, rfl⟩ := rx
        cases ry
        obtain ⟨_, its2, _, o2, e2, c2, n2, d2⟩ := I.hok _ _ h2
        rcases hop with rfl | rfl
        · exact (SeqAt.RcAt.str_tuple p t1 ⟨_, e2, c2, _, d2⟩ hu) X.prog X.w X.xe _ ⟨rfl, H, I, Ext.rfl'⟩
        · exact (SeqAt.RcNeAt.str_tuple p t1 ⟨_, e2, c2, _, d2⟩ hu) X.prog X.w X.xe _ ⟨rfl, H, I, Ext.rfl'⟩
      | dic h2 => exact key _ _ h2 ry ap
    | @lst a xs h1 =>
      cases hy with
      | non =>
        cases rx
        obtain ⟨_, its1, n1, _, e1⟩ := I.hok _ _ h1
        cases ry
        rcases hop with rfl | rfl
        · exact (SeqAt.RcAt.list_none ⟨_, e1, rfl, _, rfl⟩ hu) X.prog X.w X.xe _ ⟨rfl, H, I, Ext.rfl'⟩
        · exact (SeqAt.RcNeAt.list_none ⟨_, e1, rfl, _, rfl⟩ hu) X.prog X.w X.xe _ ⟨rfl, H, I, Ext.rfl'⟩
      | bl q =>
        cases rx
        obtain ⟨_, its1, n1, _, e1⟩ := I.hok _ _ h1
        cases ry
        rcases hop with rfl | rfl
        · exact (SeqAt.RcAt.list_bool q ⟨_, e1, rfl, _, rfl⟩ hu) X.prog X.w X.xe _ ⟨rfl, H, I, Ext.rfl'⟩
        · exact (SeqAt.RcNeAt.list_bool q ⟨_, e1, rfl, _, rfl⟩ hu) X.prog X.w X.xe _ ⟨rfl, H, I, Ext.rfl'⟩
      | int q =>
        cases rx
        obtain ⟨_, its1, n1, _, e1⟩ := I.hok _ _ h1
        obtain ⟨t2, rfl⟩ := ry
        rcases hop with rfl | rfl
        · exact (SeqAt.RcAt.list_int q t2 ⟨_, e1, rfl, _, rfl⟩ hu) X.prog X.w X.xe _ ⟨rfl, H, I, Ext.rfl'⟩
        · exact (SeqAt.RcNeAt.list_int q t2 ⟨_, e1, rfl, _, rfl⟩ hu) X.prog X.w X.xe _ ⟨rfl, H, I, Ext.rfl'⟩
      | str q =>
        cases rx
        obtain ⟨_, its1, n1, _, e1⟩ := I.hok _ _ h1
        obtain ⟨t2, rfl⟩ := ry
        rcases hop with rfl | rfl
        · exact (SeqAt.RcAt.list_str q t2 ⟨_, e1, rfl, _, rfl⟩ hu) X.prog X.w X.xe _ ⟨rfl, H, I, Ext.rfl'⟩
        · exact (SeqAt.RcNeAt.list_str q t2 ⟨_, e1, rfl, _, rfl⟩ hu) X.prog X.w X.xe _ ⟨rfl, H, I, Ext.rfl'⟩
      | @lst c ys h2 => cases ap
      | @tup c ys h2 =>
        cases rx
        obtain ⟨_, its1, n1, _, e1⟩ := I.hok _ _ h1
        cases ry
        obtain ⟨_, its2, _, o2, e2, c2, n2, d2⟩ := I.hok _ _ h2
        rcases hop with rfl | rfl
        · exact (SeqAt.RcAt.list_tuple ⟨_, e1, rfl, _, rfl⟩ ⟨_, e2, c2, _, d2⟩ hu) X.prog X.w X.xe _ ⟨rfl, H, I, Ext.rfl'⟩
        · exact (SeqAt.RcNeAt.list_tuple ⟨_, e1, rfl, _, rfl⟩ ⟨_, e2, c2, _, d2⟩ hu) X.prog X.w X.xe _ ⟨rfl, H, I, Ext.rfl'⟩
      | dic h2 => exact key _ _ h2 ry ap
    | @tup a xs h1 =>
      cases hy with
      | non =>
        cases rx
        obtain ⟨_, its1, _, o1, e1, c1, n1, d1⟩ := I.hok _ _ h1
        cases ry
        rcases hop with rfl | rfl
        · exact (SeqAt.RcAt.tuple_none ⟨_, e1, c1, _, d1⟩ hu) X.prog X.w X.xe _ ⟨rfl, H, I, Ext.rfl'⟩
        · exact (SeqAt.RcNeAt.tuple_none ⟨_, e1, c1, _, d1⟩ hu) X.prog X.w X.xe _ ⟨rfl, H, I, Ext.rfl'⟩
      | bl q =>
        cases rx
        obtain ⟨_, its1, _, o1, e1, c1, n1, d1⟩ := I.hok _ _ h1
        cases ry
        rcases hop with rfl | rfl
        · exact (SeqAt.RcAt.tuple_bool q ⟨_, e1, c1, _, d1⟩ hu) X.prog X.w X.xe _ ⟨rfl, H, I, Ext.rfl'⟩
        · exact (SeqAt.RcNeAt.tuple_bool q ⟨_, e1, c1, _, d1⟩ hu) X.prog X.w X.xe _ ⟨rfl, H, I, Ext.rfl'⟩
      | int q =>
        cases rx
        obtain ⟨_, its1, _, o1, e1, c1, n1, d1⟩ := I.hok _ _ h1
        obtain ⟨t2, rfl⟩ := ry
        rcases hop with rfl | rfl
        · exact (SeqAt.RcAt.tuple_int q t2 ⟨_, e1, c1, _, d1⟩ hu) X.prog X.w X.xe _ ⟨rfl, H, I, Ext.rfl'⟩
        · exact (SeqAt.RcNeAt.tuple_int q t2 ⟨_, e1, c1, _, d1⟩ hu) X.prog X.w X.xe _ ⟨rfl, H, I, Ext.rfl'⟩
      | str q =>
        cases rx
        obtain ⟨_, its1, _, o1, e1, c1, n1, d1⟩ := I.hok _ _ h1
        obtain ⟨t2, rfl⟩ := ry
        rcases hop with rfl | rfl
        · exact (SeqAt.RcAt.tuple_str q t2 ⟨_, e1, c1, _, d1⟩ hu) X.prog X.w X.xe _ ⟨rfl, H, I, Ext.rfl'⟩
        · exact (SeqAt.RcNeAt.tuple_str q t2 ⟨_, e1, c1, _, d1⟩ hu) X.prog X.w X.xe _ ⟨rfl, H, I, Ext.rfl'⟩
      | @lst c ys h2 =>
        cases rx
        obtain ⟨_, its1, _, o1, e1, c1, n1, d1⟩ := I.hok _ _ h1
        cases ry
        obtain ⟨_, its2, n2, _, e2⟩ := I.hok _ _ h2
        rcases hop with rfl | rfl
        · exact (SeqAt.RcAt.tuple_list ⟨_, e1, c1, _, d1⟩ ⟨_, e2, rfl, _, rfl⟩ hu) X.prog X.w X.xe _ ⟨rfl, H, I, Ext.rfl'⟩
        · exact (SeqAt.RcNeAt.tuple_list ⟨_, e1, c1, _, d1⟩ ⟨_, e2, rfl, _, rfl⟩ hu) X.prog X.w X.xe _ ⟨rfl, H, I, Ext.rfl'⟩
      | @tup c ys h2 => cases ap
      | dic h2 => exact key _ _ h2 ry ap
    | dic h1 => cases hy <;> cases ap
  | @own _ a C dx fs _ t _ ha o ty nf2 same hs =>
    cases rx
    obtain ⟨hg, od, J⟩ := inst_of I ha
    exact GQ2.rc_own hu I.kIn J (looks_ty I ry ty) nf2 (try_own hop G sb1 I ha o ry hs fun s' H' I' e => ⟨_, rfl, rfl, H', I', e⟩)
  | @ownB _ c C dx fs _ T _ hx hc o hs =>
    cases ry
    obtain ⟨hg, od, J⟩ := inst_of I hc
    exact GQ2.rc_backs hop hu I.kIn (bt_type I hx rx) hg (bt_sub hx o) (fun q => bt_dec hop I hx rx hc o q) (try_own' hop G sb1 I hc o rx hs fun s' H' I' e => ⟨_, rfl, rfl, H', I', e⟩)
  | @ownF _ a c C0 C dx dy fs gs _ ha hc ne su o hs =>
    cases rx
    cases ry
    obtain ⟨hg, od, J⟩ := inst_of I ha
    obtain ⟨hg', od', J'⟩ := inst_of I hc
    exact GQ2.rc_first hu I.kIn J J' ne su (try_own' hop G sb1 I hc o (show RelV (.ref a) (.ref a) from rfl) hs fun s' H' I' e => ⟨_, rfl, rfl, H', I', e⟩)
end
end L2

set_option Elab.async false
set_option linter.all false
set_option maxRecDepth 100000
set_option maxHeartbeats 4000000
/-! Own layer: ==, !=, in, not in, list.count by the relation EqR, as expressions. -/
namespace L2
open ClX
open PySem PySem.Spec PyProof.Rows SeqAt
section
variable {X : Cx} {k n : Nat} {f : Addr} {ps : List Str} {sp : Sp} {A : Around} {pins : List (Addr × Obj)} {σ : St} {H : Hp} {s : Shared} {x y : V} {u v : Value} {b : Bool} {op : CmpOp}
theorem eqBool_two {M : Model} {E : Value → Shared → Prop} {Q : Bool → Shared → Prop} (hne : (u == v) = false) (hf : ∀ a t, u ≠ .float a t) (h : wpAny M A (richCompare .Eq u v) (fun r s' => ∃ b, r = .bool b ∧ Q b s') E s) : wpAny M A (eqBool u v) Q E s := by
  unfold eqBool
  refine wpAny_holding ?_
  refine wpAny_ite_split (fun hab => by rw [hne] at hab; cases hab) (fun _ => ?_)
  have fin : wpAny M A (truthOfDropped =<< richCompare .Eq u v) Q E s := wpAny_bind (wpAny_mono h (fun r s' q => by
    obtain ⟨b, rfl, q⟩ := q
    exact wpAny_truthy_bool q) fun _ _ x => x)
  cases u with
  | float a t => exact absurd rfl (hf a t)
  | _ => exact fin
theorem rel_ne (hne : x ≠ y) (nf : flatV x = false ∨ flatV y = false) (ty : ∀ a, x ≠ .flt a) (rx : RelV x u) (ry : RelV y v) : (u == v) = false := by
  cases x with
  | ref a =>
    cases rx
    cases y with
    | ref c => cases ry; exact beq_eq_false_iff_ne.mpr fun e => hne (by injection e with e; rw [e])
    | non => cases ry; rfl
    | bl b => cases ry; rfl
    | int i => obtain ⟨t, rfl⟩ := ry; rfl
    | str z => obtain ⟨t, rfl⟩ := ry; rfl
    | byt z => obtain ⟨t, rfl⟩ := ry; rfl
    | flt z => obtain ⟨t, rfl⟩ := ry; rfl
    | ty n => cases ry; rfl
  | non =>
    cases rx
    cases y with
    | ref c => cases ry; rfl
    | non => exact absurd rfl hne
    | bl b => cases ry; rfl
    | int i => obtain ⟨t, rfl⟩ := ry; rfl
    | str z => obtain ⟨t, rfl⟩ := ry; rfl
    | byt z => obtain ⟨t, rfl⟩ := ry; rfl
    | flt z => obtain ⟨t, rfl⟩ := ry; rfl
    | ty n => cases ry; rfl
  | bl p =>
    cases rx
    cases y with
    | ref c => cases ry; rfl
    | bl b => rcases nf with z | z <;> cases z
    | non => cases ry; rfl
    | int i => obtain ⟨t, rfl⟩ := ry; rfl
    | str z => obtain ⟨t, rfl⟩ := ry; rfl
    | byt z => obtain ⟨t, rfl⟩ := ry; rfl
    | flt z => obtain ⟨t, rfl⟩ := ry; rfl
    | ty n => cases ry; rfl
  | int p =>
    obtain ⟨t, rfl⟩ := rx
    cases y with
    | ref c => cases ry; rfl
    | int i => rcases nf with z | z <;> cases z
    | non => cases ry; rfl
    | bl b => cases ry; rfl
    | str z => obtain ⟨t, rfl⟩ := ry; rfl
    | byt z => obtain ⟨t, rfl⟩ := ry; rfl
    | flt z => obtain ⟨t, rfl⟩ := ry; rfl
    | ty n => cases ry; rfl
  | str p =>
    obtain ⟨t, rfl⟩ := rx
    cases y with
    | ref c => cases ry; rfl
    | str i => rcases nf with z | z <;> cases z
    | non => cases ry; rfl
    | bl b => cases ry; rfl
    | int z => obtain ⟨t, rfl⟩ := ry; rfl
    | byt z => obtain ⟨t, rfl⟩ := ry; rfl
    | flt z => obtain ⟨t, rfl⟩ := ry; rfl
    | ty n => cases ry; rfl
  | byt p =>
    obtain ⟨t, rfl⟩ := rx
    cases y with
    | ref c => cases ry; rfl
    | str z => obtain ⟨t, rfl⟩ := ry; rfl
    | non => cases ry; rfl
    | bl b => cases ry; rfl
    | int z => obtain ⟨t, rfl⟩ := ry; rfl
    | byt z => obtain ⟨t, rfl⟩ := ry; exact beq_eq_false_iff_ne.mpr fun e => hne (by injection e with e; rw [e])
    | flt z => obtain ⟨t, rfl⟩ := ry; rfl
    | ty n => cases ry; rfl
  | flt p => exact absurd rfl (ty p)
  | ty n =>
    cases rx
    cases y with
    | ref c => cases ry; rfl
    | str z => obtain ⟨t, rfl⟩ := ry; rfl
    | non => cases ry; rfl
    | bl b => cases ry; rfl
    | int z => obtain ⟨t, rfl⟩ := ry; rfl
    | byt z => obtain ⟨t, rfl⟩ := ry; rfl
    | flt z => obtain ⟨t, rfl⟩ := ry; rfl
    | ty m => cases ry; exact beq_eq_false_iff_ne.mpr fun e => hne (by injection e with e; rw [e])
theorem EqR.noFlt (h : EqR X.K f sp H n x y b) : ∀ a, x ≠ .flt a := fun a e => by
  subst e
  cases h with
  | flat fx _ => cases fx
  | kinds hx _ _ => cases hx
  | ownB hx _ _ _ => cases hx
theorem eqR_S (G : Ok1 X.prog X.w X.K X.mg X.base k f ps sp) : ∀ n, EqSAt X f sp k n := by
  intro n
  induction n with
  | zero =>
    intro H x y b h A pins σ s u v sb I rx ry
    by_cases nf : flatV x = true ∧ flatV y = true
    · rw [ne_flags h nf.1 nf.2]
      exact (eqAt_V rx ry nf.1 nf.2) X.prog X.w X.xe _ ⟨rfl, H, I, Ext.rfl'⟩
    have nf : flatV x = false ∨ flatV y = false := by
      cases e : flatV x <;> cases e2 : flatV y <;> simp_all
    by_cases exy : x = y
    · have hb := h.refl exy
      subst hb exy
      have ha : flatV x = false := nf.elim id id
      cases x with
      | ref a => cases rx; cases ry; exact SeqAt.EqAt.same (A := A) (s := s) (.ref a) X.prog X.w X.xe _ ⟨rfl, H, I, Ext.rfl'⟩
      | non => cases ha
      | bl b => cases ha
      | int b => cases ha
      | str b => cases ha
      | flt b => exact absurd rfl (h.noFlt b)
      | byt b => cases h
      | ty b => cases h
    refine eqBool_two (rel_ne exy nf h.noFlt rx ry) (fun a t e => ?_) (wpAny_mono (rcS (.inl rfl) G (fun m e => by cases e) h nf sb I rx ry) (fun r s' q => ⟨b, q.1, rfl, q.2⟩) fun _ _ z => z)
    subst e
    cases x with
    | flt c => exact h.noFlt c rfl
    | non => cases rx
    | bl b => cases rx
    | ref a => cases rx
    | ty a => cases rx
    | int i => obtain ⟨_, z⟩ := rx; cases z
    | str i => obtain ⟨_, z⟩ := rx; cases z
    | byt i => obtain ⟨_, z⟩ := rx; cases z
  | succ n ih =>
    intro H x y b h A pins σ s u v sb I rx ry
    by_cases nf : flatV x = true ∧ flatV y = true
    · rw [ne_flags h nf.1 nf.2]
      exact (eqAt_V rx ry nf.1 nf.2) X.prog X.w X.xe _ ⟨rfl, H, I, Ext.rfl'⟩
    have nf : flatV x = false ∨ flatV y = false := by
      cases e : flatV x <;> cases e2 : flatV y <;> simp_all
    by_cases exy : x = y
    · have hb := h.refl exy
      subst hb exy
      have ha : flatV x = false := nf.elim id id
      cases x with
      | ref a => cases rx; cases ry; exact SeqAt.EqAt.same (A := A) (s := s) (.ref a) X.prog X.w X.xe _ ⟨rfl, H, I, Ext.rfl'⟩
      | non => cases ha
      | bl b => cases ha
      | int b => cases ha
      | str b => cases ha
      | flt b => exact absurd rfl (h.noFlt b)
      | byt b => cases h
      | ty b => cases h
    refine eqBool_two (rel_ne exy nf h.noFlt rx ry) (fun a t e => ?_) (wpAny_mono (rcS (.inl rfl) G (fun m e => by cases e; exact ih) h nf sb I rx ry) (fun r s' q => ⟨b, q.1, rfl, q.2⟩) fun _ _ z => z)
    subst e
    cases x with
    | flt c => exact h.noFlt c rfl
    | non => cases rx
    | bl b => cases rx
    | ref a => cases rx
    | ty a => cases rx
    | int i => obtain ⟨_, z⟩ := rx; cases z
    | str i => obtain ⟨_, z⟩ := rx; cases z
    | byt i => obtain ⟨_, z⟩ := rx; cases z
end
/-- x == y, x != y -/
def rEqQ (K : PySem.W.Frag) (f : Addr) (sp : Sp) (m : Nat) : R2 := fun x y H Q => ∃ b, EqR K f sp H m x y b ∧ (flatV x = false ∨ flatV y = false) ∧ ∀ H', Ext H H' → Q (.bl b) H'
def rNeQ (K : PySem.W.Frag) (f : Addr) (sp : Sp) (m : Nat) : R2 := fun x y H Q => ∃ b, EqR K f sp H m x y b ∧ (flatV x = false ∨ flatV y = false) ∧ ∀ H', Ext H H' → Q (.bl (!b)) H'
/-- x in ys, x not in ys -/
def rInQ (K : PySem.W.Frag) (f : Addr) (sp : Sp) (m : Nat) (neg : Bool) : R2 := fun x y H Q => ∃ (a : Addr) (ys : List V) (e : Nat → Bool), y = .ref a ∧ H a = some (.lst ys) ∧ (∀ i z, ys[i]? = some z → EqR K f sp H m z x (e i)) ∧
  ∀ H', Ext H H' → Q (.bl (neg != (List.range ys.length).any e)) H'
section
variable {X : Cx} {k n m : Nat} {f : Addr} {ps : List Str} {sp : Sp}
theorem op_eqQ (G : Ok1 X.prog X.w X.K X.mg X.base k f ps sp) (hr : Room (m + k + 1) X.A) : OpR X (compareOp .Eq) (rEqQ X.K f sp m) := by
  rintro pins s σ H x y v u Q I rx ry ⟨b, h, nf, q⟩
  show wpAny (model X.prog X.w) X.A (richCompare .Eq v u) (EP X pins σ Q) X.xe s
  refine wpAny_mono (rcS (.inl rfl) G (fun m _ => eqR_S G m) h nf ⟨hr, rfl⟩ I rx ry) (fun r s' z => ?_) fun _ _ x => x
  obtain ⟨rfl, H', I', e⟩ := z
  exact ⟨.bl b, H', I', rfl, q H' e⟩
theorem op_neQ (G : Ok1 X.prog X.w X.K X.mg X.base k f ps sp) (hr : Room (m + k + 1) X.A) : OpR X (compareOp .NotEq) (rNeQ X.K f sp m) := by
  rintro pins s σ H x y v u Q I rx ry ⟨b, h, nf, q⟩
  show wpAny (model X.prog X.w) X.A (richCompare .NotEq v u) (EP X pins σ Q) X.xe s
  refine wpAny_mono (rcS (.inr rfl) G (fun m _ => eqR_S G m) h nf ⟨hr, rfl⟩ I rx ry) (fun r s' z => ?_) fun _ _ x => x
  obtain ⟨rfl, H', I', e⟩ := z
  exact ⟨.bl (!b), H', I', rfl, q H' e⟩
theorem in_turns (G : Ok1 X.prog X.w X.K X.mg X.base k f ps sp) (hr : Room (m + k + 2) X.A) {pins : List (Addr × Obj)} {σ : St} {H : Hp} {a : Addr} {ys : List V} {e : Nat → Bool} {x : V} {v : Value} (ha : H a = some (.lst ys)) (p : ∀ i z, ys[i]? = some z → EqR X.K f sp H m z x (e i)) (rx : RelV x v) :
    GQ2.InI X.prog X.w X.A X.xe a v ys.length e (Kept X pins σ H) := fun s' q => by
  obtain ⟨H1, I1, x1⟩ := id q
  obtain ⟨_, its, k1, r, e1⟩ := I1.hok a _ (x1 _ _ ha)
  refine ⟨its.toArray, k1, e1, by rw [List.size_toArray, ← r.length], fun i h1 => ?_⟩
  have g1 : its[i]? = some its.toArray[i] := by
    have h1' : i < its.length := by simpa using h1
    rw [List.getElem?_eq_getElem h1'] <;> simp
  have k1 : i < ys.length := by rw [r.length]; simpa using h1
  obtain ⟨u, hu, ru⟩ := r.get (List.getElem?_eq_getElem k1)
  rw [g1] at hu
  rw [Option.some.inj hu]
  refine wpAny_mono (eqR_S G m H1 _ _ _ ((p i _ (List.getElem?_eq_getElem k1)).ext x1) X.A.in1 pins σ s' u v (Sub.in1 ⟨hr, rfl⟩) I1 ru rx) (fun r s2 z => ?_) fun _ _ z => z
  obtain ⟨hr, H2, I2, e2⟩ := z
  exact ⟨hr, H2, I2, x1.trans e2⟩
theorem op_inQ (G : Ok1 X.prog X.w X.K X.mg X.base k f ps sp) (hr : Room (m + k + 2) X.A) : OpR X (compareOp .In) (rInQ X.K f sp m false) := by
  rintro pins s σ H x y v u Q I rx ry ⟨a, ys, e, rfl, ha, p, q⟩
  cases ry
  obtain ⟨_, its, n1, r, e1⟩ := I.hok a _ ha
  show wpAny _ _ (do return Value.bool (← contains (.ref a) v)) _ _ s
  refine wpAny_bind (wpAny_contains_slot ⟨_, e1, rfl⟩ PySem.F.slot_list_contains (wpAny_mono (GQ.call_here PySem.F.slot_list_contains ⟨_, e1, rfl⟩ PySem.F.entry_list_contains (PySem.F.args_list_contains_2 _ _)
    (GQ2.list_inB (R := wants (fun r s' => ∃ b, r = .bool b ∧ b = (List.range ys.length).any e ∧ Kept X pins σ H s') X.xe) a v ys.length e (Kept X pins σ H) (in_turns G hr ha p rx) (fun s' z => ⟨_, rfl, rfl, z⟩) ⟨H, I, Ext.rfl'⟩)) (fun r s' z => ?_) fun _ _ e => e))
  obtain ⟨b, rfl, rfl, H', I', e'⟩ := z
  refine wpAny_truthy_bool (wpAny_pure ⟨.bl _, H', I', rfl, ?_⟩)
  have z := q H' e'
  rw [Bool.false_bne] at z
  exact z
theorem op_ninQ (G : Ok1 X.prog X.w X.K X.mg X.base k f ps sp) (hr : Room (m + k + 2) X.A) : OpR X (compareOp .NotIn) (rInQ X.K f sp m true) := by
  rintro pins s σ H x y v u Q I rx ry ⟨a, ys, e, rfl, ha, p, q⟩
  cases ry
  obtain ⟨_, its, n1, r, e1⟩ := I.hok a _ ha
  show wpAny _ _ (do return Value.bool (!(← contains (.ref a) v))) _ _ s
  refine wpAny_bind (wpAny_contains_slot ⟨_, e1, rfl⟩ PySem.F.slot_list_contains (wpAny_mono (GQ.call_here PySem.F.slot_list_contains ⟨_, e1, rfl⟩ PySem.F.entry_list_contains (PySem.F.args_list_contains_2 _ _)
    (GQ2.list_inB (R := wants (fun r s' => ∃ b, r = .bool b ∧ b = (List.range ys.length).any e ∧ Kept X pins σ H s') X.xe) a v ys.length e (Kept X pins σ H) (in_turns G hr ha p rx) (fun s' z => ⟨_, rfl, rfl, z⟩) ⟨H, I, Ext.rfl'⟩)) (fun r s' z => ?_) fun _ _ e => e))
  obtain ⟨b, rfl, rfl, H', I', e'⟩ := z
  refine wpAny_truthy_bool (wpAny_pure ⟨.bl _, H', I', rfl, ?_⟩)
  have z := q H' e'
  rw [Bool.true_bne] at z
  exact z
/-- ys.count(x) -/
def rCntQ (K : PySem.W.Frag) (f : Addr) (sp : Sp) (m : Nat) : V → List V → Hp → VK → Prop := fun y xs H Q => ∃ (a : Addr) (x : V) (ys : List V) (e : Nat → Bool), y = .ref a ∧ xs = [x] ∧ H a = some (.lst ys) ∧ (∀ i z, ys[i]? = some z → EqR K f sp H m z x (e i)) ∧
  ∀ H', Ext H H' → Q (.int (((List.range ys.length).countP e : Nat) : Int)) H'
theorem mt_countQ (G : Ok1 X.prog X.w X.K X.mg X.base k f ps sp) (hr : Room (m + k + 2) X.A) : MtR X "list.count" (rCntQ X.K f sp m) := by
  rintro pins s σ H y xs v us Q I ry rxs ⟨a, x, ys, e, rfl, rfl, ha, p, q⟩
  obtain rfl : v = .ref a := ry
  obtain ⟨u, rfl, ru⟩ := Vals.one rxs
  obtain ⟨_, its, n1, r, e1⟩ := I.hok a _ ha
  refine GQ.call_here PySem.F.slot_list_count ⟨_, e1, rfl⟩ PySem.F.entry_list_count (PySem.F.args_list_count_2 _ _) ?_
  refine GQ2.list_countB (R := wants _ X.xe) a u ys.length e (Kept X pins σ H) (in_turns G hr ha p ru) (fun s' t z => ?_) ⟨H, I, Ext.rfl'⟩
  obtain ⟨H', I', e'⟩ := z
  exact ⟨V.int _, H', Inv.tok I' (s'.toks + 1), ⟨t, rfl⟩, q H' e'⟩
end
end L2

set_option Elab.async false
set_option linter.all false
set_option maxRecDepth 100000
set_option maxHeartbeats 4000000
/-! Own layer: ==, !=, in, count over data with records in it. -/
namespace PD
open L2 ClX
open PySem PySem.Spec PyProof.Rows
/-- a record against anything -/
def eqRw (c : Kd) (x : Str) (n : Int) (d : D) : Bool := match d with
  | .row u y m => decide (c = u) && (decide (x = y) && decide (n = m))
  | _ => false
def isRow : D → Bool
  | .row _ _ _ => true
  | _ => false
def zipAll (g : D → D → Bool) (as bs : List D) : Bool := (as.zip bs).all fun p => g p.1 p.2
/-- what == answers, down to a depth -/
def eqG : Nat → D → D → Bool
  | k, a, b => match a with
    | .row c x n => eqRw c x n b
    | .lst as => (match b with
      | .lst bs => (match k with
        | 0 => false
        | j + 1 => decide (as.length = bs.length) && zipAll (eqG j) as bs)
      | _ => false)
    | .tup as => (match b with
      | .tup bs => (match k with
        | 0 => false
        | j + 1 => decide (as.length = bs.length) && zipAll (eqG j) as bs)
      | _ => false)
    | _ => flat1 a && (flat1 b && eqD a b)
def okR (b : D) : Bool := match b with
  | .lst _ => true
  | .tup _ => true
  | .row c x n => tyB (.row c x n)
  | .dic _ => true
  | _ => flat1 b
/-- what it is told of -/
def okG : Nat → D → D → Bool
  | k, a, b => match a with
    | .row c x n => tyB (.row c x n) && tyB b
    | .lst as => (match b with
      | .lst bs => (match k with
        | 0 => false
        | j + 1 => zipAll (okG j) as bs)
      | .tup _ => true
      | .row c x n => tyB (.row c x n)
      | .dic _ => true
      | _ => flat1 b)
    | .tup as => (match b with
      | .tup bs => (match k with
        | 0 => false
        | j + 1 => zipAll (okG j) as bs)
      | .lst _ => true
      | .row c x n => tyB (.row c x n)
      | .dic _ => true
      | _ => flat1 b)
    | .dic _ => isRow b && tyB b
    | _ => flat1 a && okR b
/-- what an own == promises: a record of one of the kinds, any other value of a type -/
def spEqG (K : PySem.W.Frag) (cad : Cn → Addr) : Sp := fun vs H Q _ => ∃ (F : Hp) (a dx : Addr) (c : Kd) (x : Str) (n : Int) (v : V) (d : D), vs = [.ref a, v] ∧ SOk x ∧ H a = some (.ins (cad c.cn) dx (rfs x n)) ∧ Same F H ∧ Rep K cad F v d ∧ tyB d = true ∧ ∀ H', Same H H' → Q (.bl (eqRw c x n d)) H'
/-- what the classes of records are to == -/
structure EqT (K : PySem.W.Frag) (cad : Cn → Addr) (f : Addr) : Prop where
  rt : RowT K cad
  own : ∀ k : Kd, OwnC K (cad k.cn) f
  nb : ∀ (k : Kd) (t : Bt), PySem.W.notFirst K (cad k.cn) (.type t.nm) = true
  nf : ∀ k u : Kd, PySem.W.notFirst K (cad k.cn) (.ref (cad u.cn)) = true ∨ (cad k.cn ≠ cad u.cn ∧ PySem.W.subIn K (.ref (cad u.cn)) (.ref (cad k.cn)) = some true)
  inj : ∀ k u : Kd, cad k.cn = cad u.cn → k = u
section
variable {K : PySem.W.Frag} {cad : Cn → Addr} {f : Addr} {R F H : Hp} {pars : List V} {δ : DEnv} {σ : L2.St}
theorem View.all (sF : Same F H) {v : V} {d : D} (h : View K cad F H v d) : Rep K cad H v d := by
  cases h with
  | rep h => exact h.same sF
  | lst h t => exact .lst h (t.same sF)
  | dic h t => exact .dic (.inl h) (t.same sF)
  | row h hx => exact .row h hx
theorem rfs_inj {x y : Str} {n m : Int} (h : rfs x n = rfs y m) : x = y ∧ n = m := by
  unfold rfs at h
  simp only [List.cons.injEq, Prod.mk.injEq, true_and, and_true, V.str.injEq, V.int.injEq] at h
  exact h
theorem flat_v0 {v : V} {d : D} (h : Rep K cad F v d) (f : flat1 d = false) : flatV v = false := by
  cases h with
  | non => cases f
  | bl b => cases f
  | int i => cases f
  | str x _ => cases f
  | _ => rfl
theorem flat_v1 {v : V} {d : D} (h : Rep K cad H v d) (f : flat1 d = true) : flatV v = true ∧ ∃ T, BtV H v T ∧ (∀ S, S = "list" ∨ S = "tuple" → apart S T = true ∧ apart T S = true) := by
  cases h with
  | non => exact ⟨rfl, _, .non, fun S hS => by rcases hS with rfl | rfl <;> decide⟩
  | bl b => exact ⟨rfl, _, .bl b, fun S hS => by rcases hS with rfl | rfl <;> decide⟩
  | int i => exact ⟨rfl, _, .int i, fun S hS => by rcases hS with rfl | rfl <;> decide⟩
  | str x _ => exact ⟨rfl, _, .str x, fun S hS => by rcases hS with rfl | rfl <;> decide⟩
  | _ => exact absurd f Bool.false_ne_true
theorem row_at {a dx : Addr} {c : Kd} {x : Str} {n : Int} {d : D} (T : EqT K cad f) (h : Rep K cad H (.ref a) d) (t : tyB d = true) (ha : H a = some (.ins (cad c.cn) dx (rfs x n))) : d = .row c x n := by
  cases h with
  | lst h => rw [h] at ha; cases ha
  | tup h => rw [h] at ha; cases ha
  | dic h => rcases h with h | ⟨_, h⟩ <;> (rw [h] at ha; cases ha)
  | @row _ dx2 c2 x2 n2 h hx =>
    rw [h] at ha
    injection ha with ha
    injection ha with e1 e2 e3
    obtain ⟨rfl, rfl⟩ := rfs_inj e3
    rw [T.inj _ _ e1]
  | err h => rw [h] at ha; cases ha
  | errF h => rw [h] at ha; cases ha
  | scr h => cases t
theorem rep_own {a : Addr} {dx : Addr} {c : Kd} {x : Str} {n : Int} {v : V} {d : D} (ok : SOk x) (ha : H a = some (.ins (cad c.cn) dx (rfs x n))) (h : Rep K cad H v d) (t : tyB d = true) : ∀ H0, L2.Ext H H0 → spEqG K cad [.ref a, v] H0 (fun r H' => r = .bl (eqRw c x n d) ∧ L2.Ext H0 H') E0 := fun H0 e => ⟨H, a, dx, c, x, n, v, d, rfl, ok, e _ _ ha, e, h, t, fun H' s => ⟨rfl, s⟩⟩
theorem zip_get {g : D → D → Bool} {as bs : List D} (h : zipAll g as bs = true) {i : Nat} {a b : D} (ha : as[i]? = some a) (hb : bs[i]? = some b) : g a b = true := by
  unfold zipAll at h
  rw [List.all_eq_true] at h
  refine h (a, b) ?_
  refine List.mem_of_getElem? (i := i) ?_
  rw [List.getElem?_zip_eq_some]
  exact ⟨ha, hb⟩
def pairE (g : D → D → Bool) (as bs : List D) (i : Nat) : Bool := match as[i]?, bs[i]? with
  | some a, some b => g a b
  | _, _ => true
theorem zip_range (g : D → D → Bool) (as bs : List D) : (List.range (min as.length bs.length)).all (pairE g as bs) = zipAll g as bs := by
  rw [Bool.eq_iff_iff, List.all_eq_true]
  unfold zipAll
  rw [List.all_eq_true]
  constructor
  · rintro h ⟨a, b⟩ hm
    obtain ⟨i, hi⟩ := List.mem_iff_getElem?.mp hm
    rw [List.getElem?_zip_eq_some] at hi
    have l1 := (List.getElem?_eq_some_iff.mp hi.1).1
    have l2 := (List.getElem?_eq_some_iff.mp hi.2).1
    have := h i (List.mem_range.mpr (by omega))
    unfold pairE at this
    rw [hi.1, hi.2] at this
    exact this
  · intro h i hi
    unfold pairE
    split
    · rename_i a b ha hb
      exact h (a, b) (List.mem_of_getElem? (i := i) (List.getElem?_zip_eq_some.mpr ⟨ha, hb⟩))
    · rfl
theorem rep_bt {v : V} {d : D} (h : Rep K cad H v d) (t : tyB d = true) (nr : isRow d = false) : ∃ T, BtV H v T := by
  cases h with
  | non => exact ⟨_, .non⟩
  | bl b => exact ⟨_, .bl b⟩
  | int i => exact ⟨_, .int i⟩
  | str x _ => exact ⟨_, .str x⟩
  | lst h _ => exact ⟨_, .lst h⟩
  | tup h _ => exact ⟨_, .tup h⟩
  | dic h _ => exact ⟨_, .dic h⟩
  | row => cases nr
  | err => cases t
  | errF => cases t
  | scr => cases t
theorem eqRw_self (c : Kd) (x : Str) (n : Int) : eqRw c x n (.row c x n) = true := by
  show (decide (c = c) && (decide (x = x) && decide (n = n))) = true
  simp
/-- a record on the left -/
theorem eq_row {k : Nat} {a dx : Addr} {c : Kd} {x : Str} {n : Int} {w : V} {d : D} (T : EqT K cad f) (ok : SOk x) (ha : H a = some (.ins (cad c.cn) dx (rfs x n))) (h : Rep K cad H w d) (t : tyB d = true) (t0 : tyB (.row c x n) = true) : EqR K f (spEqG K cad) H k (.ref a) w (eqRw c x n d) := by
  have same : w = .ref a → eqRw c x n d = true := fun e => by
    subst e
    rw [row_at T h t ha]
    exact eqRw_self c x n
  cases er : isRow d with
  | false =>
    obtain ⟨u, eu⟩ := ty_some t
    have ty := ty_of T.rt (Same.refl H) (View.rep h) eu
    have nf : PySem.W.notFirst K (cad c.cn) (tvK cad u) = true := by
      cases u with
      | b u => exact T.nb c u
      | c u => cases d <;> first | (cases eu; done) | (cases er; done)
    exact .own ha (T.own c) ty nf same (rep_own ok ha h t)
  | true =>
    cases d with
    | row u y m =>
      have ty := ty_of T.rt (Same.refl H) (View.rep h) rfl
      obtain ⟨p, dp, rfl, hp, oy⟩ := h.rowI
      rcases T.nf c u with nf | ⟨ne, su⟩
      · exact .own ha (T.own c) ty nf same (rep_own ok ha h t)
      · have e : eqRw c x n (.row u y m) = eqRw u y m (.row c x n) := by
          show (decide (c = u) && (decide (x = y) && decide (n = m))) = (decide (u = c) && (decide (y = x) && decide (m = n)))
          rw [decide_eq_decide.mpr (eq_comm (a := c)), decide_eq_decide.mpr (eq_comm (a := x)), decide_eq_decide.mpr (eq_comm (a := n))]
        rw [e]
        exact .ownF ha hp ne su (T.own u) (rep_own oy hp (.row ha ok) t0)
    | _ => cases er
theorem isRow_bt {v : V} {d : D} (h : Rep K cad H v d) (nr : isRow d = false) (t : tyB d = true) : ∃ T, BtV H v T := rep_bt h t nr
/-- a record on the right, none on the left -/
theorem eq_rowB {k : Nat} {c : Kd} {x : Str} {n : Int} {v w : V} {d : D} (T : EqT K cad f) (h : Rep K cad H v d) (h' : Rep K cad H w (.row c x n)) (t : tyB d = true) (nr : isRow d = false) : EqR K f (spEqG K cad) H k v w false := by
  obtain ⟨p, dp, rfl, hp, oy⟩ := h'.rowI
  obtain ⟨S, hS⟩ := rep_bt h t nr
  have e : eqRw c x n d = false := by cases d <;> first | rfl | cases nr
  have z := rep_own oy hp h t
  rw [e] at z
  exact .ownB hS hp (T.own c) z
theorem seq_kinds {k : Nat} {v w : V} {S T : String} (hv : BtV H v S) (hw : BtV H w T) (a : apart S T = true) : EqR K f (spEqG K cad) H k v w false := .kinds hv hw a
theorem eq_flat0 {a b : D} (fa : flat1 a = true) (fb : flat1 b = true) {v w : V} {k : Nat} (h : Rep K cad H v a) (h' : Rep K cad H w b) : EqR K f (spEqG K cad) H k v w (eqD a b) := by
  have e := eq_v h fa h' fb
  rw [← e]
  exact .flat (flat_v1 h fa).1 (flat_v1 h' fb).1
theorem bt_lst {v : V} {ds : List D} (h : Rep K cad H v (.lst ds)) : BtV H v "list" := by
  obtain ⟨a, vs, rfl, e, _⟩ := h.lstI
  exact .lst e
theorem bt_tup {v : V} {ds : List D} (h : Rep K cad H v (.tup ds)) : BtV H v "tuple" := by
  obtain ⟨a, vs, rfl, e, _⟩ := h.tupI
  exact .tup e
theorem tyB_flat {d : D} (h : flat1 d = true) : tyB d = true ∧ isRow d = false := by
  cases d <;> first | exact ⟨rfl, rfl⟩ | exact absurd h Bool.false_ne_true
theorem seq_flat {k : Nat} {v w : V} {b : D} {S : String} (hS : S = "list" ∨ S = "tuple") (hv : BtV H v S) (h : Rep K cad H w b) (fb : flat1 b = true) : EqR K f (spEqG K cad) H k v w false ∧ EqR K f (spEqG K cad) H k w v false := by
  obtain ⟨_, T, hT, z⟩ := flat_v1 h fb
  exact ⟨.kinds hv hT (z S hS).1, .kinds hT hv (z S hS).2⟩
theorem pairs_at {j : Nat} {as bs : List D} {vs ws : List V} (ih : ∀ {a b : D} {v w : V}, okG j a b = true → Rep K cad H v a → Rep K cad H w b → EqR K f (spEqG K cad) H j v w (eqG j a b)) (o : zipAll (okG j) as bs = true) (r : Reps K cad H vs as) (r' : Reps K cad H ws bs) :
    ∀ i x y, vs[i]? = some x → ws[i]? = some y → EqR K f (spEqG K cad) H j x y (pairE (eqG j) as bs i) := fun i x y hx hy => by
  obtain ⟨a, ea, ra⟩ := r.getV hx
  obtain ⟨b, eb, rb⟩ := r'.getV hy
  unfold pairE
  rw [ea, eb]
  exact ih (zip_get o ea eb) ra rb
theorem bt_dic {v : V} {kvs : List (Key × D)} (h : Rep K cad H v (.dic kvs)) : BtV H v "dict" := by
  cases h with
  | dic h _ => exact .dic h
theorem flat_dct {v : V} {d : D} (h : Rep K cad H v d) (f : flat1 d = true) : ∃ T, BtV H v T ∧ apart T "dict" = true := by
  cases h with
  | non => exact ⟨_, .non, by decide⟩
  | bl b => exact ⟨_, .bl b, by decide⟩
  | int i => exact ⟨_, .int i, by decide⟩
  | str x _ => exact ⟨_, .str x, by decide⟩
  | _ => exact absurd f Bool.false_ne_true
theorem rep_eq (T : EqT K cad f) : ∀ (k : Nat) {a b : D} {v w : V}, okG k a b = true → Rep K cad H v a → Rep K cad H w b → EqR K f (spEqG K cad) H k v w (eqG k a b) := by
  have base : ∀ (k : Nat) {a b : D} {v w : V}, okG k a b = true → Rep K cad H v a → Rep K cad H w b → flat1 a = true → EqR K f (spEqG K cad) H k v w (eqG k a b) := fun k {a b v w} o ha hb fa => by
    have e : eqG k a b = (flat1 a && (flat1 b && eqD a b)) := by
      cases a <;> first | (unfold eqG; rfl) | exact absurd fa Bool.false_ne_true
    have z : okG k a b = (flat1 a && okR b) := by
      cases a <;> first | (unfold okG; rfl) | exact absurd fa Bool.false_ne_true
    rw [z, fa, Bool.true_and] at o
    have o2 : okR b = true := o
    rw [e, fa, Bool.true_and]
    cases fb : flat1 b with
    | true => rw [Bool.true_and]; exact eq_flat0 fa fb ha hb
    | false =>
      rw [Bool.false_and]
      cases b with
      | lst bs => exact (seq_flat (.inl rfl) (bt_lst hb) ha fa).2
      | tup bs => exact (seq_flat (.inr rfl) (bt_tup hb) ha fa).2
      | row c x n => exact eq_rowB T ha hb (tyB_flat fa).1 (tyB_flat fa).2
      | dic _ =>
        obtain ⟨_, hT, ap⟩ := flat_dct ha fa
        exact .kinds hT (bt_dic hb) ap
      | err _ _ => cases o2
      | scr _ => cases o2
      | _ => cases fb
  have rows : ∀ (k : Nat) {c : Kd} {x : Str} {n : Int} {b : D} {v w : V}, okG k (.row c x n) b = true → Rep K cad H v (.row c x n) → Rep K cad H w b → EqR K f (spEqG K cad) H k v w (eqG k (.row c x n) b) := fun k {c x n b v w} o ha hb => by
    have o : (tyB (.row c x n) && tyB b) = true := by unfold okG at o; exact o
    rw [Bool.and_eq_true] at o
    obtain ⟨p, dp, rfl, hp, oy⟩ := ha.rowI
    have z := eq_row (k := k) T oy hp hb o.2 o.1
    unfold eqG
    exact z
  have dics : ∀ (k : Nat) {kvs : List (Key × D)} {b : D} {v w : V}, okG k (.dic kvs) b = true → Rep K cad H v (.dic kvs) → Rep K cad H w b → EqR K f (spEqG K cad) H k v w (eqG k (.dic kvs) b) := fun k {kvs b v w} o ha hb => by
    have o : (isRow b && tyB b) = true := by unfold okG at o; exact o
    rw [Bool.and_eq_true] at o
    cases b with
    | row c x n =>
      have z := eq_rowB (k := k) T ha hb rfl rfl
      unfold eqG
      exact z
    | _ => cases o.1
  intro k
  induction k with
  | zero =>
    intro a b v w o ha hb
    cases a with
    | lst as =>
      cases b with
      | lst bs => unfold okG at o; cases o
      | tup bs => unfold eqG; exact .kinds (bt_lst ha) (bt_tup hb) rfl
      | row c x n => unfold eqG; exact eq_rowB T ha hb rfl rfl
      | dic _ => unfold eqG; exact .kinds (bt_lst ha) (bt_dic hb) rfl
      | err _ _ => unfold okG at o; cases o
      | scr _ => unfold okG at o; cases o
      | _ => unfold eqG; exact (seq_flat (.inl rfl) (bt_lst ha) hb rfl).1
    | tup as =>
      cases b with
      | tup bs => unfold okG at o; cases o
      | lst bs => unfold eqG; exact .kinds (bt_tup ha) (bt_lst hb) rfl
      | row c x n => unfold eqG; exact eq_rowB T ha hb rfl rfl
      | dic _ => unfold eqG; exact .kinds (bt_tup ha) (bt_dic hb) rfl
      | err _ _ => unfold okG at o; cases o
      | scr _ => unfold okG at o; cases o
      | _ => unfold eqG; exact (seq_flat (.inr rfl) (bt_tup ha) hb rfl).1
    | row c x n => exact rows 0 o ha hb
    | dic kvs => exact dics 0 o ha hb
    | err _ _ => unfold okG at o; cases o
    | scr _ => unfold okG at o; cases o
    | _ => exact base 0 o ha hb rfl
  | succ j ih =>
    intro a b v w o ha hb
    cases a with
    | lst as =>
      cases b with
      | lst bs =>
        have o : zipAll (okG j) as bs = true := by unfold okG at o; exact o
        obtain ⟨p, vs, rfl, ep, rp⟩ := ha.lstI
        obtain ⟨q, ws, rfl, eq, rq⟩ := hb.lstI
        have e : eqG (j + 1) (.lst as) (.lst bs) = (decide (as.length = bs.length) && zipAll (eqG j) as bs) := by unfold eqG; rfl
        rw [e]
        by_cases l : as.length = bs.length
        · rw [decide_eq_true l, Bool.true_and, ← zip_range, ← l, Nat.min_self, ← rp.len]
          exact .lists ep eq (by rw [rp.len, rq.len, l]) _ (pairs_at ih o rp rq)
        · rw [decide_eq_false l, Bool.false_and]
          exact .listsN ep eq (by rw [rp.len, rq.len]; exact l)
      | tup bs => unfold eqG; exact .kinds (bt_lst ha) (bt_tup hb) rfl
      | row c x n => unfold eqG; exact eq_rowB T ha hb rfl rfl
      | dic _ => unfold eqG; exact .kinds (bt_lst ha) (bt_dic hb) rfl
      | err _ _ => unfold okG at o; cases o
      | scr _ => unfold okG at o; cases o
      | _ => unfold eqG; exact (seq_flat (.inl rfl) (bt_lst ha) hb rfl).1
    | tup as =>
      cases b with
      | tup bs =>
        have o : zipAll (okG j) as bs = true := by unfold okG at o; exact o
        obtain ⟨p, vs, rfl, ep, rp⟩ := ha.tupI
        obtain ⟨q, ws, rfl, eq, rq⟩ := hb.tupI
        have e : eqG (j + 1) (.tup as) (.tup bs) = (decide (as.length = bs.length) && zipAll (eqG j) as bs) := by unfold eqG; rfl
        have z := EqR.tups (K := K) (f := f) (sp := spEqG K cad) ep eq _ (pairs_at ih o rp rq)
        rw [rp.len, rq.len, zip_range] at z
        rw [e, Bool.and_comm]
        exact z
      | lst bs => unfold eqG; exact .kinds (bt_tup ha) (bt_lst hb) rfl
      | row c x n => unfold eqG; exact eq_rowB T ha hb rfl rfl
      | dic _ => unfold eqG; exact .kinds (bt_tup ha) (bt_dic hb) rfl
      | err _ _ => unfold okG at o; cases o
      | scr _ => unfold okG at o; cases o
      | _ => unfold eqG; exact (seq_flat (.inr rfl) (bt_tup ha) hb rfl).1
    | row c x n => exact rows _ o ha hb
    | dic kvs => exact dics _ o ha hb
    | err _ _ => unfold okG at o; cases o
    | scr _ => unfold okG at o; cases o
    | _ => exact base _ o ha hb rfl
/-! ### the operators -/
def eqGOp (m : Nat) : DOp2 := fun a b Q => okG m a b = true ∧ (flat1 a = false ∨ flat1 b = false) ∧ Q (.bl (eqG m a b))
def neGOp (m : Nat) : DOp2 := fun a b Q => okG m a b = true ∧ (flat1 a = false ∨ flat1 b = false) ∧ Q (.bl (!eqG m a b))
def inGOp (m : Nat) (neg : Bool) : DOp2 := fun a b Q => lofD b fun ds => (ds.all fun z => okG m z a) = true ∧ Q (.bl (neg != ds.any fun z => eqG m z a))
theorem od_eqG {m : Nat} (T : EqT K cad f) : OpD K cad (rEqQ K f (spEqG K cad) m) (eqGOp m) := by
  intro R F pars δ σ H x y dx dy Q QD g vx vy h q
  obtain ⟨o, fl, h⟩ := h
  have hx := vx.all g.sF
  have hy := vy.all g.sF
  exact ⟨_, rep_eq T m o hx hy, fl.elim (fun z => .inl (flat_v0 hx z)) fun z => .inr (flat_v0 hy z), fun H' e => q _ _ F H' .refl (g.grow e) (.bl _) h⟩
theorem od_neG {m : Nat} (T : EqT K cad f) : OpD K cad (rNeQ K f (spEqG K cad) m) (neGOp m) := by
  intro R F pars δ σ H x y dx dy Q QD g vx vy h q
  obtain ⟨o, fl, h⟩ := h
  have hx := vx.all g.sF
  have hy := vy.all g.sF
  exact ⟨_, rep_eq T m o hx hy, fl.elim (fun z => .inl (flat_v0 hx z)) fun z => .inr (flat_v0 hy z), fun H' e => q _ _ F H' .refl (g.grow e) (.bl _) h⟩
def atE (g : D → Bool) (ds : List D) (i : Nat) : Bool := match ds[i]? with
  | some d => g d
  | none => false
theorem any_range (g : D → Bool) (ds : List D) : (List.range ds.length).any (atE g ds) = ds.any g := by
  rw [Bool.eq_iff_iff, List.any_eq_true, List.any_eq_true]
  constructor
  · rintro ⟨i, hi, h⟩
    unfold atE at h
    split at h
    · rename_i d e; exact ⟨d, List.mem_of_getElem? e, h⟩
    · cases h
  · rintro ⟨d, hd, h⟩
    obtain ⟨i, e⟩ := List.mem_iff_getElem?.mp hd
    exact ⟨i, List.mem_range.mpr (List.getElem?_eq_some_iff.mp e).1, by unfold atE; rw [e]; exact h⟩
theorem count_range (g : D → Bool) : ∀ ds : List D, (List.range ds.length).countP (atE g ds) = ds.countP g := by
  intro ds
  have key : ∀ n, n ≤ ds.length → (List.range n).countP (atE g ds) = (ds.take n).countP g := by
    intro n
    induction n with
    | zero => intro _; rfl
    | succ n ih =>
      intro h
      rw [List.range_succ, List.countP_append, ih (by omega), List.take_add_one, List.countP_append, List.getElem?_eq_getElem (show n < ds.length by omega)]
      have e : atE g ds n = g ds[n] := by
        unfold atE
        rw [List.getElem?_eq_getElem (show n < ds.length by omega)]
      rw [List.countP_singleton, e]
      show _ = _ + List.countP g [ds[n]]
      rw [List.countP_singleton]
  have z := key ds.length (Nat.le_refl _)
  rw [List.take_length] at z
  exact z
theorem od_inG {m : Nat} {neg : Bool} (T : EqT K cad f) : OpD K cad (rInQ K f (spEqG K cad) m neg) (inGOp m neg) := by
  intro R F pars δ σ H x y dx dy Q QD g vx vy h q
  obtain ⟨a, vs, ds, rfl, ha, r, o, h⟩ := lof_of g.sF vy h
  have hx := vx.all g.sF
  have r := r.same g.sF
  refine ⟨a, vs, atE (fun z => eqG m z dx) ds, rfl, ha, fun i z hz => ?_, fun H' e => ?_⟩
  · obtain ⟨d, ed, rd⟩ := r.getV hz
    unfold atE
    rw [ed]
    exact rep_eq T m (List.all_eq_true.mp o d (List.mem_of_getElem? ed)) rd hx
  · rw [r.len, any_range]
    exact q _ _ F H' .refl (g.grow e) (.bl _) h
def cntGOp (m : Nat) : DOpR := fun d as Q => lofD d fun ds => match as with
  | [x] => (ds.all fun z => okG m z x) = true ∧ Q (.int ((ds.countP fun z => eqG m z x : Nat) : Int))
  | _ => False
theorem md_countG {m : Nat} (T : EqT K cad f) : MtD K cad (rCntQ K f (spEqG K cad) m) (cntGOp m) := by
  intro R F pars δ σ H x d ws es Q QD g vx vs h q
  obtain ⟨a, us, ds, rfl, ha, r, h⟩ := lof_of g.sF vx h
  match es, vs, h with
  | [y], vs, h =>
    obtain ⟨v, rfl, vy⟩ := vs.one
    obtain ⟨o, h⟩ := h
    have hx := vy.all g.sF
    have r := r.same g.sF
    refine ⟨a, v, us, atE (fun z => eqG m z y) ds, rfl, rfl, ha, fun i z hz => ?_, fun H' e => ?_⟩
    · obtain ⟨d, ed, rd⟩ := r.getV hz
      unfold atE
      rw [ed]
      exact rep_eq T m (List.all_eq_true.mp o d (List.mem_of_getElem? ed)) rd hx
    · rw [r.len, count_range]
      exact q _ _ F H' .refl (g.grow e) (.int _) h
/-! ### a def that changes the index of a record and hands it back -/
def spSlot (K : PySem.W.Frag) (cad : Cn → Addr) : Sp := fun vs H Q _ => ∃ (p dx : Addr) (c : Kd) (x : Str) (n m : Int), vs = [.ref p, .int m] ∧ H p = some (.ins (cad c.cn) dx (rfs x n)) ∧ SOk x ∧ 0 ≤ m ∧ m ≤ 60 ∧ ∀ (H' : Hp) (dx' : Addr), H' p = some (.ins (cad c.cn) dx' (rfs x m)) → But p H H' → Q (.ref p) H'
def slotK (o : Ob) (s : Option Sl) (k : Kd → Str → Int → Prop) : Prop := match o with
  | .row c x _ => (match s with
    | some (.val (.int m)) => 0 ≤ m ∧ m ≤ 60 ∧ k c x m
    | _ => False)
  | _ => False
def dnSlot (f : DTN) (i : Nat) : DTN := fun δ Q QX => f δ (fun o δ1 => slotK o (dget δ1 i) fun c x m => Q (.row c x m) δ1) QX
theorem dn_slot {E : L2.St → XK} {t : TE} {f : DTN} {i : Nat} (h : DN K cad E t f) : DN K cad E (tCall (spSlot K cad) [] E0 (tCons t (tCons (tVar i) tNil))) (dnSlot f i) := fun R F pars δ σ H Q QD QX gd x hf q =>
  h R F pars δ σ H _ _ QX gd x hf fun o δ1 v F1 H1 s1 g1 h1 => by
    cases o with
    | row c z n =>
      have h1 : (match dget δ1 i with
        | some (.val (.int m)) => 0 ≤ m ∧ m ≤ 60 ∧ QD (.row c z m) δ1
        | _ => False) := h1
      cases e : dget δ1 i with
      | none => rw [e] at h1; exact h1.elim
      | some u =>
        rw [e] at h1
        match u, e, h1 with
        | .own _ _, _, h1 => exact h1.elim
        | .val (.int m), e, h1 =>
          obtain ⟨fp, g⟩ := id g1
          obtain ⟨w, ew, hw, _⟩ := g.sl (i + 1) _ e
          have hw : Rep K cad F1 w (.int m) := hw
          obtain rfl := hw.intI
          obtain ⟨v', e1, ⟨a, rfl, sS, ok, dx, ha⟩, _⟩ := g.sl 0 _ rfl
          cases e1
          refine ⟨.int m, ew, a, dx, c, z, n, m, rfl, ha, ok, h1.1, h1.2.1, fun H' dx2 hp bt => ?_⟩
          have g2 := g1.write (n := 0) (o' := .row c z m) (H' := H') rfl rfl fun a' S e2 h' => by
            cases e2
            obtain ⟨s', ok', dx', ha'⟩ := h'
            rw [ha] at ha'
            cases ha'
            refine ⟨⟨s', ok, dx2, hp⟩, fun b u nb eb => bt b u eb fun zz => nb ((s' b).mpr zz), fun b hb => ?_⟩
            rw [(s' b).mp hb]
            exact ⟨_, hp⟩
          exact q (.row c z m) δ1 _ F1 H' s1 g2 h1.2.2
        | .val .non, _, h1 => exact h1.elim
        | .val (.bl _), _, h1 => exact h1.elim
        | .val (.str _), _, h1 => exact h1.elim
        | .val (.lst _), _, h1 => exact h1.elim
        | .val (.tup _), _, h1 => exact h1.elim
        | .val (.dic _), _, h1 => exact h1.elim
        | .val (.row _ _ _), _, h1 => exact h1.elim
        | .val (.err _ _), _, h1 => exact h1.elim
        | .val (.scr _), _, h1 => exact h1.elim
    | _ => exact h1.elim
end
end PD

set_option Elab.async false
set_option linter.all false
set_option maxRecDepth 100000
set_option maxHeartbeats 4000000
/-! Own layer: repr of data as a text, and when it can be had. -/
namespace PD
open L2 ClX
open PySem PySem.Spec PyProof.Rows
/-! ### a shown text has no odd signs -/
theorem char_lt (c : Char) : c.toNat < 0x110000 := by
  have h := c.valid
  have e : c.toNat = c.val.toNat := rfl
  rcases h with h | h <;> omega
def okT (x : Str) : Prop := ∀ c ∈ x.cps.toList, c < 0x110000
theorem okT_of {x : Str} (h : PyData.strOk x = true) : okT x := fun c hc => by
  unfold PyData.strOk at h
  rw [Array.all_eq_true'] at h
  exact of_decide_eq_true (h c (Array.mem_toList_iff.mp hc))
theorem okT_to {x : Str} (h : okT x) : PyData.strOk x = true := by
  unfold PyData.strOk
  rw [Array.all_eq_true']
  exact fun c hc => decide_eq_true (h c (Array.mem_toList_iff.mpr hc))
theorem okT_app {x y : Str} (hx : okT x) (hy : okT y) : okT (x ++ y) := fun c hc => by
  have hc : c ∈ (x.cps ++ y.cps).toList := hc
  rw [Array.toList_append, List.mem_append] at hc
  exact hc.elim (hx c) (hy c)
theorem okT_lit (s : String) : okT (Str.ofString s) := fun c hc => by
  rw [Str.ofString_eq_toList] at hc
  have hc : c ∈ s.toList.map Char.toNat := hc
  obtain ⟨k, _, rfl⟩ := List.mem_map.mp hc
  exact char_lt k
theorem okC_repr {q c : Nat} (hc : c < 0x110000) : ∀ k ∈ Builtin.Str.reprChar q c, k < 0x110000 := by
  have hex : ∀ (n : Nat), ∀ k ∈ (List.replicate (n - ((Nat.toDigits 16 c).map Char.toNat).length) 48 ++ (Nat.toDigits 16 c).map Char.toNat), k < 0x110000 := fun n k hk => by
    rcases List.mem_append.mp hk with h | h
    · rw [(List.mem_replicate.mp h).2]; decide
    · obtain ⟨d, _, rfl⟩ := List.mem_map.mp h
      exact char_lt d
  intro k hk
  unfold Builtin.Str.reprChar at hk
  dsimp only at hk
  repeat' split at hk
  all_goals first
    | (simp only [List.mem_cons, List.not_mem_nil, or_false] at hk; rcases hk with rfl | rfl <;> omega)
    | (simp only [List.mem_cons, List.not_mem_nil, or_false] at hk; subst hk; omega)
    | (rcases List.mem_append.mp hk with h | h
       · simp only [List.mem_cons, List.not_mem_nil, or_false] at h
         rcases h with rfl | rfl <;> omega
       · exact hex _ k h)
theorem okT_repr {x : Str} (h : okT x) : okT (reprText x) := by
  have q : reprQuote x < 0x110000 := by unfold reprQuote; split <;> decide
  have key : ∀ (l : List Nat) (acc : Array Nat), (∀ c ∈ l, c < 0x110000) → (∀ c ∈ acc.toList, c < 0x110000) → ∀ c ∈ (l.foldl (fun out c => out ++ (Builtin.Str.reprChar (reprQuote x) c).toArray) acc).toList, c < 0x110000 := by
    intro l
    induction l with
    | nil => intro acc _ ha; exact ha
    | cons d l ih =>
      intro acc hl ha
      refine ih _ (fun c hc => hl c (List.mem_cons_of_mem _ hc)) fun c hc => ?_
      rw [Array.toList_append, List.mem_append] at hc
      exact hc.elim (ha c) (okC_repr (hl d List.mem_cons_self) c)
  intro c hc
  unfold reprText at hc
  rw [Array.toList_push, List.mem_append, ← Array.foldl_toList] at hc
  rcases hc with hc | hc
  · refine key _ _ h (fun c hc => ?_) c hc
    have : c = reprQuote x := by simpa using hc
    rw [this]; exact q
  · have : c = reprQuote x := by simpa using hc
    rw [this]; exact q
theorem okT_from : ∀ (ts : List Str) (k : Nat) (acc : Str), (∀ t ∈ ts, okT t) → okT acc → okT (textFrom k acc ts)
  | [], _, _, _, ha => ha
  | t :: ts, k, acc, ht, ha => okT_from ts (k + 1) _ (fun u hu => ht u (List.mem_cons_of_mem _ hu)) (okT_app (okT_app ha (okT_lit _)) (ht t List.mem_cons_self))
theorem okT_join : ∀ ts : List Str, (∀ t ∈ ts, okT t) → okT (Str.join ", " ts)
  | [], _ => fun c hc => by cases hc
  | [x], h => h x List.mem_cons_self
  | x :: y :: ts, h => okT_app (okT_app (h x List.mem_cons_self) (okT_lit _)) (okT_join (y :: ts) fun t ht => h t (List.mem_cons_of_mem _ ht))
mutual
theorem okT_shown : ∀ d : PyData, d.canLay0 = true → okT d.shown
  | .none, _ => okT_lit "None"
  | .bool b, _ => by cases b <;> exact okT_lit _
  | .int i, _ => okT_lit _
  | .str x, h => by
    have e : (PyData.str x).shown = reprText x := by simp only [PyData.shown]
    rw [e]
    exact okT_repr (okT_of (by simpa only [PyData.canLay0] using h))
  | .list xs, h => by
    have e : (PyData.list xs).shown = textFrom 0 "[" (PyData.shownAll xs) ++ "]" := by simp only [PyData.shown]; rfl
    rw [e]
    exact okT_app (okT_from _ _ _ (okT_all xs (by simpa only [PyData.canLay0] using h)) (okT_lit _)) (okT_lit _)
  | .tuple xs, h => by
    have e : (PyData.tuple xs).shown = ("(" : Str) ++ Str.join ", " (PyData.shownAll xs) ++ (if (PyData.shownAll xs).length == 1 then ",)" else ")" : String) := by simp only [PyData.shown]; rfl
    rw [e]
    exact okT_app (okT_app (okT_lit _) (okT_join _ (okT_all xs (by simpa only [PyData.canLay0] using h)))) (okT_lit _)
  | .dict kvs, h => by simp only [PyData.canLay0] at h; cases h
theorem okT_all : ∀ ds : List PyData, PyData.canLayAll0 ds = true → ∀ t ∈ PyData.shownAll ds, okT t
  | [], _ => fun t ht => by simp only [PyData.shownAll] at ht; cases ht
  | d :: ds, h => fun t ht => by
    simp only [PyData.canLayAll0, Bool.and_eq_true] at h
    simp only [PyData.shownAll, List.mem_cons] at ht
    rcases ht with rfl | ht
    · exact okT_shown d h.1
    · exact okT_all ds h.2 t ht
end
/-! ### plain data: short numbers and good texts, n deep -/
def plainB : Nat → D → Bool
  | _, .non => true
  | _, .bl _ => true
  | _, .int i => decide (i.natAbs.log2 < 1920) && decide ((toString i : Str).length ≤ 20)
  | _, .str x => PyData.strOk x
  | n + 1, .lst ds => ds.all (plainB n)
  | n + 1, .tup ds => ds.all (plainB n)
  | _, _ => false
structure PlainP (n : Nat) (d : D) : Prop where
  f : flatN n d = true
  s : (pyD d).showable = true
  h : (pyD d).hasDict = false
  dp : (pyD d).depth ≤ n
  l : (pyD d).leavesShort 20 = true
  c : (pyD d).canLay0 = true
theorem plain_all {n : Nat} (ih : ∀ {d : D}, plainB n d = true → PlainP n d) : ∀ {ds : List D}, ds.all (plainB n) = true → ds.all (flatN n) = true ∧ PyData.showableAll (pyDs ds) = true ∧ PyData.hasDictAll (pyDs ds) = false ∧ PyData.depthAll (pyDs ds) ≤ n ∧ PyData.leavesShortAll 20 (pyDs ds) = true ∧ PyData.canLayAll0 (pyDs ds) = true
  | [], _ => ⟨rfl, rfl, rfl, Nat.zero_le _, rfl, rfl⟩
  | d :: ds, h => by
    rw [List.all_cons, Bool.and_eq_true] at h
    have p := ih h.1
    obtain ⟨a, b, c, e, f, g⟩ := plain_all ih h.2
    refine ⟨by rw [List.all_cons, p.f, a]; rfl, ?_, ?_, ?_, ?_, ?_⟩
    · unfold pyDs PyData.showableAll; rw [p.s, b]; rfl
    · unfold pyDs PyData.hasDictAll; rw [p.h, c]; rfl
    · unfold pyDs PyData.depthAll; exact Nat.max_le.mpr ⟨p.dp, e⟩
    · unfold pyDs PyData.leavesShortAll; rw [p.l, f]; rfl
    · unfold pyDs PyData.canLayAll0; rw [p.c, g]; rfl
theorem plain_leaf {n : Nat} {d : D} (h : plainB 0 d = true) : PlainP n d := by
  have fl : ∀ d : D, plainB 0 d = true → flatN n d = true := fun d h => by cases d <;> first | rfl | exact absurd h Bool.false_ne_true | (cases n <;> rfl)
  have f := fl d h
  cases d with
  | non => exact ⟨f, rfl, rfl, Nat.zero_le _, rfl, rfl⟩
  | bl b => exact ⟨f, rfl, rfl, Nat.zero_le _, rfl, rfl⟩
  | int i =>
    have h : (decide (i.natAbs.log2 < 1920) && decide ((toString i : Str).length ≤ 20)) = true := h
    rw [Bool.and_eq_true] at h
    refine ⟨f, h.1, rfl, Nat.zero_le _, ?_, rfl⟩
    simp only [pyD, PyData.leavesShort, PyData.shown]
    exact h.2
  | str x =>
    have h : PyData.strOk x = true := h
    refine ⟨f, rfl, rfl, Nat.zero_le _, ?_, h⟩
    simp only [pyD, PyData.leavesShort, List.all_eq_true, decide_eq_true_eq]
    intro c hc
    have := okT_of h c hc
    omega
  | _ => exact absurd h Bool.false_ne_true
theorem plain_of : ∀ {n : Nat} {d : D}, plainB n d = true → PlainP n d := by
  intro n
  induction n with
  | zero => intro d h; exact plain_leaf h
  | succ n ih =>
    intro d h
    cases d with
    | lst ds =>
      obtain ⟨a, b, c, e, f, g⟩ := plain_all (fun h => ih h) (show ds.all (plainB n) = true from h)
      exact ⟨a, b, c, Nat.succ_le_succ e, f, g⟩
    | tup ds =>
      obtain ⟨a, b, c, e, f, g⟩ := plain_all (fun h => ih h) (show ds.all (plainB n) = true from h)
      exact ⟨a, b, c, Nat.succ_le_succ e, f, g⟩
    | non => exact plain_leaf rfl
    | bl b => exact plain_leaf rfl
    | int i => exact plain_leaf h
    | str x => exact plain_leaf h
    | _ => exact absurd h Bool.false_ne_true
theorem bulk_all {b : Nat} : ∀ {ds : List D}, (∀ d ∈ ds, (pyD d).bulk ≤ b) → PyData.bulkAll (pyDs ds) ≤ ds.length * (b + 1)
  | [], _ => Nat.le_of_eq (by simp [pyDs, PyData.bulkAll])
  | d :: ds, h => by
    have a := h d List.mem_cons_self
    have z := bulk_all (b := b) fun d hd => h d (List.mem_cons_of_mem _ hd)
    simp only [pyDs, PyData.bulkAll, List.length_cons, Nat.add_mul]
    omega
theorem plain_shows {n m : Nat} {d : D} (h : plainB n d = true) (hn : n ≤ 30) (hb : (pyD d).bulk ≤ m) (hm : m ≤ 40000) : flatN 30 d = true ∧ showsB d = true ∧ (pyD d).shown.length ≤ 1000000 := by
  have p := plain_of h
  have l := PyData.shown_le_bulk 20 (by decide) _ p.l
  have l2 : (pyD d).shown.length ≤ 1000000 := by
    have : (20 + 2) * (pyD d).bulk ≤ 22 * 40000 := Nat.mul_le_mul_left _ (by omega)
    omega
  have mono : ∀ (k : Nat) (d : D) (n : Nat), n ≤ k → flatN n d = true → flatN k d = true := by
    intro k
    induction k with
    | zero =>
      intro d n hn h
      have : n = 0 := by omega
      subst this
      exact h
    | succ k ih =>
      intro d n hn h
      cases n with
      | zero => cases d <;> first | rfl | exact absurd h Bool.false_ne_true
      | succ n =>
        cases d with
        | lst ds =>
          have h : ds.all (flatN n) = true := h
          show ds.all (flatN k) = true
          rw [List.all_eq_true] at h ⊢
          exact fun x hx => ih x n (by omega) (h x hx)
        | tup ds =>
          have h : ds.all (flatN n) = true := h
          show ds.all (flatN k) = true
          rw [List.all_eq_true] at h ⊢
          exact fun x hx => ih x n (by omega) (h x hx)
        | _ => first | rfl | exact absurd h Bool.false_ne_true
  exact ⟨mono 30 d n hn p.f, shows_mk ⟨p.s, p.h, Nat.le_trans p.dp (by omega), Nat.le_trans l2 (by decide)⟩, l2⟩
section
variable {K : PySem.W.Frag} {cad : Cn → Addr}
/-! ### repr as a value -/
def reprD : DOpL := fun ds Q => match ds with
  | [d] => (flatN 30 d = true ∧ showsB d = true ∧ (pyD d).shown.length ≤ 1000000) ∧ Q (.str (pyD d).shown)
  | _ => False
theorem cd_repr : CallD K cad (rRepr K) reprD := by
  intro R F pars δ σ H vs ds Q QD g vw h q
  match ds, vw, h with
  | [d], vw, h =>
    obtain ⟨v, rfl, vx⟩ := vw.one
    obtain ⟨⟨f1, sh, l⟩, h⟩ := h
    obtain ⟨a1, c1, _⟩ := vx.dp g.sF f1
    exact ⟨v, _, rfl, a1, shows_of sh, q _ _ F H .refl g (.str _ ⟨okT_to (okT_shown _ c1), l⟩) h⟩
end
/-! ### three keywords in the opposite order -/
section
variable {P : Program} {w : World} {K : PySem.W.Frag} {mg : Str → Option Value} {base : Heap} {cad : Cn → Addr}
def BodyDX (P : Program) (w : World) (K : PySem.W.Frag) (mg : Str → Option Value) (base : Heap) (cad : Cn → Addr) (qual : Str) (st : Stmt) (f : Addr) (N : List Str) (k : Nat) (g : DSp) : Prop :=
  ∀ (cdv : Value) (A : Around) (outer : List Env) (s : Shared) (H : Hp) (E : XK), Room k (A.deeper (PyProof.Rows.envOfC qual (defScope st) s.heap.objs.size f cdv)) →
    ∃ t fd, PSs (cxOf (L2.CX P w) P w K mg base N qual (defScope st) f cdv A outer s H E) (defBody st) t ∧ DS K cad (fun _ => E) t fd ∧ ∀ ss Q QX, g ss Q QX → fd (kOf ss Q QX) (entryD ss N.length)
theorem okX3D {x qual p0 p1 p2 : Str} {st : Stmt} {f : Addr} {N : List Str} {k : Nat} {g : DSp} (h : FnT K x qual st f) (S : FnScope N [p0, p1, p2] (defScope st))
    (hb : ∀ (kV doc pm : Value) (an : Option Addr) (cdv ct u v y : Value), bindArgs (PySem.W.fnOf x qual (defArgs st) (defBody st) (defScope st) .none kV doc pm an cdv ct) ⟨[], [(p2, u), (p1, v), (p0, y)]⟩ = pure [(p0, y), (p1, v), (p2, u)])
    (len : ∀ ss Q QX, g ss Q QX → ss.length = 3) (body : BodyDX P w K mg base cad qual st f N k g) : OkX3 P w K mg base (k + 1) f [p0, p1, p2] [p2, p1, p0] (SpD K cad g) := by
  have lens : ∀ {vs : List V} {ss : List Sl} {R F H : Hp}, Good K cad R F vs (slV ss) (vs.map some) H → vs.length = ss.length := fun {vs ss R F H} g => by
    have := g.len
    unfold slV at this
    rw [List.length_map, List.length_map] at this
    exact this.symm
  refine h.okX3 S hb (fun vs H Q E ⟨R, F, ss, Q1, QX1, gd, tk, q, _⟩ => (lens gd).trans (len _ _ _ q)) fun cdv A outer s H vs Q E hr ⟨R, F, ss, Q1, QX1, gd, tk, q, q1, q2⟩ => ?_
  obtain ⟨t, fd, ht, hd, hq⟩ := body cdv A outer s H E hr
  have le : ss.length ≤ N.length := by
    rw [len _ _ _ q, ← show [p0, p1, p2].length = 3 from rfl, ← S.pre]
    exact List.length_take_le' _ _
  exact ⟨t, ht, hd R F vs _ _ H _ _ (gd.entry le) (kOf_link gd tk q1 q2) (hq ss _ _ q)⟩
end
section
variable {K : PySem.W.Frag} {cad : Cn → Addr} {E : L2.St → XK}
def dCall3N (g : DSp) (fa : DTA) : DTE := fun δ Q QX => fa δ (fun es δ1 => callD g δ1 (swap3 [] es) (rVal Q) noX) QX
theorem de_call3N {g : DSp} {ta : TA} {n : Nat} {fa : DTA} (h : DA K cad E ta n fa) : DE K cad E (oCall3 (SpD K cad g) EN ta) (dCall3N g fa) := fun R F pars δ σ H Q QD QX gd x hf q =>
  h R F pars δ σ H _ _ QX gd x hf fun es δ1 vs F1 H1 s1 g1 hv _ h1 => call_core g1 hv.swap3 h1 (fin_val s1 q) xok_no rVal_no
end
end PD

set_option Elab.async false
set_option linter.all false
set_option maxRecDepth 100000
set_option maxHeartbeats 4000000
namespace Own
open PySem L2 ClX PD
local macro_rules | `(tactic| walk_at "y") => `(tactic| first | (refine ifY ?e ?_; (case e => first | with_reducible rfl | decide +kernel)) | (refine bofE true ?e ?_; (case e => first | with_reducible rfl | decide +kernel)))
local macro_rules | `(tactic| walk_at "n") => `(tactic| first | (refine ifN ?e ?_; (case e => first | with_reducible rfl | decide +kernel)) | (refine bofE false ?e ?_; (case e => first | with_reducible rfl | decide +kernel)))
local macro_rules | `(tactic| walk_at "t") => `(tactic| (refine ifY ?e ?_; (case e => rfl)))
local macro_rules | `(tactic| walk_at "f") => `(tactic| (refine ifN ?e ?_; (case e => rfl)))
local macro_rules | `(tactic| walk_at "go") => `(tactic| repeat (first | walk_at "t" | walk_at "f"))
local macro_rules | `(tactic| walk_at "norm") => `(tactic| dsimp only [PD.dget, PD.dset, PD.wipeD, PD.putBack, PD.putOb, PD.reOb, PD.entryD, PD.nones, List.map, List.length, PD.stayD, PD.unwipeD])

def top (i : Nat) : Stmt := PySem.Challenge.pw_indexlogs_k27_certificates_judged.main.body.getD i (.Pass ⟨0, 0, 0, 0⟩)
abbrev s_is_integer : Stmt := top 11
abbrev N_is_integer : List Str := ["thing"]
theorem sc_is_integer : FnScope N_is_integer ["thing"] (defScope s_is_integer) := ⟨rfl, rfl, rfl, by decide +kernel, rfl, by decide +kernel, by decide +kernel⟩
abbrev s_is_item : Stmt := top 12
abbrev N_is_item : List Str := ["thing"]
theorem sc_is_item : FnScope N_is_item ["thing"] (defScope s_is_item) := ⟨rfl, rfl, rfl, by decide +kernel, rfl, by decide +kernel, by decide +kernel⟩
abbrev s_is_items : Stmt := top 13
abbrev N_is_items : List Str := ["thing", "entry"]
theorem sc_is_items : FnScope N_is_items ["thing"] (defScope s_is_items) := ⟨rfl, rfl, rfl, by decide +kernel, rfl, by decide +kernel, by decide +kernel⟩
abbrev s_check_items : Stmt := top 14
abbrev N_check_items : List Str := ["items"]
theorem sc_check_items : FnScope N_check_items ["items"] (defScope s_check_items) := ⟨rfl, rfl, rfl, by decide +kernel, rfl, by decide +kernel, by decide +kernel⟩
abbrev s_check_index : Stmt := top 16
abbrev N_check_index : List Str := ["slot"]
theorem sc_check_index : FnScope N_check_index ["slot"] (defScope s_check_index) := ⟨rfl, rfl, rfl, by decide +kernel, rfl, by decide +kernel, by decide +kernel⟩
abbrev s_Record___init__ : Stmt := inClass (top 18) 2
abbrev N_Record___init__ : List Str := ["self", "item", "slot"]
theorem sc_Record___init__ : FnScope N_Record___init__ ["self", "item", "slot"] (defScope s_Record___init__) := ⟨rfl, rfl, rfl, by decide +kernel, rfl, by decide +kernel, by decide +kernel⟩
abbrev s_Record___eq__ : Stmt := inClass (top 18) 3
abbrev N_Record___eq__ : List Str := ["self", "other"]
theorem sc_Record___eq__ : FnScope N_Record___eq__ ["self", "other"] (defScope s_Record___eq__) := ⟨rfl, rfl, rfl, by decide +kernel, rfl, by decide +kernel, by decide +kernel⟩
abbrev s_Record_item : Stmt := inClass (top 18) 4
abbrev N_Record_item : List Str := ["self"]
theorem sc_Record_item : FnScope N_Record_item ["self"] (defScope s_Record_item) := ⟨rfl, rfl, rfl, by decide +kernel, rfl, by decide +kernel, by decide +kernel⟩
abbrev s_Record_slot : Stmt := inClass (top 18) 5
abbrev N_Record_slot : List Str := ["self"]
theorem sc_Record_slot : FnScope N_Record_slot ["self"] (defScope s_Record_slot) := ⟨rfl, rfl, rfl, by decide +kernel, rfl, by decide +kernel, by decide +kernel⟩
abbrev s_Record_move_to : Stmt := inClass (top 18) 7
abbrev N_Record_move_to : List Str := ["self", "slot"]
theorem sc_Record_move_to : FnScope N_Record_move_to ["self", "slot"] (defScope s_Record_move_to) := ⟨rfl, rfl, rfl, by decide +kernel, rfl, by decide +kernel, by decide +kernel⟩
abbrev s_has_kind : Stmt := top 24
abbrev N_has_kind : List Str := ["thing"]
theorem sc_has_kind : FnScope N_has_kind ["thing"] (defScope s_has_kind) := ⟨rfl, rfl, rfl, by decide +kernel, rfl, by decide +kernel, by decide +kernel⟩
abbrev s_are_records : Stmt := top 25
abbrev N_are_records : List Str := ["thing", "most", "entry"]
theorem sc_are_records : FnScope N_are_records ["thing", "most"] (defScope s_are_records) := ⟨rfl, rfl, rfl, by decide +kernel, rfl, by decide +kernel, by decide +kernel⟩
abbrev s_is_log : Stmt := top 26
abbrev N_is_log : List Str := ["thing", "record"]
theorem sc_is_log : FnScope N_is_log ["thing"] (defScope s_is_log) := ⟨rfl, rfl, rfl, by decide +kernel, rfl, by decide +kernel, by decide +kernel⟩
abbrev s_check_log : Stmt := top 27
abbrev N_check_log : List Str := ["log"]
theorem sc_check_log : FnScope N_check_log ["log"] (defScope s_check_log) := ⟨rfl, rfl, rfl, by decide +kernel, rfl, by decide +kernel, by decide +kernel⟩
abbrev s_sign_of : Stmt := top 28
abbrev N_sign_of : List Str := ["log"]
theorem sc_sign_of : FnScope N_sign_of ["log"] (defScope s_sign_of) := ⟨rfl, rfl, rfl, by decide +kernel, rfl, by decide +kernel, by decide +kernel⟩
abbrev s_is_fronted : Stmt := top 29
abbrev N_is_fronted : List Str := ["log"]
theorem sc_is_fronted : FnScope N_is_fronted ["log"] (defScope s_is_fronted) := ⟨rfl, rfl, rfl, by decide +kernel, rfl, by decide +kernel, by decide +kernel⟩
abbrev s_check_known : Stmt := top 31
abbrev N_check_known : List Str := ["log", "items", "record"]
theorem sc_check_known : FnScope N_check_known ["log", "items"] (defScope s_check_known) := ⟨rfl, rfl, rfl, by decide +kernel, rfl, by decide +kernel, by decide +kernel⟩
abbrev s_rooms_of : Stmt := top 32
abbrev N_rooms_of : List Str := ["log", "items", "names", "known", "record", "item", "before"]
theorem sc_rooms_of : FnScope N_rooms_of ["log", "items"] (defScope s_rooms_of) := ⟨rfl, rfl, rfl, by decide +kernel, rfl, by decide +kernel, by decide +kernel⟩
abbrev s_shifts_of : Stmt := top 33
abbrev N_shifts_of : List Str := ["log", "items", "record"]
theorem sc_shifts_of : FnScope N_shifts_of ["log", "items"] (defScope s_shifts_of) := ⟨rfl, rfl, rfl, by decide +kernel, rfl, by decide +kernel, by decide +kernel⟩
abbrev s_certificates : Stmt := top 34
abbrev N_certificates : List Str := ["log", "items", "shifts", "found", "item", "room"]
theorem sc_certificates : FnScope N_certificates ["log", "items"] (defScope s_certificates) := ⟨rfl, rfl, rfl, by decide +kernel, rfl, by decide +kernel, by decide +kernel⟩
abbrev s_shows : Stmt := top 35
abbrev N_shows : List Str := ["log", "items", "thing"]
theorem sc_shows : FnScope N_shows ["log", "items", "thing"] (defScope s_shows) := ⟨rfl, rfl, rfl, by decide +kernel, rfl, by decide +kernel, by decide +kernel⟩
abbrev s__law_source : Stmt := top 37
abbrev N__law_source : List Str := ["script", "k", "cell"]
theorem sc__law_source : FnScope N__law_source ["script", "k"] (defScope s__law_source) := ⟨rfl, rfl, rfl, by decide +kernel, rfl, by decide +kernel, by decide +kernel⟩
abbrev s__law_pick : Stmt := top 38
abbrev N__law_pick : List Str := ["source", "size", "digit", "mixed"]
theorem sc__law_pick : FnScope N__law_pick ["source", "size"] (defScope s__law_pick) := ⟨rfl, rfl, rfl, by decide +kernel, rfl, by decide +kernel, by decide +kernel⟩
abbrev s__law_mixed : Stmt := top 39
abbrev N__law_mixed : List Str := ["source", "row", "left", "k"]
theorem sc__law_mixed : FnScope N__law_mixed ["source", "row"] (defScope s__law_mixed) := ⟨rfl, rfl, rfl, by decide +kernel, rfl, by decide +kernel, by decide +kernel⟩
abbrev s__law_words : Stmt := top 40
abbrev N__law_words : List Str := ["source", "size", "pool", "sign", "k"]
theorem sc__law_words : FnScope N__law_words ["source", "size"] (defScope s__law_words) := ⟨rfl, rfl, rfl, by decide +kernel, rfl, by decide +kernel, by decide +kernel⟩
abbrev s__law_made : Stmt := top 41
abbrev N__law_made : List Str := ["kind", "name", "index"]
theorem sc__law_made : FnScope N__law_made ["kind", "name", "index"] (defScope s__law_made) := ⟨rfl, rfl, rfl, by decide +kernel, rfl, by decide +kernel, by decide +kernel⟩
abbrev s__law_played : Stmt := top 42
abbrev N__law_played : List Str := ["kind", "here", "name", "index", "fits", "rest"]
theorem sc__law_played : FnScope N__law_played ["kind", "here", "name", "index"] (defScope s__law_played) := ⟨rfl, rfl, rfl, by decide +kernel, rfl, by decide +kernel, by decide +kernel⟩
abbrev s__law_history : Stmt := top 43
abbrev N__law_history : List Str := ["source", "kind", "most", "more", "size", "others", "names", "moved", "style", "here", "known", "pairs", "name", "index"]
theorem sc__law_history : FnScope N__law_history ["source", "kind", "most", "more"] (defScope s__law_history) := ⟨rfl, rfl, rfl, by decide +kernel, rfl, by decide +kernel, by decide +kernel⟩
abbrev s__law_log : Stmt := top 44
abbrev N__law_log : List Str := ["source", "kind", "pairs", "name", "index"]
theorem sc__law_log : FnScope N__law_log ["source", "kind", "pairs"] (defScope s__law_log) := ⟨rfl, rfl, rfl, by decide +kernel, rfl, by decide +kernel, by decide +kernel⟩
abbrev s__law_pairs : Stmt := top 45
abbrev N__law_pairs : List Str := ["notes", "record"]
theorem sc__law_pairs : FnScope N__law_pairs ["notes"] (defScope s__law_pairs) := ⟨rfl, rfl, rfl, by decide +kernel, rfl, by decide +kernel, by decide +kernel⟩
abbrev s__law_sides : Stmt := top 46
abbrev N__law_sides : List Str := ["kind", "pairs", "known", "slots", "found", "marked", "before", "name", "place"]
theorem sc__law_sides : FnScope N__law_sides ["kind", "pairs", "known"] (defScope s__law_sides) := ⟨rfl, rfl, rfl, by decide +kernel, rfl, by decide +kernel, by decide +kernel⟩
abbrev s__law_bent : Stmt := top 47
abbrev N__law_bent : List Str := ["source", "pairs", "found", "name", "index", "way"]
theorem sc__law_bent : FnScope N__law_bent ["source", "pairs"] (defScope s__law_bent) := ⟨rfl, rfl, rfl, by decide +kernel, rfl, by decide +kernel, by decide +kernel⟩
abbrev s__law_others : Stmt := top 48
abbrev N__law_others : List Str := ["source", "notes", "known", "found", "name", "odd", "record"]
theorem sc__law_others : FnScope N__law_others ["source", "notes", "known"] (defScope s__law_others) := ⟨rfl, rfl, rfl, by decide +kernel, rfl, by decide +kernel, by decide +kernel⟩
abbrev s__law_told : Stmt := top 49
abbrev N__law_told : List Str := ["notes", "known", "claim", "due", "told"]
theorem sc__law_told : FnScope N__law_told ["notes", "known", "claim", "due"] (defScope s__law_told) := ⟨rfl, rfl, rfl, by decide +kernel, rfl, by decide +kernel, by decide +kernel⟩
abbrev s__law_right : Stmt := top 50
abbrev N__law_right : List Str := ["source", "kind", "pairs", "known", "notes", "shown", "name", "shift", "room", "marked", "index", "claim"]
theorem sc__law_right : FnScope N__law_right ["source", "kind", "pairs", "known"] (defScope s__law_right) := ⟨rfl, rfl, rfl, by decide +kernel, rfl, by decide +kernel, by decide +kernel⟩
abbrev s_law : Stmt := top 51
abbrev N_law : List Str := ["script", "k", "source", "kind", "most", "pairs", "known", "free", "some", "notes", "claim", "told", "index", "changed", "name"]
theorem sc_law : FnScope N_law ["script"] (defScope s_law) := ⟨rfl, rfl, rfl, by decide +kernel, rfl, by decide +kernel, by decide +kernel⟩

structure Ad where
  f_is_integer : Addr
  f_is_item : Addr
  f_is_items : Addr
  f_check_items : Addr
  f_check_index : Addr
  f_has_kind : Addr
  f_are_records : Addr
  f_is_log : Addr
  f_check_log : Addr
  f_sign_of : Addr
  f_is_fronted : Addr
  f_check_known : Addr
  f_rooms_of : Addr
  f_shifts_of : Addr
  f_certificates : Addr
  f_shows : Addr
  f__law_source : Addr
  f__law_pick : Addr
  f__law_mixed : Addr
  f__law_words : Addr
  f__law_made : Addr
  f__law_played : Addr
  f__law_history : Addr
  f__law_log : Addr
  f__law_pairs : Addr
  f__law_sides : Addr
  f__law_bent : Addr
  f__law_others : Addr
  f__law_told : Addr
  f__law_right : Addr
  f_law : Addr
  c_Record : Addr
  c_Inserted : Addr
  c_Removed : Addr
  c_Fronted : Addr
  c_NoItem : Addr
  c_NoIndex : Addr
  c_NoList : Addr
  c_NoLog : Addr
  c_NoText : Addr
  c_LogError : Addr
  m_Record___init__ : Addr
  m_Record_move_to : Addr
  m_Record___eq__ : Addr
  m_Record_item : Addr
  p_Record_item : Addr
  m_Record_slot : Addr
  p_Record_slot : Addr
structure Txt (K : PySem.W.Frag) (mg : Str → Option Value) (A : Ad) : Prop where
  mg_is_integer : mg "is_integer" = some (.ref A.f_is_integer)
  fn_is_integer : FnT K "is_integer" "is_integer" s_is_integer A.f_is_integer
  mg_is_item : mg "is_item" = some (.ref A.f_is_item)
  fn_is_item : FnT K "is_item" "is_item" s_is_item A.f_is_item
  mg_is_items : mg "is_items" = some (.ref A.f_is_items)
  fn_is_items : FnT K "is_items" "is_items" s_is_items A.f_is_items
  mg_check_items : mg "check_items" = some (.ref A.f_check_items)
  fn_check_items : FnT K "check_items" "check_items" s_check_items A.f_check_items
  mg_check_index : mg "check_index" = some (.ref A.f_check_index)
  fn_check_index : FnT K "check_index" "check_index" s_check_index A.f_check_index
  mg_has_kind : mg "has_kind" = some (.ref A.f_has_kind)
  fn_has_kind : FnT K "has_kind" "has_kind" s_has_kind A.f_has_kind
  mg_are_records : mg "are_records" = some (.ref A.f_are_records)
  fn_are_records : FnT K "are_records" "are_records" s_are_records A.f_are_records
  mg_is_log : mg "is_log" = some (.ref A.f_is_log)
  fn_is_log : FnT K "is_log" "is_log" s_is_log A.f_is_log
  mg_check_log : mg "check_log" = some (.ref A.f_check_log)
  fn_check_log : FnT K "check_log" "check_log" s_check_log A.f_check_log
  mg_sign_of : mg "sign_of" = some (.ref A.f_sign_of)
  fn_sign_of : FnT K "sign_of" "sign_of" s_sign_of A.f_sign_of
  mg_is_fronted : mg "is_fronted" = some (.ref A.f_is_fronted)
  fn_is_fronted : FnT K "is_fronted" "is_fronted" s_is_fronted A.f_is_fronted
  mg_check_known : mg "check_known" = some (.ref A.f_check_known)
  fn_check_known : FnT K "check_known" "check_known" s_check_known A.f_check_known
  mg_rooms_of : mg "rooms_of" = some (.ref A.f_rooms_of)
  fn_rooms_of : FnT K "rooms_of" "rooms_of" s_rooms_of A.f_rooms_of
  mg_shifts_of : mg "shifts_of" = some (.ref A.f_shifts_of)
  fn_shifts_of : FnT K "shifts_of" "shifts_of" s_shifts_of A.f_shifts_of
  mg_certificates : mg "certificates" = some (.ref A.f_certificates)
  fn_certificates : FnT K "certificates" "certificates" s_certificates A.f_certificates
  mg_shows : mg "shows" = some (.ref A.f_shows)
  fn_shows : FnT K "shows" "shows" s_shows A.f_shows
  mg__law_source : mg "_law_source" = some (.ref A.f__law_source)
  fn__law_source : FnT K "_law_source" "_law_source" s__law_source A.f__law_source
  mg__law_pick : mg "_law_pick" = some (.ref A.f__law_pick)
  fn__law_pick : FnT K "_law_pick" "_law_pick" s__law_pick A.f__law_pick
  mg__law_mixed : mg "_law_mixed" = some (.ref A.f__law_mixed)
  fn__law_mixed : FnT K "_law_mixed" "_law_mixed" s__law_mixed A.f__law_mixed
  mg__law_words : mg "_law_words" = some (.ref A.f__law_words)
  fn__law_words : FnT K "_law_words" "_law_words" s__law_words A.f__law_words
  mg__law_made : mg "_law_made" = some (.ref A.f__law_made)
  fn__law_made : FnT K "_law_made" "_law_made" s__law_made A.f__law_made
  mg__law_played : mg "_law_played" = some (.ref A.f__law_played)
  fn__law_played : FnT K "_law_played" "_law_played" s__law_played A.f__law_played
  mg__law_history : mg "_law_history" = some (.ref A.f__law_history)
  fn__law_history : FnT K "_law_history" "_law_history" s__law_history A.f__law_history
  mg__law_log : mg "_law_log" = some (.ref A.f__law_log)
  fn__law_log : FnT K "_law_log" "_law_log" s__law_log A.f__law_log
  mg__law_pairs : mg "_law_pairs" = some (.ref A.f__law_pairs)
  fn__law_pairs : FnT K "_law_pairs" "_law_pairs" s__law_pairs A.f__law_pairs
  mg__law_sides : mg "_law_sides" = some (.ref A.f__law_sides)
  fn__law_sides : FnT K "_law_sides" "_law_sides" s__law_sides A.f__law_sides
  mg__law_bent : mg "_law_bent" = some (.ref A.f__law_bent)
  fn__law_bent : FnT K "_law_bent" "_law_bent" s__law_bent A.f__law_bent
  mg__law_others : mg "_law_others" = some (.ref A.f__law_others)
  fn__law_others : FnT K "_law_others" "_law_others" s__law_others A.f__law_others
  mg__law_told : mg "_law_told" = some (.ref A.f__law_told)
  fn__law_told : FnT K "_law_told" "_law_told" s__law_told A.f__law_told
  mg__law_right : mg "_law_right" = some (.ref A.f__law_right)
  fn__law_right : FnT K "_law_right" "_law_right" s__law_right A.f__law_right
  mg_law : mg "law" = some (.ref A.f_law)
  fn_law : FnT K "law" "law" s_law A.f_law
  mg_Record : mg "Record" = some (.ref A.c_Record)
  mg_Inserted : mg "Inserted" = some (.ref A.c_Inserted)
  mg_Removed : mg "Removed" = some (.ref A.c_Removed)
  mg_Fronted : mg "Fronted" = some (.ref A.c_Fronted)
  mg_NoItem : mg "NoItem" = some (.ref A.c_NoItem)
  mg_NoIndex : mg "NoIndex" = some (.ref A.c_NoIndex)
  mg_NoList : mg "NoList" = some (.ref A.c_NoList)
  mg_NoLog : mg "NoLog" = some (.ref A.c_NoLog)
  mg_NoText : mg "NoText" = some (.ref A.c_NoText)
  mg_LogError : mg "LogError" = some (.ref A.c_LogError)
  mk_Record : Mk K A.c_Record A.m_Record___init__
  fn_Record___init__ : FnT K "__init__" "Record.__init__" s_Record___init__ A.m_Record___init__
  cl_Record : Cls K A.c_Record
  na_Record_item : NoAttr K A.c_Record "_item"
  na_Record_slot : NoAttr K A.c_Record "_slot"
  mk_Inserted : Mk K A.c_Inserted A.m_Record___init__
  cl_Inserted : Cls K A.c_Inserted
  na_Inserted_item : NoAttr K A.c_Inserted "_item"
  na_Inserted_slot : NoAttr K A.c_Inserted "_slot"
  mk_Removed : Mk K A.c_Removed A.m_Record___init__
  cl_Removed : Cls K A.c_Removed
  na_Removed_item : NoAttr K A.c_Removed "_item"
  na_Removed_slot : NoAttr K A.c_Removed "_slot"
  mk_Fronted : Mk K A.c_Fronted A.m_Record___init__
  cl_Fronted : Cls K A.c_Fronted
  na_Fronted_item : NoAttr K A.c_Fronted "_item"
  na_Fronted_slot : NoAttr K A.c_Fronted "_slot"
  me_Record_move_to : Meth K A.c_Record "move_to" A.m_Record_move_to
  fn_Record_move_to : FnT K "move_to" "Record.move_to" s_Record_move_to A.m_Record_move_to
  me_Record___eq__ : Meth K A.c_Record "__eq__" A.m_Record___eq__
  fn_Record___eq__ : FnT K "__eq__" "Record.__eq__" s_Record___eq__ A.m_Record___eq__
  me_Inserted_move_to : Meth K A.c_Inserted "move_to" A.m_Record_move_to
  me_Inserted___eq__ : Meth K A.c_Inserted "__eq__" A.m_Record___eq__
  me_Removed_move_to : Meth K A.c_Removed "move_to" A.m_Record_move_to
  me_Removed___eq__ : Meth K A.c_Removed "__eq__" A.m_Record___eq__
  me_Fronted_move_to : Meth K A.c_Fronted "move_to" A.m_Record_move_to
  me_Fronted___eq__ : Meth K A.c_Fronted "__eq__" A.m_Record___eq__
  cv_Record_MOST : ∃ mc u, ClX.CRead K A.c_Record mc ∧ ClX.CVal K A.c_Record mc "MOST" (.int 60) u
  cv_Record_SIGN : ∃ mc u, ClX.CRead K A.c_Record mc ∧ ClX.CVal K A.c_Record mc "SIGN" (.str "") u
  cv_Inserted_SIGN : ∃ mc u, ClX.CRead K A.c_Inserted mc ∧ ClX.CVal K A.c_Inserted mc "SIGN" (.str "+") u
  cv_Removed_SIGN : ∃ mc u, ClX.CRead K A.c_Removed mc ∧ ClX.CVal K A.c_Removed mc "SIGN" (.str "-") u
  cv_Fronted_SIGN : ∃ mc u, ClX.CRead K A.c_Fronted mc ∧ ClX.CVal K A.c_Fronted mc "SIGN" (.str "^") u
  iv_Record_SIGN : ∃ u, Con K A.c_Record "SIGN" (.str "") u
  iv_Inserted_SIGN : ∃ u, Con K A.c_Inserted "SIGN" (.str "+") u
  iv_Removed_SIGN : ∃ u, Con K A.c_Removed "SIGN" (.str "-") u
  iv_Fronted_SIGN : ∃ u, Con K A.c_Fronted "SIGN" (.str "^") u
  mg_MOST_LETTERS : ∃ t, mg "MOST_LETTERS" = some (.int 8 t)
  mg_MOST_ITEMS : ∃ t, mg "MOST_ITEMS" = some (.int 60 t)
  mg_MOST_IN_LOG : ∃ t, mg "MOST_IN_LOG" = some (.int 40 t)
  er_NoIndex : ErrT K A.c_NoIndex
  er_NoList : ErrT K A.c_NoList
  er_NoLog : ErrT K A.c_NoLog
  kit_type_NoneType_Inserted : PySem.W.kitOne K (.type "NoneType") (.ref A.c_Inserted) = some false
  kit_type_bool_Inserted : PySem.W.kitOne K (.type "bool") (.ref A.c_Inserted) = some false
  kit_type_int_Inserted : PySem.W.kitOne K (.type "int") (.ref A.c_Inserted) = some false
  kit_type_str_Inserted : PySem.W.kitOne K (.type "str") (.ref A.c_Inserted) = some false
  kit_type_list_Inserted : PySem.W.kitOne K (.type "list") (.ref A.c_Inserted) = some false
  kit_type_tuple_Inserted : PySem.W.kitOne K (.type "tuple") (.ref A.c_Inserted) = some false
  kit_type_dict_Inserted : PySem.W.kitOne K (.type "dict") (.ref A.c_Inserted) = some false
  kit_Record_Inserted : PySem.W.kitOne K (.ref A.c_Record) (.ref A.c_Inserted) = some false
  kit_Inserted_Inserted : PySem.W.kitOne K (.ref A.c_Inserted) (.ref A.c_Inserted) = some true
  kit_Removed_Inserted : PySem.W.kitOne K (.ref A.c_Removed) (.ref A.c_Inserted) = some false
  kit_Fronted_Inserted : PySem.W.kitOne K (.ref A.c_Fronted) (.ref A.c_Inserted) = some false
  kit_type_NoneType_Removed : PySem.W.kitOne K (.type "NoneType") (.ref A.c_Removed) = some false
  kit_type_bool_Removed : PySem.W.kitOne K (.type "bool") (.ref A.c_Removed) = some false
  kit_type_int_Removed : PySem.W.kitOne K (.type "int") (.ref A.c_Removed) = some false
  kit_type_str_Removed : PySem.W.kitOne K (.type "str") (.ref A.c_Removed) = some false
  kit_type_list_Removed : PySem.W.kitOne K (.type "list") (.ref A.c_Removed) = some false
  kit_type_tuple_Removed : PySem.W.kitOne K (.type "tuple") (.ref A.c_Removed) = some false
  kit_type_dict_Removed : PySem.W.kitOne K (.type "dict") (.ref A.c_Removed) = some false
  kit_Record_Removed : PySem.W.kitOne K (.ref A.c_Record) (.ref A.c_Removed) = some false
  kit_Inserted_Removed : PySem.W.kitOne K (.ref A.c_Inserted) (.ref A.c_Removed) = some false
  kit_Removed_Removed : PySem.W.kitOne K (.ref A.c_Removed) (.ref A.c_Removed) = some true
  kit_Fronted_Removed : PySem.W.kitOne K (.ref A.c_Fronted) (.ref A.c_Removed) = some false
  kit_type_NoneType_Fronted : PySem.W.kitOne K (.type "NoneType") (.ref A.c_Fronted) = some false
  kit_type_bool_Fronted : PySem.W.kitOne K (.type "bool") (.ref A.c_Fronted) = some false
  kit_type_int_Fronted : PySem.W.kitOne K (.type "int") (.ref A.c_Fronted) = some false
  kit_type_str_Fronted : PySem.W.kitOne K (.type "str") (.ref A.c_Fronted) = some false
  kit_type_list_Fronted : PySem.W.kitOne K (.type "list") (.ref A.c_Fronted) = some false
  kit_type_tuple_Fronted : PySem.W.kitOne K (.type "tuple") (.ref A.c_Fronted) = some false
  kit_type_dict_Fronted : PySem.W.kitOne K (.type "dict") (.ref A.c_Fronted) = some false
  kit_Record_Fronted : PySem.W.kitOne K (.ref A.c_Record) (.ref A.c_Fronted) = some false
  kit_Inserted_Fronted : PySem.W.kitOne K (.ref A.c_Inserted) (.ref A.c_Fronted) = some false
  kit_Removed_Fronted : PySem.W.kitOne K (.ref A.c_Removed) (.ref A.c_Fronted) = some false
  kit_Fronted_Fronted : PySem.W.kitOne K (.ref A.c_Fronted) (.ref A.c_Fronted) = some true
  kit_type_NoneType_Record : PySem.W.kitOne K (.type "NoneType") (.ref A.c_Record) = some false
  kit_type_bool_Record : PySem.W.kitOne K (.type "bool") (.ref A.c_Record) = some false
  kit_type_int_Record : PySem.W.kitOne K (.type "int") (.ref A.c_Record) = some false
  kit_type_str_Record : PySem.W.kitOne K (.type "str") (.ref A.c_Record) = some false
  kit_type_list_Record : PySem.W.kitOne K (.type "list") (.ref A.c_Record) = some false
  kit_type_tuple_Record : PySem.W.kitOne K (.type "tuple") (.ref A.c_Record) = some false
  kit_type_dict_Record : PySem.W.kitOne K (.type "dict") (.ref A.c_Record) = some false
  kit_Record_Record : PySem.W.kitOne K (.ref A.c_Record) (.ref A.c_Record) = some true
  kit_Inserted_Record : PySem.W.kitOne K (.ref A.c_Inserted) (.ref A.c_Record) = some true
  kit_Removed_Record : PySem.W.kitOne K (.ref A.c_Removed) (.ref A.c_Record) = some true
  kit_Fronted_Record : PySem.W.kitOne K (.ref A.c_Fronted) (.ref A.c_Record) = some true
  kit_Record_type_list : PySem.W.kitOne K (.ref A.c_Record) (.type "list") = some false
  kit_Inserted_type_list : PySem.W.kitOne K (.ref A.c_Inserted) (.type "list") = some false
  kit_Removed_type_list : PySem.W.kitOne K (.ref A.c_Removed) (.type "list") = some false
  kit_Fronted_type_list : PySem.W.kitOne K (.ref A.c_Fronted) (.type "list") = some false
  kit_Record_type_str : PySem.W.kitOne K (.ref A.c_Record) (.type "str") = some false
  kit_Inserted_type_str : PySem.W.kitOne K (.ref A.c_Inserted) (.type "str") = some false
  kit_Removed_type_str : PySem.W.kitOne K (.ref A.c_Removed) (.type "str") = some false
  kit_Fronted_type_str : PySem.W.kitOne K (.ref A.c_Fronted) (.type "str") = some false
  kit_Record_type_int : PySem.W.kitOne K (.ref A.c_Record) (.type "int") = some false
  kit_Inserted_type_int : PySem.W.kitOne K (.ref A.c_Inserted) (.type "int") = some false
  kit_Removed_type_int : PySem.W.kitOne K (.ref A.c_Removed) (.type "int") = some false
  kit_Fronted_type_int : PySem.W.kitOne K (.ref A.c_Fronted) (.type "int") = some false
  kit_Record_type_bool : PySem.W.kitOne K (.ref A.c_Record) (.type "bool") = some false
  kit_Inserted_type_bool : PySem.W.kitOne K (.ref A.c_Inserted) (.type "bool") = some false
  kit_Removed_type_bool : PySem.W.kitOne K (.ref A.c_Removed) (.type "bool") = some false
  kit_Fronted_type_bool : PySem.W.kitOne K (.ref A.c_Fronted) (.type "bool") = some false
  pr_Record_item : PropOf K A.c_Record "item" A.p_Record_item A.m_Record_item
  fn_Record_item : FnT K "item" "Record.item" s_Record_item A.m_Record_item
  pr_Record_slot : PropOf K A.c_Record "slot" A.p_Record_slot A.m_Record_slot
  fn_Record_slot : FnT K "slot" "Record.slot" s_Record_slot A.m_Record_slot
  pr_Inserted_item : PropOf K A.c_Inserted "item" A.p_Record_item A.m_Record_item
  pr_Inserted_slot : PropOf K A.c_Inserted "slot" A.p_Record_slot A.m_Record_slot
  pr_Removed_item : PropOf K A.c_Removed "item" A.p_Record_item A.m_Record_item
  pr_Removed_slot : PropOf K A.c_Removed "slot" A.p_Record_slot A.m_Record_slot
  pr_Fronted_item : PropOf K A.c_Fronted "item" A.p_Record_item A.m_Record_item
  pr_Fronted_slot : PropOf K A.c_Fronted "slot" A.p_Record_slot A.m_Record_slot
  ty_Record : InsT K A.c_Record
  ty_Inserted : InsT K A.c_Inserted
  ty_Removed : InsT K A.c_Removed
  ty_Fronted : InsT K A.c_Fronted
  no_abs : mg "abs" = none
  no_all : mg "all" = none
  no_bool : mg "bool" = none
  no_dict : mg "dict" = none
  no_enumerate : mg "enumerate" = none
  no_int : mg "int" = none
  no_isinstance : mg "isinstance" = none
  no_len : mg "len" = none
  no_list : mg "list" = none
  no_max : mg "max" = none
  no_min : mg "min" = none
  no_property : mg "property" = none
  no_range : mg "range" = none
  no_repr : mg "repr" = none
  no_set : mg "set" = none
  no_str : mg "str" = none
  ow_Record : OwnC K A.c_Record A.m_Record___eq__
  ow_Inserted : OwnC K A.c_Inserted A.m_Record___eq__
  ow_Removed : OwnC K A.c_Removed A.m_Record___eq__
  ow_Fronted : OwnC K A.c_Fronted A.m_Record___eq__
  su_Inserted_Record : PySem.W.subIn K (.ref A.c_Inserted) (.ref A.c_Record) = some true
  su_Removed_Record : PySem.W.subIn K (.ref A.c_Removed) (.ref A.c_Record) = some true
  su_Fronted_Record : PySem.W.subIn K (.ref A.c_Fronted) (.ref A.c_Record) = some true
  su_Record_Inserted : PySem.W.subIn K (.ref A.c_Record) (.ref A.c_Inserted) = some false
  su_Removed_Inserted : PySem.W.subIn K (.ref A.c_Removed) (.ref A.c_Inserted) = some false
  su_Fronted_Inserted : PySem.W.subIn K (.ref A.c_Fronted) (.ref A.c_Inserted) = some false
  su_Record_Removed : PySem.W.subIn K (.ref A.c_Record) (.ref A.c_Removed) = some false
  su_Inserted_Removed : PySem.W.subIn K (.ref A.c_Inserted) (.ref A.c_Removed) = some false
  su_Fronted_Removed : PySem.W.subIn K (.ref A.c_Fronted) (.ref A.c_Removed) = some false
  su_Record_Fronted : PySem.W.subIn K (.ref A.c_Record) (.ref A.c_Fronted) = some false
  su_Inserted_Fronted : PySem.W.subIn K (.ref A.c_Inserted) (.ref A.c_Fronted) = some false
  su_Removed_Fronted : PySem.W.subIn K (.ref A.c_Removed) (.ref A.c_Fronted) = some false

/-! ### the classes' places, what the text says of records -/
def cad (A : Ad) : Cn → Addr
  | .LogError => A.c_LogError
  | .NoItem => A.c_NoItem
  | .NoIndex => A.c_NoIndex
  | .NoList => A.c_NoList
  | .NoLog => A.c_NoLog
  | .NoText => A.c_NoText
  | .Record => A.c_Record
  | .Inserted => A.c_Inserted
  | .Removed => A.c_Removed
  | .Fronted => A.c_Fronted
  | _ => 0
section
variable {P : Program} {w : World} {K : PySem.W.Frag} {mg : Str → Option Value} {base : Heap} {A : Ad}
theorem row_t (T : Txt K mg A) : RowT K (cad A) := ⟨fun k => by cases k; exact T.cl_Record; exact T.cl_Inserted; exact T.cl_Removed; exact T.cl_Fronted, fun k => by cases k; exact T.ty_Record; exact T.ty_Inserted; exact T.ty_Removed; exact T.ty_Fronted⟩
theorem item_of (T : Txt K mg A) (c : Kd) : Cls K (cad A c.cn) ∧ PropOf K (cad A c.cn) "item" A.p_Record_item A.m_Record_item := by
  cases c
  · exact ⟨T.cl_Record, T.pr_Record_item⟩
  · exact ⟨T.cl_Inserted, T.pr_Inserted_item⟩
  · exact ⟨T.cl_Removed, T.pr_Removed_item⟩
  · exact ⟨T.cl_Fronted, T.pr_Fronted_item⟩
theorem slot_of (T : Txt K mg A) (c : Kd) : Cls K (cad A c.cn) ∧ PropOf K (cad A c.cn) "slot" A.p_Record_slot A.m_Record_slot := by
  cases c
  · exact ⟨T.cl_Record, T.pr_Record_slot⟩
  · exact ⟨T.cl_Inserted, T.pr_Inserted_slot⟩
  · exact ⟨T.cl_Removed, T.pr_Removed_slot⟩
  · exact ⟨T.cl_Fronted, T.pr_Fronted_slot⟩
theorem fld_item (T : Txt K mg A) (c : Kd) : Cls K (cad A c.cn) ∧ NoAttr K (cad A c.cn) "_item" := by
  cases c
  · exact ⟨T.cl_Record, T.na_Record_item⟩
  · exact ⟨T.cl_Inserted, T.na_Inserted_item⟩
  · exact ⟨T.cl_Removed, T.na_Removed_item⟩
  · exact ⟨T.cl_Fronted, T.na_Fronted_item⟩
theorem fld_slot (T : Txt K mg A) (c : Kd) : Cls K (cad A c.cn) ∧ NoAttr K (cad A c.cn) "_slot" := by
  cases c
  · exact ⟨T.cl_Record, T.na_Record_slot⟩
  · exact ⟨T.cl_Inserted, T.na_Inserted_slot⟩
  · exact ⟨T.cl_Removed, T.na_Removed_slot⟩
  · exact ⟨T.cl_Fronted, T.na_Fronted_slot⟩
theorem sign_at (T : Txt K mg A) (c : Kd) : Cls K (cad A c.cn) ∧ ∃ u, Con K (cad A c.cn) "SIGN" (.str (sgK c)) u := by
  cases c
  · exact ⟨T.cl_Record, T.iv_Record_SIGN⟩
  · exact ⟨T.cl_Inserted, T.iv_Inserted_SIGN⟩
  · exact ⟨T.cl_Removed, T.iv_Removed_SIGN⟩
  · exact ⟨T.cl_Fronted, T.iv_Fronted_SIGN⟩
theorem tb_Record (T : Txt K mg A) : TabOk K (cad A) (.ref A.c_Record) (tabC .N) := tabC_ok (u := .N) (fun t => by cases t; exact T.kit_type_NoneType_Record; exact T.kit_type_bool_Record; exact T.kit_type_int_Record; exact T.kit_type_str_Record; exact T.kit_type_list_Record; exact T.kit_type_tuple_Record; exact T.kit_type_dict_Record) fun k => by cases k; exact T.kit_Record_Record; exact T.kit_Inserted_Record; exact T.kit_Removed_Record; exact T.kit_Fronted_Record
theorem tb_Inserted (T : Txt K mg A) : TabOk K (cad A) (.ref A.c_Inserted) (tabC .I) := tabC_ok (u := .I) (fun t => by cases t; exact T.kit_type_NoneType_Inserted; exact T.kit_type_bool_Inserted; exact T.kit_type_int_Inserted; exact T.kit_type_str_Inserted; exact T.kit_type_list_Inserted; exact T.kit_type_tuple_Inserted; exact T.kit_type_dict_Inserted) fun k => by cases k; exact T.kit_Record_Inserted; exact T.kit_Inserted_Inserted; exact T.kit_Removed_Inserted; exact T.kit_Fronted_Inserted
theorem tb_Removed (T : Txt K mg A) : TabOk K (cad A) (.ref A.c_Removed) (tabC .R) := tabC_ok (u := .R) (fun t => by cases t; exact T.kit_type_NoneType_Removed; exact T.kit_type_bool_Removed; exact T.kit_type_int_Removed; exact T.kit_type_str_Removed; exact T.kit_type_list_Removed; exact T.kit_type_tuple_Removed; exact T.kit_type_dict_Removed) fun k => by cases k; exact T.kit_Record_Removed; exact T.kit_Inserted_Removed; exact T.kit_Removed_Removed; exact T.kit_Fronted_Removed
theorem tb_Fronted (T : Txt K mg A) : TabOk K (cad A) (.ref A.c_Fronted) (tabC .F) := tabC_ok (u := .F) (fun t => by cases t; exact T.kit_type_NoneType_Fronted; exact T.kit_type_bool_Fronted; exact T.kit_type_int_Fronted; exact T.kit_type_str_Fronted; exact T.kit_type_list_Fronted; exact T.kit_type_tuple_Fronted; exact T.kit_type_dict_Fronted) fun k => by cases k; exact T.kit_Record_Fronted; exact T.kit_Inserted_Fronted; exact T.kit_Removed_Fronted; exact T.kit_Fronted_Fronted
theorem tb_bool (T : Txt K mg A) : TabOk K (cad A) (.type "bool") (tabB true .bool) := tabB_ok (fun _ k => by cases k; exact T.kit_Record_type_bool; exact T.kit_Inserted_type_bool; exact T.kit_Removed_type_bool; exact T.kit_Fronted_type_bool)
theorem tb_int (T : Txt K mg A) : TabOk K (cad A) (.type "int") (tabB true .int) := tabB_ok (fun _ k => by cases k; exact T.kit_Record_type_int; exact T.kit_Inserted_type_int; exact T.kit_Removed_type_int; exact T.kit_Fronted_type_int)
theorem tb_str (T : Txt K mg A) : TabOk K (cad A) (.type "str") (tabB true .str) := tabB_ok (fun _ k => by cases k; exact T.kit_Record_type_str; exact T.kit_Inserted_type_str; exact T.kit_Removed_type_str; exact T.kit_Fronted_type_str)
theorem tb_list (T : Txt K mg A) : TabOk K (cad A) (.type "list") (tabB true .list) := tabB_ok (fun _ k => by cases k; exact T.kit_Record_type_list; exact T.kit_Inserted_type_list; exact T.kit_Removed_type_list; exact T.kit_Fronted_type_list)
theorem tb_tuple (T : Txt K mg A) : TabOk K (cad A) (.type "tuple") (tabB false .tuple) := tabB_ok (fun z => by cases z)
theorem tb_dict (T : Txt K mg A) : TabOk K (cad A) (.type "dict") (tabB false .dict) := tabB_ok (fun z => by cases z)
end

section
variable {P : Program} {w : World} {K : PySem.W.Frag} {mg : Str → Option Value} {base : Heap} {A : Ad}
/-! ### numbers, items, lists of items; the records' own defs -/
def gIsInt : DSp := fun ss Q _ => ∃ d, ss = [.val d] ∧ tyB d = true ∧ Q (.val (.bl (isIntD d))) []
theorem ok_is_integer (T : Txt K mg A) : Ok1 P w K mg base 1 A.f_is_integer ["thing"] (SpD K (cad A) gIsInt) := by
  refine okD T.fn_is_integer sc_is_integer (fun _ _ _ _ _ _ us hl => match us, hl with | [_], _ => rfl) (fun ss Q QX ⟨d, e, _⟩ => by rw [e]; rfl) fun cdv B up s H E hr => ⟨_, _, (pss_one (ps_ret (pe_and (pe_callB call_isi (by rfl) T.no_isinstance (by decide +kernel) (pa_cons (pv 0) (pa_cons (pe_bltn (v := .ty "int") (by rfl) T.no_int (by decide +kernel) rfl) pa_nil))) (pe_one (pe_not (pe_callB call_isi (by rfl) T.no_isinstance (by decide +kernel) (pa_cons (pv 0) (pa_cons (pe_bltn (v := .ty "bool") (by rfl) T.no_bool (by decide +kernel) rfl) pa_nil)))))))), (ds_ret (de_and (de_isi (row_t T) (.ty _) (tb_int T) (de_var (i := 0))) (de_not (de_isi (row_t T) (.ty _) (tb_bool T) (de_var (i := 0)))))), fun ss Q QX h => ?_⟩
  obtain ⟨d, rfl, t, h⟩ := h
  cases d <;> first
    | exact h
    | cases t
def gIsItem : DSp := fun ss Q _ => ∃ d, ss = [.val d] ∧ tyB d = true ∧ Q (.val (.bl (isItemD d))) []
theorem ok_is_item (T : Txt K mg A) : Ok1 P w K mg base 1 A.f_is_item ["thing"] (SpD K (cad A) gIsItem) := by
  refine okD T.fn_is_item sc_is_item (fun _ _ _ _ _ _ us hl => match us, hl with | [_], _ => rfl) (fun ss Q QX ⟨d, e, _⟩ => by rw [e]; rfl) fun cdv B up s H E hr => ⟨_, _, (pss_cons (ps_if (PW.pt (pw_or (pt_not (pt_val (pe_callB call_isi (by rfl) T.no_isinstance (by decide +kernel) (pa_cons (pv 0) (pa_cons (pe_bltn (v := .ty "str") (by rfl) T.no_str (by decide +kernel) rfl) pa_nil))))) (pw_or1 (pt_cmpR op_gt (pe_callB call_len (by rfl) T.no_len (by decide +kernel) (pa_cons (pv 0) pa_nil)) (pe_globC T.mg_MOST_LETTERS) (nomark _))))) (pss_one (ps_ret pe_bl)) pss_nil)
      (pss_one (ps_ret (pe_and (pe_bm0 PySem.F.plainAttrs_str PySem.F.slot_str_isascii PySem.F.type_str_isascii mt_isascii (pv 0)) (pe_and (pe_bm0 PySem.F.plainAttrs_str PySem.F.slot_str_isalpha PySem.F.type_str_isalpha mt_isalpha (pv 0)) (pe_one (pe_bm0 PySem.F.plainAttrs_str PySem.F.slot_str_islower PySem.F.type_str_islower mt_islower (pv 0)))))))), (ds_seq (ds_if (dt_or (dt_not (dt_val (de_isi (row_t T) (.ty _) (tb_str T) (de_var (i := 0))))) (dt_test (de_op od_gt (de_cb cd_len (da_cons (de_var (i := 0)) da_nil)) de_int))) (ds_ret de_bl) ds_next)
      (ds_ret (de_and (de_bm0 (t := .str) md_str (de_var (i := 0))) (de_and (de_bm0 (t := .str) md_str (de_var (i := 0))) (de_bm0 (t := .str) md_str (de_var (i := 0))))))), fun ss Q QX h => ?_⟩
  obtain ⟨d, rfl, t, h⟩ := h
  cases d with
  | str x =>
    have h : Q (.val (.bl (isItem x))) [] := h
    unfold isItem at h
    refine ifP (fun c => ?_) fun c => ?_
    · rw [decide_eq_false (by omega)] at h
      exact h
    · rw [decide_eq_true (by omega), Bool.true_and] at h
      refine ⟨rfl, if2 (fun c1 => ?_) fun c1 => ?_⟩
      · rw [c1, Bool.true_and] at h
        refine ⟨rfl, if2 (fun c2 => ?_) fun c2 => ?_⟩
        · rw [c2, Bool.true_and] at h
          exact ⟨rfl, h⟩
        · rw [c2] at h
          exact h
      · rw [c1] at h
        exact h
  | err c fs => cases t
  | scr ns => cases t
  | _ => exact h
def gIdxX : DSp := fun ss Q QX => ∃ d, ss = [.val d] ∧ tyB d = true ∧ ifD (isIdxD d) (Q (.val .non) []) (QX .NoIndex [] [])
theorem ok_check_index (T : Txt K mg A) : OkX P w K mg base 2 A.f_check_index ["slot"] (SpD K (cad A) gIdxX) := by
  refine okXD T.fn_check_index sc_check_index (fun _ _ _ _ _ _ us hl => match us, hl with | [_], _ => rfl) (fun ss Q QX ⟨d, e, _⟩ => by rw [e]; rfl) fun cdv B up s H E hr => ⟨_, _, (pss_one (ps_if (PW.pt (pw_or (pt_not (pt_val (po_call (ok_is_integer T) (hr.mono (by decide)) T.mg_is_integer (pa_cons (pv 0) pa_nil)))) (pw_or1 (pt_not (pt_chain op_le op_le pe_int (pv 0) (pe_clsv T.cv_Record_MOST (pe_glob (v := .ref A.c_Record) rfl T.mg_Record rfl))))))) (pss_one (ps_raise rfl (takes_of rfl rfl rfl rfl) (pmk_own PySem.F.excBase_ValueError T.er_NoIndex.xP T.mg_NoIndex T.er_NoIndex.kp (raises_own T.er_NoIndex.bP T.er_NoIndex.tP) rfl))) pss_nil)), (ds_if (dt_or (dt_not (dt_val (de_call (da_cons (de_fz (de_var (i := 0))) da_nil)))) (dt_not (dt_test (de_chain od_le od_le de_int (de_var (i := 0)) de_int)))) (ds_raise (c := .NoIndex)) ds_next), fun ss Q QX h => ?_⟩
  obtain ⟨d, rfl, t, h⟩ := h
  refine ⟨d, rfl, t, ?_⟩
  cases d with
  | int i =>
    have h : ifD (decide (0 ≤ i) && decide (i ≤ 60)) (Q (.val .non) []) (QX .NoIndex [] []) := h
    refine ifP (p := (0 : Int) ≤ i) (fun c => ?_) fun c => ?_
    · rw [decide_eq_true c, Bool.true_and] at h
      refine if2 (b := !decide (i ≤ 60)) (fun c1 => ?_) fun c1 => ?_
      · rw [Bool.not_eq_true'] at c1
        exact ifB h c1
      · rw [Bool.not_eq_false'] at c1
        exact ifA h c1
    · rw [decide_eq_false c, Bool.false_and] at h
      exact h
  | err c fs => cases t
  | scr ns => cases t
  | _ => exact h
def spInit (K : PySem.W.Frag) (cad : Cn → Addr) : Sp := fun vs H Q _ => ∃ (p dx : Addr) (c : Kd) (x : Str) (n : Int), vs = [.ref p, .str x, .int n] ∧ H p = some (.ins (cad c.cn) dx []) ∧ isItem x = true ∧ 0 ≤ n ∧ n ≤ 60 ∧
  ∀ H' : Hp, H' p = some (.ins (cad c.cn) dx (rfs x n)) → But p H H' → Q .non H'
theorem init_ok (T : Txt K mg A) (c : Kd) : InitOk K (cad A) (spInit K (cad A)) c := fun p dx x n H Q E hp hi h0 h1 h => ⟨p, dx, c, x, n, rfl, hp, hi, h0, h1, h⟩
theorem ok_Record___init__ (T : Txt K mg A) : Ok1 P w K mg base 3 A.m_Record___init__ ["self", "item", "slot"] (spInit K (cad A)) := by
  refine T.fn_Record___init__.ok sc_Record___init__ (fun _ _ _ _ _ _ us hl => match us, hl with | [_, _, _], _ => rfl) (fun vs H Q E h => ?_) (fun cdv B up s H vs Q E hr h => ?_)
  · obtain ⟨p, dx, c, x, n, rfl, _⟩ := h
    rfl
  · obtain ⟨p, dx, c, x, n, rfl, hp, hi, h0, h1, h⟩ := h
    refine ⟨_, (pss_cons (ps_if (pt_not (pt_val (po_call (ok_is_item T) (hr.mono (by decide)) T.mg_is_item (pa_cons (pv 1) pa_nil)))) (pss_one ps_never) pss_nil)
      (pss_cons (ps_expr (px_call (ok_check_index T) (fun _ => atL) (hr.mono (by decide)) T.mg_check_index (pa_cons (pv 2) pa_nil)))
      (pss_cons (ps_fld (pv 0) (pv 1) rfl)
      (pss_one (ps_fld (pv 0) (pv 2) rfl))))), ?_⟩
    refine ⟨_, rfl, SpD.flat (F := fun _ => none) (ds := [.str x]) (fun _ _ e => by cases e) (.one (.str x (item_ok hi))) ⟨_, rfl, rfl, _, rfl, fun v F' H' s _ r => ?_⟩⟩
    obtain rfl := r.blI
    refine ⟨_, rfl, ?_⟩
    rw [show isItemD (.str x) = true from hi]
    refine iteF ?_
    refine ⟨_, rfl, SpD.flat (F := fun _ => none) (ds := [.int n]) (fun _ _ e => by cases e) (.one (.int n)) ⟨_, rfl, rfl, ifY (by show (decide (0 ≤ n) && decide (n ≤ 60)) = true; rw [decide_eq_true h0, decide_eq_true h1]; rfl) ⟨_, rfl, fun v F2 H2 s2 _ r => ?_⟩⟩⟩
    have hp2 := s2 _ _ (s _ _ hp)
    refine ⟨_, rfl, _, rfl, p, _, dx, _, rfl, hp2, (fld_item T c).1, (fld_item T c).2, (by decide), ?_⟩
    refine ⟨_, rfl, _, rfl, p, _, dx, _, rfl, upd_same, (fld_slot T c).1, (fld_slot T c).2, (by show 1 < 1000; decide), ?_⟩
    exact h _ upd_same (But.trans (But.same (s.trans s2)) (But.upd.trans But.upd))
def spGet (K : PySem.W.Frag) (cad : Cn → Addr) (val : Str → Int → D) : Sp := fun vs H Q _ => ∃ (a dx : Addr) (c : Kd) (x : Str) (n : Int), vs = [.ref a] ∧ SOk x ∧ H a = some (.ins (cad c.cn) dx (rfs x n)) ∧ ∀ v : V, (∀ F, Rep K cad F v (val x n)) → Q v H
theorem get_of {val : Str → Int → D} : GetOk K (cad A) (spGet K (cad A) val) val := fun c a dx x n H Q E ok ha q => ⟨a, dx, c, x, n, rfl, ok, ha, q⟩
theorem ok_Record_item (T : Txt K mg A) : Ok1 P w K mg base 1 A.m_Record_item ["self"] (spGet K (cad A) fun x _ => .str x) := by
  refine T.fn_Record_item.ok sc_Record_item (fun _ _ _ _ _ _ us hl => match us, hl with | [_], _ => rfl) (fun vs H Q E h => ?_) (fun cdv B up s H vs Q E hr h => ?_)
  · obtain ⟨a, dx, c, x, n, rfl, _⟩ := h
    rfl
  · obtain ⟨a, dx, c, x, n, rfl, ok, ha, h⟩ := h
    refine ⟨_, (pss_one (ps_ret (pe_fld (pv 0) rfl))), ?_⟩
    obtain ⟨v, e, r⟩ := rfsI (K := K) (cad := cad A) (F := fun _ => none) x n ok
    exact ⟨_, rfl, a, _, dx, _, v, rfl, ha, (fld_item T c).1, (fld_item T c).2, e, h v r⟩
theorem ok_Record_slot (T : Txt K mg A) : Ok1 P w K mg base 1 A.m_Record_slot ["self"] (spGet K (cad A) fun _ n => .int n) := by
  refine T.fn_Record_slot.ok sc_Record_slot (fun _ _ _ _ _ _ us hl => match us, hl with | [_], _ => rfl) (fun vs H Q E h => ?_) (fun cdv B up s H vs Q E hr h => ?_)
  · obtain ⟨a, dx, c, x, n, rfl, _⟩ := h
    rfl
  · obtain ⟨a, dx, c, x, n, rfl, ok, ha, h⟩ := h
    refine ⟨_, (pss_one (ps_ret (pe_fld (pv 0) rfl))), ?_⟩
    obtain ⟨v, e, r⟩ := rfsS (K := K) (cad := cad A) (F := fun _ => none) x n ok
    exact ⟨_, rfl, a, _, dx, _, v, rfl, ha, (fld_slot T c).1, (fld_slot T c).2, e, h v r⟩
theorem get_item (T : Txt K mg A) : GetOk K (cad A) (spGet K (cad A) fun x _ => .str x) fun x _ => .str x := get_of
theorem get_slot (T : Txt K mg A) : GetOk K (cad A) (spGet K (cad A) fun _ n => .int n) fun _ n => .int n := get_of

end
end Own

set_option Elab.async false
set_option linter.all false
set_option maxRecDepth 100000
set_option maxHeartbeats 4000000
namespace Own
open PySem L2 ClX PD
local macro_rules | `(tactic| walk_at "y") => `(tactic| first | (refine ifY ?e ?_; (case e => first | with_reducible rfl | decide +kernel)) | (refine bofE true ?e ?_; (case e => first | with_reducible rfl | decide +kernel)))
local macro_rules | `(tactic| walk_at "n") => `(tactic| first | (refine ifN ?e ?_; (case e => first | with_reducible rfl | decide +kernel)) | (refine bofE false ?e ?_; (case e => first | with_reducible rfl | decide +kernel)))
local macro_rules | `(tactic| walk_at "t") => `(tactic| (refine ifY ?e ?_; (case e => rfl)))
local macro_rules | `(tactic| walk_at "f") => `(tactic| (refine ifN ?e ?_; (case e => rfl)))
local macro_rules | `(tactic| walk_at "go") => `(tactic| repeat (first | walk_at "t" | walk_at "f"))
local macro_rules | `(tactic| walk_at "norm") => `(tactic| dsimp only [PD.dget, PD.dset, PD.wipeD, PD.putBack, PD.putOb, PD.reOb, PD.entryD, PD.nones, List.map, List.length, PD.stayD, PD.unwipeD])

section
variable {P : Program} {w : World} {K : PySem.W.Frag} {mg : Str → Option Value} {base : Heap} {A : Ad}
/-! ### lists of items -/
def gIsItems : DSp := fun ss Q _ => ∃ d, ss = [.val d] ∧ tyB1 d = true ∧ Q (.val (.bl (isItemsD d))) []
theorem ok_is_items (T : Txt K mg A) : Ok1 P w K mg base 2 A.f_is_items ["thing"] (SpD K (cad A) gIsItems) := by
  refine okD T.fn_is_items sc_is_items (fun _ _ _ _ _ _ us hl => match us, hl with | [_], _ => rfl) (fun ss Q QX ⟨d, e, _⟩ => by rw [e]; rfl) fun cdv B up s H E hr => ⟨_, _, (pss_cons (ps_if (PW.pt (pw_or (pt_not (pt_val (pe_callB call_isi (by rfl) T.no_isinstance (by decide +kernel) (pa_cons (pv 0) (pa_cons (pe_bltn (v := .ty "list") (by rfl) T.no_list (by decide +kernel) rfl) pa_nil))))) (pw_or1 (pt_cmpR op_gt (pe_callB call_len (by rfl) T.no_len (by decide +kernel) (pa_cons (pv 0) pa_nil)) (pe_globC T.mg_MOST_ITEMS) (nomark _))))) (pss_one (ps_ret pe_bl)) pss_nil)
      (pss_one (ps_ret (pe_and (pe_callB (cr_all rfl) (by rfl) T.no_all (by decide +kernel) (pa_cons (pe_lcD (own := [("entry", 1)]) rfl sc_is_items.nd (pi_list (pv 0)) (blkOk_by (N := N_is_items) (sc := defScope s_is_items) (by decide +kernel)) (fun _ _ _ _ _ => pg_name (i := 1) sc_is_items.nd rfl (Or.inl rfl)) (fun _ _ _ _ _ => pts_nil) (fun _ _ _ _ _ => (po_call (ok_is_item T) (hr.mono (by decide)) T.mg_is_item (pa_cons (pv 1) pa_nil)))) pa_nil)) (pe_one (pe_cmpR (op_eqX hr) (pe_lenSetS T.no_len T.no_set (pv 0)) (pe_callB call_len (by rfl) T.no_len (by decide +kernel) (pa_cons (pv 0) pa_nil)) (nomark _))))))), (ds_seq (ds_if (dt_or (dt_not (dt_val (de_isi (row_t T) (.ty _) (tb_list T) (de_var (i := 0))))) (dt_test (de_op od_gt (de_cb cd_len (da_cons (de_var (i := 0)) da_nil)) de_int))) (ds_ret de_bl) ds_next)
      (ds_ret (de_and (de_cb cd_all (da_cons (de_frz (dn_lc (di_list (de_var (i := 0))) (dg_name (i := 1)) dt_yes (de_call (da_cons (de_fz (de_var (i := 1))) da_nil)) (by decide))) da_nil)) (de_op od_eq (de_lenSet (de_var (i := 0))) (de_cb cd_len (da_cons (de_var (i := 0)) da_nil)))))), fun ss Q QX h => ?_⟩
  obtain ⟨d, rfl, t, h⟩ := h
  cases d with
  | lst ds =>
    refine ifP (p := (60 : Int) < ds.length) (fun c => ?_) fun c => ?_
    · have e : isItemsD (.lst ds) = false := by show (decide (ds.length ≤ 60) && _) = false; rw [decide_eq_false (by omega)]; rfl
      rw [e] at h
      exact h
    · have ha : ds.all tyB = true := (Bool.and_eq_true ..▸ t).2
      refine ⟨trivial, lc_all' (k := fun d => .bl (isItemD d)) (fun d hd acc R1 l r => ?_) (by omega) ?_⟩
      · exact ⟨d, rfl, List.all_eq_true.mp ha d hd, l, r⟩
      · refine bls_fn (if2 (fun c1 => ?_) fun c1 => ?_)
        · rw [List.all_map] at c1
          have c1 : ds.all isItemD = true := c1
          refine strs_at c1 ⟨by rw [strs_len c1]; omega, rfl, rfl, ?_⟩
          have e : isItemsD (.lst ds) = eqD (.int (OwnSet.met (strsOf ds) (strsOf ds).length).length) (.int ds.length) := by
            show (decide (ds.length ≤ 60) && (ds.all isItemD && decide (strsOf ds).Nodup)) = _
            rw [decide_eq_true (by omega), c1, eq_int, Bool.true_and, Bool.true_and, ← OwnSet.met_all, strs_len c1]
            exact decide_eq_decide.mpr ⟨fun h => by rw [h], fun h => by omega⟩
          rw [e] at h
          exact h
        · rw [List.all_map] at c1
          have c1 : ds.all isItemD = false := c1
          have e : isItemsD (.lst ds) = false := by
            show (decide (ds.length ≤ 60) && (ds.all isItemD && decide (strsOf ds).Nodup)) = _
            rw [c1, Bool.false_and, Bool.and_false]
          rw [e] at h
          exact h
  | err c fs => cases t
  | scr ns => cases t
  | _ => exact h
def gChkItems : DSp := fun ss Q QX => ∃ d, ss = [.val d] ∧ tyB1 d = true ∧ ifD (isItemsD d) (Q (.val .non) []) (QX .NoList [] [])
theorem ok_check_items (T : Txt K mg A) : OkX P w K mg base 3 A.f_check_items ["items"] (SpD K (cad A) gChkItems) := by
  refine okXD T.fn_check_items sc_check_items (fun _ _ _ _ _ _ us hl => match us, hl with | [_], _ => rfl) (fun ss Q QX ⟨d, e, _⟩ => by rw [e]; rfl) fun cdv B up s H E hr => ⟨_, _, (pss_one (ps_if (pt_not (pt_val (po_call (ok_is_items T) (hr.mono (by decide)) T.mg_is_items (pa_cons (pv 0) pa_nil)))) (pss_one (ps_raise rfl (takes_of rfl rfl rfl rfl) (pmk_own PySem.F.excBase_ValueError T.er_NoList.xP T.mg_NoList T.er_NoList.kp (raises_own T.er_NoList.bP T.er_NoList.tP) rfl))) pss_nil)), (ds_if (dt_not (dt_val (de_call (da_cons (de_fz (de_var (i := 0))) da_nil)))) (ds_raise (c := .NoList)) ds_next), fun ss Q QX h => ?_⟩
  obtain ⟨d, rfl, t, h⟩ := h
  refine ⟨d, rfl, t, if2 (fun c => ?_) fun c => ?_⟩
  · rw [Bool.not_eq_true'] at c
    exact ifB h c
  · rw [Bool.not_eq_false'] at c
    exact ifA h c

/-! ### records, logs (without record_of) -/
theorem sg_kind (k : Kd) : decide (k ≠ .N) = !decide (sgK k = "") := by cases k <;> decide +kernel
theorem sg_fr (k : Kd) : decide (k = .F) = decide (sgK k = "^") := by cases k <;> decide +kernel
theorem sg_inj {k u : Kd} (h : sgK k = sgK u) : k = u := by
  cases k <;> cases u <;> first
    | rfl
    | exact absurd h (by decide +kernel)
def gHasKind : DSp := fun ss Q _ => ∃ d, ss = [.val d] ∧ tyB d = true ∧ Q (.val (.bl (hasKind d))) []
theorem ok_has_kind (T : Txt K mg A) : Ok1 P w K mg base 1 A.f_has_kind ["thing"] (SpD K (cad A) gHasKind) := by
  refine okD T.fn_has_kind sc_has_kind (fun _ _ _ _ _ _ us hl => match us, hl with | [_], _ => rfl) (fun ss Q QX ⟨d, e, _⟩ => by rw [e]; rfl) fun cdv B up s H E hr => ⟨_, _, (pss_one (ps_ret (pe_and (pe_callB call_isi (by rfl) T.no_isinstance (by decide +kernel) (pa_cons (pv 0) (pa_cons (pe_glob (v := .ref A.c_Record) rfl T.mg_Record rfl) pa_nil))) (pe_one (pe_cmpR (op_neX hr) (pe_con (pv 0) rfl) (pe_clsv T.cv_Record_SIGN (pe_glob (v := .ref A.c_Record) rfl T.mg_Record rfl)) (nomark _)))))), (ds_ret (de_and (de_isi (row_t T) (.own _) (tb_Record T) (de_var (i := 0))) (de_op od_ne (de_sign (sign_at T) (de_var (i := 0))) de_str))), fun ss Q QX h => ?_⟩
  obtain ⟨d, rfl, t, h⟩ := h
  cases d with
  | row k x n =>
    have e0 : subK k .N = true := by cases k <;> rfl
    refine ifY e0 ?_
    refine ⟨rfl, rfl, ?_⟩
    have e : hasKind (.row k x n) = !eqD (.str (sgK k)) (.str "") := by rw [eq_str]; exact sg_kind k
    rw [e] at h
    exact h
  | err c fs => cases t
  | scr ns => cases t
  | _ => exact h
def gAreRecs : DSp := fun ss Q _ => ∃ (d : D) (m : Int), ss = [.val d, .val (.int m)] ∧ tyB1 d = true ∧ m ≤ 1000 ∧ Q (.val (.bl (isRecsD m d))) []
theorem ok_are_records (T : Txt K mg A) : Ok1 P w K mg base 2 A.f_are_records ["thing", "most"] (SpD K (cad A) gAreRecs) := by
  refine okD T.fn_are_records sc_are_records (fun _ _ _ _ _ _ us hl => match us, hl with | [_, _], _ => rfl) (fun ss Q QX ⟨d, _, e, _⟩ => by rw [e]; rfl) fun cdv B up s H E hr => ⟨_, _, (pss_cons (ps_if (PW.pt (pw_or (pt_not (pt_val (pe_callB call_isi (by rfl) T.no_isinstance (by decide +kernel) (pa_cons (pv 0) (pa_cons (pe_bltn (v := .ty "list") (by rfl) T.no_list (by decide +kernel) rfl) pa_nil))))) (pw_or1 (pt_cmpR op_gt (pe_callB call_len (by rfl) T.no_len (by decide +kernel) (pa_cons (pv 0) pa_nil)) (pv 1) (nomark _))))) (pss_one (ps_ret pe_bl)) pss_nil)
      (pss_one (ps_ret (pe_callB (cr_all rfl) (by rfl) T.no_all (by decide +kernel) (pa_cons (pe_lcD (own := [("entry", 2)]) rfl sc_are_records.nd (pi_list (pv 0)) (blkOk_by (N := N_are_records) (sc := defScope s_are_records) (by decide +kernel)) (fun _ _ _ _ _ => pg_name (i := 2) sc_are_records.nd rfl (Or.inl rfl)) (fun _ _ _ _ _ => pts_nil) (fun _ _ _ _ _ => (po_call (ok_has_kind T) (hr.mono (by decide)) T.mg_has_kind (pa_cons (pv 2) pa_nil)))) pa_nil))))), (ds_seq (ds_if (dt_or (dt_not (dt_val (de_isi (row_t T) (.ty _) (tb_list T) (de_var (i := 0))))) (dt_test (de_op od_gt (de_cb cd_len (da_cons (de_var (i := 0)) da_nil)) (de_var (i := 1))))) (ds_ret de_bl) ds_next)
      (ds_ret (de_cb cd_all (da_cons (de_frz (dn_lc (di_list (de_var (i := 0))) (dg_name (i := 2)) dt_yes (de_call (da_cons (de_fz (de_var (i := 2))) da_nil)) (by decide))) da_nil)))), fun ss Q QX h => ?_⟩
  obtain ⟨d, m, rfl, t, hm, h⟩ := h
  cases d with
  | lst ds =>
    have h : Q (.val (.bl (decide ((ds.length : Int) ≤ m) && ds.all hasKind))) [] := h
    refine ifP (p := m < ds.length) (fun c => ?_) fun c => ?_
    · rw [decide_eq_false (by omega), Bool.false_and] at h
      exact h
    · rw [decide_eq_true (by omega), Bool.true_and] at h
      have ha : ds.all tyB = true := t
      refine ⟨trivial, lc_all' (k := fun d => .bl (hasKind d)) (fun d hd acc R1 l r => ?_) ?_ ?_⟩
      · exact ⟨d, rfl, List.all_eq_true.mp ha d hd, l, r⟩
      · omega
      refine bls_fn ?_
      rw [all_fn]
      exact h
  | err c fs => cases t
  | scr ns => cases t
  | _ => exact h
def gIsLog : DSp := fun ss Q _ => ∃ d, ss = [.val d] ∧ tyB1 d = true ∧ Q (.val (.bl (isLogD d))) []
theorem ok_is_log (T : Txt K mg A) : Ok1 P w K mg base 3 A.f_is_log ["thing"] (SpD K (cad A) gIsLog) := by
  refine okD T.fn_is_log sc_is_log (fun _ _ _ _ _ _ us hl => match us, hl with | [_], _ => rfl) (fun ss Q QX ⟨d, e, _⟩ => by rw [e]; rfl) fun cdv B up s H E hr => ⟨_, _, (pss_cons (ps_if (pt_not (pt_val (po_call (ok_are_records T) (hr.mono (by decide)) T.mg_are_records (pa_cons (pv 0) (pa_cons (pe_globC T.mg_MOST_IN_LOG) pa_nil))))) (pss_one (ps_ret pe_bl)) pss_nil)
      (pss_cons (ps_if (pt_cmpR op_gt (pe_callB OwnSet.call_lenTx (by rfl) T.no_len (by decide +kernel) (pa_cons (OwnSet.pe_sxD (own := [("record", 1)]) rfl sc_is_log.nd (pi_list (pv 0)) (blkOk_by (N := N_is_log) (sc := defScope s_is_log) (by decide +kernel)) (fun _ _ _ _ _ => pg_name (i := 1) sc_is_log.nd rfl (Or.inl rfl)) (fun _ _ _ _ _ => pts_nil) (fun _ _ _ _ _ => (pe_con (pv 1) rfl))) pa_nil)) pe_int (nomark _)) (pss_one (ps_ret pe_bl)) pss_nil)
      (pss_one (ps_ret (pe_cmpR (op_eqX hr) (pe_callB OwnSet.call_lenTx (by rfl) T.no_len (by decide +kernel) (pa_cons (OwnSet.pe_sxD (own := [("record", 1)]) rfl sc_is_log.nd (pi_list (pv 0)) (blkOk_by (N := N_is_log) (sc := defScope s_is_log) (by decide +kernel)) (fun _ _ _ _ _ => pg_name (i := 1) sc_is_log.nd rfl (Or.inl rfl)) (fun _ _ _ _ _ => pts_nil) (fun _ _ _ _ _ => (po_propD (p := A.p_Record_item) (ok_Record_item T) (hr.mono (by decide)) (pv 1)))) pa_nil)) (pe_callB call_len (by rfl) T.no_len (by decide +kernel) (pa_cons (pv 0) pa_nil)) (nomark _)))))), (ds_seq (ds_if (dt_not (dt_val (de_call (da_cons (de_fz (de_var (i := 0))) (da_cons de_int da_nil))))) (ds_ret de_bl) ds_next)
      (ds_seq (ds_if (dt_test (de_op od_gt (de_lenSx (di_list (de_var (i := 0))) (dg_name (i := 1)) dt_yes (de_sign (sign_at T) (de_var (i := 1))) (by decide)) de_int)) (ds_ret de_bl) ds_next)
      (ds_ret (de_op od_eq (de_lenSx (di_list (de_var (i := 0))) (dg_name (i := 1)) dt_yes (de_prop (item_of T) (get_item T) (de_var (i := 1))) (by decide)) (de_cb cd_len (da_cons (de_var (i := 0)) da_nil)))))), fun ss Q QX h => ?_⟩
  obtain ⟨d, rfl, t, h⟩ := h
  refine ⟨d, 40, rfl, t, by decide, if2 (fun c => ?_) fun c => ?_⟩
  · rw [Bool.not_eq_true'] at c
    have e : isLogD d = false := by
      cases d with
      | lst ds =>
        have c : (decide ((ds.length : Int) ≤ 40) && ds.all hasKind) = false := c
        show ((decide (ds.length ≤ 40) && ds.all hasKind) && _) = false
        rw [show decide (ds.length ≤ 40) = decide ((ds.length : Int) ≤ 40) from decide_eq_decide.mpr (by omega), c]
        rfl
      | _ => rfl
    rw [e] at h
    exact h
  · rw [Bool.not_eq_false'] at c
    cases d with
    | lst ds =>
      have c : (decide ((ds.length : Int) ≤ 40) && ds.all hasKind) = true := c
      rw [Bool.and_eq_true] at c
      have l : ds.length ≤ 40 := by have := of_decide_eq_true c.1; omega
      obtain ⟨e, g⟩ := rows_of c.2
      have eL : isLogD (.lst ds) = (oneKind (rowsOf ds) && decide ((rowsOf ds).map Rw.x).Nodup) := by
        show ((decide (ds.length ≤ 40) && ds.all hasKind) && _) = _
        rw [decide_eq_true l, c.2]
        rfl
      have lr := rows_len c.2
      rw [eL] at h
      generalize rowsOf ds = rs at e g h lr
      subst e
      rw [List.length_map] at l
      clear eL c t lr
      refine ⟨trivial, sx_all (h := fun r : Rw => sgK r.k) (fun r hr ms R1 l q => ?_) ?_ ?_⟩
      · exact ⟨l, q⟩
      · show 0 + rs.length < 4096
        omega
      have ls : (putMs [] (rs.map fun r => sgK r.k)).length ≤ 0 + rs.length := by
        have := putMs_len (rs.map fun r => sgK r.k) []
        rw [List.length_map] at this
        exact this
      have ek : (putMs [] (rs.map fun r => sgK r.k)).length ≤ 1 ↔ oneKind rs = true := by
        rw [putMs_one, one_kind]
        refine ⟨fun q r hr s hs => ?_, fun q a ha b hb => ?_⟩
        · exact sg_inj (q _ (List.mem_map_of_mem hr) _ (List.mem_map_of_mem hs))
        · obtain ⟨r, hr, rfl⟩ := List.mem_map.mp ha
          obtain ⟨s, hs, rfl⟩ := List.mem_map.mp hb
          rw [q r hr s hs]
      refine ⟨by omega, ifP (p := (1 : Int) < ((putMs [] (rs.map fun r => sgK r.k)).length : Nat)) (fun c => ?_) fun c => ?_⟩
      · have z : oneKind rs = false := Bool.eq_false_iff.mpr fun z => by have := ek.mpr z; omega
        rw [z] at h
        exact h
      · have z : oneKind rs = true := ek.mp (by omega)
        rw [z, Bool.true_and] at h
        refine ⟨trivial, sx_all (h := fun r : Rw => r.x) (fun r hr ms R1 l q => ?_) ?_ ?_⟩
        · exact ⟨l, q⟩
        · show 0 + rs.length < 4096
          omega
        have ln : (putMs [] (rs.map fun r => r.x)).length ≤ 0 + rs.length := by
          have := putMs_len (rs.map fun r => r.x) []
          rw [List.length_map] at this
          exact this
        refine ⟨by omega, rfl, rfl, ?_⟩
        have e : decide (rs.map Rw.x).Nodup = eqD (.int ((putMs [] (rs.map fun r => r.x)).length : Nat)) (.int ((rs.map Rw.d).length : Nat)) := by
          rw [eq_int]
          refine decide_eq_decide.mpr ?_
          rw [← putMs_set, List.length_map, List.length_map]
          exact ⟨fun h => by rw [← h], fun h => Int.ofNat.inj h⟩
        rw [e] at h
        exact h
    | _ => cases c
def gChkLog : DSp := fun ss Q QX => ∃ d, ss = [.val d] ∧ tyB1 d = true ∧ ifD (isLogD d) (Q (.val .non) []) (QX .NoLog [] [])
theorem ok_check_log (T : Txt K mg A) : OkX P w K mg base 4 A.f_check_log ["log"] (SpD K (cad A) gChkLog) := by
  refine okXD T.fn_check_log sc_check_log (fun _ _ _ _ _ _ us hl => match us, hl with | [_], _ => rfl) (fun ss Q QX ⟨d, e, _⟩ => by rw [e]; rfl) fun cdv B up s H E hr => ⟨_, _, (pss_one (ps_if (pt_not (pt_val (po_call (ok_is_log T) (hr.mono (by decide)) T.mg_is_log (pa_cons (pv 0) pa_nil)))) (pss_one (ps_raise rfl (takes_of rfl rfl rfl rfl) (pmk_own PySem.F.excBase_ValueError T.er_NoLog.xP T.mg_NoLog T.er_NoLog.kp (raises_own T.er_NoLog.bP T.er_NoLog.tP) rfl))) pss_nil)), (ds_if (dt_not (dt_val (de_call (da_cons (de_fz (de_var (i := 0))) da_nil)))) (ds_raise (c := .NoLog)) ds_next), fun ss Q QX h => ?_⟩
  obtain ⟨d, rfl, t, h⟩ := h
  refine ⟨d, rfl, t, if2 (fun c => ?_) fun c => ?_⟩
  · rw [Bool.not_eq_true'] at c
    exact ifB h c
  · rw [Bool.not_eq_false'] at c
    exact ifA h c
def gSignOf : DSp := fun ss Q _ => ∃ rs : List Rw, ss = [.val (.lst (rs.map Rw.d))] ∧ Q (.val (.str (sgOf rs))) []
theorem ok_sign_of (T : Txt K mg A) : Ok1 P w K mg base 1 A.f_sign_of ["log"] (SpD K (cad A) gSignOf) := by
  refine okD T.fn_sign_of sc_sign_of (fun _ _ _ _ _ _ us hl => match us, hl with | [_], _ => rfl) (fun ss Q QX ⟨d, e, _⟩ => by rw [e]; rfl) fun cdv B up s H E hr => ⟨_, _, (pss_one (ps_ret (pe_ifExp (pt_cmpR op_gt (pe_callB call_len (by rfl) T.no_len (by decide +kernel) (pa_cons (pv 0) pa_nil)) pe_int (nomark _)) (pe_con (pe_ix ix_seq (pv 0) pe_int (fun _ _ => rfl)) rfl) (pe_clsv T.cv_Record_SIGN (pe_glob (v := .ref A.c_Record) rfl T.mg_Record rfl))))), (ds_ret (de_if (dt_test (de_op od_gt (de_cb cd_len (da_cons (de_var (i := 0)) da_nil)) de_int)) (de_sign (sign_at T) (de_op od_ix (de_var (i := 0)) de_int)) de_str)), fun ss Q QX h => ?_⟩
  obtain ⟨rs, rfl, h⟩ := h
  cases rs with
  | nil => exact h
  | cons r rs =>
    refine ifP (p := (0 : Int) < ((r :: rs).map Rw.d).length) (fun c => ?_) fun c => absurd (show (0 : Int) < (((r :: rs).map Rw.d).length : Nat) by simp) c
    refine at_n (i := 0) (d := r.d) rfl ?_
    exact h
def gIsFr : DSp := fun ss Q _ => ∃ rs : List Rw, ss = [.val (.lst (rs.map Rw.d))] ∧ Q (.val (.bl (isFr rs))) []
theorem ok_is_fronted (T : Txt K mg A) : Ok1 P w K mg base 2 A.f_is_fronted ["log"] (SpD K (cad A) gIsFr) := by
  refine okD T.fn_is_fronted sc_is_fronted (fun _ _ _ _ _ _ us hl => match us, hl with | [_], _ => rfl) (fun ss Q QX ⟨d, e, _⟩ => by rw [e]; rfl) fun cdv B up s H E hr => ⟨_, _, (pss_one (ps_ret (pe_cmpR (op_eqX hr) (po_call (ok_sign_of T) (hr.mono (by decide)) T.mg_sign_of (pa_cons (pv 0) pa_nil)) (pe_clsv T.cv_Fronted_SIGN (pe_glob (v := .ref A.c_Fronted) rfl T.mg_Fronted rfl)) (nomark _)))), (ds_ret (de_op od_eq (de_call (da_cons (de_fz (de_var (i := 0))) da_nil)) de_str)), fun ss Q QX h => ?_⟩
  obtain ⟨rs, rfl, h⟩ := h
  refine ⟨rs, rfl, ?_⟩
  refine ⟨by cases rs with | nil => rfl | cons _ _ => rfl, rfl, ?_⟩
  have e : isFr rs = eqD (.str (sgOf rs)) (.str "^") := by
    rw [eq_str]
    cases rs with
    | nil => rfl
    | cons r rs => exact sg_fr r.k
  rw [e] at h
  exact h

end
end Own

set_option Elab.async false
set_option linter.all false
set_option maxRecDepth 100000
set_option maxHeartbeats 4000000
namespace Own
open PySem L2 ClX PD
local macro_rules | `(tactic| walk_at "y") => `(tactic| first | (refine ifY ?e ?_; (case e => first | with_reducible rfl | decide +kernel)) | (refine bofE true ?e ?_; (case e => first | with_reducible rfl | decide +kernel)))
local macro_rules | `(tactic| walk_at "n") => `(tactic| first | (refine ifN ?e ?_; (case e => first | with_reducible rfl | decide +kernel)) | (refine bofE false ?e ?_; (case e => first | with_reducible rfl | decide +kernel)))
local macro_rules | `(tactic| walk_at "t") => `(tactic| (refine ifY ?e ?_; (case e => rfl)))
local macro_rules | `(tactic| walk_at "f") => `(tactic| (refine ifN ?e ?_; (case e => rfl)))
local macro_rules | `(tactic| walk_at "go") => `(tactic| repeat (first | walk_at "t" | walk_at "f"))
local macro_rules | `(tactic| walk_at "norm") => `(tactic| dsimp only [PD.dget, PD.dset, PD.wipeD, PD.putBack, PD.putOb, PD.reOb, PD.entryD, PD.nones, List.map, List.length, PD.stayD, PD.unwipeD])

section
variable {P : Program} {w : World} {K : PySem.W.Frag} {mg : Str → Option Value} {base : Heap} {A : Ad}
/-! ### ==, of a record and anything -/
theorem con_fn {C : Addr} {x y : Str} {u v : Value} {nm : Str} (h : Con K C nm (.str x) u) (h' : Con K C nm (.str y) v) : x = y := by
  have e : u = v := by
    have := h.at_.symm.trans h'.at_
    injection this with this
    injection this
  subst e
  obtain ⟨t, ht⟩ := h.rel
  obtain ⟨t', ht'⟩ := h'.rel
  rw [ht] at ht'
  injection ht'
theorem cn_inj (T : Txt K mg A) (k u : Kd) (e : cad A k.cn = cad A u.cn) : k = u := by
  obtain ⟨a, ha⟩ := (sign_at T k).2
  obtain ⟨b, hb⟩ := (sign_at T u).2
  rw [e] at ha
  have z := con_fn ha hb
  revert z
  cases k <;> cases u <;> first | (intro _; rfl) | (intro z; exact absurd z (by decide +kernel))
theorem nf_of {C : Addr} (t : Bt) : PySem.W.notFirst K C (.type t.nm) = true := by
  cases t <;> first | rfl | decide +kernel
theorem nf_ref {C D : Addr} (h : PySem.W.subIn K (.ref D) (.ref C) = some false) : PySem.W.notFirst K C (.ref D) = true := by
  unfold PySem.W.notFirst
  rw [h]
  simp
theorem nf_same {C : Addr} : PySem.W.notFirst K C (.ref C) = true := by simp [PySem.W.notFirst]
theorem eq_t (T : Txt K mg A) : EqT K (cad A) A.m_Record___eq__ where
  rt := row_t T
  own := fun k => by cases k; exact T.ow_Record; exact T.ow_Inserted; exact T.ow_Removed; exact T.ow_Fronted
  nb := fun k t => nf_of t
  nf := fun k u => by
    have ne : ∀ k u : Kd, k ≠ u → cad A k.cn ≠ cad A u.cn := fun k u h e => h (cn_inj T k u e)
    cases k <;> cases u
    · exact .inl nf_same
    · exact .inr ⟨ne .N .I (by decide), T.su_Inserted_Record⟩
    · exact .inr ⟨ne .N .R (by decide), T.su_Removed_Record⟩
    · exact .inr ⟨ne .N .F (by decide), T.su_Fronted_Record⟩
    · exact .inl (nf_ref T.su_Record_Inserted)
    · exact .inl nf_same
    · exact .inl (nf_ref T.su_Removed_Inserted)
    · exact .inl (nf_ref T.su_Fronted_Inserted)
    · exact .inl (nf_ref T.su_Record_Removed)
    · exact .inl (nf_ref T.su_Inserted_Removed)
    · exact .inl nf_same
    · exact .inl (nf_ref T.su_Fronted_Removed)
    · exact .inl (nf_ref T.su_Record_Fronted)
    · exact .inl (nf_ref T.su_Inserted_Fronted)
    · exact .inl (nf_ref T.su_Removed_Fronted)
    · exact .inl nf_same
  inj := cn_inj T
theorem ok_Record___eq__ (T : Txt K mg A) : Ok1 P w K mg base 2 A.m_Record___eq__ ["self", "other"] (spEqG K (cad A)) := by
  refine T.fn_Record___eq__.ok sc_Record___eq__ (fun _ _ _ _ _ _ us hl => match us, hl with | [_, _], _ => rfl) (fun vs H Q E h => ?_) (fun cdv B up s H vs Q E hr h => ?_)
  · obtain ⟨F, a, dx, c, x, n, v, d, rfl, _⟩ := h
    rfl
  · obtain ⟨F, a, dx, c, x, n, v, d, rfl, ox, ha, sF, rv, t, h⟩ := h
    refine ⟨_, (pss_cons (ps_if (PW.pt (pw_or (pt_not (pt_val (pe_callB call_isi (by rfl) T.no_isinstance (by decide +kernel) (pa_cons (pv 1) (pa_cons (pe_glob (v := .ref A.c_Record) rfl T.mg_Record rfl) pa_nil))))) (pw_or1 (pt_cmpR (op_neX hr) (pe_con (pv 0) rfl) (pe_con (pv 1) rfl) (nomark _))))) (pss_one (ps_ret pe_bl)) pss_nil)
      (pss_one (ps_ret (pe_and (pe_cmpR (op_eqX hr) (pe_fld (pv 0) rfl) (pe_fld (pv 1) rfl) (nomark _)) (pe_one (pe_cmpR (op_eqX hr) (pe_fld (pv 0) rfl) (pe_fld (pv 1) rfl) (nomark _))))))), ?_⟩
    obtain ⟨u, hu⟩ := (sign_at T c).2
    have lk : ∀ x n, (rfs x n).lookup ("SIGN" : Str) = none := fun x n => rfs_non _ _ (by decide +kernel) (by decide +kernel)
    obtain ⟨vi, ei, ri⟩ := rfsI (K := K) (cad := cad A) (F := fun _ => none) x n ox
    obtain ⟨rfl, _⟩ := (ri fun _ => none).strI
    obtain ⟨vs, es, rs⟩ := rfsS (K := K) (cad := cad A) (F := fun _ => none) x n ox
    obtain rfl := (rs fun _ => none).intI
    obtain ⟨tt, et⟩ := ty_some t
    have ty := ty_of (row_t T) sF (View.rep rv) et
    have q := h H (Same.refl _)
    cases er : isRow d with
    | false =>
      obtain ⟨b, rfl⟩ : ∃ b, tt = .b b := by
        cases d <;> first | (cases et; exact ⟨_, rfl⟩) | (cases et; done) | (cases er; done)
      have kt : PySem.W.kitOne K (tvK (cad A) (.b b)) (.ref A.c_Record) = some false := tb_Record T (.b b) false rfl
      have e : eqRw c x n d = false := by cases d <;> first | rfl | cases er
      rw [e] at q
      refine ⟨_, rfl, _, _, _, _, false, rfl, .own _, ty, kt, ?_⟩
      exact ⟨false, rfl, iteT q⟩
    | true =>
      cases d with
      | row k y m =>
        obtain ⟨p, dp, rfl, hp, oy⟩ := rv.rowI
        have hp := sF _ _ hp
        cases et
        have kt : PySem.W.kitOne K (tvK (cad A) (.c k)) (.ref A.c_Record) = some true := tb_Record T (.c k) true (by show some (subK k .N) = some true; cases k <;> rfl)
        obtain ⟨u2, hu2⟩ := (sign_at T k).2
        obtain ⟨vi, ei2, ri⟩ := rfsI (K := K) (cad := cad A) (F := fun _ => none) y m oy
        obtain ⟨rfl, _⟩ := (ri fun _ => none).strI
        obtain ⟨vs, es2, rs⟩ := rfsS (K := K) (cad := cad A) (F := fun _ => none) y m oy
        obtain rfl := (rs fun _ => none).intI
        refine ⟨_, rfl, _, _, _, _, true, rfl, .own _, ty, kt, ?_⟩
        refine ⟨true, rfl, iteF ?_⟩
        refine ⟨_, rfl, a, _, dx, _, _, u, rfl, ha, (sign_at T c).1, hu, lk _ _, _, rfl, p, _, dp, _, _, u2, rfl, hp, (sign_at T k).1, hu2, lk _ _, .inl ⟨rfl, _, rfl, ?_⟩⟩
        have q : Q (.bl (decide (c = k) && (decide (x = y) && decide (n = m)))) H := q
        have es : decide (V.str (sgK c) = V.str (sgK k)) = decide (c = k) := by
          cases c <;> cases k <;> decide +kernel
        rw [es]
        by_cases z0 : c = k
        · rw [decide_eq_true z0] at q ⊢
          rw [Bool.true_and] at q
          refine iteF ?_
          refine ⟨_, rfl, a, _, dx, _, _, rfl, ha, (fld_item T c).1, (fld_item T c).2, ei, _, rfl, p, _, dp, _, _, rfl, hp, (fld_item T k).1, (fld_item T k).2, ei2, .inl ⟨rfl, _, rfl, ?_⟩⟩
          have e1 : decide (V.str x = V.str y) = decide (x = y) := decide_eq_decide.mpr ⟨fun z => by injection z, fun z => by rw [z]⟩
          have e2 : decide (V.int n = V.int m) = decide (n = m) := decide_eq_decide.mpr ⟨fun z => by injection z, fun z => by rw [z]⟩
          rw [e1]
          by_cases z : x = y
          · rw [decide_eq_true z] at q ⊢
            rw [Bool.true_and] at q
            refine iteT ?_
            refine ⟨_, rfl, a, _, dx, _, _, rfl, ha, (fld_slot T c).1, (fld_slot T c).2, ‹_›, _, rfl, p, _, dp, _, _, rfl, hp, (fld_slot T k).1, (fld_slot T k).2, es2, .inl ⟨rfl, ?_⟩⟩
            rw [e2]
            exact q
          · rw [decide_eq_false z] at q ⊢
            rw [Bool.false_and] at q
            exact iteF q
        · rw [decide_eq_false z0] at q ⊢
          rw [Bool.false_and] at q
          exact iteT q
      | _ => cases er
/-! ### move_to -/
def gMove : DSp := fun ss Q QX => ∃ (c : Kd) (x : Str) (n : Int) (d : D), ss = [.own (some 0) (.row c x n), .val d] ∧ tyB d = true ∧ (∀ m : Int, d = .int m → 0 ≤ m → m ≤ 60 → Q (.val .non) [.row c x m]) ∧ (isIdxD d = false → QX .NoIndex [] [.row c x n])
theorem ok_Record_move_to (T : Txt K mg A) : OkX P w K mg base 3 A.m_Record_move_to ["self", "slot"] (SpD K (cad A) gMove) := okXD T.fn_Record_move_to sc_Record_move_to (fun _ _ _ _ _ _ us hl => match us, hl with | [_, _], _ => rfl) (fun ss Q QX ⟨_, _, _, _, e, _⟩ => by rw [e]; rfl) fun cdv B up s H E hr => ⟨_, _, (pss_cons (ps_expr (px_call (ok_check_index T) (fun _ => atE (takes_of rfl rfl rfl rfl)) (hr.mono (by decide)) T.mg_check_index (pa_cons (pv 1) pa_nil)))
      (pss_one (ps_fld (pv 0) (pv 1) rfl))), (ds_seq (ds_expr (de_callX (da_cons (de_fz (de_var (i := 1))) da_nil)))
      (ds_fldS (fld_slot T) (de_var (i := 0)) (de_var (i := 1)))), fun ss Q QX h => by
  obtain ⟨c, x, n, d, rfl, t, h1, h2⟩ := h
  refine ⟨d, rfl, t, if2 (fun e => ?_) fun e => ?_⟩
  · cases d with
    | int m =>
      have e : (decide (0 ≤ m) && decide (m ≤ 60)) = true := e
      rw [Bool.and_eq_true] at e
      exact ⟨rfl, h1 m rfl (of_decide_eq_true e.1) (of_decide_eq_true e.2)⟩
    | _ => cases e
  · exact ⟨rfl, h2 e⟩⟩
theorem no_mth {m : Str} (h1 : (m == "_item") = false) (h2 : (m == "_slot") = false) : ∀ (x : Str) (n : Int), (rfs x n).lookup m = none := fun x n => rfs_non x n h1 h2
def fsMove (K : PySem.W.Frag) (A : Ad) (f : Addr) (sp : Sp) : Prop := f = A.m_Record_move_to ∧ sp = SpD K (cad A) gMove
theorem mt_move (T : Txt K mg A) : MtF K (cad A) "move_to" (fun _ => True) (fsMove K A) fun _ => gMove := ⟨fun c _ => by
  cases c
  · exact ⟨T.cl_Record, _, T.me_Record_move_to, rfl, rfl⟩
  · exact ⟨T.cl_Inserted, _, T.me_Inserted_move_to, rfl, rfl⟩
  · exact ⟨T.cl_Removed, _, T.me_Removed_move_to, rfl, rfl⟩
  · exact ⟨T.cl_Fronted, _, T.me_Fronted_move_to, rfl, rfl⟩, no_mth (by decide +kernel) (by decide +kernel)⟩
theorem fs_move (T : Txt K mg A) : ∀ f sp, fsMove K A f sp → OkX P w K mg base 3 f ["self", "slot"] sp := fun f sp ⟨e1, e2⟩ => by
  subst e1 e2
  exact ok_Record_move_to T

end
end Own

set_option Elab.async false
set_option linter.all false
set_option maxRecDepth 100000
set_option maxHeartbeats 4000000
namespace Own
open PySem L2 ClX PD
local macro_rules | `(tactic| walk_at "y") => `(tactic| first | (refine ifY ?e ?_; (case e => first | with_reducible rfl | decide +kernel)) | (refine bofE true ?e ?_; (case e => first | with_reducible rfl | decide +kernel)))
local macro_rules | `(tactic| walk_at "n") => `(tactic| first | (refine ifN ?e ?_; (case e => first | with_reducible rfl | decide +kernel)) | (refine bofE false ?e ?_; (case e => first | with_reducible rfl | decide +kernel)))
local macro_rules | `(tactic| walk_at "t") => `(tactic| (refine ifY ?e ?_; (case e => rfl)))
local macro_rules | `(tactic| walk_at "f") => `(tactic| (refine ifN ?e ?_; (case e => rfl)))
local macro_rules | `(tactic| walk_at "go") => `(tactic| repeat (first | walk_at "t" | walk_at "f"))
local macro_rules | `(tactic| walk_at "norm") => `(tactic| dsimp only [PD.dget, PD.dset, PD.wipeD, PD.putBack, PD.putOb, PD.reOb, PD.entryD, PD.nones, List.map, List.length, PD.stayD, PD.unwipeD])

section
variable {P : Program} {w : World} {K : PySem.W.Frag} {mg : Str → Option Value} {base : Heap} {A : Ad}
/-! ### items of the log: rooms, shifts, ranges -/
def gChkKnown : DSp := fun ss Q QX => ∃ (rs : List Rw) (d : D), ss = [.val (.lst (rs.map Rw.d)), .val d] ∧ tyB1 d = true ∧ rs.length ≤ 1000 ∧ ifD (isKnownD rs d) (Q (.val .non) []) (QX .NoList [] [])
theorem ok_check_known (T : Txt K mg A) : OkX P w K mg base 4 A.f_check_known ["log", "items"] (SpD K (cad A) gChkKnown) := by
  refine okXD T.fn_check_known sc_check_known (fun _ _ _ _ _ _ us hl => match us, hl with | [_, _], _ => rfl) (fun ss Q QX ⟨d, _, e, _⟩ => by rw [e]; rfl) fun cdv B up s H E hr => ⟨_, _, (pss_cons (ps_expr (px_call (ok_check_items T) (fun _ => atE (takes_of rfl rfl rfl rfl)) (hr.mono (by decide)) T.mg_check_items (pa_cons (pv 1) pa_nil)))
      (pss_one (ps_if (pt_not (pt_val (pe_callB (cr_all rfl) (by rfl) T.no_all (by decide +kernel) (pa_cons (pe_lcD (own := [("record", 2)]) rfl sc_check_known.nd (pi_list (pv 0)) (blkOk_by (N := N_check_known) (sc := defScope s_check_known) (by decide +kernel)) (fun _ _ _ _ _ => pg_name (i := 2) sc_check_known.nd rfl (Or.inl rfl)) (fun _ _ _ _ _ => pts_nil) (fun _ _ _ _ _ => (pe_cmpR op_in_seq (po_propD (p := A.p_Record_item) (ok_Record_item T) (hr.mono (by decide)) (pv 2)) (pv 1) rfl))) pa_nil)))) (pss_one (ps_raise rfl (takes_of rfl rfl rfl rfl) (pmk_own PySem.F.excBase_ValueError T.er_NoList.xP T.mg_NoList T.er_NoList.kp (raises_own T.er_NoList.bP T.er_NoList.tP) rfl))) pss_nil))), (ds_seq (ds_expr (de_callX (da_cons (de_fz (de_var (i := 1))) da_nil)))
      (ds_if (dt_not (dt_val (de_cb cd_all (da_cons (de_frz (dn_lc (di_list (de_var (i := 0))) (dg_name (i := 2)) dt_yes (de_op od_in (de_prop (item_of T) (get_item T) (de_var (i := 2))) (de_var (i := 1))) (by decide))) da_nil)))) (ds_raise (c := .NoList)) ds_next)), fun ss Q QX h => ?_⟩
  obtain ⟨rs, d, rfl, t, l, h⟩ := h
  refine ⟨d, rfl, t, if2 (fun c => ?_) fun c => ?_⟩
  · obtain ⟨xs, rfl, i⟩ := its_of c
    refine ⟨trivial, lc_all (k := fun r : Rw => .bl (decide (r.x ∈ xs))) (fun r hr acc R1 l q => ?_) ?_ ?_⟩
    · refine ⟨rfl, flat1_strs xs, ?_⟩
      rw [in_strs]
      exact ⟨l, q⟩
    · omega
    refine bls_fn (if2 (fun c1 => ?_) fun c1 => ?_)
    · rw [Bool.not_eq_true', all_fn] at c1
      refine ifB h ?_
      unfold isKnownD
      rw [strsL_map, c1, Bool.and_false]
    · rw [Bool.not_eq_false', all_fn] at c1
      refine ifA h ?_
      unfold isKnownD
      rw [strsL_map, c1, c]
      rfl
  · refine ifB h ?_
    unfold isKnownD
    rw [c]
    rfl
def gRooms : DSp := fun ss Q _ => ∃ (rs : List Rw) (xs : List Str), ss = [.val (.lst (rs.map Rw.d)), .val (.lst (xs.map .str))] ∧ rs.length ≤ 1000 ∧ xs.length ≤ 1000 ∧ xs.Nodup ∧ Q (.own none (.dic (dicL (roomsL rs xs)))) []
theorem ok_rooms_of (T : Txt K mg A) : Ok1 P w K mg base 3 A.f_rooms_of ["log", "items"] (SpD K (cad A) gRooms) := by
  refine okD T.fn_rooms_of sc_rooms_of (fun _ _ _ _ _ _ us hl => match us, hl with | [_, _], _ => rfl) (fun ss Q QX ⟨d, _, e, _⟩ => by rw [e]; rfl) fun cdv B up s H E hr => ⟨_, _, (pss_cons (ps_set (i := 2) sc_rooms_of.nd rfl (Or.inr rfl) (pe_lcD (own := [("record", 4)]) rfl sc_rooms_of.nd (pi_list (pv 0)) (blkOk_by (N := N_rooms_of) (sc := defScope s_rooms_of) (by decide +kernel)) (fun _ _ _ _ _ => pg_name (i := 4) sc_rooms_of.nd rfl (Or.inl rfl)) (fun _ _ _ _ _ => pts_nil) (fun _ _ _ _ _ => (po_propD (p := A.p_Record_item) (ok_Record_item T) (hr.mono (by decide)) (pv 4)))))
      (pss_cons (ps_set (i := 3) sc_rooms_of.nd rfl (Or.inr rfl) (pe_lcD (own := [("item", 5)]) rfl sc_rooms_of.nd (pi_list (pv 1)) (blkOk_by (N := N_rooms_of) (sc := defScope s_rooms_of) (by decide +kernel)) (fun _ _ _ _ _ => pg_name (i := 5) sc_rooms_of.nd rfl (Or.inl rfl)) (fun _ _ _ _ _ => (pts_one (pt_cmpR op_in_seq (pv 5) (pv 2) rfl))) (fun _ _ _ _ _ => (pv 5))))
      (pss_cons (ps_if (pt_val (po_call (ok_is_fronted T) (hr.mono (by decide)) T.mg_is_fronted (pa_cons (pv 0) pa_nil))) (pss_one (ps_ret (pe_dcD (own := [("before", 6), ("item", 5)]) rfl sc_rooms_of.nd (pi_enum (by rfl) T.no_enumerate (pa_cons (pv 3) pa_nil)) (blkOk_by (N := N_rooms_of) (sc := defScope s_rooms_of) (by decide +kernel)) (fun _ _ _ _ _ => pg_tup (by rfl) (pgs_cons (pg_name (i := 6) sc_rooms_of.nd rfl (Or.inl rfl)) (pgs_cons (pg_name (i := 5) sc_rooms_of.nd rfl (Or.inl rfl)) pgs_nil))) (fun _ _ _ _ _ => pts_nil) (fun _ _ _ _ _ => (pv 5)) (fun _ _ _ _ _ => (pe_op op_sub (pe_op op_sub (pe_callB call_len (by rfl) T.no_len (by decide +kernel) (pa_cons (pv 3) pa_nil)) pe_int) (pv 6)))))) pss_nil)
      (pss_one (ps_ret (pe_dcD (own := [("before", 6), ("item", 5)]) rfl sc_rooms_of.nd (pi_enum (by rfl) T.no_enumerate (pa_cons (pv 3) pa_nil)) (blkOk_by (N := N_rooms_of) (sc := defScope s_rooms_of) (by decide +kernel)) (fun _ _ _ _ _ => pg_tup (by rfl) (pgs_cons (pg_name (i := 6) sc_rooms_of.nd rfl (Or.inl rfl)) (pgs_cons (pg_name (i := 5) sc_rooms_of.nd rfl (Or.inl rfl)) pgs_nil))) (fun _ _ _ _ _ => pts_nil) (fun _ _ _ _ _ => (pv 5)) (fun _ _ _ _ _ => (pv 6)))))))), (ds_seq (ds_set (i := 2) (de_frz (dn_lc (di_list (de_var (i := 0))) (dg_name (i := 4)) dt_yes (de_prop (item_of T) (get_item T) (de_var (i := 4))) (by decide))))
      (ds_seq (ds_set (i := 3) (de_frz (dn_lc (di_list (de_var (i := 1))) (dg_name (i := 5)) (dt_test (de_op od_in (de_var (i := 5)) (de_var (i := 2)))) (de_var (i := 5)) (by decide))))
      (ds_seq (ds_if (dt_val (de_call (da_cons (de_fz (de_var (i := 0))) da_nil))) (ds_retN (dn_dc (di_enum (da_cons (de_var (i := 3)) da_nil)) (dg_tup (dgs_cons (dg_name (i := 6)) (dgs_cons (dg_name (i := 5)) dgs_nil))) dt_yes (de_var (i := 5)) (de_op od_sub (de_op od_sub (de_cb cd_len (da_cons (de_var (i := 3)) da_nil)) de_int) (de_var (i := 6))) (by decide))) ds_next)
      (ds_retN (dn_dc (di_enum (da_cons (de_var (i := 3)) da_nil)) (dg_tup (dgs_cons (dg_name (i := 6)) (dgs_cons (dg_name (i := 5)) dgs_nil))) dt_yes (de_var (i := 5)) (de_var (i := 6)) (by decide)))))), fun ss Q QX h => ?_⟩
  obtain ⟨rs, xs, rfl, l1, l2, nd, h⟩ := h
  refine ⟨trivial, lc_all (k := fun r : Rw => .str r.x) (fun r hr acc R1 l q => ?_) ?_ ?_⟩
  · exact ⟨l, q⟩
  · omega
  rw [show rs.map (fun r => D.str r.x) = (names rs).map D.str from (List.map_map ..).symm]
  refine ⟨trivial, lc_flt (p := fun x => decide (x ∈ names rs)) (k := D.str) (fun x hx acc R1 l q => ?_) ?_ ?_⟩
  · refine ⟨rfl, flat1_strs _, bofE _ (in_strs x _) ?_⟩
    cases c : decide (x ∈ names rs) with
    | true =>
      rw [c, if_pos rfl] at q
      exact ⟨l, q⟩
    | false =>
      rw [c, if_neg Bool.false_ne_true] at q
      rw [Option.toList_none, List.append_nil] at q
      exact q
  · omega
  have lk : (known rs xs).length ≤ xs.length := known_len
  have ndk : ((known rs xs).zipIdx.map (·.1)).Nodup := by rw [zip_fst]; exact known_nodup nd
  have lz : (known rs xs).zipIdx.length ≤ 1000 := by rw [List.length_zipIdx]; omega
  refine ⟨rs, rfl, if2 (fun c => ?_) fun c => ?_⟩
  · refine ⟨trivial, ?_⟩
    rw [enumD_map]
    refine dc_all (pre := []) (kf := fun p : Str × Nat => p.1) (vf := fun p => .int ((((known rs xs).map D.str).length : Nat) - 1 - (p.2 : Nat))) (fun p hp kvs R1 l q => ?_) ndk (Nat.le_trans (Nat.le_of_eq (Nat.zero_add _)) (Nat.le_trans lz (by decide))) ?_
    · exact ⟨rfl, l, q⟩
    · have e := rooms_zip nd true c
      simp only [if_true] at e
      rw [List.length_map, List.nil_append, show (List.filter (fun x => decide (x ∈ names rs)) xs) = known rs xs from rfl, e]
      exact h
  · refine ⟨trivial, ?_⟩
    rw [enumD_map]
    refine dc_all (pre := []) (kf := fun p : Str × Nat => p.1) (vf := fun p => .int (p.2 : Nat)) (fun p hp kvs R1 l q => ?_) ndk (Nat.le_trans (Nat.le_of_eq (Nat.zero_add _)) (Nat.le_trans lz (by decide))) ?_
    · exact ⟨rfl, l, q⟩
    · have e := rooms_zip nd false c
      simp only [Bool.false_eq_true, if_false] at e
      rw [List.nil_append, show (List.filter (fun x => decide (x ∈ names rs)) xs) = known rs xs from rfl, e]
      exact h
def gShifts : DSp := fun ss Q _ => ∃ (rs : List Rw) (xs : List Str), ss = [.val (.lst (rs.map Rw.d)), .val (.lst (xs.map .str))] ∧ rs.length ≤ 1000 ∧ (names rs).Nodup ∧ (∀ r ∈ rs, r.x ∈ xs) ∧ Q (.own none (.dic (dicL (shiftsL rs xs)))) []
theorem ok_shifts_of (T : Txt K mg A) : Ok1 P w K mg base 3 A.f_shifts_of ["log", "items"] (SpD K (cad A) gShifts) := by
  refine okD T.fn_shifts_of sc_shifts_of (fun _ _ _ _ _ _ us hl => match us, hl with | [_, _], _ => rfl) (fun ss Q QX ⟨d, _, e, _⟩ => by rw [e]; rfl) fun cdv B up s H E hr => ⟨_, _, (pss_cons (ps_if (pt_val (po_call (ok_is_fronted T) (hr.mono (by decide)) T.mg_is_fronted (pa_cons (pv 0) pa_nil))) (pss_one (ps_ret (pe_dcD (own := [("record", 2)]) rfl sc_shifts_of.nd (pi_list (pv 0)) (blkOk_by (N := N_shifts_of) (sc := defScope s_shifts_of) (by decide +kernel)) (fun _ _ _ _ _ => pg_name (i := 2) sc_shifts_of.nd rfl (Or.inl rfl)) (fun _ _ _ _ _ => pts_nil) (fun _ _ _ _ _ => (po_propD (p := A.p_Record_item) (ok_Record_item T) (hr.mono (by decide)) (pv 2))) (fun _ _ _ _ _ => (pe_op op_sub (po_propD (p := A.p_Record_slot) (ok_Record_slot T) (hr.mono (by decide)) (pv 2)) (pe_bm PySem.F.plainAttrs_list PySem.F.slot_list_index PySem.F.type_list_index mt_index (pv 1) (pa_cons (po_propD (p := A.p_Record_item) (ok_Record_item T) (hr.mono (by decide)) (pv 2)) pa_nil))))))) pss_nil)
      (pss_one (ps_ret (pe_dcD (own := [("record", 2)]) rfl sc_shifts_of.nd (pi_list (pv 0)) (blkOk_by (N := N_shifts_of) (sc := defScope s_shifts_of) (by decide +kernel)) (fun _ _ _ _ _ => pg_name (i := 2) sc_shifts_of.nd rfl (Or.inl rfl)) (fun _ _ _ _ _ => pts_nil) (fun _ _ _ _ _ => (po_propD (p := A.p_Record_item) (ok_Record_item T) (hr.mono (by decide)) (pv 2))) (fun _ _ _ _ _ => (pe_op op_sub (pe_bm PySem.F.plainAttrs_list PySem.F.slot_list_index PySem.F.type_list_index mt_index (pv 1) (pa_cons (po_propD (p := A.p_Record_item) (ok_Record_item T) (hr.mono (by decide)) (pv 2)) pa_nil)) (po_propD (p := A.p_Record_slot) (ok_Record_slot T) (hr.mono (by decide)) (pv 2)))))))), (ds_seq (ds_if (dt_val (de_call (da_cons (de_fz (de_var (i := 0))) da_nil))) (ds_retN (dn_dc (di_list (de_var (i := 0))) (dg_name (i := 2)) dt_yes (de_prop (item_of T) (get_item T) (de_var (i := 2))) (de_op od_sub (de_prop (slot_of T) (get_slot T) (de_var (i := 2))) (de_bm (t := .list) md_index (de_var (i := 1)) (da_cons (de_prop (item_of T) (get_item T) (de_var (i := 2))) da_nil))) (by decide))) ds_next)
      (ds_retN (dn_dc (di_list (de_var (i := 0))) (dg_name (i := 2)) dt_yes (de_prop (item_of T) (get_item T) (de_var (i := 2))) (de_op od_sub (de_bm (t := .list) md_index (de_var (i := 1)) (da_cons (de_prop (item_of T) (get_item T) (de_var (i := 2))) da_nil)) (de_prop (slot_of T) (get_slot T) (de_var (i := 2)))) (by decide)))), fun ss Q QX h => ?_⟩
  obtain ⟨rs, xs, rfl, l1, nd, ks, h⟩ := h
  refine ⟨rs, rfl, if2 (fun c => ?_) fun c => ?_⟩
  · refine ⟨trivial, dc_all (pre := []) (kf := Rw.x) (vf := fun r => .int (r.n - (ixS xs r.x : Nat))) (fun r hr kvs R1 l q => ?_) nd ?_ ?_⟩
    · refine ⟨rfl, flat1_strs xs, ?_⟩
      rw [first_strs (ks r hr)]
      exact ⟨l, q⟩
    · show 0 + rs.length ≤ _
      omega
    · unfold shiftsL shiftOf at h
      rw [c] at h
      exact h
  · refine ⟨trivial, dc_all (pre := []) (kf := Rw.x) (vf := fun r => .int ((ixS xs r.x : Nat) - r.n)) (fun r hr kvs R1 l q => ?_) nd ?_ ?_⟩
    · refine ⟨rfl, flat1_strs xs, ?_⟩
      rw [first_strs (ks r hr)]
      exact ⟨l, q⟩
    · show 0 + rs.length ≤ _
      omega
    · unfold shiftsL shiftOf at h
      rw [c] at h
      exact h
theorem items_rooms (rs : List Rw) (xs : List Str) : itemsD (dicL (roomsL rs xs)) = (known rs xs).map fun x => .tup [.str x, .int (roomOf rs xs x)] := by
  unfold itemsD dicL roomsL
  rw [List.map_map, List.map_map]
  rfl
def gCerts : DSp := fun ss Q _ => ∃ (rs : List Rw) (xs : List Str), ss = [.val (.lst (rs.map Rw.d)), .val (.lst (xs.map .str))] ∧ rs.length ≤ 1000 ∧ xs.length ≤ 1000 ∧ xs.Nodup ∧ (names rs).Nodup ∧ (∀ r ∈ rs, r.x ∈ xs) ∧ Q (.own none (.lst ((certL rs xs).map certD))) []
theorem ok_certificates (T : Txt K mg A) : Ok1 P w K mg base 4 A.f_certificates ["log", "items"] (SpD K (cad A) gCerts) := by
  refine okD T.fn_certificates sc_certificates (fun _ _ _ _ _ _ us hl => match us, hl with | [_, _], _ => rfl) (fun ss Q QX ⟨d, _, e, _⟩ => by rw [e]; rfl) fun cdv B up s H E hr => ⟨_, _, (pss_cons (ps_set (i := 2) sc_certificates.nd rfl (Or.inl rfl) (po_call (ok_shifts_of T) (hr.mono (by decide)) T.mg_shifts_of (pa_cons (pv 0) (pa_cons (pv 1) pa_nil))))
      (pss_cons (ps_set (i := 3) sc_certificates.nd rfl (Or.inl rfl) (pe_lst pa_nil))
      (pss_cons (ps_for PassesOwn.never rfl (pi_items (pe_freeze (po_call (ok_rooms_of T) (hr.mono (by decide)) T.mg_rooms_of (pa_cons (pv 0) (pa_cons (pv 1) pa_nil))))) (pg_tup (by rfl) (pgs_cons (pg_name (i := 4) sc_certificates.nd rfl (Or.inl rfl)) (pgs_cons (pg_name (i := 5) sc_certificates.nd rfl (Or.inl rfl)) pgs_nil)))
      (pss_one (ps_if (pt_cmpR op_lt (pe_dget (Nat.lt_of_le_of_lt (Nat.add_le_add_left (show 1 ≤ 64 by decide) _) hr.units) (pv 2) (pv 4) (fun _ _ => rfl)) pe_int (nomark _)) (pss_one (ps_expr (pe_bm PySem.F.plainAttrs_list PySem.F.slot_list_append PySem.F.type_list_append mt_append (pv 3) (pa_cons (pe_tup (pa_cons pe_str (pa_cons (pv 4) pa_nil))) pa_nil)))) (pss_one (ps_if (pt_cmpR op_gt (pe_dget (Nat.lt_of_le_of_lt (Nat.add_le_add_left (show 1 ≤ 64 by decide) _) hr.units) (pv 2) (pv 4) (fun _ _ => rfl)) (pv 5) (nomark _)) (pss_one (ps_expr (pe_bm PySem.F.plainAttrs_list PySem.F.slot_list_append PySem.F.type_list_append mt_append (pv 3) (pa_cons (pe_tup (pa_cons pe_str (pa_cons (pv 4) pa_nil))) pa_nil)))) pss_nil)))))
      (pss_one (ps_ret (pv 3)))))), (ds_seq (ds_set (i := 2) (de_frz (dn_call (da_cons (de_fz (de_var (i := 0))) (da_cons (de_fz (de_var (i := 1))) da_nil)))))
      (ds_seq (ds_setN (i := 3) (dn_lst da_nil))
      (ds_seq (ds_for (di_items (dn_call (da_cons (de_fz (de_var (i := 0))) (da_cons (de_fz (de_var (i := 1))) da_nil)))) (dg_tup (dgs_cons (dg_name (i := 4)) (dgs_cons (dg_name (i := 5)) dgs_nil)))
      (ds_if (dt_test (de_op od_lt (de_dget (de_var (i := 2)) (de_var (i := 4))) de_int)) (ds_expr (de_mutV (i := 3) ml_append (da_cons (de_tup (da_cons de_str (da_cons (de_var (i := 4)) da_nil))) da_nil))) (ds_if (dt_test (de_op od_gt (de_dget (de_var (i := 2)) (de_var (i := 4))) (de_var (i := 5)))) (ds_expr (de_mutV (i := 3) ml_append (da_cons (de_tup (da_cons de_str (da_cons (de_var (i := 4)) da_nil))) da_nil))) ds_next)))
      (ds_ret (de_var (i := 3)))))), fun ss Q QX h => ?_⟩
  obtain ⟨rs, xs, rfl, l1, l2, nx, nr, ks, h⟩ := h
  have lk : (known rs xs).length ≤ xs.length := known_len
  refine ⟨rs, xs, rfl, l1, nr, ks, rs, xs, rfl, l1, l2, nx, trivial, ?_⟩
  rw [items_rooms]
  refine for_map (fun p δ => ∃ a b, δ = [some (.val (.lst (rs.map Rw.d))), some (.val (.lst (xs.map .str))), some (.val (.dic (dicL (shiftsL rs xs)))), some (.own none (.lst ((p.filterMap fun x => (certOf rs xs x).map fun c => (c, x)).map certD))), a, b]) (pre := []) ⟨_, _, rfl⟩ (fun p x q δ e hI nx hn => ?_) fun δ hI => ?_
  · obtain ⟨a, b, rfl⟩ := hI
    have hx : x ∈ known rs xs := by
      have : x ∈ p ++ x :: q := by simp
      rw [← e] at this
      exact this
    have lp : p.length < 1000 := by
      have := congrArg List.length e
      simp only [List.nil_append, List.length_append, List.length_cons] at this
      omega
    have lf : ((p.filterMap fun x => (certOf rs xs x).map fun c => (c, x)).map certD).length < 1000000 := by
      rw [List.length_map]
      exact Nat.lt_of_le_of_lt (List.length_filterMap_le ..) (by omega)
    have lo := shiftsX_look (xs := xs) nr (known_mem.mp hx).2
    have hn : ∀ a b, nx [some (.val (.lst (rs.map Rw.d))), some (.val (.lst (xs.map .str))), some (.val (.dic (dicL (shiftsL rs xs)))), some (.own none (.lst (((p.filterMap fun x => (certOf rs xs x).map fun c => (c, x)) ++ ((certOf rs xs x).map fun c => (c, x)).toList).map certD))), a, b] := fun a b => hn _ ⟨a, b, by rw [List.filterMap_append]; cases hc : certOf rs xs x <;> simp [hc]⟩
    refine ⟨rfl, ?_⟩
    refine look_at lo ?_
    refine ifP (p := shiftX rs xs x < 0) (fun c => ?_) fun c => ?_
    · have ec : certOf rs xs x = some .low := by unfold certOf; rw [if_pos c]
      rw [ec] at hn
      refine ⟨lf, ?_⟩
      have := hn (some (.val (.str x))) (some (.val (.int (roomOf rs xs x))))
      rw [List.map_append] at this
      exact this
    · refine look_at lo ?_
      refine ifP (p := roomOf rs xs x < shiftX rs xs x) (fun c2 => ?_) fun c2 => ?_
      · have ec : certOf rs xs x = some .high := by unfold certOf; rw [if_neg c, if_pos c2]
        rw [ec] at hn
        refine ⟨lf, ?_⟩
        have := hn (some (.val (.str x))) (some (.val (.int (roomOf rs xs x))))
        rw [List.map_append] at this
        exact this
      · have ec : certOf rs xs x = none := by unfold certOf; rw [if_neg c, if_neg c2]
        rw [ec] at hn
        have := hn (some (.val (.str x))) (some (.val (.int (roomOf rs xs x))))
        rw [Option.map_none, Option.toList_none, List.append_nil] at this
        exact this
  · obtain ⟨a, b, rfl⟩ := hI
    exact h

end
end Own

set_option Elab.async false
set_option linter.all false
set_option maxRecDepth 100000
set_option maxHeartbeats 4000000
namespace Own
open PySem L2 ClX PD
local macro_rules | `(tactic| walk_at "y") => `(tactic| first | (refine ifY ?e ?_; (case e => first | with_reducible rfl | decide +kernel)) | (refine bofE true ?e ?_; (case e => first | with_reducible rfl | decide +kernel)))
local macro_rules | `(tactic| walk_at "n") => `(tactic| first | (refine ifN ?e ?_; (case e => first | with_reducible rfl | decide +kernel)) | (refine bofE false ?e ?_; (case e => first | with_reducible rfl | decide +kernel)))
local macro_rules | `(tactic| walk_at "t") => `(tactic| (refine ifY ?e ?_; (case e => rfl)))
local macro_rules | `(tactic| walk_at "f") => `(tactic| (refine ifN ?e ?_; (case e => rfl)))
local macro_rules | `(tactic| walk_at "go") => `(tactic| repeat (first | walk_at "t" | walk_at "f"))
local macro_rules | `(tactic| walk_at "norm") => `(tactic| dsimp only [PD.dget, PD.dset, PD.wipeD, PD.putBack, PD.putOb, PD.reOb, PD.entryD, PD.nones, List.map, List.length, PD.stayD, PD.unwipeD])

section
variable {P : Program} {w : World} {K : PySem.W.Frag} {mg : Str → Option Value} {base : Heap} {A : Ad}
/-! ### drawing -/
def gSrc : DSp := fun ss Q _ => ∃ (ns : List Int) (k : Nat), ss = [.val (.scr ns), .val (.int k)] ∧ k < 64 ∧ ∀ o, SrcD 0 o → Q (.own none o) []
theorem ok__law_source (T : Txt K mg A) : Ok1 P w K mg base 1 A.f__law_source ["script", "k"] (SpD K (cad A) gSrc) := by
  refine okD T.fn__law_source sc__law_source (fun _ _ _ _ _ _ us hl => match us, hl with | [_, _], _ => rfl) (fun ss Q QX ⟨_, _, e, _⟩ => by rw [e]; rfl) fun cdv B up s H E hr => ⟨_, _, (pss_cons (ps_set (i := 2) sc__law_source.nd rfl (Or.inl rfl) (pe_ifExp (pt_cmpR op_lt (pv 1) (pe_callB call_len (by rfl) T.no_len (by decide +kernel) (pa_cons (pv 0) pa_nil)) (nomark _)) (pe_callB call_abs (by rfl) T.no_abs (by decide +kernel) (pa_cons (pe_ix ix_seq (pv 0) (pv 1) (fun _ _ => rfl)) pa_nil)) pe_int))
      (pss_one (ps_ret (pe_lst (pa_cons (pe_callB (call_max2 rfl) (by rfl) T.no_max (by decide +kernel) (pa_cons pe_int (pa_cons (pe_op op_sub (pv 2) (pe_op op_powX pe_int pe_int)) pa_nil))) (pa_cons (pe_op op_addX (pe_op op_addX (pe_op op_mulX (pe_op op_mod (pv 2) (pe_op op_addX (pe_op op_powX pe_int pe_int) pe_int)) pe_int) (pv 1)) pe_int) (pa_cons pe_int pa_nil))))))), (ds_mid (ds_set (i := 2) (de_if (dt_test (de_op od_lt (de_var (i := 1)) (de_cb cd_len (da_cons (de_var (i := 0)) da_nil)))) (de_cb cd_abs (da_cons (de_op od_ix (de_var (i := 0)) (de_var (i := 1))) da_nil)) de_int))
      (ds_retN (dn_lst (da_cons (de_cb cd_max (da_cons de_int (da_cons (de_op od_sub (de_var (i := 2)) (de_op od_pow de_int de_int)) da_nil))) (da_cons (de_op od_add (de_op od_add (de_op od_mul (de_op od_mod (de_var (i := 2)) (de_op od_add (de_op od_pow de_int de_int) de_int)) de_int) (de_var (i := 1))) de_int) (da_cons de_int da_nil)))))), fun ss Q QX h => ?_⟩
  obtain ⟨ns, k, rfl, hk, h⟩ := h
  refine ⟨fun δ => ∃ c : Int, δ = [some (.val (.scr ns)), some (.val (.int k)), some (.val (.int c))], ?_, ?_⟩
  · refine ifP (p := (k : Int) < ns.length) (fun c => ?_) fun _ => ⟨0, rfl⟩
    refine atZ_at (by omega) ?_
    exact ⟨_, rfl⟩
  · rintro _ ⟨c, rfl⟩
    refine ⟨⟨by decide, by decide, by decide +kernel⟩, ⟨by decide, by decide, by decide +kernel⟩, ?_⟩
    have big : ((10 : Int) ^ (36 : Int).toNat + 67) = 1000000000000000000000000000000000067 := by decide +kernel
    have e0 := Int.emod_nonneg c (show (1000000000000000000000000000000000067 : Int) ≠ 0 by decide)
    have e1 := Int.emod_lt_of_pos c (show (0 : Int) < 1000000000000000000000000000000000067 by decide)
    refine ⟨(by rw [big]; show (0 : Int) < _; decide), ?_⟩
    rw [big]
    refine ⟨wide_mul (a := 140) (b := 7) ?_ (by decide) (by decide) (by decide) (by decide), ?_⟩
    · omega
    · refine h _ ⟨_, _, _, rfl, ?_, ?_, by decide, by decide⟩ <;> omega
theorem ok__law_pick (T : Txt K mg A) : Ok1 P w K mg base 1 A.f__law_pick ["source", "size"] (SpD K (cad A) gNext) := by
  refine okD T.fn__law_pick sc__law_pick (fun _ _ _ _ _ _ us hl => match us, hl with | [_, _], _ => rfl) (fun ss Q QX ⟨_, _, _, e, _⟩ => by rw [e]; rfl) fun cdv B up s H E hr => ⟨_, _, (pss_cons (ps_if (pt_cmpR op_gt (pe_ix ix_seq (pv 0) pe_int (fun _ _ => rfl)) pe_int (nomark _)) (pss_cons (ps_set (i := 2) sc__law_pick.nd rfl (Or.inl rfl) (pe_op op_mod (pe_ix ix_seq (pv 0) pe_int (fun _ _ => rfl)) (pv 1)))
      (pss_cons (ps_asg (pe_op op_fdivX (pe_ix ix_seq (pv 0) pe_int (fun _ _ => rfl)) (pv 1)) (pg_sub (pv 0) pe_int set_list))
      (pss_one (ps_ret (pv 2))))) pss_nil)
      (pss_cons (ps_asg (pe_op op_addX (pe_ix ix_seq (pv 0) pe_int (fun _ _ => rfl)) pe_int) (pg_sub (pv 0) pe_int set_list))
      (pss_cons (ps_set (i := 3) sc__law_pick.nd rfl (Or.inl rfl) (pe_op op_mod (pe_op op_powX (pe_op op_addX (pe_ix ix_seq (pv 0) pe_int (fun _ _ => rfl)) (pe_op op_mulX pe_int (pe_ix ix_seq (pv 0) pe_int (fun _ _ => rfl)))) pe_int) (pe_op op_addX (pe_op op_powX pe_int pe_int) pe_int)))
      (pss_cons (ps_set (i := 3) sc__law_pick.nd rfl (Or.inl rfl) (pe_op op_mod (pe_op op_powX (pe_op op_addX (pv 3) (pe_op op_mulX pe_int (pe_ix ix_seq (pv 0) pe_int (fun _ _ => rfl)))) pe_int) (pe_op op_addX (pe_op op_powX pe_int pe_int) pe_int)))
      (pss_one (ps_ret (pe_op op_mod (pe_op op_fdivX (pv 3) pe_int) (pv 1)))))))), (ds_seq (ds_if (dt_test (de_op od_gt (de_op od_ix (de_var (i := 0)) de_int) de_int)) (ds_seq (ds_set (i := 2) (de_op od_mod (de_op od_ix (de_var (i := 0)) de_int) (de_var (i := 1))))
      (ds_seq (ds_sub (de_op od_fdiv (de_op od_ix (de_var (i := 0)) de_int) (de_var (i := 1))) (de_var (i := 0)) de_int)
      (ds_ret (de_var (i := 2))))) ds_next)
      (ds_seq (ds_sub (de_op od_add (de_op od_ix (de_var (i := 0)) de_int) de_int) (de_var (i := 0)) de_int)
      (ds_seq (ds_set (i := 3) (de_op od_mod (de_op od_pow (de_op od_add (de_op od_ix (de_var (i := 0)) de_int) (de_op od_mul de_int (de_op od_ix (de_var (i := 0)) de_int))) de_int) (de_op od_add (de_op od_pow de_int de_int) de_int)))
      (ds_seq (ds_set (i := 3) (de_op od_mod (de_op od_pow (de_op od_add (de_var (i := 3)) (de_op od_mul de_int (de_op od_ix (de_var (i := 0)) de_int))) de_int) (de_op od_add (de_op od_pow de_int de_int) de_int)))
      (ds_ret (de_op od_mod (de_op od_fdiv (de_var (i := 3)) de_int) (de_var (i := 1)))))))), fun ss Q QX h => ?_⟩
  obtain ⟨_, n, size, rfl, hs, hs2, ⟨g, m, c, rfl, hm0, hm1, hc0, hc1⟩, hn, h⟩ := h
  have hz : CDivW g size := wide_div (b := 200) hs (by omega) (by decide) (by decide)
  have nn := fun g : Int => Int.emod_nonneg g (show size ≠ 0 by omega)
  have nl := fun g : Int => Int.emod_lt_of_pos g hs
  refine at_n (i := 0) rfl ?_
  refine ifP (p := (0 : Int) < g) (fun _ => ?_) fun _ => ?_
  · refine at_n (i := 0) rfl ?_
    refine ⟨hs, ?_⟩
    refine at_n (i := 0) rfl ?_
    refine ⟨hz, ?_⟩
    exact ⟨rfl, h _ _ (nn g) (nl g) ⟨_, m, c, rfl, hm0, hm1, hc0, by omega⟩⟩
  · refine at_n (i := 2) rfl ?_
    refine at_n (i := 1) rfl ?_
    refine at_n (i := 2) rfl ?_
    refine ⟨wide_mul (a := 30) (b := 62) (by decide) (by omega) (by decide) (by decide) (by decide), ?_⟩
    have b1 : (m + 6700417 * (c + 1)).natAbs < 2 ^ 150 := by omega
    refine ⟨cpow (by decide) (by decide) b1 (by decide) (by decide), ⟨by decide, by decide, by decide +kernel⟩, (by rw [big41]; show (0 : Int) < _; decide), ?_⟩
    rw [big41]
    generalize (m + 6700417 * (c + 1)) ^ (3 : Int).toNat = z1
    have e0 := Int.emod_nonneg z1 (show (100000000000000000000000000000000000000037 : Int) ≠ 0 by decide)
    have e1 := Int.emod_lt_of_pos z1 (show (0 : Int) < 100000000000000000000000000000000000000037 by decide)
    refine at_n (i := 2) rfl ?_
    refine ⟨wide_mul (a := 40) (b := 62) (by decide) (by omega) (by decide) (by decide) (by decide), ?_⟩
    have b2 : (z1 % 100000000000000000000000000000000000000037 + 32416190071 * (c + 1)).natAbs < 2 ^ 150 := by omega
    refine ⟨cpow (by decide) (by decide) b2 (by decide) (by decide), ⟨by decide, by decide, by decide +kernel⟩, (by rw [big39]; show (0 : Int) < _; decide), ?_⟩
    rw [big39]
    generalize (z1 % 100000000000000000000000000000000000000037 + 32416190071 * (c + 1)) ^ (5 : Int).toNat = z2
    generalize z2 % 1000000000000000000000000000000000000003 = y2
    refine ⟨wide_div (b := 30) (by decide) (by decide) (by decide) (by decide), hs, ?_⟩
    exact ⟨rfl, h _ _ (nn _) (nl _) ⟨_, m, c + 1, rfl, hm0, hm1, by omega, by omega⟩⟩
/-! ### all of a list, in some order -/
theorem perm_map_inv {α β : Type} {f : α → β} {l2 l : List β} (h : l2.Perm l) : ∀ xs : List α, l = xs.map f → ∃ zs : List α, l2 = zs.map f ∧ zs.Perm xs := by
  induction h with
  | nil => intro xs e; exact ⟨[], rfl, by cases xs with | nil => exact .nil | cons _ _ => cases e⟩
  | cons a h ih =>
    intro xs e
    cases xs with
    | nil => cases e
    | cons x xs =>
      injection e with e1 e2
      obtain ⟨zs, rfl, p⟩ := ih xs e2
      exact ⟨x :: zs, by rw [e1]; rfl, p.cons x⟩
  | swap a b l =>
    intro xs e
    match xs, e with
    | x :: y :: xs, e =>
      injection e with e1 e2
      injection e2 with e2 e3
      exact ⟨y :: x :: xs, by rw [e1, e2, e3]; rfl, .swap x y xs⟩
  | trans h1 h2 ih1 ih2 =>
    intro xs e
    obtain ⟨zs, e2, p⟩ := ih2 xs e
    obtain ⟨ws, e3, q⟩ := ih1 zs e2
    exact ⟨ws, e3, q.trans p⟩
structure DrawnG {α : Type} (all xs ys : List α) : Prop where
  p : (xs ++ ys).Perm all
theorem DrawnG.init {α : Type} (all : List α) : DrawnG all [] all := ⟨List.Perm.refl _⟩
theorem DrawnG.step {α : Type} {all xs ys : List α} {x : α} {n : Nat} (h : DrawnG all xs ys) (e : ys[n]? = some x) : DrawnG all (xs ++ [x]) (ys.eraseIdx n) := by
  refine ⟨List.Perm.trans ?_ h.p⟩
  rw [List.append_assoc]
  exact List.Perm.append_left xs (erase_perm e)
theorem DrawnG.len {α : Type} {all xs ys : List α} (h : DrawnG all xs ys) : xs.length + ys.length = all.length := by rw [← h.p.length_eq, List.length_append]
def gMix : DSp := fun ss Q _ => ∃ (o : Ob) (n : Nat) (xs : List D), ss = [.own (some 0) o, .val (.lst xs)] ∧ xs.length ≤ 1000 ∧ SrcD n o ∧ n < 2 ^ 59 ∧ ∀ (ys : List D) (o' : Ob), ys.Perm xs → SrcD (n + 1000) o' → Q (.own none (.lst ys)) [o']
theorem ok__law_mixed (T : Txt K mg A) : Ok1 P w K mg base 3 A.f__law_mixed ["source", "row"] (SpD K (cad A) gMix) := by
  refine okD T.fn__law_mixed sc__law_mixed (fun _ _ _ _ _ _ us hl => match us, hl with | [_, _], _ => rfl) (fun ss Q QX ⟨_, _, _, e, _⟩ => by rw [e]; rfl) fun cdv B up s H E hr => ⟨_, _, (pss_cons (ps_set (i := 2) sc__law_mixed.nd rfl (Or.inr rfl) (pe_callTy call_list_of (by rfl) T.no_list (by decide +kernel) (pa_cons (pv 1) pa_nil)))
      (pss_one (ps_ret (pe_lcD (own := [("k", 3)]) rfl sc__law_mixed.nd (pi_range1 rfl T.no_range (pa_cons (pe_callB call_len (by rfl) T.no_len (by decide +kernel) (pa_cons (pv 1) pa_nil)) pa_nil)) (blkOk_by (N := N__law_mixed) (sc := defScope s__law_mixed) (by decide +kernel)) (fun _ _ _ _ _ => pg_name (i := 3) sc__law_mixed.nd rfl (Or.inl rfl)) (fun _ _ _ _ _ => pts_nil) (fun _ _ _ _ _ => (pe_bm PySem.F.plainAttrs_list PySem.F.slot_list_pop PySem.F.type_list_pop mt_popAt (pv 2) (pa_cons (po_call (ok__law_pick T) (hr.mono (by decide)) T.mg__law_pick (pa_cons (pv 0) (pa_cons (pe_callB call_len (by rfl) T.no_len (by decide +kernel) (pa_cons (pv 2) pa_nil)) pa_nil))) pa_nil))))))), (ds_seq (ds_setN (i := 2) (dn_cb cn_list (da_cons (de_var (i := 1)) da_nil)))
      (ds_retN (dn_lc (di_rng1 (da_cons (de_cb cd_len (da_cons (de_var (i := 1)) da_nil)) da_nil)) (dg_name (i := 3)) dt_yes (de_mutV (i := 2) ml_popAt (da_cons (de_call (da_cons (de_var (i := 0)) (da_cons (de_cb cd_len (da_cons (de_var (i := 2)) da_nil)) da_nil))) da_nil)) (by decide)))), fun ss Q QX h => ?_⟩
  obtain ⟨o, n, xs, rfl, lx, hs, hn, h⟩ := h
  refine ⟨⟨by omega, by omega⟩, trivial, bl_rng (I := fun j acc δ => ∃ (ys : List D) (o' : Ob), DrawnG xs acc ys ∧ acc.length = j ∧ SrcD (n + j) o' ∧ δ = [some (.own (some 0) o'), some (.val (.lst xs)), some (.own none (.lst ys)), none]) ⟨xs, o, .init _, rfl, hs, rfl⟩ (fun j c δ R1 hj hI hn => ?_) fun c δ hI => ?_⟩
  · obtain ⟨ys, o1, Dr, lu, hs1, rfl⟩ := hI
    have ly := Dr.len
    refine ⟨o1, n + j, (ys.length : Nat), rfl, by omega, by omega, hs1, by omega, fun r o2 r0 r1 hs2 => ?_⟩
    have z := pop_at (f := id) (xs := ys) (Q := fun d ds => c.length < 1000000 ∧ R1 (c ++ [d]) [some (.own (some 0) o2), some (.val (.lst xs)), some (.own none (.lst ds)), none]) r0 (by omega) (by omega) fun x m ex _ => ⟨by omega, by
      rw [List.map_id]
      exact hn _ _ ⟨_, o2, Dr.step ex, by rw [List.length_append, lu]; rfl, hs2, rfl⟩⟩
    rw [List.map_id] at z
    exact z
  · obtain ⟨ys, o1, Dr, lu, hs1, rfl⟩ := hI
    have ly := Dr.len
    have e0 : ys = [] := List.length_eq_zero_iff.mp (by omega)
    subst e0
    have pm := Dr.p
    rw [List.append_nil] at pm
    exact ⟨rfl, h c o1 pm (hs1.le (by omega))⟩
/-! ### the law's words -/
def ws0 : List Str := ["a", "aa", "aaa", "aaaaaaaa", "zzzzzzzz", "low", "high", "order", "inserted", "none", "x", "y"]
def chw : List Nat := (Str.ofString "bcdefghijklm").cps.toList
def w4 (c : Nat) : List Str := [sgn c, sgn c ++ "a", "a" ++ sgn c, sgn c ++ "zzzzzzz"]
def wsP (p : List Nat) : List Str := ws0 ++ p.flatMap w4
structure Itm (xs : List Str) : Prop where
  it : ∀ x ∈ xs, isItem x = true
  nd : xs.Nodup
  pl : ∀ x ∈ xs, x ∈ wsP chw
theorem Itm.perm {xs ys : List Str} (h : Itm xs) (p : ys.Perm xs) : Itm ys := ⟨fun x hx => h.it x (p.mem_iff.mp hx), p.nodup_iff.mpr h.nd, fun x hx => h.pl x (p.mem_iff.mp hx)⟩
theorem ws_items : Itm (wsP chw) := ⟨List.all_eq_true.mp (by decide +kernel : (wsP chw).all isItem = true), by decide +kernel, fun x hx => hx⟩
theorem ws_len : (wsP chw).length = 60 := by decide +kernel
theorem wsP_len (p : List Nat) : (wsP p).length = 12 + 4 * p.length := by
  unfold wsP
  rw [List.length_append]
  induction p with
  | nil => rfl
  | cons c p ih =>
    rw [List.flatMap_cons, List.length_append, List.length_cons]
    have : (w4 c).length = 4 := rfl
    omega
def gWords : DSp := fun ss Q _ => ∃ (o : Ob) (n size : Nat), ss = [.own (some 0) o, .val (.int size)] ∧ size ≤ 60 ∧ SrcD n o ∧ n < 2 ^ 59 ∧ ∀ (ys : List Str) (o' : Ob), Itm ys → ys.length = size → SrcD (n + 60) o' → Q (.own none (.lst (ys.map .str))) [o']
theorem ok__law_words (T : Txt K mg A) : Ok1 P w K mg base 2 A.f__law_words ["source", "size"] (SpD K (cad A) gWords) := by
  refine okD T.fn__law_words sc__law_words (fun _ _ _ _ _ _ us hl => match us, hl with | [_, _], _ => rfl) (fun ss Q QX ⟨_, _, _, e, _⟩ => by rw [e]; rfl) fun cdv B up s H E hr => ⟨_, _, (pss_cons (ps_set (i := 2) sc__law_words.nd rfl (Or.inr rfl) (pe_lst (pa_cons pe_str (pa_cons pe_str (pa_cons pe_str (pa_cons pe_str (pa_cons pe_str (pa_cons pe_str (pa_cons pe_str (pa_cons pe_str (pa_cons pe_str (pa_cons pe_str (pa_cons pe_str (pa_cons pe_str pa_nil))))))))))))))
      (pss_cons (ps_for PassesOwn.never rfl (pi_str pe_str) (pg_name (i := 3) sc__law_words.nd rfl (Or.inl rfl))
      (pss_one (ps_set (i := 2) sc__law_words.nd rfl (Or.inr rfl) (pe_op op_addX (pv 2) (pe_lst (pa_cons (pv 3) (pa_cons (pe_op op_addX (pv 3) pe_str) (pa_cons (pe_op op_addX pe_str (pv 3)) (pa_cons (pe_op op_addX (pv 3) pe_str) pa_nil)))))))))
      (pss_one (ps_ret (pe_lcD (own := [("k", 4)]) rfl sc__law_words.nd (pi_range1 rfl T.no_range (pa_cons (pv 1) pa_nil)) (blkOk_by (N := N__law_words) (sc := defScope s__law_words) (by decide +kernel)) (fun _ _ _ _ _ => pg_name (i := 4) sc__law_words.nd rfl (Or.inl rfl)) (fun _ _ _ _ _ => pts_nil) (fun _ _ _ _ _ => (pe_bm PySem.F.plainAttrs_list PySem.F.slot_list_pop PySem.F.type_list_pop mt_popAt (pv 2) (pa_cons (po_call (ok__law_pick T) (hr.mono (by decide)) T.mg__law_pick (pa_cons (pv 0) (pa_cons (pe_callB call_len (by rfl) T.no_len (by decide +kernel) (pa_cons (pv 2) pa_nil)) pa_nil))) pa_nil)))))))), (ds_seq (ds_setN (i := 2) (dn_lst (da_cons de_str (da_cons de_str (da_cons de_str (da_cons de_str (da_cons de_str (da_cons de_str (da_cons de_str (da_cons de_str (da_cons de_str (da_cons de_str (da_cons de_str (da_cons de_str da_nil))))))))))))))
      (ds_seq (ds_for (di_str de_str) (dg_name (i := 3))
      (ds_setN (i := 2) (dn_cat (de_var (i := 2)) (de_frz (dn_lst (da_cons (de_var (i := 3)) (da_cons (de_op od_add (de_var (i := 3)) de_str) (da_cons (de_op od_add de_str (de_var (i := 3))) (da_cons (de_op od_add (de_var (i := 3)) de_str) da_nil)))))))))
      (ds_retN (dn_lc (di_rng1 (da_cons (de_var (i := 1)) da_nil)) (dg_name (i := 4)) dt_yes (de_mutV (i := 2) ml_popAt (da_cons (de_call (da_cons (de_var (i := 0)) (da_cons (de_cb cd_len (da_cons (de_var (i := 2)) da_nil)) da_nil))) da_nil)) (by decide))))), fun ss Q QX h => ?_⟩
  obtain ⟨o, n, size, rfl, hz, hs, hn, h⟩ := h
  refine ⟨trivial, for_map (f := fun c => .str (sgn c)) (xs := chw) (fun p δ => ∃ a : Option Sl, δ = [some (.own (some 0) o), some (.val (.int size)), some (.own none (.lst ((wsP p).map .str))), a, none]) (pre := []) ⟨_, rfl⟩ (fun p c q δ e hI nx hn => ?_) fun δ hI => ?_⟩
  · obtain ⟨a, rfl⟩ := hI
    refine ⟨Nat.le_of_ble_eq_true rfl, Nat.le_of_ble_eq_true rfl, Nat.le_of_ble_eq_true rfl, ?_, ?_⟩
    · have lp : p.length ≤ 12 := by
        have := congrArg List.length e
        have l12 : chw.length = 12 := by decide +kernel
        simp only [List.nil_append, List.length_append, List.length_cons, l12] at this
        omega
      rw [List.length_map, wsP_len]
      show 12 + 4 * p.length + 4 ≤ _
      omega
    · refine hn _ ⟨some (.val (.str (sgn c))), ?_⟩
      have ew : (wsP (p ++ [c])).map D.str = (wsP p).map D.str ++ [.str (sgn c), .str (sgn c ++ "a"), .str ("a" ++ sgn c), .str (sgn c ++ "zzzzzzz")] := by
        unfold wsP
        rw [List.flatMap_append, ← List.append_assoc, List.map_append]
        rfl
      rw [ew]
      rfl
  · obtain ⟨a, rfl⟩ := hI
    have wi := ws_items
    have wl := ws_len
    rw [show ([] ++ chw : List Nat) = chw from rfl]
    have wp : ∀ x ∈ wsP chw, x ∈ wsP chw := fun x hx => hx
    generalize e60 : wsP chw = xs at wi wl wp ⊢
    refine ⟨⟨by omega, by omega⟩, trivial, bl_rng (I := fun j acc δ => ∃ (us ys : List Str) (o' : Ob), acc = us.map D.str ∧ Drawn xs us ys ∧ us.length = j ∧ SrcD (n + j) o' ∧ δ = [some (.own (some 0) o'), some (.val (.int size)), some (.own none (.lst (ys.map .str))), a, none]) ⟨[], xs, o, rfl, .init _, rfl, hs, rfl⟩ (fun j c δ R1 hj hI hn => ?_) fun c δ hI => ?_⟩
    · obtain ⟨us, ys, o1, rfl, Dr, lu, hs1, rfl⟩ := hI
      have ly := Dr.len
      have e : (((ys.map D.str).length : Nat) : Int) = (ys.length : Nat) := by rw [List.length_map]
      refine ⟨o1, n + j, ((ys.map D.str).length : Nat), rfl, by omega, by omega, hs1, by omega, fun r o2 r0 r1 hs2 => ?_⟩
      refine pop_at (f := D.str) (xs := ys) r0 (by omega) (by omega) fun x m ex _ => ?_
      refine ⟨by rw [List.length_map]; omega, ?_⟩
      exact hn _ _ ⟨us ++ [x], ys.eraseIdx m, o2, (by rw [List.map_append]; rfl), Dr.step ex, by rw [List.length_append, lu]; rfl, hs2, rfl⟩
    · obtain ⟨us, ys, o1, rfl, Dr, lu, hs1, rfl⟩ := hI
      exact ⟨rfl, h us o1 ⟨fun x hx => wi.it x (Dr.sub x hx), Dr.nodup wi.nd, fun x hx => by rw [e60]; exact Dr.sub x hx⟩ lu (hs1.le (by omega))⟩

end
end Own

set_option Elab.async false
set_option linter.all false
set_option maxRecDepth 100000
set_option maxHeartbeats 4000000
namespace Own
open PySem L2 ClX PD
local macro_rules | `(tactic| walk_at "y") => `(tactic| first | (refine ifY ?e ?_; (case e => first | with_reducible rfl | decide +kernel)) | (refine bofE true ?e ?_; (case e => first | with_reducible rfl | decide +kernel)))
local macro_rules | `(tactic| walk_at "n") => `(tactic| first | (refine ifN ?e ?_; (case e => first | with_reducible rfl | decide +kernel)) | (refine bofE false ?e ?_; (case e => first | with_reducible rfl | decide +kernel)))
local macro_rules | `(tactic| walk_at "t") => `(tactic| (refine ifY ?e ?_; (case e => rfl)))
local macro_rules | `(tactic| walk_at "f") => `(tactic| (refine ifN ?e ?_; (case e => rfl)))
local macro_rules | `(tactic| walk_at "go") => `(tactic| repeat (first | walk_at "t" | walk_at "f"))
local macro_rules | `(tactic| walk_at "norm") => `(tactic| dsimp only [PD.dget, PD.dset, PD.wipeD, PD.putBack, PD.putOb, PD.reOb, PD.entryD, PD.nones, List.map, List.length, PD.stayD, PD.unwipeD])

section
variable {P : Program} {w : World} {K : PySem.W.Frag} {mg : Str → Option Value} {base : Heap} {A : Ad}
/-! ### records, what they do to a list -/
def playK (kind : Int) (x : Str) (n : Nat) (xs : List Str) : List Str := if kind = 0 then xs.take n ++ [x] ++ xs.drop n else if kind = 1 then xs.take n ++ xs.drop (n + 1) else [x] ++ (xs.take n ++ xs.drop (n + 1))
/-! ### a history -/
structure Hst (kind : Int) (names moved hs : List Str) (i : Nat) : Prop where
  h0 : kind = 0 → (hs ++ moved.drop i).Perm names
  h1 : kind = 1 → (hs ++ moved.take i).Perm names
  h2 : kind = 2 → hs.Perm names
theorem cut_at {x : Str} {n : Nat} {hs : List Str} (h : hs[n]? = some x) : (x :: (hs.take n ++ hs.drop (n + 1))).Perm hs := by
  obtain ⟨hn, e⟩ := List.getElem?_eq_some_iff.mp h
  have e2 : hs.drop n = x :: hs.drop (n + 1) := by rw [List.drop_eq_getElem_cons hn, e]
  have e3 := List.take_append_drop n hs
  rw [e2] at e3
  have q := (List.perm_middle (a := x) (l₁ := hs.take n) (l₂ := hs.drop (n + 1))).symm
  rw [e3] at q
  exact q
theorem Hst.good {kind : Int} {names moved hs : List Str} {i : Nat} (h : Hst kind names moved hs i) (k0 : 0 ≤ kind) (k2 : kind ≤ 2) (ni : Itm names) : Itm hs ∧ hs.length ≤ names.length := by
  have lft : ∀ r : List Str, (hs ++ r).Perm names → Itm hs ∧ hs.length ≤ names.length := fun r q => by
    have ia := ni.perm q
    have l := q.length_eq
    rw [List.length_append] at l
    exact ⟨⟨fun x hx => ia.it x (List.mem_append_left _ hx), (List.nodup_append.mp ia.nd).1, fun x hx => ia.pl x (List.mem_append_left _ hx)⟩, by omega⟩
  by_cases c0 : kind = 0
  · exact lft _ (h.h0 c0)
  by_cases c1 : kind = 1
  · exact lft _ (h.h1 c1)
  have q := h.h2 (by omega)
  exact ⟨ni.perm q, Nat.le_of_eq q.length_eq⟩
theorem Hst.pre0 {kind : Int} {names moved hs : List Str} {i : Nat} {x : Str} (h : Hst kind names moved hs i) (c0 : kind = 0) (ni : Itm names) (hx : moved[i]? = some x) : x ∉ hs := fun mem => by
  have ia := ni.perm (h.h0 c0)
  obtain ⟨hn, e⟩ := List.getElem?_eq_some_iff.mp hx
  rw [List.drop_eq_getElem_cons hn, e] at ia
  exact (List.nodup_append.mp ia.nd).2.2 x mem x List.mem_cons_self rfl
theorem Hst.preK {kind : Int} {names moved hs : List Str} {i : Nat} {x : Str} (h : Hst kind names moved hs i) (k0 : 0 ≤ kind) (k2 : kind ≤ 2) (c0 : kind ≠ 0) (nm : moved.Nodup) (sub : x ∈ names) (hx : moved[i]? = some x) : x ∈ hs := by
  by_cases c1 : kind = 1
  · have mem := (h.h1 c1).mem_iff.mpr sub
    rcases List.mem_append.mp mem with m | m
    · exact m
    · obtain ⟨hn, e⟩ := List.getElem?_eq_some_iff.mp hx
      have nm2 := nm
      rw [← List.take_append_drop i moved, List.drop_eq_getElem_cons hn, e] at nm2
      exact absurd rfl ((List.nodup_append.mp nm2).2.2 x m x List.mem_cons_self)
  · exact (h.h2 (by omega)).mem_iff.mpr sub
theorem Hst.step {kind : Int} {names moved hs : List Str} {i n : Nat} {x : Str} (h : Hst kind names moved hs i) (hx : moved[i]? = some x) (c1 : kind ≠ 0 → hs[n]? = some x) : Hst kind names moved (playK kind x n hs) (i + 1) := by
  obtain ⟨hi, e⟩ := List.getElem?_eq_some_iff.mp hx
  refine ⟨fun k => ?_, fun k => ?_, fun k => ?_⟩
  · have q := h.h0 k
    rw [List.drop_eq_getElem_cons hi, e] at q
    unfold playK
    rw [if_pos k]
    have p1 : (hs.take n ++ [x] ++ hs.drop n).Perm (x :: hs) := by
      have z := List.perm_middle (a := x) (l₁ := hs.take n) (l₂ := hs.drop n)
      rw [List.take_append_drop] at z
      rw [List.append_assoc]
      exact z
    exact ((p1.append_right _).trans List.perm_middle.symm).trans q
  · have q := h.h1 k
    unfold playK
    rw [if_neg (by omega), if_pos k, List.take_add_one, hx]
    have p1 := cut_at (c1 (by omega))
    have z : ((hs.take n ++ hs.drop (n + 1)) ++ (moved.take i ++ [x])).Perm (hs ++ moved.take i) := by
      rw [← List.append_assoc]
      exact (List.perm_append_singleton x _).trans (p1.append_right (moved.take i))
    exact z.trans q
  · have q := h.h2 k
    unfold playK
    rw [if_neg (by omega), if_neg (by omega)]
    exact (cut_at (c1 (by omega))).trans q
def keepK (kind : Int) (moved : List Str) (x : Str) : Bool := decide (kind > 0) || !decide (x ∈ moved)
theorem keep_all {kind : Int} {names moved : List Str} (k : kind > 0) : names.filter (keepK kind moved) = names := List.filter_eq_self.mpr fun x _ => by
  unfold keepK
  rw [decide_eq_true k]
  rfl
theorem Hst.start {kind : Int} {names moved : List Str} (ni : Itm names) (nm : moved.Nodup) (sub : ∀ x ∈ moved, x ∈ names) : Hst kind names moved (names.filter (keepK kind moved)) 0 := by
  have all : kind > 0 → names.filter (keepK kind moved) = names := fun k => List.filter_eq_self.mpr fun x _ => by
    unfold keepK
    rw [decide_eq_true k]
    rfl
  refine ⟨fun k => ?_, fun k => ?_, fun k => ?_⟩
  · have e : names.filter (keepK kind moved) = names.filter (fun x => !decide (x ∈ moved)) := by
      refine List.filter_congr fun x _ => ?_
      unfold keepK
      rw [decide_eq_false (by omega)]
      rfl
    rw [e, List.drop_zero]
    have p1 : (names.filter (fun x => decide (x ∈ moved))).Perm moved := by
      refine (List.perm_ext_iff_of_nodup (ni.nd.filter _) nm).mpr fun x => ?_
      rw [List.mem_filter]
      exact ⟨fun z => of_decide_eq_true z.2, fun z => ⟨sub x z, decide_eq_true z⟩⟩
    have p2 := List.filter_append_perm (fun x => decide (x ∈ moved)) names
    exact ((List.perm_append_comm.trans (p1.symm.append_right _)).trans p2)
  · rw [all (by omega), List.take_zero, List.append_nil]
  · rw [all (by omega)]
def gMadeR : DSp := fun ss Q _ => ∃ (i n : Int) (x : Str), ss = [.val (.int i), .val (.str x), .val (.int n)] ∧ isItem x = true ∧ 0 ≤ n ∧ n ≤ 60 ∧ Q (.own none (.row (kdN i) x n)) []
theorem ok__law_made (T : Txt K mg A) : Ok1 P w K mg base 5 A.f__law_made ["kind", "name", "index"] (SpD K (cad A) gMadeR) := by
  refine okD T.fn__law_made sc__law_made (fun _ _ _ _ _ _ us hl => match us, hl with | [_, _, _], _ => rfl) (fun ss Q QX ⟨_, _, _, e, _⟩ => by rw [e]; rfl) fun cdv B up s H E hr => ⟨_, _, (pss_cons (ps_if (pt_cmpR (op_eqX hr) (pv 0) pe_int (nomark _)) (pss_one (ps_ret (po_make T.mk_Inserted (ok_Record___init__ T) (hr.mono (by decide)) T.mg_Inserted (pa_cons (pv 1) (pa_cons (pv 2) pa_nil))))) pss_nil)
      (pss_one (ps_ret (pe_ifExp (pt_cmpR (op_eqX hr) (pv 0) pe_int (nomark _)) (po_make T.mk_Removed (ok_Record___init__ T) (hr.mono (by decide)) T.mg_Removed (pa_cons (pv 1) (pa_cons (pv 2) pa_nil))) (po_make T.mk_Fronted (ok_Record___init__ T) (hr.mono (by decide)) T.mg_Fronted (pa_cons (pv 1) (pa_cons (pv 2) pa_nil))))))), (ds_seq (ds_if (dt_test (de_op od_eq (de_var (i := 0)) de_int)) (ds_retN (dn_make (c := .I) (init_ok T .I) (da_cons (de_var (i := 1)) (da_cons (de_var (i := 2)) da_nil)))) ds_next)
      (ds_retN (dn_if (dt_test (de_op od_eq (de_var (i := 0)) de_int)) (dn_make (c := .R) (init_ok T .R) (da_cons (de_var (i := 1)) (da_cons (de_var (i := 2)) da_nil))) (dn_make (c := .F) (init_ok T .F) (da_cons (de_var (i := 1)) (da_cons (de_var (i := 2)) da_nil)))))), fun ss Q QX h => ?_⟩
  obtain ⟨i, n, x, rfl, hi, h0, h1, h⟩ := h
  unfold kdN at h
  refine ⟨rfl, rfl, bof2 (fun c => ?_) fun c => ?_⟩
  · rw [eq_int] at c
    rw [if_pos (of_decide_eq_true c)] at h
    exact ⟨⟨hi, h0, h1⟩, h⟩
  · rw [eq_int] at c
    rw [if_neg (of_decide_eq_false c)] at h
    refine ⟨rfl, rfl, bof2 (fun c1 => ?_) fun c1 => ?_⟩
    · rw [eq_int] at c1
      rw [if_pos (of_decide_eq_true c1)] at h
      exact ⟨⟨hi, h0, h1⟩, h⟩
    · rw [eq_int] at c1
      rw [if_neg (of_decide_eq_false c1)] at h
      exact ⟨⟨hi, h0, h1⟩, h⟩
def gPlayed : DSp := fun ss Q _ => ∃ (i : Int) (n : Nat) (x : Str) (xs : List Str), ss = [.val (.int i), .val (.lst (xs.map .str)), .val (.str x), .val (.int n)] ∧ xs.length ≤ 60 ∧ (i = 0 → x ∉ xs ∧ n ≤ xs.length) ∧ (i ≠ 0 → xs[n]? = some x) ∧ Q (.val (.lst ((playK i x n xs).map .str))) []
theorem ok__law_played (T : Txt K mg A) : Ok1 P w K mg base 2 A.f__law_played ["kind", "here", "name", "index"] (SpD K (cad A) gPlayed) := by
  refine okD T.fn__law_played sc__law_played (fun _ _ _ _ _ _ us hl => match us, hl with | [_, _, _, _], _ => rfl) (fun ss Q QX ⟨_, _, _, _, e, _⟩ => by rw [e]; rfl) fun cdv B up s H E hr => ⟨_, _, (pss_cons (ps_if (pt_cmpR (op_eqX hr) (pv 0) pe_int (nomark _)) (pss_cons (ps_set (i := 4) sc__law_played.nd rfl (Or.inl rfl) (pe_and (pe_cmpR op_notIn_seq (pv 2) (pv 1) rfl) (pe_one (pe_cmpR op_le (pv 3) (pe_callB call_len (by rfl) T.no_len (by decide +kernel) (pa_cons (pv 1) pa_nil)) (nomark _)))))
      (pss_one (ps_ret (pe_ifExp (pt_val (pv 4)) (pe_op op_addX (pe_op op_addX (pe_slice sl_list (pv 1) po_none (po_some (pv 3))) (pe_lst (pa_cons (pv 2) pa_nil))) (pe_slice sl_list (pv 1) (po_some (pv 3)) po_none)) pe_non)))) pss_nil)
      (pss_cons (ps_if (PW.pt (pw_or (pt_cmpR op_ge (pv 3) (pe_callB call_len (by rfl) T.no_len (by decide +kernel) (pa_cons (pv 1) pa_nil)) (nomark _)) (pw_or1 (pt_cmpR (op_neX hr) (pe_ix ix_seq (pv 1) (pv 3) (fun _ _ => rfl)) (pv 2) (nomark _))))) (pss_one (ps_ret pe_non)) pss_nil)
      (pss_cons (ps_set (i := 5) sc__law_played.nd rfl (Or.inl rfl) (pe_op op_addX (pe_slice sl_list (pv 1) po_none (po_some (pv 3))) (pe_slice sl_list (pv 1) (po_some (pe_op op_addX (pv 3) pe_int)) po_none)))
      (pss_one (ps_ret (pe_ifExp (pt_cmpR (op_eqX hr) (pv 0) pe_int (nomark _)) (pv 5) (pe_op op_addX (pe_lst (pa_cons (pv 2) pa_nil)) (pv 5)))))))), (ds_seq (ds_if (dt_test (de_op od_eq (de_var (i := 0)) de_int)) (ds_seq (ds_set (i := 4) (de_and (de_op od_nin (de_var (i := 2)) (de_var (i := 1))) (de_op od_le (de_var (i := 3)) (de_cb cd_len (da_cons (de_var (i := 1)) da_nil)))))
      (ds_ret (de_if (dt_val (de_var (i := 4))) (de_op od_add (de_op od_add (de_frz (dn_sl (de_var (i := 1)) do_none (do_some (de_var (i := 3))))) (de_frz (dn_lst (da_cons (de_var (i := 2)) da_nil)))) (de_frz (dn_sl (de_var (i := 1)) (do_some (de_var (i := 3))) do_none))) de_non))) ds_next)
      (ds_seq (ds_if (dt_or (dt_test (de_op od_ge (de_var (i := 3)) (de_cb cd_len (da_cons (de_var (i := 1)) da_nil)))) (dt_test (de_op od_ne (de_op od_ix (de_var (i := 1)) (de_var (i := 3))) (de_var (i := 2))))) (ds_ret de_non) ds_next)
      (ds_seq (ds_set (i := 5) (de_op od_add (de_frz (dn_sl (de_var (i := 1)) do_none (do_some (de_var (i := 3))))) (de_frz (dn_sl (de_var (i := 1)) (do_some (de_op od_add (de_var (i := 3)) de_int)) do_none))))
      (ds_ret (de_if (dt_test (de_op od_eq (de_var (i := 0)) de_int)) (de_var (i := 5)) (de_op od_add (de_frz (dn_lst (da_cons (de_var (i := 2)) da_nil))) (de_var (i := 5)))))))), fun ss Q QX h => ?_⟩
  obtain ⟨i, n, x, xs, rfl, lx, h0, hk, h⟩ := h
  have ex : (((xs.map D.str).length : Nat) : Int) = (xs.length : Nat) := by rw [List.length_map]
  have e1 : ((n : Nat) : Int) + 1 = ((n + 1 : Nat) : Int) := by omega
  unfold playK at h
  refine ⟨rfl, rfl, bof2 (fun c => ?_) fun c => ?_⟩
  · rw [eq_int] at c
    have c := of_decide_eq_true c
    rw [if_pos c] at h
    obtain ⟨nx, ln⟩ := h0 c
    refine ⟨rfl, flat1_strs xs, ?_⟩
    rw [in_strs, decide_eq_false nx]
    refine bofE true rfl ?_
    refine ifP (p := (n : Int) ≤ ((xs.map D.str).length : Int)) (fun _ => ?_) fun c1 => absurd (by omega) c1
    refine ⟨?_, ?_, ?_⟩
    · rw [cutD_map_to, List.length_map, List.length_take]
      show _ + 1 ≤ _
      omega
    · rw [List.length_append, cutD_map_to, cutD_map_from, List.length_map, List.length_map, List.length_take, List.length_drop]
      show _ + 1 + _ ≤ _
      omega
    · rw [cutD_map_to, cutD_map_from]
      rw [List.map_append, List.map_append] at h
      exact h
  · rw [eq_int] at c
    have c := of_decide_eq_false c
    rw [if_neg c] at h
    have ha := hk c
    have ln := (List.getElem?_eq_some_iff.mp ha).1
    refine ifP (p := ((xs.map D.str).length : Int) ≤ (n : Int)) (fun c1 => absurd c1 (by omega)) fun c1 => ?_
    refine at_n (i := n) (d := .str x) (by rw [List.getElem?_map, ha]; rfl) ?_
    refine ⟨rfl, rfl, bofE false (by rw [eq_str, decide_eq_true rfl]; rfl) ?_⟩
    refine ifN rfl ?_
    have er : cutD (xs.map D.str) none (some (n : Int)) ++ cutD (xs.map D.str) (some ((n : Int) + 1)) none = (xs.take n ++ xs.drop (n + 1)).map .str := by
      rw [e1, cutD_map_to, cutD_map_from, List.map_append]
    have lr : (xs.take n ++ xs.drop (n + 1)).length ≤ 60 := by
      rw [List.length_append, List.length_take, List.length_drop]
      omega
    refine ⟨?_, ?_⟩
    · rw [← List.length_append, er, List.length_map]
      omega
    rw [er]
    generalize xs.take n ++ xs.drop (n + 1) = rs at lr h ⊢
    refine ⟨rfl, rfl, bof2 (fun c2 => ?_) fun c2 => ?_⟩
    · rw [eq_int] at c2
      rw [if_pos (of_decide_eq_true c2)] at h
      exact h
    · rw [eq_int] at c2
      rw [if_neg (of_decide_eq_false c2)] at h
      refine ⟨?_, h⟩
      rw [List.length_map]
      show 1 + _ ≤ _
      omega
/-- what a history draws -/
structure Hist (ps : List (Str × Nat)) (xs : List Str) : Prop where
  i : Itm xs
  l : xs.length ≤ 60
  lp : ps.length ≤ 40
  a : ∀ p ∈ ps, p.2 ≤ 60
  n : (ps.map (·.1)).Nodup
  s : ∀ x ∈ ps.map (·.1), x ∈ xs
def pairD (p : Str × Nat) : D := .tup [.str p.1, .int p.2]
def gHist : DSp := fun ss Q _ => ∃ (o : Ob) (n : Nat) (i : Int) (most more : Nat), ss = [.own (some 0) o, .val (.int i), .val (.int most), .val (.int more)] ∧ 0 ≤ i ∧ i ≤ 2 ∧ most ≤ 40 ∧ more ≤ 20 ∧ SrcD n o ∧ n < 2 ^ 58 ∧ ∀ (ps : List (Str × Nat)) (xs : List Str) (o' : Ob), Hist ps xs → SrcD (n + 1500) o' → Q (.val (.tup [.lst (ps.map pairD), .lst (xs.map .str)])) [o']
theorem ok__law_history (T : Txt K mg A) : Ok1 P w K mg base 4 A.f__law_history ["source", "kind", "most", "more"] (SpD K (cad A) gHist) := by
  refine okD T.fn__law_history sc__law_history (fun _ _ _ _ _ _ us hl => match us, hl with | [_, _, _, _], _ => rfl) (fun ss Q QX ⟨_, _, _, _, _, e, _⟩ => by rw [e]; rfl) fun cdv B up s H E hr => ⟨_, _, (pss_cons (ps_par (i := 4) (j := 5) (by rfl) sc__law_history.nd rfl rfl (by decide) rfl rfl (pa_cons (po_call (ok__law_pick T) (hr.mono (by decide)) T.mg__law_pick (pa_cons (pv 0) (pa_cons (pe_op op_addX (pv 2) pe_int) pa_nil))) (pa_cons (po_call (ok__law_pick T) (hr.mono (by decide)) T.mg__law_pick (pa_cons (pv 0) (pa_cons (pe_op op_addX (pv 3) pe_int) pa_nil))) pa_nil)) (by rfl))
      (pss_cons (ps_set (i := 6) sc__law_history.nd rfl (Or.inl rfl) (po_call (ok__law_words T) (hr.mono (by decide)) T.mg__law_words (pa_cons (pv 0) (pa_cons (pe_op op_addX (pv 4) (pv 5)) pa_nil))))
      (pss_cons (ps_set (i := 7) sc__law_history.nd rfl (Or.inr rfl) (pe_slice sl_list (po_call (ok__law_mixed T) (hr.mono (by decide)) T.mg__law_mixed (pa_cons (pv 0) (pa_cons (pv 6) pa_nil))) po_none (po_some (pv 4))))
      (pss_cons (ps_set (i := 8) sc__law_history.nd rfl (Or.inl rfl) (po_call (ok__law_pick T) (hr.mono (by decide)) T.mg__law_pick (pa_cons (pv 0) (pa_cons pe_int pa_nil))))
      (pss_cons (ps_setLcD (i := 9) (own := [("name", 12)]) rfl sc__law_history.nd rfl rfl (sw_true rfl rfl rfl (by decide +kernel)) (pi_list (pv 6)) (blkOk_by (N := N__law_history) (sc := defScope s__law_history) (by decide +kernel)) (fun _ _ _ _ _ => pg_name (i := 12) sc__law_history.nd rfl (Or.inl rfl)) (fun _ _ _ _ _ => (pts_one (PW.pt (pw_or (pt_cmpR op_gt (pv 1) pe_int (nomark _)) (pw_or1 (pt_cmpR op_notIn_seq (pv 12) (pv 7) rfl)))))) (fun _ _ _ _ _ => (pv 12)))
      (pss_cons (ps_par (i := 10) (j := 11) (by rfl) sc__law_history.nd rfl rfl (by decide) rfl rfl (pa_cons (pe_callTy call_list_of (by rfl) T.no_list (by decide +kernel) (pa_cons (pv 9) pa_nil)) (pa_cons (pe_lst pa_nil) pa_nil)) (by rfl))
      (pss_cons (ps_for PassesOwn.never rfl (pi_list (pv 7)) (pg_name (i := 12) sc__law_history.nd rfl (Or.inl rfl))
      (pss_cons (ps_set (i := 4) sc__law_history.nd rfl (Or.inl rfl) (pe_callB call_len (by rfl) T.no_len (by decide +kernel) (pa_cons (pv 9) pa_nil)))
      (pss_cons (ps_set (i := 13) sc__law_history.nd rfl (Or.inl rfl) (pe_callB (call_min2 rfl) (by rfl) T.no_min (by decide +kernel) (pa_cons (pv 4) (pa_cons (pe_ix ix_seq (pe_lst (pa_cons (po_call (ok__law_pick T) (hr.mono (by decide)) T.mg__law_pick (pa_cons (pv 0) (pa_cons (pe_op op_addX (pv 4) pe_int) pa_nil))) (pa_cons pe_int (pa_cons (pv 4) (pa_cons (po_call (ok__law_pick T) (hr.mono (by decide)) T.mg__law_pick (pa_cons (pv 0) (pa_cons pe_int pa_nil))) pa_nil))))) (pv 8) (fun _ _ => rfl)) pa_nil))))
      (pss_cons (ps_if (pt_cmpR op_gt (pv 1) pe_int (nomark _)) (pss_one (ps_set (i := 13) sc__law_history.nd rfl (Or.inl rfl) (pe_bm PySem.F.plainAttrs_list PySem.F.slot_list_index PySem.F.type_list_index mt_index (pv 9) (pa_cons (pv 12) pa_nil)))) pss_nil)
      (pss_cons (ps_expr (pe_bm PySem.F.plainAttrs_list PySem.F.slot_list_append PySem.F.type_list_append mt_append (pv 11) (pa_cons (pe_tup (pa_cons (pv 12) (pa_cons (pv 13) pa_nil))) pa_nil)))
      (pss_one (ps_set (i := 9) sc__law_history.nd rfl (Or.inl rfl) (po_call (ok__law_played T) (hr.mono (by decide)) T.mg__law_played (pa_cons (pv 1) (pa_cons (pv 9) (pa_cons (pv 12) (pa_cons (pv 13) pa_nil))))))))))))
      (pss_one (ps_ret (pe_tup (pa_cons (pv 11) (pa_cons (pe_ifExp (pt_cmpR (op_eqX hr) (pv 1) pe_int (nomark _)) (pv 9) (pv 10)) pa_nil)))))))))))), (ds_seq (ds_par (i := 4) (j := 5) (dm_val (de_call (da_cons (de_var (i := 0)) (da_cons (de_op od_add (de_var (i := 2)) de_int) da_nil))) (dm_val (de_call (da_cons (de_var (i := 0)) (da_cons (de_op od_add (de_var (i := 3)) de_int) da_nil))) dm_nil)))
      (ds_seq (ds_set (i := 6) (de_frz (dn_call (da_cons (de_var (i := 0)) (da_cons (de_op od_add (de_var (i := 4)) (de_var (i := 5))) da_nil)))))
      (ds_seq (ds_set (i := 7) (de_frz (dn_sl (de_frz (dn_call (da_cons (de_var (i := 0)) (da_cons (de_fz (de_var (i := 6))) da_nil)))) do_none (do_some (de_var (i := 4))))))
      (ds_seq (ds_set (i := 8) (de_call (da_cons (de_var (i := 0)) (da_cons de_int da_nil))))
      (ds_seq (ds_set (i := 9) (de_frz (dn_lc (di_list (de_var (i := 6))) (dg_name (i := 12)) (dt_or (dt_test (de_op od_gt (de_var (i := 1)) de_int)) (dt_test (de_op od_nin (de_var (i := 12)) (de_var (i := 7))))) (de_var (i := 12)) (by decide))))
      (ds_seq (ds_par (i := 10) (j := 11) (dm_val (de_frz (dn_cb cn_list (da_cons (de_var (i := 9)) da_nil))) (dm_own (dn_lst da_nil) dm_nil)))
      (ds_seq (ds_for (di_list (de_var (i := 7))) (dg_name (i := 12))
      (ds_seq (ds_set (i := 4) (de_cb cd_len (da_cons (de_var (i := 9)) da_nil)))
      (ds_mid (ds_set (i := 13) (de_cb cd_min (da_cons (de_var (i := 4)) (da_cons (de_op od_ix (de_frz (dn_lst (da_cons (de_call (da_cons (de_var (i := 0)) (da_cons (de_op od_add (de_var (i := 4)) de_int) da_nil))) (da_cons de_int (da_cons (de_var (i := 4)) (da_cons (de_call (da_cons (de_var (i := 0)) (da_cons de_int da_nil))) da_nil)))))) (de_var (i := 8))) da_nil))))
      (ds_mid (ds_if (dt_test (de_op od_gt (de_var (i := 1)) de_int)) (ds_set (i := 13) (de_bm (t := .list) md_index (de_var (i := 9)) (da_cons (de_var (i := 12)) da_nil))) ds_next)
      (ds_seq (ds_expr (de_mutV (i := 11) ml_append (da_cons (de_tup (da_cons (de_var (i := 12)) (da_cons (de_var (i := 13)) da_nil))) da_nil)))
      (ds_set (i := 9) (de_call (da_cons (de_fz (de_var (i := 1))) (da_cons (de_fz (de_var (i := 9))) (da_cons (de_fz (de_var (i := 12))) (da_cons (de_fz (de_var (i := 13))) da_nil)))))))))))
      (ds_ret (de_tup (da_cons (de_var (i := 11)) (da_cons (de_if (dt_test (de_op od_eq (de_var (i := 1)) de_int)) (de_var (i := 9)) (de_var (i := 10))) da_nil))))))))))), fun ss Q QX h => ?_⟩
  obtain ⟨o, n, i, most, more, rfl, i0, i2, hm, ho, hs, hn, h⟩ := h
  refine ⟨o, n, most + 1, rfl, by omega, by omega, hs, by omega, fun sz o1 sz0 sz1 hs1 => ?_⟩
  refine ⟨o1, n + 1, more + 1, rfl, by omega, by omega, hs1, by omega, fun ot o2 ot0 ot1 hs2 => ?_⟩
  obtain ⟨sz, rfl⟩ := Int.eq_ofNat_of_zero_le sz0
  obtain ⟨ot, rfl⟩ := Int.eq_ofNat_of_zero_le ot0
  walk_at "norm"
  refine ⟨o2, n + 1 + 1, sz + ot, rfl, by omega, hs2, by omega, fun ns o3 ni ln hs3 => ?_⟩
  walk_at "norm"
  refine ⟨o3, n + 1 + 1 + 60, _, rfl, by rw [List.length_map]; omega, hs3, by omega, fun ds o4 pm hs4 => ?_⟩
  obtain ⟨ms, rfl, pm2⟩ := perm_map_inv pm ns rfl
  clear pm
  have nm : (ms.take sz).Nodup := ((ni.perm pm2).nd).sublist (List.take_sublist _ _)
  have sub : ∀ x ∈ ms.take sz, x ∈ ns := fun x hx => pm2.mem_iff.mp (List.mem_of_mem_take hx)
  have lmv : (ms.take sz).length ≤ 40 := by rw [List.length_take]; omega
  have l60 : ns.length ≤ 60 := by omega
  refine ⟨o4, _, 4, rfl, by decide, by decide, hs4, by omega, fun st o5 st0 st1 hs5 => ?_⟩
  walk_at "norm"
  rw [cutD_map_to]
  generalize ms.take sz = mv at nm sub lmv ⊢
  refine ⟨trivial, lc_flt (p := keepK i mv) (k := D.str) (fun y hy acc R1 l q => ?_) ?_ ?_⟩
  · refine ifP (p := (0 : Int) < i) (fun c => ?_) fun c => ?_
    · have e : keepK i mv y = true := by unfold keepK; rw [decide_eq_true c]; rfl
      rw [if_pos e] at q
      exact ⟨l, q⟩
    · have e : keepK i mv y = !decide (y ∈ mv) := by unfold keepK; rw [decide_eq_false c]; rfl
      rw [e] at q
      refine ⟨rfl, flat1_strs mv, ?_⟩
      rw [in_strs]
      exact flt_turn l q
  · omega
  walk_at "norm"
  have h0 := Hst.start (kind := i) ni nm sub
  have hk : 0 < i → ns.filter (keepK i mv) = ns := keep_all
  generalize ns.filter (keepK i mv) = kn at h0 hk ⊢
  refine ⟨trivial, for_map (fun p δ => ∃ (hs : List Str) (ps : List (Str × Nat)) (o' : Ob) (zz : Int) (a b : Option Sl), Hst i ns mv hs p.length ∧ SrcD (n + 1063 + 2 * p.length) o' ∧ ps.map (·.1) = p ∧ (∀ q ∈ ps, q.2 ≤ 60) ∧ δ = [some (.own (some 0) o'), some (.val (.int i)), some (.val (.int most)), some (.val (.int more)), some (.val (.int zz)), some (.val (.int ot)), some (.val (.lst (ns.map .str))), some (.val (.lst (mv.map .str))), some (.val (.int st)), some (.val (.lst (hs.map .str))), some (.val (.lst (kn.map .str))), some (.own none (.lst (ps.map pairD))), a, b]) (pre := []) ⟨kn, [], o5, _, _, _, h0, hs5.le (by simp), rfl, (fun q hq => by cases hq), rfl⟩ (fun p x q δ e hI nx hn => ?_) fun δ hI => ?_⟩
  · obtain ⟨hs, ps, o1, zz, a, b, hh, hs1, ep, pb, rfl⟩ := hI
    have lp : p.length < 40 := by
      have := congrArg List.length e
      simp only [List.nil_append, List.length_append, List.length_cons] at this
      omega
    have hx : mv[p.length]? = some x := by
      rw [show mv = p ++ x :: q from e, List.getElem?_append_right (Nat.le_refl _), Nat.sub_self]
      rfl
    obtain ⟨hi, hl⟩ := hh.good i0 i2 ni
    walk_at "norm"
    refine ⟨fun δ => ∃ (o' : Ob) (k : Nat), k ≤ hs.length ∧ SrcD (n + 1063 + 2 * p.length + 2) o' ∧ δ = [some (.own (some 0) o'), some (.val (.int i)), some (.val (.int most)), some (.val (.int more)), some (.val (.int (hs.length : Nat))), some (.val (.int ot)), some (.val (.lst (ns.map .str))), some (.val (.lst (mv.map .str))), some (.val (.int st)), some (.val (.lst (hs.map .str))), some (.val (.lst (kn.map .str))), some (.own none (.lst (ps.map pairD))), some (.val (.str x)), some (.val (.int k))], ?_, ?_⟩
    · rw [List.length_map]
      refine ⟨o1, _, ((hs.length : Nat) : Int) + 1, rfl, by omega, by omega, hs1, by omega, fun r1 o2 r10 r11 hs2 => ?_⟩
      refine ⟨o2, _, 2, rfl, by decide, by decide, hs2, by omega, fun r2 o3 r20 r21 hs3 => ?_⟩
      obtain ⟨v, ev, v0⟩ : ∃ v : Int, ([.int r1, .int 0, .int (hs.length : Nat), .int r2] : List D)[st.toNat]? = some (.int v) ∧ 0 ≤ v := by
        have : st = 0 ∨ st = 1 ∨ st = 2 ∨ st = 3 := by omega
        rcases this with rfl | rfl | rfl | rfl
        · exact ⟨_, rfl, r10⟩
        · exact ⟨_, rfl, Int.le_refl _⟩
        · exact ⟨_, rfl, by omega⟩
        · exact ⟨_, rfl, r20⟩
      refine at_nat st0 ev ?_
      obtain ⟨k, ek, lk⟩ : ∃ k : Nat, (if v < ((hs.length : Nat) : Int) then v else (hs.length : Nat)) = (k : Int) ∧ k ≤ hs.length := by
        by_cases c : v < ((hs.length : Nat) : Int)
        · rw [if_pos c]; exact ⟨v.toNat, by omega, by omega⟩
        · rw [if_neg c]; exact ⟨_, rfl, Nat.le_refl _⟩
      exact ⟨o3, k, lk, hs3, by rw [← ek]; rfl⟩
    rintro _ ⟨o2, k, lk, hs2, rfl⟩
    refine ⟨fun δ => ∃ k : Nat, k ≤ 60 ∧ (i = 0 → x ∉ hs ∧ k ≤ hs.length) ∧ (i ≠ 0 → hs[k]? = some x) ∧ δ = [some (.own (some 0) o2), some (.val (.int i)), some (.val (.int most)), some (.val (.int more)), some (.val (.int (hs.length : Nat))), some (.val (.int ot)), some (.val (.lst (ns.map .str))), some (.val (.lst (mv.map .str))), some (.val (.int st)), some (.val (.lst (hs.map .str))), some (.val (.lst (kn.map .str))), some (.own none (.lst (ps.map pairD))), some (.val (.str x)), some (.val (.int k))], ?_, ?_⟩
    · refine ifP (p := (0 : Int) < i) (fun c => ?_) fun c => ?_
      · have mx : x ∈ hs := hh.preK i0 i2 (by omega) nm (sub x (List.mem_of_getElem? hx)) hx
        refine ⟨rfl, flat1_strs hs, ?_⟩
        rw [first_strs mx]
        exact ⟨ixS hs x, by have := ixS_lt mx; omega, fun z => absurd z (by omega), fun _ => ixS_at mx, rfl⟩
      · exact ⟨k, by omega, fun z => ⟨hh.pre0 z ni hx, lk⟩, fun z => absurd z (by omega), rfl⟩
    rintro _ ⟨k, k60, c0, cK, rfl⟩
    have lps : ps.length < 40 := by rw [← ep, List.length_map] at lp; exact lp
    refine ⟨by rw [List.length_map]; omega, ?_⟩
    refine ⟨i, k, x, hs, rfl, by omega, c0, cK, ?_⟩
    refine hn _ ⟨playK i x k hs, ps ++ [(x, k)], o2, ((hs.length : Nat) : Int), some (.val (.str x)), some (.val (.int k)), by rw [List.length_append]; exact hh.step hx cK, hs2.le (by rw [List.length_append]; simp; omega), by rw [List.map_append, ep]; rfl, fun q hq => ?_, ?_⟩
    · rcases List.mem_append.mp hq with m | m
      · exact pb q m
      · rw [List.mem_singleton.mp m]; exact k60
    · rw [List.map_append]
      rfl
  · obtain ⟨hs, ps, o1, zz, a, b, hh, hs1, ep, pb, rfl⟩ := hI
    have fin : ∀ xs : List Str, xs.Perm ns → Q (.val (.tup [.lst (ps.map pairD), .lst (xs.map .str)])) [o1] := fun xs pm => by
      refine h ps xs o1 ⟨ni.perm pm, by rw [pm.length_eq]; omega, ?_, pb, by rw [ep]; exact nm, fun x hx => ?_⟩ (hs1.le ?_)
      · rw [← List.length_map, ep]; exact lmv
      · rw [ep] at hx
        exact pm.mem_iff.mpr (sub x hx)
      · simp only [List.nil_append]
        omega
    refine ⟨rfl, rfl, bof2 (fun c => ?_) fun c => ?_⟩
    · rw [eq_int] at c
      have c := of_decide_eq_true c
      have pm := hh.h0 c
      rw [List.nil_append, List.drop_length, List.append_nil] at pm
      exact ⟨rfl, fin hs pm⟩
    · rw [eq_int] at c
      have c := of_decide_eq_false c
      exact ⟨rfl, fin kn (by rw [hk (by omega)])⟩

end
end Own

set_option Elab.async false
set_option linter.all false
set_option maxRecDepth 100000
set_option maxHeartbeats 4000000
namespace Own
open PySem L2 ClX PD
local macro_rules | `(tactic| walk_at "y") => `(tactic| first | (refine ifY ?e ?_; (case e => first | with_reducible rfl | decide +kernel)) | (refine bofE true ?e ?_; (case e => first | with_reducible rfl | decide +kernel)))
local macro_rules | `(tactic| walk_at "n") => `(tactic| first | (refine ifN ?e ?_; (case e => first | with_reducible rfl | decide +kernel)) | (refine bofE false ?e ?_; (case e => first | with_reducible rfl | decide +kernel)))
local macro_rules | `(tactic| walk_at "t") => `(tactic| (refine ifY ?e ?_; (case e => rfl)))
local macro_rules | `(tactic| walk_at "f") => `(tactic| (refine ifN ?e ?_; (case e => rfl)))
local macro_rules | `(tactic| walk_at "go") => `(tactic| repeat (first | walk_at "t" | walk_at "f"))
local macro_rules | `(tactic| walk_at "norm") => `(tactic| dsimp only [PD.dget, PD.dset, PD.wipeD, PD.putBack, PD.putOb, PD.reOb, PD.entryD, PD.nones, List.map, List.length, PD.stayD, PD.unwipeD])

section
variable {P : Program} {w : World} {K : PySem.W.Frag} {mg : Str → Option Value} {base : Heap} {A : Ad}
/-! ### the log, its pairs -/
def rwK (i : Int) (p : Str × Nat) : Rw := ⟨kdN i, p.1, p.2⟩
def gLog : DSp := fun ss Q _ => ∃ (o : Ob) (n : Nat) (i : Int) (ps : List (Str × Nat)), ss = [.own (some 0) o, .val (.int i), .val (.lst (ps.map pairD))] ∧ ps.length ≤ 1000 ∧ (∀ p ∈ ps, isItem p.1 = true ∧ p.2 ≤ 60) ∧ SrcD n o ∧ n < 2 ^ 59 ∧ ∀ (qs : List (Str × Nat)) (o' : Ob), qs.Perm ps → SrcD (n + 1000) o' → Q (.own none (.lst ((qs.map (rwK i)).map Rw.d))) [o']
theorem ok__law_log (T : Txt K mg A) : Ok1 P w K mg base 6 A.f__law_log ["source", "kind", "pairs"] (SpD K (cad A) gLog) := by
  refine okD T.fn__law_log sc__law_log (fun _ _ _ _ _ _ us hl => match us, hl with | [_, _, _], _ => rfl) (fun ss Q QX ⟨_, _, _, _, e, _⟩ => by rw [e]; rfl) fun cdv B up s H E hr => ⟨_, _, (pss_one (ps_ret (pe_lcD (own := [("name", 3), ("index", 4)]) rfl sc__law_log.nd (pi_list (po_call (ok__law_mixed T) (hr.mono (by decide)) T.mg__law_mixed (pa_cons (pv 0) (pa_cons (pv 2) pa_nil)))) (blkOk_by (N := N__law_log) (sc := defScope s__law_log) (by decide +kernel)) (fun _ _ _ _ _ => pg_tup (by rfl) (pgs_cons (pg_name (i := 3) sc__law_log.nd rfl (Or.inl rfl)) (pgs_cons (pg_name (i := 4) sc__law_log.nd rfl (Or.inl rfl)) pgs_nil))) (fun _ _ _ _ _ => pts_nil) (fun _ _ _ _ _ => (po_call (ok__law_made T) (hr.mono (by decide)) T.mg__law_made (pa_cons (pv 1) (pa_cons (pv 3) (pa_cons (pv 4) pa_nil)))))))), (ds_retN (dn_lc (di_list (de_frz (dn_call (da_cons (de_var (i := 0)) (da_cons (de_fz (de_var (i := 2))) da_nil))))) (dg_tup (dgs_cons (dg_name (i := 3)) (dgs_cons (dg_name (i := 4)) dgs_nil))) dt_yes (de_frz (dn_call (da_cons (de_fz (de_var (i := 1))) (da_cons (de_fz (de_var (i := 3))) (da_cons (de_fz (de_var (i := 4))) da_nil))))) (by decide))), fun ss Q QX h => ?_⟩
  obtain ⟨o, n, i, ps, rfl, l, ok, hs, hn, h⟩ := h
  refine ⟨o, n, _, rfl, by rw [List.length_map]; exact l, hs, hn, fun ds o1 pm hs1 => ?_⟩
  obtain ⟨qs, rfl, pm2⟩ := perm_map_inv pm ps rfl
  refine ⟨trivial, lc_all (f := pairD) (k := fun p => (rwK i p).d) (fun p hp acc R1 l q => ?_) ?_ ?_⟩
  · have := ok p (pm2.mem_iff.mp hp)
    exact ⟨rfl, i, p.2, p.1, rfl, this.1, Int.natCast_nonneg _, by omega, l, q⟩
  · rw [pm2.length_eq]; omega
  have z := h qs o1 pm2 hs1
  rw [List.map_map] at z
  exact ⟨rfl, z⟩
def gPairs : DSp := fun ss Q _ => ∃ rs : List Rw, ss = [.val (.lst (rs.map Rw.d))] ∧ rs.length ≤ 1000 ∧ Q (.own none (.lst (rs.map fun r => .tup [.str r.x, .int r.n]))) []
theorem ok__law_pairs (T : Txt K mg A) : Ok1 P w K mg base 3 A.f__law_pairs ["notes"] (SpD K (cad A) gPairs) := by
  refine okD T.fn__law_pairs sc__law_pairs (fun _ _ _ _ _ _ us hl => match us, hl with | [_], _ => rfl) (fun ss Q QX ⟨_, e, _⟩ => by rw [e]; rfl) fun cdv B up s H E hr => ⟨_, _, (pss_one (ps_ret (pe_lcD (own := [("record", 1)]) rfl sc__law_pairs.nd (pi_list (pv 0)) (blkOk_by (N := N__law_pairs) (sc := defScope s__law_pairs) (by decide +kernel)) (fun _ _ _ _ _ => pg_name (i := 1) sc__law_pairs.nd rfl (Or.inl rfl)) (fun _ _ _ _ _ => pts_nil) (fun _ _ _ _ _ => (pe_tup (pa_cons (po_propD (p := A.p_Record_item) (ok_Record_item T) (hr.mono (by decide)) (pv 1)) (pa_cons (po_propD (p := A.p_Record_slot) (ok_Record_slot T) (hr.mono (by decide)) (pv 1)) pa_nil))))))), (ds_retN (dn_lc (di_list (de_var (i := 0))) (dg_name (i := 1)) dt_yes (de_tup (da_cons (de_prop (item_of T) (get_item T) (de_var (i := 1))) (da_cons (de_prop (slot_of T) (get_slot T) (de_var (i := 1))) da_nil))) (by decide))), fun ss Q QX h => ?_⟩
  obtain ⟨rs, rfl, l, h⟩ := h
  refine ⟨trivial, lc_all (f := Rw.d) (k := fun r => .tup [.str r.x, .int r.n]) (fun p hp acc R1 l q => ⟨l, q⟩) (by omega) h⟩
/-! ### what is due -/
def sideD (ps : List (Str × Nat)) (i : Int) (xs : List Str) (x : Str) : D := .tup [.str x, .int (shiftX (ps.map (rwK i)) xs x), .int (roomOf (ps.map (rwK i)) xs x)]
def gSides : DSp := fun ss Q _ => ∃ (i : Int) (ps : List (Str × Nat)) (xs : List Str), ss = [.val (.int i), .val (.lst (ps.map pairD)), .val (.lst (xs.map .str))] ∧ 0 ≤ i ∧ i ≤ 2 ∧ ps.length ≤ 1000 ∧ xs.length ≤ 1000 ∧ xs.Nodup ∧ (ps.map (·.1)).Nodup ∧ Q (.own none (.lst ((known (ps.map (rwK i)) xs).map (sideD ps i xs)))) []
theorem prs_pairs0 {k : List (Key × D) → Prop} : ∀ ps : List (Str × Nat), k (dicL (ps.map fun p => (p.1, D.int (p.2 : Nat)))) → prsD0 (ps.map pairD) k
  | [], h => h
  | _ :: ps, h => prs_pairs0 (k := fun kvs => k (_ :: kvs)) ps h
theorem prs_pairs {k : List (Key × D) → Prop} (ps : List (Str × Nat)) (h : k (dicL (ps.map fun p => (p.1, D.int (p.2 : Nat))))) : prsD (ps.map pairD) k := by
  unfold prsD
  exact prs_pairs0 ps h
theorem dputs_new : ∀ {l m : List (Str × D)}, ((l ++ m).map (·.1)).Nodup → dputs (dicL l) (dicL m) = dicL (l ++ m)
  | l, [], _ => by rw [List.append_nil]; rfl
  | l, p :: m, nd => by
    have np : p.1 ∉ l.map (·.1) := fun h => by
      rw [List.map_append, List.map_cons] at nd
      exact (List.nodup_append.mp nd).2.2 _ h _ List.mem_cons_self rfl
    show dputs (dput (dicL l) (.inr p.1) p.2) (dicL m) = _
    rw [dput_new np, dputs_new (by rw [List.append_assoc]; exact nd), List.append_assoc]
    rfl
theorem names_rw (i : Int) (ps : List (Str × Nat)) : names (ps.map (rwK i)) = ps.map (·.1) := by
  unfold names
  rw [List.map_map]
  rfl
theorem slot_look {i : Int} {ps : List (Str × Nat)} {x : Str} (nd : (ps.map (·.1)).Nodup) (h : x ∈ ps.map (·.1)) : dlook (dicL (ps.map fun p => (p.1, D.int (p.2 : Nat)))) (.inr x) = some (.int (slotOf (ps.map (rwK i)) x)) := by
  obtain ⟨p, hp, rfl⟩ := List.mem_map.mp h
  have e : slotOf (ps.map (rwK i)) p.1 = (p.2 : Nat) := slotOf_mem (r := rwK i p) (by rw [names_rw]; exact nd) (List.mem_map.mpr ⟨p, hp, rfl⟩)
  rw [e]
  exact dlook_of (by rw [List.map_map]; exact nd) (List.mem_map.mpr ⟨p, hp, rfl⟩)
theorem fr_rw {i : Int} (i0 : 0 ≤ i) (i2 : i ≤ 2) {ps : List (Str × Nat)} {x : Str} (h : x ∈ ps.map (·.1)) : isFr (ps.map (rwK i)) = !decide (i < 2) := by
  cases ps with
  | nil => cases h
  | cons p ps =>
    show decide (kdN i = .F) = _
    have : i = 0 ∨ i = 1 ∨ i = 2 := by omega
    rcases this with rfl | rfl | rfl <;> decide
def sideG (ps : List (Str × Nat)) (i : Int) (xs : List Str) (m : Nat) (x : Str) (b : Nat) : D := if i < 2 then .tup [.str x, .int ((ixS xs x : Nat) - slotOf (ps.map (rwK i)) x), .int (b : Nat)] else .tup [.str x, .int (slotOf (ps.map (rwK i)) x - (ixS xs x : Nat)), .int ((m : Nat) - 1 - (b : Nat))]
theorem sideG_eq {i : Int} (i0 : 0 ≤ i) (i2 : i ≤ 2) {ps : List (Str × Nat)} {xs : List Str} {x : Str} (h : x ∈ known (ps.map (rwK i)) xs) : sideG ps i xs (known (ps.map (rwK i)) xs).length x (ixS (known (ps.map (rwK i)) xs) x) = sideD ps i xs x := by
  have e := fr_rw i0 i2 (by rw [← names_rw i]; exact (known_mem.mp h).2)
  unfold sideG sideD shiftX roomOf
  rw [e]
  by_cases c : i < 2
  · rw [if_pos c, decide_eq_true c]
    rfl
  · rw [if_neg c, decide_eq_false c]
    rfl
theorem ok__law_sides (T : Txt K mg A) : Ok1 P w K mg base 3 A.f__law_sides ["kind", "pairs", "known"] (SpD K (cad A) gSides) := by
  refine okD T.fn__law_sides sc__law_sides (fun _ _ _ _ _ _ us hl => match us, hl with | [_, _, _], _ => rfl) (fun ss Q QX ⟨_, _, _, e, _⟩ => by rw [e]; rfl) fun cdv B up s H E hr => ⟨_, _, (pss_cons (ps_parC (i := 3) (j := 4) (by rfl) (pa_cons (pe_callTy (call_dictP rfl) (by rfl) T.no_dict (by decide +kernel) (pa_cons (pv 1) pa_nil)) (pa_cons (pe_lst pa_nil) pa_nil)) (pgs_cons (pg_name (i := 3) sc__law_sides.nd rfl (Or.inr rfl)) (pgs_cons (pg_name (i := 4) sc__law_sides.nd rfl (Or.inl rfl)) pgs_nil)))
      (pss_cons (ps_setLcD (i := 5) (own := [("name", 7)]) rfl sc__law_sides.nd rfl rfl (sw_true rfl rfl rfl (by decide +kernel)) (pi_list (pv 2)) (blkOk_by (N := N__law_sides) (sc := defScope s__law_sides) (by decide +kernel)) (fun _ _ _ _ _ => pg_name (i := 7) sc__law_sides.nd rfl (Or.inl rfl)) (fun _ _ _ _ _ => (pts_one (pt_cmp (pc_din (Nat.lt_of_le_of_lt (Nat.add_le_add_left (show 1 ≤ 64 by decide) _) hr.units) (pv 7) (pv 3))))) (fun _ _ _ _ _ => (pv 7)))
      (pss_cons (ps_for PassesOwn.never rfl (pi_enum (by rfl) T.no_enumerate (pa_cons (pv 5) pa_nil)) (pg_tup (by rfl) (pgs_cons (pg_name (i := 6) sc__law_sides.nd rfl (Or.inl rfl)) (pgs_cons (pg_name (i := 7) sc__law_sides.nd rfl (Or.inl rfl)) pgs_nil)))
      (pss_cons (ps_set (i := 8) sc__law_sides.nd rfl (Or.inl rfl) (pe_bm PySem.F.plainAttrs_list PySem.F.slot_list_index PySem.F.type_list_index mt_index (pv 2) (pa_cons (pv 7) pa_nil)))
      (pss_one (ps_if (pt_cmpR op_lt (pv 0) pe_int (nomark _)) (pss_one (ps_expr (pe_bm PySem.F.plainAttrs_list PySem.F.slot_list_append PySem.F.type_list_append mt_append (pv 4) (pa_cons (pe_tup (pa_cons (pv 7) (pa_cons (pe_op op_sub (pv 8) (pe_dget (Nat.lt_of_le_of_lt (Nat.add_le_add_left (show 1 ≤ 64 by decide) _) hr.units) (pv 3) (pv 7) (fun _ _ => rfl))) (pa_cons (pv 6) pa_nil)))) pa_nil)))) (pss_one (ps_expr (pe_bm PySem.F.plainAttrs_list PySem.F.slot_list_append PySem.F.type_list_append mt_append (pv 4) (pa_cons (pe_tup (pa_cons (pv 7) (pa_cons (pe_op op_sub (pe_dget (Nat.lt_of_le_of_lt (Nat.add_le_add_left (show 1 ≤ 64 by decide) _) hr.units) (pv 3) (pv 7) (fun _ _ => rfl)) (pv 8)) (pa_cons (pe_op op_sub (pe_op op_sub (pe_callB call_len (by rfl) T.no_len (by decide +kernel) (pa_cons (pv 5) pa_nil)) pe_int) (pv 6)) pa_nil)))) pa_nil))))))))
      (pss_one (ps_ret (pv 4)))))), (ds_seq (ds_par (i := 3) (j := 4) (dm_val (de_frz (dn_dictP (da_cons (de_var (i := 1)) da_nil))) (dm_own (dn_lst da_nil) dm_nil)))
      (ds_seq (ds_set (i := 5) (de_frz (dn_lc (di_list (de_var (i := 2))) (dg_name (i := 7)) (dt_val (de_din (de_var (i := 7)) (de_var (i := 3)))) (de_var (i := 7)) (by decide))))
      (ds_seq (ds_for (di_enum (da_cons (de_var (i := 5)) da_nil)) (dg_tup (dgs_cons (dg_name (i := 6)) (dgs_cons (dg_name (i := 7)) dgs_nil)))
      (ds_seq (ds_set (i := 8) (de_bm (t := .list) md_index (de_var (i := 2)) (da_cons (de_var (i := 7)) da_nil)))
      (ds_if (dt_test (de_op od_lt (de_var (i := 0)) de_int)) (ds_expr (de_mutV (i := 4) ml_append (da_cons (de_tup (da_cons (de_var (i := 7)) (da_cons (de_op od_sub (de_var (i := 8)) (de_dget (de_var (i := 3)) (de_var (i := 7)))) (da_cons (de_var (i := 6)) da_nil)))) da_nil))) (ds_expr (de_mutV (i := 4) ml_append (da_cons (de_tup (da_cons (de_var (i := 7)) (da_cons (de_op od_sub (de_dget (de_var (i := 3)) (de_var (i := 7))) (de_var (i := 8))) (da_cons (de_op od_sub (de_op od_sub (de_cb cd_len (da_cons (de_var (i := 5)) da_nil)) de_int) (de_var (i := 6))) da_nil)))) da_nil))))))
      (ds_ret (de_var (i := 4)))))), fun ss Q QX h => ?_⟩
  obtain ⟨i, ps, xs, rfl, i0, i2, lp, lx, nx, np, h⟩ := h
  refine prs_pairs ps ?_
  rw [show dputs [] (dicL (ps.map fun p => (p.1, D.int (p.2 : Nat)))) = dicL (ps.map fun p => (p.1, D.int (p.2 : Nat))) from dputs_new (l := []) (by rw [List.nil_append, List.map_map]; exact np)]
  refine ⟨trivial, lc_flt (p := fun x => decide (x ∈ names (ps.map (rwK i)))) (k := D.str) (fun x hx acc R1 l q => ?_) ?_ ?_⟩
  · have e : (dlook (dicL (ps.map fun p => (p.1, D.int (p.2 : Nat)))) (.inr x)).isSome = decide (x ∈ names (ps.map (rwK i))) := by
      rw [dlook_isSome, List.map_map, names_rw]
      rfl
    refine if2 (fun c => ?_) fun c => ?_
    · rw [show (dlook (dicL (ps.map fun p => (p.1, D.int (p.2 : Nat)))) (.inr x)).isSome = true from c] at e
      rw [← e, if_pos rfl] at q
      exact ⟨l, q⟩
    · rw [show (dlook (dicL (ps.map fun p => (p.1, D.int (p.2 : Nat)))) (.inr x)).isSome = false from c] at e
      rw [← e, if_neg Bool.false_ne_true, Option.toList_none, List.append_nil] at q
      exact q
  · omega
  rw [show (List.filter (fun x => decide (x ∈ names (ps.map (rwK i)))) xs) = known (ps.map (rwK i)) xs from rfl]
  have ek : (known (ps.map (rwK i)) xs).map (sideD ps i xs) = (known (ps.map (rwK i)) xs).zipIdx.map fun p => sideG ps i xs (known (ps.map (rwK i)) xs).length p.1 p.2 := by
    rw [zip_ix (known_nodup nx) fun x b => sideG ps i xs (known (ps.map (rwK i)) xs).length x b]
    exact List.map_congr_left fun x hx => (sideG_eq i0 i2 hx).symm
  rw [ek] at h
  have lk : (known (ps.map (rwK i)) xs).length ≤ xs.length := known_len
  have mk : ∀ x ∈ known (ps.map (rwK i)) xs, x ∈ xs ∧ x ∈ ps.map (·.1) := fun x hx => by
    have := known_mem.mp hx
    rw [names_rw] at this
    exact this
  generalize known (ps.map (rwK i)) xs = ks at h lk mk ⊢
  have el : ks.length = (ks.map D.str).length := (List.length_map ..).symm
  rw [el] at h
  refine ⟨trivial, ?_⟩
  rw [enumD_map]
  walk_at "norm"
  refine for_map (f := fun p : Str × Nat => .tup [.int (p.2 : Nat), .str p.1]) (fun p δ => ∃ a b c : Option Sl, δ = [some (.val (.int i)), some (.val (.lst (ps.map pairD))), some (.val (.lst (xs.map .str))), some (.val (.dic (dicL (ps.map fun p => (p.1, D.int (p.2 : Nat)))))), some (.own none (.lst (p.map fun p => sideG ps i xs (ks.map D.str).length p.1 p.2))), some (.val (.lst (ks.map .str))), a, b, c]) (pre := []) ⟨_, _, _, rfl⟩ (fun p x q δ e hI nx hn => ?_) fun δ hI => ?_
  · obtain ⟨a, b, c, rfl⟩ := hI
    have hx : x.1 ∈ ks := by
      have m : x ∈ ks.zipIdx := by rw [show ks.zipIdx = p ++ x :: q from e]; simp
      have := List.mem_map.mpr ⟨x, m, (rfl : x.1 = x.1)⟩
      rwa [zip_fst] at this
    have lp : p.length < 1000 := by
      have := congrArg List.length e
      simp only [List.nil_append, List.length_append, List.length_cons, List.length_zipIdx] at this
      omega
    obtain ⟨mx, mp⟩ := mk _ hx
    have lo := slot_look (i := i) np mp
    have hn : ∀ a b c, nx [some (.val (.int i)), some (.val (.lst (ps.map pairD))), some (.val (.lst (xs.map .str))), some (.val (.dic (dicL (ps.map fun p => (p.1, D.int (p.2 : Nat)))))), some (.own none (.lst ((p.map fun p => sideG ps i xs (ks.map D.str).length p.1 p.2) ++ [sideG ps i xs (ks.map D.str).length x.1 x.2]))), some (.val (.lst (ks.map .str))), a, b, c] := fun a b c => hn _ ⟨a, b, c, by rw [List.map_append]; rfl⟩
    unfold sideG at hn
    refine ⟨rfl, rfl, flat1_strs xs, ?_⟩
    rw [first_strs mx]
    refine ifP (p := i < (2 : Int)) (fun c => ?_) fun c => ?_
    · rw [if_pos c] at hn
      refine look_at lo ?_
      exact ⟨by rw [List.length_map]; omega, hn _ _ _⟩
    · rw [if_neg c] at hn
      refine look_at lo ?_
      exact ⟨by rw [List.length_map]; omega, hn _ _ _⟩
  · obtain ⟨a, b, c, rfl⟩ := hI
    exact h
def gBent : DSp := fun ss Q _ => ∃ (o : Ob) (n : Nat) (ps : List (Str × Nat)), ss = [.own (some 0) o, .val (.lst (ps.map pairD))] ∧ ps.length ≤ 1000 ∧ (∀ p ∈ ps, p.2 ≤ 60) ∧ SrcD n o ∧ n < 2 ^ 59 ∧ ∀ (qs : List (Str × Nat)) (o' : Ob), qs.map (·.1) = ps.map (·.1) → (∀ q ∈ qs, q.2 ≤ 60) → SrcD (n + 3000) o' → Q (.own none (.lst (qs.map pairD))) [o']
theorem ok__law_bent (T : Txt K mg A) : Ok1 P w K mg base 2 A.f__law_bent ["source", "pairs"] (SpD K (cad A) gBent) := by
  refine okD T.fn__law_bent sc__law_bent (fun _ _ _ _ _ _ us hl => match us, hl with | [_, _], _ => rfl) (fun ss Q QX ⟨_, _, _, e, _⟩ => by rw [e]; rfl) fun cdv B up s H E hr => ⟨_, _, (pss_cons (ps_set (i := 2) sc__law_bent.nd rfl (Or.inl rfl) (pe_lst pa_nil))
      (pss_cons (ps_for PassesOwn.never rfl (pi_list (pv 1)) (pg_tup (by rfl) (pgs_cons (pg_name (i := 3) sc__law_bent.nd rfl (Or.inl rfl)) (pgs_cons (pg_name (i := 4) sc__law_bent.nd rfl (Or.inl rfl)) pgs_nil)))
      (pss_cons (ps_set (i := 5) sc__law_bent.nd rfl (Or.inl rfl) (po_call (ok__law_pick T) (hr.mono (by decide)) T.mg__law_pick (pa_cons (pv 0) (pa_cons pe_int pa_nil))))
      (pss_one (ps_expr (pe_bm PySem.F.plainAttrs_list PySem.F.slot_list_append PySem.F.type_list_append mt_append (pv 2) (pa_cons (pe_tup (pa_cons (pv 3) (pa_cons (pe_ix ix_seq (pe_lst (pa_cons (pv 4) (pa_cons (pv 4) (pa_cons (pv 4) (pa_cons (pe_callB (call_max2 rfl) (by rfl) T.no_max (by decide +kernel) (pa_cons pe_int (pa_cons (pe_op op_sub (pv 4) pe_int) pa_nil))) (pa_cons (pe_callB (call_min2 rfl) (by rfl) T.no_min (by decide +kernel) (pa_cons pe_int (pa_cons (pe_op op_addX (pv 4) pe_int) pa_nil))) (pa_cons (po_call (ok__law_pick T) (hr.mono (by decide)) T.mg__law_pick (pa_cons (pv 0) (pa_cons pe_int pa_nil))) pa_nil))))))) (pv 5) (fun _ _ => rfl)) pa_nil))) pa_nil))))))
      (pss_one (ps_ret (pv 2))))), (ds_seq (ds_setN (i := 2) (dn_lst da_nil))
      (ds_seq (ds_for (di_list (de_var (i := 1))) (dg_tup (dgs_cons (dg_name (i := 3)) (dgs_cons (dg_name (i := 4)) dgs_nil)))
      (ds_seq (ds_set (i := 5) (de_call (da_cons (de_var (i := 0)) (da_cons de_int da_nil))))
      (ds_expr (de_mutV (i := 2) ml_append (da_cons (de_tup (da_cons (de_var (i := 3)) (da_cons (de_op od_ix (de_frz (dn_lst (da_cons (de_var (i := 4)) (da_cons (de_var (i := 4)) (da_cons (de_var (i := 4)) (da_cons (de_cb cd_max (da_cons de_int (da_cons (de_op od_sub (de_var (i := 4)) de_int) da_nil))) (da_cons (de_cb cd_min (da_cons de_int (da_cons (de_op od_add (de_var (i := 4)) de_int) da_nil))) (da_cons (de_call (da_cons (de_var (i := 0)) (da_cons de_int da_nil))) da_nil)))))))) (de_var (i := 5))) da_nil))) da_nil)))))
      (ds_ret (de_var (i := 2))))), fun ss Q QX h => ?_⟩
  obtain ⟨o, n, ps, rfl, lp, pb, hs, hn, h⟩ := h
  refine ⟨trivial, for_map (f := pairD) (fun p δ => ∃ (qs : List (Str × Nat)) (o' : Ob) (a b c : Option Sl), qs.map (·.1) = p.map (·.1) ∧ (∀ q ∈ qs, q.2 ≤ 60) ∧ SrcD (n + 2 * p.length) o' ∧ δ = [some (.own (some 0) o'), some (.val (.lst (ps.map pairD))), some (.own none (.lst (qs.map pairD))), a, b, c]) (pre := []) ⟨[], o, _, _, _, rfl, (fun q hq => by cases hq), hs, rfl⟩ (fun p x q δ e hI nx hn2 => ?_) fun δ hI => ?_⟩
  · obtain ⟨qs, o1, a, b, c, eq, qb, hs1, rfl⟩ := hI
    have lp2 : p.length < 1000 := by
      have := congrArg List.length e
      simp only [List.nil_append, List.length_append, List.length_cons] at this
      omega
    have mx : x ∈ ps := by
      have : x ∈ p ++ x :: q := by simp
      rwa [← e] at this
    have hb := pb x mx
    refine ⟨rfl, o1, _, 6, rfl, by decide, by decide, hs1, by omega, fun w o2 w0 w1 hs2 => ?_⟩
    walk_at "norm"
    refine ⟨o2, _, 61, rfl, by decide, by decide, hs2, by omega, fun r o3 r0 r1 hs3 => ?_⟩
    obtain ⟨v, ev, v60⟩ : ∃ v : Nat, ([.int (x.2 : Nat), .int (x.2 : Nat), .int (x.2 : Nat), .int (if ((x.2 : Nat) : Int) - 1 > 0 then ((x.2 : Nat) : Int) - 1 else 0), .int (if ((x.2 : Nat) : Int) + 1 < 60 then ((x.2 : Nat) : Int) + 1 else 60), .int r] : List D)[w.toNat]? = some (.int (v : Int)) ∧ v ≤ 60 := by
      have : w = 0 ∨ w = 1 ∨ w = 2 ∨ w = 3 ∨ w = 4 ∨ w = 5 := by omega
      rcases this with rfl | rfl | rfl | rfl | rfl | rfl
      · exact ⟨_, rfl, hb⟩
      · exact ⟨_, rfl, hb⟩
      · exact ⟨_, rfl, hb⟩
      · by_cases c : ((x.2 : Nat) : Int) - 1 > 0
        · exact ⟨(((x.2 : Nat) : Int) - 1).toNat, by rw [if_pos c, Int.toNat_of_nonneg (by omega)]; rfl, by omega⟩
        · exact ⟨0, by rw [if_neg c]; rfl, by omega⟩
      · by_cases c : ((x.2 : Nat) : Int) + 1 < 60
        · exact ⟨(((x.2 : Nat) : Int) + 1).toNat, by rw [if_pos c, Int.toNat_of_nonneg (by omega)]; rfl, by omega⟩
        · exact ⟨60, by rw [if_neg c]; rfl, by omega⟩
      · exact ⟨r.toNat, by rw [Int.toNat_of_nonneg r0]; rfl, by omega⟩
    refine at_nat w0 ev ?_
    refine ⟨?_, ?_⟩
    · have := congrArg List.length eq
      rw [List.length_map, List.length_map] at this
      rw [List.length_map]
      omega
    refine hn2 _ ⟨qs ++ [(x.1, v)], o3, some (.val (.str x.1)), some (.val (.int (x.2 : Nat))), some (.val (.int w)), by rw [List.map_append, List.map_append, eq]; rfl, fun q hq => ?_, hs3.le (by rw [List.length_append]; simp; omega), ?_⟩
    · rcases List.mem_append.mp hq with m | m
      · exact qb q m
      · rw [List.mem_singleton.mp m]; exact v60
    · rw [List.map_append]
      rfl
  · obtain ⟨qs, o1, a, b, c, eq, qb, hs1, rfl⟩ := hI
    exact ⟨rfl, h qs o1 eq qb (hs1.le (by simp only [List.nil_append]; omega))⟩

end
end Own

set_option Elab.async false
set_option linter.all false
set_option maxRecDepth 100000
set_option maxHeartbeats 4000000
namespace Own
open PySem L2 ClX PD
local macro_rules | `(tactic| walk_at "y") => `(tactic| first | (refine ifY ?e ?_; (case e => first | with_reducible rfl | decide +kernel)) | (refine bofE true ?e ?_; (case e => first | with_reducible rfl | decide +kernel)))
local macro_rules | `(tactic| walk_at "n") => `(tactic| first | (refine ifN ?e ?_; (case e => first | with_reducible rfl | decide +kernel)) | (refine bofE false ?e ?_; (case e => first | with_reducible rfl | decide +kernel)))
local macro_rules | `(tactic| walk_at "t") => `(tactic| (refine ifY ?e ?_; (case e => rfl)))
local macro_rules | `(tactic| walk_at "f") => `(tactic| (refine ifN ?e ?_; (case e => rfl)))
local macro_rules | `(tactic| walk_at "go") => `(tactic| repeat (first | walk_at "t" | walk_at "f"))
local macro_rules | `(tactic| walk_at "norm") => `(tactic| dsimp only [PD.dget, PD.dset, PD.wipeD, PD.putBack, PD.putOb, PD.reOb, PD.entryD, PD.nones, List.map, List.length, PD.stayD, PD.unwipeD])

section
variable {P : Program} {w : World} {K : PySem.W.Frag} {mg : Str → Option Value} {base : Heap} {A : Ad}
/-! ### a claim, judged -/
def okQ (d : D) : Bool := match d with
  | .tup ds => ds.all okR
  | d => okR d
def claimB (rs : List Rw) (xs : List Str) (d : D) : Bool := (certL rs xs).any fun c => eqG 1 (certD c) d
theorem ok_claim {c : Cert × Str} {d : D} (h : okQ d = true) : okG 1 (certD c) d = true := by
  cases d with
  | tup ds =>
    have h : ds.all okR = true := h
    show zipAll (okG 0) [.str c.1.s, .str c.2] ds = true
    match ds, h with
    | [], _ => rfl
    | [a], h =>
      rw [List.all_cons, Bool.and_eq_true] at h
      show (okG 0 (.str c.1.s) a && true) = true
      rw [show okG 0 (.str c.1.s) a = okR a from rfl, h.1]
      rfl
    | a :: b :: r, h =>
      rw [List.all_cons, Bool.and_eq_true, List.all_cons, Bool.and_eq_true] at h
      show (okG 0 (.str c.1.s) a && (okG 0 (.str c.2) b && true)) = true
      rw [show okG 0 (.str c.1.s) a = okR a from rfl, show okG 0 (.str c.2) b = okR b from rfl, h.1, h.2.1]
      rfl
  | lst ds => rfl
  | dic ds => rfl
  | row k x n => exact h
  | non => rfl
  | bl b => rfl
  | int i => rfl
  | str x => rfl
  | _ => cases h
theorem knownD_mk {rs : List Rw} {xs : List Str} (I : Its xs) (ks : ∀ r ∈ rs, r.x ∈ xs) : isKnownD rs (.lst (xs.map D.str)) = true := by
  unfold isKnownD
  rw [I.b, strsL_map, Bool.true_and, List.all_eq_true]
  exact fun r hr => decide_eq_true (ks r hr)
def gShows : DSp := fun ss Q _ => ∃ (rs : List Rw) (xs : List Str) (d : D), ss = [.val (.lst (rs.map Rw.d)), .val (.lst (xs.map .str)), .val d] ∧ Log rs ∧ Its xs ∧ (∀ r ∈ rs, r.x ∈ xs) ∧ okQ d = true ∧ Q (.val (.bl (claimB rs xs d))) []
theorem bd_shows (T : Txt K mg A) : BodyDX P w K mg base (cad A) "shows" s_shows A.f_shows N_shows 5 gShows := by
  refine fun cdv B up s H E hr => ⟨_, _, (pss_cons (ps_expr (px_call (ok_check_log T) (fun _ => atE (takes_of rfl rfl rfl rfl)) (hr.mono (by decide)) T.mg_check_log (pa_cons (pv 0) pa_nil)))
      (pss_cons (ps_expr (px_call (ok_check_known T) (fun _ => atE (takes_of rfl rfl rfl rfl)) (hr.mono (by decide)) T.mg_check_known (pa_cons (pv 0) (pa_cons (pv 1) pa_nil))))
      (pss_one (ps_ret (pe_cmpR (op_inQ (m := 1) (ok_Record___eq__ T) (hr.mono (by decide))) (pv 2) (po_call (ok_certificates T) (hr.mono (by decide)) T.mg_certificates (pa_cons (pv 0) (pa_cons (pv 1) pa_nil))) rfl))))), (ds_seq (ds_expr (de_callX (da_cons (de_fz (de_var (i := 0))) da_nil)))
      (ds_seq (ds_expr (de_callX (da_cons (de_fz (de_var (i := 0))) (da_cons (de_fz (de_var (i := 1))) da_nil))))
      (ds_ret (de_op (od_inG (m := 1) (eq_t T)) (de_var (i := 2)) (de_frz (dn_call (da_cons (de_fz (de_var (i := 0))) (da_cons (de_fz (de_var (i := 1))) da_nil)))))))), fun ss Q QX h => ?_⟩
  obtain ⟨rs, xs, d, rfl, L, I, ks, o, h⟩ := h
  have l1 := L.l
  have l2 := I.l
  refine ⟨_, rfl, L.ty, ifY L.b ?_⟩
  refine ⟨rs, _, rfl, I.ty, by omega, ifY (knownD_mk I ks) ?_⟩
  refine ⟨rs, xs, rfl, by omega, by omega, I.n, L.n, ks, ?_⟩
  refine ⟨?_, ?_⟩
  · rw [List.all_eq_true]
    intro z hz
    obtain ⟨c, _, rfl⟩ := List.mem_map.mp hz
    exact ok_claim o
  · have z : ∀ b : Bool, (false != b) = b := by decide
    rw [List.any_map, z]
    exact h
theorem ok_shows (T : Txt K mg A) : OkX P w K mg base 6 A.f_shows ["log", "items", "thing"] (SpD K (cad A) gShows) := okXD T.fn_shows sc_shows (fun _ _ _ _ _ _ us hl => match us, hl with | [_, _, _], _ => rfl) (fun ss Q QX ⟨_, _, _, e, _⟩ => by rw [e]; rfl) (bd_shows T)
theorem ok3_shows (T : Txt K mg A) : OkX3 P w K mg base 6 A.f_shows ["log", "items", "thing"] ["thing", "items", "log"] (SpD K (cad A) gShows) := okX3D T.fn_shows sc_shows (fun _ _ _ _ _ _ _ _ _ => rfl) (fun ss Q QX ⟨_, _, _, e, _⟩ => by rw [e]; rfl) (bd_shows T)
/-! ### asked twice -/
def gTold : DSp := fun ss Q _ => ∃ (rs : List Rw) (xs : List Str) (d : D) (due : Bool), ss = [.val (.lst (rs.map Rw.d)), .val (.lst (xs.map .str)), .val d, .val (.bl due)] ∧ Log rs ∧ Its xs ∧ (∀ r ∈ rs, r.x ∈ xs) ∧ okQ d = true ∧ claimB rs xs d = due ∧ Q (.val (.bl true)) []
theorem ok__law_told (T : Txt K mg A) : OkG P w K mg base 7 A.f__law_told ["notes", "known", "claim", "due"] (SpD K (cad A) gTold) := by
  refine okGD T.fn__law_told sc__law_told (fun _ _ _ _ _ _ us hl => match us, hl with | [_, _, _, _], _ => rfl) (fun ss Q QX ⟨_, _, _, _, e, _⟩ => by rw [e]; rfl) fun cdv B up s H hr gd => ⟨_, _, (pss_cons (ps_set (i := 4) sc__law_told.nd rfl (Or.inl rfl) (pe_lst (pa_cons (px_call (ok_shows T) (fun _ => atL) (hr.mono (by decide)) T.mg_shows (pa_cons (pv 0) (pa_cons (pv 1) (pa_cons (pv 2) pa_nil)))) (pa_cons (px_call3 (ok3_shows T) (fun _ => atL) (hr.mono (by decide)) T.mg_shows (pk_cons (pv 2) (pk_cons (pv 1) (pk_cons (pv 0) pk_nil)))) pa_nil))))
      (pss_one (ps_ret (pe_cmpR (op_eqX hr) (pe_callB (call_reprD hr gd) (by rfl) T.no_repr (by decide +kernel) (pa_cons (pv 4) pa_nil)) (pe_callB (call_reprD hr gd) (by rfl) T.no_repr (by decide +kernel) (pa_cons (pe_lst (pa_cons (pv 3) (pa_cons (pv 3) pa_nil))) pa_nil)) (nomark _))))), (ds_seq (ds_set (i := 4) (de_frz (dn_lst (da_cons (de_callN (da_cons (de_fz (de_var (i := 0))) (da_cons (de_fz (de_var (i := 1))) (da_cons (de_fz (de_var (i := 2))) da_nil)))) (da_cons (de_call3N (da_cons (de_fz (de_var (i := 2))) (da_cons (de_fz (de_var (i := 1))) (da_cons (de_fz (de_var (i := 0))) da_nil)))) da_nil)))))
      (ds_ret (de_op od_eq (de_cb cd_repr (da_cons (de_var (i := 4)) da_nil)) (de_cb cd_repr (da_cons (de_frz (dn_lst (da_cons (de_var (i := 3)) (da_cons (de_var (i := 3)) da_nil)))) da_nil))))), fun ss Q QX h => ?_⟩
  obtain ⟨rs, xs, d, due, rfl, L, I, ks, o, cl, h⟩ := h
  refine ⟨rs, xs, d, rfl, L, I, ks, o, rs, xs, d, rfl, L, I, ks, o, ?_⟩
  rw [cl]
  have sh : ∀ b : Bool, flatN 30 (.lst [.bl b, .bl b]) = true ∧ showsB (.lst [.bl b, .bl b]) = true ∧ (pyD (.lst [.bl b, .bl b])).shown.length ≤ 1000000 := fun b => plain_shows (n := 1) (m := 10) (by cases b <;> rfl) (by decide) (by cases b <;> decide) (by decide)
  refine ⟨sh due, sh due, ?_⟩
  refine ⟨rfl, rfl, ?_⟩
  rw [eq_str, decide_eq_true rfl]
  exact h

end
end Own

set_option Elab.async false
set_option linter.all false
set_option maxRecDepth 100000
set_option maxHeartbeats 4000000
namespace Own
open PySem L2 ClX PD
local macro_rules | `(tactic| walk_at "y") => `(tactic| first | (refine ifY ?e ?_; (case e => first | with_reducible rfl | decide +kernel)) | (refine bofE true ?e ?_; (case e => first | with_reducible rfl | decide +kernel)))
local macro_rules | `(tactic| walk_at "n") => `(tactic| first | (refine ifN ?e ?_; (case e => first | with_reducible rfl | decide +kernel)) | (refine bofE false ?e ?_; (case e => first | with_reducible rfl | decide +kernel)))
local macro_rules | `(tactic| walk_at "t") => `(tactic| (refine ifY ?e ?_; (case e => rfl)))
local macro_rules | `(tactic| walk_at "f") => `(tactic| (refine ifN ?e ?_; (case e => rfl)))
local macro_rules | `(tactic| walk_at "go") => `(tactic| repeat (first | walk_at "t" | walk_at "f"))
local macro_rules | `(tactic| walk_at "norm") => `(tactic| dsimp only [PD.dget, PD.dset, PD.wipeD, PD.putBack, PD.putOb, PD.reOb, PD.entryD, PD.nones, List.map, List.length, PD.stayD, PD.unwipeD])

section
variable {P : Program} {w : World} {K : PySem.W.Frag} {mg : Str → Option Value} {base : Heap} {A : Ad}
/-! ### what is no certificate -/
structure NoC (xs : List Str) (d : D) : Prop where
  o : okQ d = true
  n : ∀ (c : Cert) (x : Str), x ∈ xs → eqG 1 (certD (c, x)) d = false
theorem cert_mem {rs : List Rw} {xs : List Str} {c : Cert × Str} (h : c ∈ certL rs xs) : c.2 ∈ known rs xs ∧ certOf rs xs c.2 = some c.1 := by
  unfold certL at h
  obtain ⟨y, hy, e⟩ := List.mem_filterMap.mp h
  cases ec : certOf rs xs y with
  | none => rw [ec] at e; cases e
  | some u =>
    rw [ec] at e
    cases e
    exact ⟨hy, ec⟩
theorem NoC.claim {rs : List Rw} {xs : List Str} {d : D} (h : NoC xs d) : claimB rs xs d = false := by
  unfold claimB
  rw [List.any_eq_false]
  intro c hc
  rw [h.n c.1 c.2 (known_mem.mp (cert_mem hc).1).1]
  exact Bool.false_ne_true
theorem no_lst {xs : List Str} (ds : List D) : NoC xs (.lst ds) := ⟨rfl, fun _ _ _ => rfl⟩
theorem no_dic {xs : List Str} (ds : List (Key × D)) : NoC xs (.dic ds) := ⟨rfl, fun _ _ _ => rfl⟩
theorem no_row {xs : List Str} {r : Rw} (h : rowB r.x r.n = true) : NoC xs r.d := ⟨h, fun _ _ _ => rfl⟩
theorem no_flat {xs : List Str} {d : D} (h : flat1 d = true) : NoC xs d := by
  cases d <;> first | exact ⟨rfl, fun _ _ _ => rfl⟩ | exact absurd h Bool.false_ne_true
theorem no_len {xs : List Str} {ds : List D} (o : ds.all okR = true) (l : ds.length ≠ 2) : NoC xs (.tup ds) := ⟨o, fun c x _ => by
  show (decide (2 = ds.length) && _) = false
  rw [decide_eq_false fun e => l e.symm]
  rfl⟩
theorem eq_pair (c : Cert) (x : Str) (a b : D) : eqG 1 (certD (c, x)) (.tup [a, b]) = (eqG 0 (.str c.s) a && eqG 0 (.str x) b) := by
  show (true && (eqG 0 (.str c.s) a && (eqG 0 (.str x) b && true))) = _
  rw [Bool.true_and, Bool.and_true]
theorem no_fst {xs : List Str} {a b : D} (oa : okR a = true) (ob : okR b = true) (h : ∀ c : Cert, eqG 0 (.str c.s) a = false) : NoC xs (.tup [a, b]) := by
  refine ⟨?_, fun c x _ => ?_⟩
  · show (okR a && (okR b && true)) = true
    rw [oa, ob]
    rfl
  · rw [eq_pair, h c]
    rfl
theorem no_snd {xs : List Str} {a b : D} (oa : okR a = true) (ob : okR b = true) (h : ∀ x ∈ xs, eqG 0 (.str x) b = false) : NoC xs (.tup [a, b]) := by
  refine ⟨?_, fun c x hx => ?_⟩
  · show (okR a && (okR b && true)) = true
    rw [oa, ob]
    rfl
  · rw [eq_pair, h x hx, Bool.and_false]
theorem eq0_str (x y : Str) : eqG 0 (.str x) (.str y) = decide (x = y) := by
  show (true && (true && eqD (.str x) (.str y))) = _
  rw [Bool.true_and, Bool.true_and, eq_str]
theorem no_word {xs : List Str} {a : Str} {b : D} (ob : okR b = true) (h1 : a ≠ "low") (h2 : a ≠ "high") : NoC xs (.tup [.str a, b]) := no_fst rfl ob fun c => by
  rw [eq0_str]
  cases c
  · exact decide_eq_false fun e => h1 e.symm
  · exact decide_eq_false fun e => h2 e.symm
theorem no_item {xs : List Str} {a : D} {b : Str} (oa : okR a = true) (h : b ∉ xs) : NoC xs (.tup [a, .str b]) := no_snd oa rfl fun x hx => by
  rw [eq0_str]
  exact decide_eq_false fun e => h (by rw [← e]; exact hx)
theorem pool_odd27 : ("unknown" : Str) ∉ wsP chw ∧ ("" : Str) ∉ wsP chw := by decide +kernel
theorem pool_x : ∀ n ∈ wsP chw, n ++ ("x" : Str) ∉ wsP chw ∧ ("low" : Str) ++ n ∉ wsP chw ∧ ("high" : Str) ++ n ∉ wsP chw := by
  have h : ((wsP chw).all fun n => !decide (n ++ ("x" : Str) ∈ wsP chw) && (!decide (("low" : Str) ++ n ∈ wsP chw) && !decide (("high" : Str) ++ n ∈ wsP chw))) = true := by decide +kernel
  intro n hn
  have := List.all_eq_true.mp h n hn
  simpa using this
theorem no_twice {xs : List Str} {z n : Str} (px : ∀ x ∈ xs, x ∈ wsP chw) (hn : n ∈ wsP chw) : NoC xs (.tup [.str z, .str (z ++ n)]) := by
  obtain ⟨_, p2, p3⟩ := pool_x n hn
  by_cases c1 : z = "low"
  · subst c1
    exact no_item rfl fun h => p2 (px _ h)
  by_cases c2 : z = "high"
  · subst c2
    exact no_item rfl fun h => p3 (px _ h)
  exact no_word rfl c1 c2
def gOthers : DSp := fun ss Q _ => ∃ (o : Ob) (n : Nat) (rs : List Rw) (xs : List Str), ss = [.own (some 0) o, .val (.lst (rs.map Rw.d)), .val (.lst (xs.map .str))] ∧ Log rs ∧ Itm xs ∧ rs.length ≤ 40 ∧ SrcD n o ∧ n < 2 ^ 59 ∧ ∀ (ds : List D) (o' : Ob), (∀ d ∈ ds, NoC xs d) → ds.length ≤ 1000 → SrcD (n + 2) o' → Q (.val (.lst ds)) [o']
theorem ok__law_others (T : Txt K mg A) : Ok1 P w K mg base 2 A.f__law_others ["source", "notes", "known"] (SpD K (cad A) gOthers) := by
  refine okD T.fn__law_others sc__law_others (fun _ _ _ _ _ _ us hl => match us, hl with | [_, _, _], _ => rfl) (fun ss Q QX ⟨_, _, _, _, e, _⟩ => by rw [e]; rfl) fun cdv B up s H E hr => ⟨_, _, (pss_cons (ps_set (i := 3) sc__law_others.nd rfl (Or.inl rfl) (pe_lst (pa_cons pe_non (pa_cons pe_bl (pa_cons pe_int (pa_cons pe_str (pa_cons (pe_tup pa_nil) (pa_cons (pe_tup (pa_cons pe_str pa_nil)) (pa_cons (pe_lst (pa_cons pe_str (pa_cons pe_str pa_nil))) (pa_cons (pe_disp (pps_cons pe_str pe_str pps_nil) (by rfl) (by rfl) (fun z => by cases z) (by decide)) (pa_cons (pe_tup (pa_cons pe_str (pa_cons pe_non pa_nil))) (pa_cons (pe_tup (pa_cons pe_str (pa_cons pe_int pa_nil))) (pa_cons (pe_tup (pa_cons pe_non (pa_cons pe_str pa_nil))) pa_nil)))))))))))))
      (pss_cons (ps_set (i := 3) sc__law_others.nd rfl (Or.inl rfl) (pe_op op_addX (pv 3) (pe_lst (pa_cons (pe_tup (pa_cons pe_str (pa_cons pe_str pa_nil))) (pa_cons (pe_tup (pa_cons pe_str (pa_cons pe_str pa_nil))) (pa_cons (pe_tup (pa_cons pe_str (pa_cons (pe_lst (pa_cons pe_str pa_nil)) pa_nil))) (pa_cons (pe_tup (pa_cons pe_str (pa_cons pe_dnewK pa_nil))) (pa_cons (pe_tup (pa_cons pe_str (pa_cons pe_str pa_nil))) (pa_cons (pe_tup (pa_cons pe_str (pa_cons pe_str pa_nil))) (pa_cons (pe_lst (pa_cons (pe_lst pa_nil) pa_nil)) pa_nil))))))))))
      (pss_cons (ps_for PassesOwn.never rfl (pi_list (pe_slice sl_list (pv 2) po_none (po_some pe_int))) (pg_name (i := 4) sc__law_others.nd rfl (Or.inl rfl))
      (pss_cons (ps_set (i := 5) sc__law_others.nd rfl (Or.inl rfl) (pe_ix ix_seq (pe_lst (pa_cons pe_str (pa_cons pe_str (pa_cons pe_str (pa_cons (pv 4) (pa_cons pe_str pa_nil)))))) (po_call (ok__law_pick T) (hr.mono (by decide)) T.mg__law_pick (pa_cons (pv 0) (pa_cons pe_int pa_nil))) (fun _ _ => rfl)))
      (pss_cons (ps_set (i := 3) sc__law_others.nd rfl (Or.inl rfl) (pe_op op_addX (pv 3) (pe_lst (pa_cons (pe_lst (pa_cons pe_str (pa_cons (pv 4) pa_nil))) (pa_cons (pe_lst (pa_cons pe_str (pa_cons (pv 4) pa_nil))) (pa_cons (pe_tup (pa_cons pe_str (pa_cons (pv 4) (pa_cons pe_int pa_nil)))) (pa_cons (pe_tup (pa_cons pe_str (pa_cons (pe_tup (pa_cons (pv 4) pa_nil)) pa_nil))) (pa_cons (pv 4) pa_nil))))))))
      (pss_cons (ps_if (pt_cmpR op_notIn_seq (pv 4) (pe_tup (pa_cons pe_str (pa_cons pe_str pa_nil))) rfl) (pss_one (ps_set (i := 3) sc__law_others.nd rfl (Or.inl rfl) (pe_op op_addX (pv 3) (pe_lst (pa_cons (pe_tup (pa_cons (pv 4) (pa_cons pe_str pa_nil))) (pa_cons (pe_tup (pa_cons (pv 4) (pa_cons pe_str pa_nil))) (pa_cons (pe_tup (pa_cons (pv 4) (pa_cons (pv 4) pa_nil))) pa_nil))))))) pss_nil)
      (pss_one (ps_set (i := 3) sc__law_others.nd rfl (Or.inl rfl) (pe_op op_addX (pv 3) (pe_lst (pa_cons (pe_tup (pa_cons pe_str (pa_cons (pe_lst (pa_cons (pv 4) pa_nil)) pa_nil))) (pa_cons (pe_tup (pa_cons pe_str (pa_cons (pe_op op_addX (pv 4) pe_str) pa_nil))) (pa_cons (pe_tup (pa_cons pe_str (pa_cons (pv 4) pa_nil))) (pa_cons (pe_tup (pa_cons (pv 5) (pa_cons (pe_op op_addX (pv 5) (pv 4)) pa_nil))) (pa_cons (pe_tup (pa_cons pe_bl (pa_cons (pv 4) pa_nil))) pa_nil)))))))))))))
      (pss_one (ps_ret (pe_op op_addX (pe_op op_addX (pe_op op_addX (pv 3) (pe_lcD (own := [("record", 6)]) rfl sc__law_others.nd (pi_list (pe_slice sl_list (pv 1) po_none (po_some pe_int))) (blkOk_by (N := N__law_others) (sc := defScope s__law_others) (by decide +kernel)) (fun _ _ _ _ _ => pg_name (i := 6) sc__law_others.nd rfl (Or.inl rfl)) (fun _ _ _ _ _ => pts_nil) (fun _ _ _ _ _ => (pv 6)))) (pe_lcD (own := [("record", 6)]) rfl sc__law_others.nd (pi_list (pe_slice sl_list (pv 1) po_none (po_some pe_int))) (blkOk_by (N := N__law_others) (sc := defScope s__law_others) (by decide +kernel)) (fun _ _ _ _ _ => pg_name (i := 6) sc__law_others.nd rfl (Or.inl rfl)) (fun _ _ _ _ _ => pts_nil) (fun _ _ _ _ _ => (pe_tup (pa_cons pe_str (pa_cons (pv 6) pa_nil)))))) (pe_lst (pa_cons (pv 1) (pa_cons (pv 2) pa_nil))))))))), (ds_mid (ds_set (i := 3) (de_frz (dn_lst (da_cons de_non (da_cons de_bl (da_cons de_int (da_cons de_str (da_cons (de_tup da_nil) (da_cons (de_tup (da_cons de_str da_nil)) (da_cons (de_frz (dn_lst (da_cons de_str (da_cons de_str da_nil)))) (da_cons (de_frz (dn_disp (dp_cons de_str de_str dp_nil))) (da_cons (de_tup (da_cons de_str (da_cons de_non da_nil))) (da_cons (de_tup (da_cons de_str (da_cons de_int da_nil))) (da_cons (de_tup (da_cons de_non (da_cons de_str da_nil))) da_nil))))))))))))))
      (ds_mid (ds_set (i := 3) (de_op od_add (de_var (i := 3)) (de_frz (dn_lst (da_cons (de_tup (da_cons de_str (da_cons de_str da_nil))) (da_cons (de_tup (da_cons de_str (da_cons de_str da_nil))) (da_cons (de_tup (da_cons de_str (da_cons (de_frz (dn_lst (da_cons de_str da_nil))) da_nil))) (da_cons (de_tup (da_cons de_str (da_cons (de_frz dn_newK) da_nil))) (da_cons (de_tup (da_cons de_str (da_cons de_str da_nil))) (da_cons (de_tup (da_cons de_str (da_cons de_str da_nil))) (da_cons (de_frz (dn_lst (da_cons (de_frz (dn_lst da_nil)) da_nil))) da_nil)))))))))))
      (ds_mid (ds_for (di_list (de_frz (dn_sl (de_var (i := 2)) do_none (do_some de_int)))) (dg_name (i := 4))
      (ds_mid (ds_set (i := 5) (de_op od_ix (de_frz (dn_lst (da_cons de_str (da_cons de_str (da_cons de_str (da_cons (de_var (i := 4)) (da_cons de_str da_nil))))))) (de_call (da_cons (de_var (i := 0)) (da_cons de_int da_nil)))))
      (ds_seq (ds_set (i := 3) (de_op od_add (de_var (i := 3)) (de_frz (dn_lst (da_cons (de_frz (dn_lst (da_cons de_str (da_cons (de_var (i := 4)) da_nil)))) (da_cons (de_frz (dn_lst (da_cons de_str (da_cons (de_var (i := 4)) da_nil)))) (da_cons (de_tup (da_cons de_str (da_cons (de_var (i := 4)) (da_cons de_int da_nil)))) (da_cons (de_tup (da_cons de_str (da_cons (de_tup (da_cons (de_var (i := 4)) da_nil)) da_nil))) (da_cons (de_var (i := 4)) da_nil)))))))))
      (ds_mid (ds_if (dt_test (de_op od_nin (de_var (i := 4)) (de_tup (da_cons de_str (da_cons de_str da_nil))))) (ds_set (i := 3) (de_op od_add (de_var (i := 3)) (de_frz (dn_lst (da_cons (de_tup (da_cons (de_var (i := 4)) (da_cons de_str da_nil))) (da_cons (de_tup (da_cons (de_var (i := 4)) (da_cons de_str da_nil))) (da_cons (de_tup (da_cons (de_var (i := 4)) (da_cons (de_var (i := 4)) da_nil))) da_nil))))))) ds_next)
      (ds_set (i := 3) (de_op od_add (de_var (i := 3)) (de_frz (dn_lst (da_cons (de_tup (da_cons de_str (da_cons (de_frz (dn_lst (da_cons (de_var (i := 4)) da_nil))) da_nil))) (da_cons (de_tup (da_cons de_str (da_cons (de_op od_add (de_var (i := 4)) de_str) da_nil))) (da_cons (de_tup (da_cons de_str (da_cons (de_var (i := 4)) da_nil))) (da_cons (de_tup (da_cons (de_var (i := 5)) (da_cons (de_op od_add (de_var (i := 5)) (de_var (i := 4))) da_nil))) (da_cons (de_tup (da_cons de_bl (da_cons (de_var (i := 4)) da_nil))) da_nil)))))))))))))
      (ds_ret (de_op od_add (de_op od_add (de_op od_add (de_var (i := 3)) (de_frz (dn_lc (di_list (de_frz (dn_sl (de_var (i := 1)) do_none (do_some de_int)))) (dg_name (i := 6)) dt_yes (de_var (i := 6)) (by decide)))) (de_frz (dn_lc (di_list (de_frz (dn_sl (de_var (i := 1)) do_none (do_some de_int)))) (dg_name (i := 6)) dt_yes (de_tup (da_cons de_str (da_cons (de_var (i := 6)) da_nil))) (by decide)))) (de_frz (dn_lst (da_cons (de_var (i := 1)) (da_cons (de_var (i := 2)) da_nil))))))))), fun ss Q QX h => ?_⟩
  obtain ⟨o, n, rs, xs, rfl, L, I, lr, hs, hn, h⟩ := h
  have px := I.pl
  refine ⟨fun δ => ∃ ds : List D, (∀ d ∈ ds, NoC xs d) ∧ ds.length ≤ 11 ∧ δ = [some (.own (some 0) o), some (.val (.lst (rs.map Rw.d))), some (.val (.lst (xs.map .str))), some (.val (.lst ds)), none, none, none], ?_, ?_⟩
  · refine ⟨_, fun d hd => ?_, ?_, rfl⟩
    · simp only [List.mem_cons, List.not_mem_nil, or_false] at hd
      rcases hd with rfl | rfl | rfl | rfl | rfl | rfl | rfl | rfl | rfl | rfl | rfl
      · exact no_flat rfl
      · exact no_flat rfl
      · exact no_flat rfl
      · exact no_flat rfl
      · exact no_len rfl (by decide)
      · exact no_len rfl (by decide)
      · exact no_lst _
      · exact no_dic _
      · exact no_snd rfl rfl fun _ _ => rfl
      · exact no_snd rfl rfl fun _ _ => rfl
      · exact no_fst rfl rfl fun _ => rfl
    · exact Nat.le_of_ble_eq_true rfl
  rintro _ ⟨ds, nd, ld, rfl⟩
  refine ⟨fun δ => ∃ ds : List D, (∀ d ∈ ds, NoC xs d) ∧ ds.length ≤ 18 ∧ δ = [some (.own (some 0) o), some (.val (.lst (rs.map Rw.d))), some (.val (.lst (xs.map .str))), some (.val (.lst ds)), none, none, none], ?_, ?_⟩
  · refine ⟨?_, ds ++ _, fun d hd => ?_, ?_, rfl⟩
    · show ds.length + 7 ≤ _
      omega
    · rcases List.mem_append.mp hd with m | m
      · exact nd d m
      simp only [List.mem_cons, List.not_mem_nil, or_false] at m
      rcases m with rfl | rfl | rfl | rfl | rfl | rfl | rfl
      · exact no_item rfl fun h => pool_odd27.1 (px _ h)
      · exact no_item rfl fun h => pool_odd27.2 (px _ h)
      · exact no_snd rfl rfl fun _ _ => rfl
      · exact no_snd rfl rfl fun _ _ => rfl
      · exact no_word rfl (by decide +kernel) (by decide +kernel)
      · exact no_word rfl (by decide +kernel) (by decide +kernel)
      · exact no_lst _
    · rw [List.length_append]
      show ds.length + 7 ≤ _
      omega
  rintro _ ⟨ds, nd, ld, rfl⟩
  refine ⟨fun δ => ∃ (o' : Ob) (ds : List D) (a b : Option Sl), (∀ d ∈ ds, NoC xs d) ∧ ds.length ≤ 60 ∧ SrcD (n + 2) o' ∧ δ = [some (.own (some 0) o'), some (.val (.lst (rs.map Rw.d))), some (.val (.lst (xs.map .str))), some (.val (.lst ds)), a, b, none], ?_, ?_⟩
  · refine ⟨trivial, ?_⟩
    rw [show (2 : Int) = ((2 : Nat) : Int) from rfl, cutD_map_to]
    have lt2 : (xs.take 2).length ≤ 2 := by rw [List.length_take]; omega
    have st2 : ∀ x ∈ xs.take 2, x ∈ xs := fun x hx => List.mem_of_mem_take hx
    generalize xs.take 2 = ts at lt2 st2 ⊢
    refine for_map (fun p δ => ∃ (o' : Ob) (ds : List D) (a b : Option Sl), (∀ d ∈ ds, NoC xs d) ∧ ds.length ≤ 18 + 13 * p.length ∧ SrcD (n + p.length) o' ∧ δ = [some (.own (some 0) o'), some (.val (.lst (rs.map Rw.d))), some (.val (.lst (xs.map .str))), some (.val (.lst ds)), a, b, none]) (pre := []) ⟨o, ds, _, _, nd, ld, hs, rfl⟩ (fun p x q δ e hI nx hn => ?_) fun δ hI => ?_
    · obtain ⟨o1, ds, a, b, nd, ld, hs1, rfl⟩ := hI
      have lp : p.length < 2 := by
        have := congrArg List.length e
        simp only [List.nil_append, List.length_append, List.length_cons] at this
        omega
      have mx : x ∈ xs := st2 x (by
        have : x ∈ p ++ x :: q := by simp
        rwa [← e] at this)
      have lx := item_len (I.it x mx)
      walk_at "norm"
      refine ⟨fun δ => ∃ (o' : Ob) (z : Str), z.length ≤ 8 ∧ SrcD (n + p.length + 1) o' ∧ δ = [some (.own (some 0) o'), some (.val (.lst (rs.map Rw.d))), some (.val (.lst (xs.map .str))), some (.val (.lst ds)), some (.val (.str x)), some (.val (.str z)), none], ?_, ?_⟩
      · refine ⟨o1, _, 5, rfl, by decide, by decide, hs1, by omega, fun r o2 r0 r1 hs2 => ?_⟩
        obtain ⟨z, ez, lz⟩ : ∃ z : Str, ([.str "low", .str "high", .str "passed", .str x, .str "lo"] : List D)[r.toNat]? = some (.str z) ∧ z.length ≤ 8 := by
          have : r = 0 ∨ r = 1 ∨ r = 2 ∨ r = 3 ∨ r = 4 := by omega
          rcases this with rfl | rfl | rfl | rfl | rfl
          · exact ⟨_, rfl, by decide +kernel⟩
          · exact ⟨_, rfl, by decide +kernel⟩
          · exact ⟨_, rfl, by decide +kernel⟩
          · exact ⟨_, rfl, lx⟩
          · exact ⟨_, rfl, by decide +kernel⟩
        refine at_nat r0 ez ?_
        exact ⟨o2, z, lz, hs2, rfl⟩
      rintro _ ⟨o2, z, lz, hs2, rfl⟩
      refine ⟨?_, fun δ => ∃ ds : List D, (∀ d ∈ ds, NoC xs d) ∧ ds.length ≤ 18 + 13 * p.length + 8 ∧ δ = [some (.own (some 0) o2), some (.val (.lst (rs.map Rw.d))), some (.val (.lst (xs.map .str))), some (.val (.lst ds)), some (.val (.str x)), some (.val (.str z)), none], ?_, ?_⟩
      · show ds.length + 5 ≤ _
        omega
      · have n1 : ∀ d ∈ ds ++ [.lst [.str "low", .str x], .lst [.str "high", .str x], .tup [.str "low", .str x, .int 0], .tup [.str "high", .tup [.str x]], .str x], NoC xs d := fun d hd => by
          rcases List.mem_append.mp hd with m | m
          · exact nd d m
          simp only [List.mem_cons, List.not_mem_nil, or_false] at m
          rcases m with rfl | rfl | rfl | rfl | rfl
          · exact no_lst _
          · exact no_lst _
          · exact no_len rfl (show 3 ≠ 2 by decide)
          · exact no_snd rfl rfl fun _ _ => rfl
          · exact no_flat rfl
        refine ⟨rfl, rfl, ?_⟩
        rw [show ([.str "low", .str "high"] : List D) = (["low", "high"] : List Str).map D.str from rfl, in_strs]
        refine if2 (fun cc => ?_) fun cc => ?_
        · have nm : x ∉ (["low", "high"] : List Str) := of_decide_eq_false (by rwa [Bool.not_eq_true'] at cc)
          have x1 : x ≠ "low" := fun e => nm (by rw [e]; simp)
          have x2 : x ≠ "high" := fun e => nm (by rw [e]; simp)
          refine ⟨?_, _, fun d hd => ?_, ?_, rfl⟩
          · rw [List.length_append]
            show ds.length + 5 + 3 ≤ _
            omega
          · rcases List.mem_append.mp hd with m | m
            · exact n1 d m
            simp only [List.mem_cons, List.not_mem_nil, or_false] at m
            rcases m with rfl | rfl | rfl
            · exact no_word rfl x1 x2
            · exact no_word rfl x1 x2
            · exact no_word rfl x1 x2
          · rw [List.length_append, List.length_append]
            show ds.length + 5 + 3 ≤ _
            omega
        · refine ⟨_, n1, ?_, rfl⟩
          rw [List.length_append]
          show ds.length + 5 ≤ _
          omega
      rintro _ ⟨ds, nd, ld, rfl⟩
      have lx1 : ("x" : Str).length = 1 := by decide +kernel
      refine ⟨by omega, by omega, ?_, ?_⟩
      · show ds.length + 5 ≤ _
        omega
      refine hn _ ⟨o2, _, _, _, fun d hd => ?_, ?_, hs2.le (by rw [List.length_append]; simp; omega), rfl⟩
      · rcases List.mem_append.mp hd with m | m
        · exact nd d m
        simp only [List.mem_cons, List.not_mem_nil, or_false] at m
        rcases m with rfl | rfl | rfl | rfl | rfl
        · exact no_snd rfl rfl fun _ _ => rfl
        · exact no_item rfl fun h => (pool_x x (px x mx)).1 (px _ h)
        · exact no_word rfl (by decide +kernel) (by decide +kernel)
        · exact no_twice px (px x mx)
        · exact no_fst rfl rfl fun _ => rfl
      · rw [List.length_append, List.length_append]
        show ds.length + 5 ≤ 18 + 13 * (p.length + 1)
        omega
    · obtain ⟨o1, ds, a, b, nd, ld, hs1, rfl⟩ := hI
      rw [List.nil_append] at ld hs1
      exact ⟨o1, ds, a, b, nd, by omega, hs1.le (by omega), rfl⟩
  rintro _ ⟨o1, ds, a, b, nd, ld, hs1, rfl⟩
  refine ⟨trivial, ?_⟩
  rw [show (2 : Int) = ((2 : Nat) : Int) from rfl, cutD_map_to]
  have lt2 : (rs.take 2).length ≤ 2 := by rw [List.length_take]; omega
  have st2 : ∀ r ∈ rs.take 2, r ∈ rs := fun x hx => List.mem_of_mem_take hx
  refine lc_all (f := Rw.d) (k := Rw.d) (fun r hr acc R1 l q => ⟨l, q⟩) (by omega) ?_
  walk_at "norm"
  refine ⟨by rw [List.length_map]; omega, trivial, ?_⟩
  rw [cutD_map_to]
  refine lc_all (f := Rw.d) (k := fun r => .tup [.str "low", r.d]) (fun r hr acc R1 l q => ⟨l, q⟩) (by omega) ?_
  walk_at "norm"
  refine ⟨?_, ?_, ?_⟩
  · rw [List.length_append, List.length_map, List.length_map]
    omega
  · rw [List.length_append, List.length_append, List.length_map, List.length_map]
    show ds.length + (rs.take 2).length + (rs.take 2).length + 2 ≤ _
    omega
  refine ⟨rfl, h _ o1 (fun d hd => ?_) ?_ hs1⟩
  · rcases List.mem_append.mp hd with m | m
    · rcases List.mem_append.mp m with m | m
      · rcases List.mem_append.mp m with m | m
        · exact nd d m
        · obtain ⟨r, hr, rfl⟩ := List.mem_map.mp m
          exact no_row (L.v r (st2 r hr))
      · obtain ⟨r, hr, rfl⟩ := List.mem_map.mp m
        exact no_snd rfl (L.v r (st2 r hr)) fun _ _ => rfl
    · simp only [List.mem_cons, List.not_mem_nil, or_false] at m
      rcases m with rfl | rfl
      · exact no_lst _
      · exact no_lst _
  · rw [List.length_append, List.length_append, List.length_append, List.length_map, List.length_map]
    show ds.length + (rs.take 2).length + (rs.take 2).length + 2 ≤ _
    omega

end
end Own

set_option Elab.async false
set_option linter.all false
set_option maxRecDepth 100000
set_option maxHeartbeats 4000000
namespace Own
open PySem L2 ClX PD
local macro_rules | `(tactic| walk_at "y") => `(tactic| first | (refine ifY ?e ?_; (case e => first | with_reducible rfl | decide +kernel)) | (refine bofE true ?e ?_; (case e => first | with_reducible rfl | decide +kernel)))
local macro_rules | `(tactic| walk_at "n") => `(tactic| first | (refine ifN ?e ?_; (case e => first | with_reducible rfl | decide +kernel)) | (refine bofE false ?e ?_; (case e => first | with_reducible rfl | decide +kernel)))
local macro_rules | `(tactic| walk_at "t") => `(tactic| (refine ifY ?e ?_; (case e => rfl)))
local macro_rules | `(tactic| walk_at "f") => `(tactic| (refine ifN ?e ?_; (case e => rfl)))
local macro_rules | `(tactic| walk_at "go") => `(tactic| repeat (first | walk_at "t" | walk_at "f"))
local macro_rules | `(tactic| walk_at "norm") => `(tactic| dsimp only [PD.dget, PD.dset, PD.wipeD, PD.putBack, PD.putOb, PD.reOb, PD.entryD, PD.nones, List.map, List.length, PD.stayD, PD.unwipeD])

section
variable {P : Program} {w : World} {K : PySem.W.Frag} {mg : Str → Option Value} {base : Heap} {A : Ad}
/-! ### a claim about an item -/
theorem certL_mem {rs : List Rw} {xs : List Str} {c : Cert} {x : Str} : (c, x) ∈ certL rs xs ↔ x ∈ known rs xs ∧ certOf rs xs x = some c := by
  constructor
  · exact fun h => cert_mem h
  · intro ⟨h1, h2⟩
    unfold certL
    exact List.mem_filterMap.mpr ⟨x, h1, by rw [h2]; rfl⟩
theorem cert_s (c k : Cert) : decide (c.s = k.s) = decide (c = k) := by cases c <;> cases k <;> decide +kernel
theorem claim_is {rs : List Rw} {xs : List Str} {k : Cert} {x : Str} : claimB rs xs (.tup [.str k.s, .str x]) = decide (x ∈ known rs xs ∧ certOf rs xs x = some k) := by
  unfold claimB
  rw [Bool.eq_iff_iff, List.any_eq_true, decide_eq_true_iff, ← certL_mem]
  constructor
  · rintro ⟨⟨c, y⟩, hc, e⟩
    rw [eq_pair, eq0_str, eq0_str, Bool.and_eq_true, decide_eq_true_iff] at e
    have e1 := e.1
    rw [← decide_eq_true_iff (p := c.s = k.s), cert_s, decide_eq_true_iff] at e1
    have e2 := of_decide_eq_true e.2
    rw [← e1, ← e2]
    exact hc
  · intro h
    refine ⟨_, h, ?_⟩
    rw [eq_pair, eq0_str, eq0_str, decide_eq_true rfl, decide_eq_true rfl]
    rfl
theorem room_pos {rs : List Rw} {xs : List Str} {x : Str} (h : x ∈ known rs xs) : 0 ≤ roomOf rs xs x := by
  have := ixS_lt h
  unfold roomOf
  split <;> omega
theorem claim_low {rs : List Rw} {xs : List Str} {x : Str} (h : x ∈ known rs xs) : claimB rs xs (.tup [.str "low", .str x]) = decide (shiftX rs xs x < 0) := by
  have z := claim_is (rs := rs) (xs := xs) (k := .low) (x := x)
  refine z.trans (decide_eq_decide.mpr ⟨fun q => ?_, fun q => ⟨h, ?_⟩⟩)
  · have e := q.2
    unfold certOf at e
    by_cases c : shiftX rs xs x < 0
    · exact c
    · rw [if_neg c] at e
      split at e <;> cases e
  · unfold certOf
    rw [if_pos q]
theorem claim_high {rs : List Rw} {xs : List Str} {x : Str} (h : x ∈ known rs xs) : claimB rs xs (.tup [.str "high", .str x]) = decide (roomOf rs xs x < shiftX rs xs x) := by
  have z := claim_is (rs := rs) (xs := xs) (k := .high) (x := x)
  have rp := room_pos h
  refine z.trans (decide_eq_decide.mpr ⟨fun q => ?_, fun q => ⟨h, ?_⟩⟩)
  · have e := q.2
    unfold certOf at e
    by_cases c : shiftX rs xs x < 0
    · rw [if_pos c] at e; cases e
    · rw [if_neg c] at e
      by_cases c2 : roomOf rs xs x < shiftX rs xs x
      · exact c2
      · rw [if_neg c2] at e; cases e
  · unfold certOf
    rw [if_neg (by omega), if_pos q]
theorem claim_out {rs : List Rw} {xs : List Str} {x : Str} {k : Cert} (h : x ∉ names rs) : claimB rs xs (.tup [.str k.s, .str x]) = false := by
  rw [claim_is]
  exact decide_eq_false fun q => h (known_mem.mp q.1).2
/-! ### the log in another order -/
section
variable {i : Int} {ps qs : List (Str × Nat)} {xs : List Str} {x : Str}
theorem known_perm (pm : qs.Perm ps) : known (qs.map (rwK i)) xs = known (ps.map (rwK i)) xs := by
  unfold known
  refine List.filter_congr fun x _ => decide_eq_decide.mpr ?_
  rw [names_rw, names_rw]
  exact (pm.map _).mem_iff
theorem slot_perm (pm : qs.Perm ps) (nd : (ps.map (·.1)).Nodup) (h : x ∈ ps.map (·.1)) : slotOf (qs.map (rwK i)) x = slotOf (ps.map (rwK i)) x := by
  obtain ⟨p, hp, rfl⟩ := List.mem_map.mp h
  have e1 : slotOf (ps.map (rwK i)) p.1 = (p.2 : Nat) := slotOf_mem (r := rwK i p) (by rw [names_rw]; exact nd) (List.mem_map.mpr ⟨p, hp, rfl⟩)
  have e2 : slotOf (qs.map (rwK i)) p.1 = (p.2 : Nat) := slotOf_mem (r := rwK i p) (by rw [names_rw]; exact (pm.map _).nodup_iff.mpr nd) (List.mem_map.mpr ⟨p, pm.mem_iff.mpr hp, rfl⟩)
  rw [e1, e2]
theorem shift_perm (i0 : 0 ≤ i) (i2 : i ≤ 2) (pm : qs.Perm ps) (nd : (ps.map (·.1)).Nodup) (h : x ∈ ps.map (·.1)) : shiftX (qs.map (rwK i)) xs x = shiftX (ps.map (rwK i)) xs x := by
  unfold shiftX
  rw [slot_perm pm nd h, fr_rw i0 i2 h, fr_rw i0 i2 ((pm.map _).mem_iff.mpr h)]
theorem room_perm (i0 : 0 ≤ i) (i2 : i ≤ 2) (pm : qs.Perm ps) (h : x ∈ ps.map (·.1)) : roomOf (qs.map (rwK i)) xs x = roomOf (ps.map (rwK i)) xs x := by
  unfold roomOf
  rw [known_perm pm, fr_rw i0 i2 h, fr_rw i0 i2 ((pm.map _).mem_iff.mpr h)]
end
theorem hist_log {i : Int} {ps qs : List (Str × Nat)} {xs : List Str} (Hh : Hist ps xs) (pm : qs.Perm ps) : Log (qs.map (rwK i)) ∧ (∀ r ∈ qs.map (rwK i), r.x ∈ xs) := by
  have nm : ∀ q ∈ qs, q.1 ∈ xs := fun q hq => Hh.s _ (List.mem_map.mpr ⟨q, pm.mem_iff.mp hq, rfl⟩)
  refine ⟨⟨fun r hr => ?_, by rw [List.length_map, pm.length_eq]; exact Hh.lp, fun r hr => ?_, fun r hr s hs => ?_, ?_⟩, fun r hr => ?_⟩
  · obtain ⟨q, hq, rfl⟩ := List.mem_map.mp hr
    have := Hh.a q (pm.mem_iff.mp hq)
    exact rowB_mk (Hh.i.it _ (nm q hq)) (Int.natCast_nonneg _) (show ((q.2 : Nat) : Int) ≤ 60 by omega)
  · obtain ⟨q, hq, rfl⟩ := List.mem_map.mp hr
    exact kdN_ne i
  · obtain ⟨q, hq, rfl⟩ := List.mem_map.mp hr
    obtain ⟨q2, hq2, rfl⟩ := List.mem_map.mp hs
    rfl
  · have e : (qs.map (rwK i)).map Rw.x = qs.map (·.1) := names_rw i qs
    rw [e]
    exact (pm.map _).nodup_iff.mpr Hh.n
  · obtain ⟨q, hq, rfl⟩ := List.mem_map.mp hr
    exact nm q hq
def shownD (rs : List Rw) (xs : List Str) : D := .lst [.lst (rs.map fun r => .tup [.str r.x, .int r.n]), .lst (xs.map .str)]
theorem shown_ok {rs : List Rw} {xs : List Str} (L : Log rs) (I : Its xs) : flatN 30 (shownD rs xs) = true ∧ showsB (shownD rs xs) = true ∧ (pyD (shownD rs xs)).shown.length ≤ 1000000 := by
  have ls := L.l
  have lx := I.l
  refine plain_shows (n := 3) (m := 5000) ?_ (by decide) ?_ (by decide)
  · show ((rs.map fun r => D.tup [.str r.x, .int r.n]).all (plainB 1) && ((xs.map D.str).all (plainB 1) && true)) = true
    rw [Bool.and_true, Bool.and_eq_true, List.all_eq_true, List.all_eq_true]
    refine ⟨fun d hd => ?_, fun d hd => ?_⟩
    · obtain ⟨r, hr, rfl⟩ := List.mem_map.mp hd
      obtain ⟨a, b, c⟩ := rowB_of (L.v r hr)
      have all : ∀ m : Fin 61, (decide (((m : Nat) : Int).natAbs.log2 < 1920) && decide ((toString ((m : Nat) : Int) : Str).length ≤ 20)) = true := by decide +kernel
      obtain ⟨m, em⟩ := Int.eq_ofNat_of_zero_le b
      have e := all ⟨m, by omega⟩
      show (PyData.strOk r.x && (plainB 0 (.int r.n) && true)) = true
      rw [(item_ok a).1, em]
      rw [show plainB 0 (.int (m : Int)) = true from e]
      rfl
    · obtain ⟨x, hx, rfl⟩ := List.mem_map.mp hd
      exact (item_ok (I.a x hx)).1
  · have b1 : ∀ d ∈ rs.map (fun r => D.tup [.str r.x, .int r.n]), (pyD d).bulk ≤ 10 := fun d hd => by
      obtain ⟨r, hr, rfl⟩ := List.mem_map.mp hd
      have := item_len (rowB_of (L.v r hr)).1
      simp only [pyD, pyDs, PyData.bulk, PyData.bulkAll]
      have e : r.x.cps.size = r.x.length := rfl
      omega
    have b2 : ∀ d ∈ xs.map D.str, (pyD d).bulk ≤ 8 := fun d hd => by
      obtain ⟨x, hx, rfl⟩ := List.mem_map.mp hd
      have := item_len (I.a x hx)
      simp only [pyD, PyData.bulk]
      exact this
    have c1 := bulk_all b1
    have c2 := bulk_all b2
    rw [List.length_map] at c1 c2
    unfold shownD
    simp only [pyD, pyDs, PyData.bulk, PyData.bulkAll]
    omega
theorem cutD_some {α : Type} (f : α → D) (zs : List α) (lo hi : Option Int) : ∃ ys : List α, cutD (zs.map f) lo hi = ys.map f ∧ ∀ y ∈ ys, y ∈ zs := by
  unfold cutD
  refine ⟨(zs.drop (HT.sIx (zs.map f).length 0 lo)).take (HT.sIx (zs.map f).length (zs.map f).length hi - HT.sIx (zs.map f).length 0 lo), by rw [List.map_take, List.map_drop], fun y hy => List.mem_of_mem_drop (List.mem_of_mem_take hy)⟩
def gRight : DSp := fun ss Q _ => ∃ (o : Ob) (n : Nat) (i : Int) (ps : List (Str × Nat)) (xs : List Str), ss = [.own (some 0) o, .val (.int i), .val (.lst (ps.map pairD)), .val (.lst (xs.map .str))] ∧ Hist ps xs ∧ 0 ≤ i ∧ i ≤ 2 ∧ SrcD n o ∧ n < 2 ^ 58 ∧ ∀ o', SrcD (n + 3000) o' → Q (.val (.bl true)) [o']
theorem ok__law_right (T : Txt K mg A) : OkG P w K mg base 8 A.f__law_right ["source", "kind", "pairs", "known"] (SpD K (cad A) gRight) := by
  refine okGD T.fn__law_right sc__law_right (fun _ _ _ _ _ _ us hl => match us, hl with | [_, _, _, _], _ => rfl) (fun ss Q QX ⟨_, _, _, _, _, e, _⟩ => by rw [e]; rfl) fun cdv B up s H hr gd => ⟨_, _, (pss_cons (ps_set (i := 4) sc__law_right.nd rfl (Or.inr rfl) (po_call (ok__law_log T) (hr.mono (by decide)) T.mg__law_log (pa_cons (pv 0) (pa_cons (pv 1) (pa_cons (pv 2) pa_nil)))))
      (pss_cons (ps_set (i := 5) sc__law_right.nd rfl (Or.inl rfl) (pe_callB (call_reprD hr gd) (by rfl) T.no_repr (by decide +kernel) (pa_cons (pe_lst (pa_cons (po_call (ok__law_pairs T) (hr.mono (by decide)) T.mg__law_pairs (pa_cons (pv 4) pa_nil)) (pa_cons (pv 3) pa_nil))) pa_nil)))
      (pss_cons (ps_for PassesOwn.never rfl (pi_list (pe_slice sl_list (po_call (ok__law_mixed T) (hr.mono (by decide)) T.mg__law_mixed (pa_cons (pv 0) (pa_cons (po_call (ok__law_sides T) (hr.mono (by decide)) T.mg__law_sides (pa_cons (pv 1) (pa_cons (pv 2) (pa_cons (pv 3) pa_nil)))) pa_nil))) po_none (po_some pe_int))) (pg_tup (by rfl) (pgs_cons (pg_name (i := 6) sc__law_right.nd rfl (Or.inl rfl)) (pgs_cons (pg_name (i := 7) sc__law_right.nd rfl (Or.inl rfl)) (pgs_cons (pg_name (i := 8) sc__law_right.nd rfl (Or.inl rfl)) pgs_nil))))
      (pss_cons (ps_if (pt_not (pt_val (pg_call (ok__law_told T) (hr.mono (by decide)) gd T.mg__law_told (pa_cons (pv 4) (pa_cons (pv 3) (pa_cons (pe_tup (pa_cons pe_str (pa_cons (pv 6) pa_nil))) (pa_cons (pe_cmpR op_lt (pv 7) pe_int (nomark _)) pa_nil))))))) (pss_one (ps_ret pe_bl)) pss_nil)
      (pss_one (ps_if (pt_not (pt_val (pg_call (ok__law_told T) (hr.mono (by decide)) gd T.mg__law_told (pa_cons (pv 4) (pa_cons (pv 3) (pa_cons (pe_tup (pa_cons pe_str (pa_cons (pv 6) pa_nil))) (pa_cons (pe_cmpR op_gt (pv 7) (pv 8) (nomark _)) pa_nil))))))) (pss_one (ps_ret pe_bl)) pss_nil))))
      (pss_cons (ps_set (i := 9) sc__law_right.nd rfl (Or.inr rfl) (pe_lcD (own := [("name", 6), ("index", 10)]) rfl sc__law_right.nd (pi_list (pv 2)) (blkOk_by (N := N__law_right) (sc := defScope s__law_right) (by decide +kernel)) (fun _ _ _ _ _ => pg_tup (by rfl) (pgs_cons (pg_name (i := 6) sc__law_right.nd rfl (Or.inl rfl)) (pgs_cons (pg_name (i := 10) sc__law_right.nd rfl (Or.inl rfl)) pgs_nil))) (fun _ _ _ _ _ => pts_nil) (fun _ _ _ _ _ => (pv 6))))
      (pss_cons (ps_for PassesOwn.never rfl (pi_list (pe_slice sl_list (pe_lcD (own := [("name", 6)]) rfl sc__law_right.nd (pi_list (pv 3)) (blkOk_by (N := N__law_right) (sc := defScope s__law_right) (by decide +kernel)) (fun _ _ _ _ _ => pg_name (i := 6) sc__law_right.nd rfl (Or.inl rfl)) (fun _ _ _ _ _ => (pts_one (pt_cmpR op_notIn_seq (pv 6) (pv 9) rfl))) (fun _ _ _ _ _ => (pv 6))) (po_some (pe_un un_neg pe_int)) po_none)) (pg_name (i := 6) sc__law_right.nd rfl (Or.inl rfl))
      (pss_one (ps_if (PW.pt (pw_or (pt_not (pt_val (pg_call (ok__law_told T) (hr.mono (by decide)) gd T.mg__law_told (pa_cons (pv 4) (pa_cons (pv 3) (pa_cons (pe_tup (pa_cons pe_str (pa_cons (pv 6) pa_nil))) (pa_cons pe_bl pa_nil))))))) (pw_or1 (pt_not (pt_val (pg_call (ok__law_told T) (hr.mono (by decide)) gd T.mg__law_told (pa_cons (pv 4) (pa_cons (pv 3) (pa_cons (pe_tup (pa_cons pe_str (pa_cons (pv 6) pa_nil))) (pa_cons pe_bl pa_nil)))))))))) (pss_one (ps_ret pe_bl)) pss_nil)))
      (pss_cons (ps_if (pt_cmpR (op_neX hr) (pe_lcD (own := [("claim", 11)]) rfl sc__law_right.nd (pi_list (po_call (ok__law_others T) (hr.mono (by decide)) T.mg__law_others (pa_cons (pv 0) (pa_cons (pv 4) (pa_cons (pv 3) pa_nil))))) (blkOk_by (N := N__law_right) (sc := defScope s__law_right) (by decide +kernel)) (fun _ _ _ _ _ => pg_name (i := 11) sc__law_right.nd rfl (Or.inl rfl)) (fun _ _ _ _ _ => (pts_one (pt_not (pt_val (pg_call (ok__law_told T) (hr.mono (by decide)) gd T.mg__law_told (pa_cons (pv 4) (pa_cons (pv 3) (pa_cons (pv 11) (pa_cons pe_bl pa_nil))))))))) (fun _ _ _ _ _ => (pv 11))) (pe_lst pa_nil) (nomark _)) (pss_one (ps_ret pe_bl)) pss_nil)
      (pss_one (ps_ret (pe_cmpR (op_eqX hr) (pe_callB (call_reprD hr gd) (by rfl) T.no_repr (by decide +kernel) (pa_cons (pe_lst (pa_cons (po_call (ok__law_pairs T) (hr.mono (by decide)) T.mg__law_pairs (pa_cons (pv 4) pa_nil)) (pa_cons (pv 3) pa_nil))) pa_nil)) (pv 5) (nomark _)))))))))), (ds_seq (ds_set (i := 4) (de_frz (dn_call (da_cons (de_var (i := 0)) (da_cons (de_fz (de_var (i := 1))) (da_cons (de_fz (de_var (i := 2))) da_nil))))))
      (ds_seq (ds_set (i := 5) (de_cb cd_repr (da_cons (de_frz (dn_lst (da_cons (de_frz (dn_call (da_cons (de_fz (de_var (i := 4))) da_nil))) (da_cons (de_var (i := 3)) da_nil)))) da_nil)))
      (ds_seq (ds_for (di_list (de_frz (dn_sl (de_frz (dn_call (da_cons (de_var (i := 0)) (da_cons (de_frz (dn_call (da_cons (de_fz (de_var (i := 1))) (da_cons (de_fz (de_var (i := 2))) (da_cons (de_fz (de_var (i := 3))) da_nil))))) da_nil)))) do_none (do_some de_int)))) (dg_tup (dgs_cons (dg_name (i := 6)) (dgs_cons (dg_name (i := 7)) (dgs_cons (dg_name (i := 8)) dgs_nil))))
      (ds_seq (ds_if (dt_not (dt_val (de_call (da_cons (de_fz (de_var (i := 4))) (da_cons (de_fz (de_var (i := 3))) (da_cons (de_tup (da_cons de_str (da_cons (de_var (i := 6)) da_nil))) (da_cons (de_op od_lt (de_var (i := 7)) de_int) da_nil))))))) (ds_ret de_bl) ds_next)
      (ds_if (dt_not (dt_val (de_call (da_cons (de_fz (de_var (i := 4))) (da_cons (de_fz (de_var (i := 3))) (da_cons (de_tup (da_cons de_str (da_cons (de_var (i := 6)) da_nil))) (da_cons (de_op od_gt (de_var (i := 7)) (de_var (i := 8))) da_nil))))))) (ds_ret de_bl) ds_next)))
      (ds_seq (ds_set (i := 9) (de_frz (dn_lc (di_list (de_var (i := 2))) (dg_tup (dgs_cons (dg_name (i := 6)) (dgs_cons (dg_name (i := 10)) dgs_nil))) dt_yes (de_var (i := 6)) (by decide))))
      (ds_seq (ds_for (di_list (de_frz (dn_sl (de_frz (dn_lc (di_list (de_var (i := 3))) (dg_name (i := 6)) (dt_test (de_op od_nin (de_var (i := 6)) (de_var (i := 9)))) (de_var (i := 6)) (by decide))) (do_some (de_un ud_neg de_int)) do_none))) (dg_name (i := 6))
      (ds_if (dt_or (dt_not (dt_val (de_call (da_cons (de_fz (de_var (i := 4))) (da_cons (de_fz (de_var (i := 3))) (da_cons (de_tup (da_cons de_str (da_cons (de_var (i := 6)) da_nil))) (da_cons de_bl da_nil))))))) (dt_not (dt_val (de_call (da_cons (de_fz (de_var (i := 4))) (da_cons (de_fz (de_var (i := 3))) (da_cons (de_tup (da_cons de_str (da_cons (de_var (i := 6)) da_nil))) (da_cons de_bl da_nil)))))))) (ds_ret de_bl) ds_next))
      (ds_seq (ds_if (dt_test (de_op od_ne (de_frz (dn_lc (di_list (de_call (da_cons (de_var (i := 0)) (da_cons (de_fz (de_var (i := 4))) (da_cons (de_fz (de_var (i := 3))) da_nil))))) (dg_name (i := 11)) (dt_not (dt_val (de_call (da_cons (de_fz (de_var (i := 4))) (da_cons (de_fz (de_var (i := 3))) (da_cons (de_fz (de_var (i := 11))) (da_cons de_bl da_nil))))))) (de_var (i := 11)) (by decide))) (de_frz (dn_lst da_nil)))) (ds_ret de_bl) ds_next)
      (ds_ret (de_op od_eq (de_cb cd_repr (da_cons (de_frz (dn_lst (da_cons (de_frz (dn_call (da_cons (de_fz (de_var (i := 4))) da_nil))) (da_cons (de_var (i := 3)) da_nil)))) da_nil)) (de_var (i := 5)))))))))), fun ss Q QX h => ?_⟩
  obtain ⟨o, n, i, ps, xs, rfl, Hh, i0, i2, hs, hn, h⟩ := h
  have lp := Hh.lp
  have lx := Hh.l
  have I : Its xs := ⟨Hh.l, Hh.i.it, Hh.i.nd⟩
  refine ⟨o, n, i, ps, rfl, by omega, fun p hp => ⟨Hh.i.it _ (Hh.s _ (List.mem_map.mpr ⟨p, hp, rfl⟩)), Hh.a p hp⟩, hs, by omega, fun qs o1 pm hs1 => ?_⟩
  walk_at "norm"
  obtain ⟨L, ks⟩ := hist_log (i := i) Hh pm
  have lq : (qs.map (rwK i)).length ≤ 40 := L.l
  refine ⟨qs.map (rwK i), rfl, by omega, ?_⟩
  refine ⟨shown_ok L I, ?_⟩
  walk_at "norm"
  refine ⟨i, ps, xs, rfl, i0, i2, by omega, by omega, Hh.i.nd, Hh.n, ?_⟩
  have lk : (known (ps.map (rwK i)) xs).length ≤ xs.length := known_len
  refine ⟨o1, n + 1000, _, rfl, by rw [List.length_map]; omega, hs1, by omega, fun ys o2 pm2 hs2 => ?_⟩
  obtain ⟨zs, rfl, pm3⟩ := perm_map_inv pm2 _ rfl
  clear pm2
  walk_at "norm"
  refine ⟨trivial, ?_⟩
  rw [show (12 : Int) = ((12 : Nat) : Int) from rfl, cutD_map_to]
  have st : ∀ x ∈ zs.take 12, x ∈ known (ps.map (rwK i)) xs := fun x hx => pm3.mem_iff.mp (List.mem_of_mem_take hx)
  generalize zs.take 12 = ts at st ⊢
  have mkn : ∀ x ∈ known (ps.map (rwK i)) xs, x ∈ known (qs.map (rwK i)) xs ∧ x ∈ ps.map (·.1) := fun x hx => ⟨by rw [known_perm pm]; exact hx, by have := (known_mem.mp hx).2; rwa [names_rw] at this⟩
  refine for_map (f := sideD ps i xs) (fun p δ => ∃ (a : Option D) (b c : Option Sl), δ = [some (.own (some 0) o2), some (.val (.int i)), some (.val (.lst (ps.map pairD))), some (.val (.lst (xs.map .str))), some (.val (.lst ((qs.map (rwK i)).map Rw.d))), some (.val (.str (pyD (shownD (qs.map (rwK i)) xs)).shown)), a.map .val, b, c, none, none, none]) (pre := []) ⟨none, _, _, rfl⟩ (fun p x q δ e hI nx hn2 => ?_) fun δ hI => ?_
  · obtain ⟨a, b, c, rfl⟩ := hI
    have hx : x ∈ known (ps.map (rwK i)) xs := st x (by
      have : x ∈ p ++ x :: q := by simp
      rwa [← e] at this)
    obtain ⟨hx2, hx3⟩ := mkn x hx
    refine ⟨rfl, ?_⟩
    refine ⟨qs.map (rwK i), xs, .tup [.str "low", .str x], _, rfl, L, I, ks, rfl, (claim_low hx2).trans (by rw [shift_perm i0 i2 pm Hh.n hx3]), ?_⟩
    unfold rVal frzR
    dsimp only
    refine bofE true rfl (ifN rfl ?_)
    refine ⟨qs.map (rwK i), xs, .tup [.str "high", .str x], _, rfl, L, I, ks, rfl, (claim_high hx2).trans (by rw [shift_perm i0 i2 pm Hh.n hx3, room_perm i0 i2 pm hx3]), ?_⟩
    unfold rVal frzR
    dsimp only
    refine bofE true rfl (ifN rfl ?_)
    exact hn2 _ ⟨some (.str x), _, _, rfl⟩
  · obtain ⟨a, b, c, rfl⟩ := hI
    rcases a with _ | a
    all_goals
      refine ⟨trivial, lc_all (f := pairD) (k := fun p => .str p.1) (fun p hp acc R1 l q => ⟨rfl, l, q⟩) (by omega) ?_⟩
      walk_at "norm"
      dsimp only [Option.map]
      rw [show ps.map (fun p => D.str p.1) = (ps.map (·.1)).map D.str from by rw [List.map_map]; rfl]
      refine ⟨trivial, lc_flt (p := fun x => !decide (x ∈ ps.map (·.1))) (k := D.str) (fun x hx acc R1 l q => ?_) (by omega) ?_⟩
      · refine ⟨rfl, flat1_strs _, ?_⟩
        rw [in_strs]
        exact flt_turn l q
      walk_at "norm"
      obtain ⟨ys, ey, my⟩ := cutD_some D.str (xs.filter fun x => !decide (x ∈ ps.map (·.1))) (some (-4)) none
      refine ⟨trivial, ?_⟩
      rw [ey]
      refine for_map (f := D.str) (fun p δ => ∃ (a : Option D), δ = [some (.own (some 0) o2), some (.val (.int i)), some (.val (.lst (ps.map pairD))), some (.val (.lst (xs.map .str))), some (.val (.lst ((qs.map (rwK i)).map Rw.d))), some (.val (.str (pyD (shownD (qs.map (rwK i)) xs)).shown)), a.map .val, b, c, some (.val (.lst ((ps.map (·.1)).map .str))), none, none]) (pre := []) (by first | exact ⟨none, rfl⟩ | exact ⟨some _, rfl⟩) (fun p x q δ e hI nx hn2 => ?_) fun δ hI => ?_
      · obtain ⟨a, rfl⟩ := hI
        have hx : x ∉ names (qs.map (rwK i)) := by
          have m := my x (by
            have : x ∈ p ++ x :: q := by simp
            rwa [← e] at this)
          have := (List.mem_filter.mp m).2
          rw [names_rw]
          intro hh
          rw [decide_eq_true ((pm.map _).mem_iff.mp hh)] at this
          cases this
        refine ⟨qs.map (rwK i), xs, .tup [.str "low", .str x], _, rfl, L, I, ks, rfl, claim_out (k := .low) hx, ?_⟩
        unfold rVal frzR
        dsimp only
        refine bofE true rfl ?_
        refine ⟨qs.map (rwK i), xs, .tup [.str "high", .str x], _, rfl, L, I, ks, rfl, claim_out (k := .high) hx, ?_⟩
        unfold rVal frzR
        dsimp only
        refine bofE true rfl (ifN rfl ?_)
        exact hn2 _ ⟨some (.str x), rfl⟩
      · obtain ⟨a, rfl⟩ := hI
        walk_at "norm"
        refine ⟨o2, _, qs.map (rwK i), xs, rfl, L, Hh.i, lq, hs2, by omega, fun ds o3 nd ld hs3 => ?_⟩
        walk_at "norm"
        refine ⟨trivial, lc_flt' (p := fun _ => false) (k := id) (fun d hd acc R1 l q => ?_) (by omega) ?_⟩
        · refine ⟨qs.map (rwK i), xs, d, _, rfl, L, I, ks, (nd d hd).o, (nd d hd).claim, ?_⟩
          unfold rVal frzR
          dsimp only
          refine bofE true rfl (ifN rfl ?_)
          rw [if_neg Bool.false_ne_true, Option.toList_none, List.append_nil] at q
          exact q
        · rw [show ds.filter (fun _ => false) = [] from List.filter_eq_nil_iff.mpr fun _ _ => Bool.false_ne_true]
          walk_at "norm"
          refine ⟨rfl, rfl, bofE false rfl (ifN rfl ?_)⟩
          refine ⟨qs.map (rwK i), rfl, by omega, ?_⟩
          refine ⟨shown_ok L I, ?_⟩
          refine ⟨rfl, rfl, ?_⟩
          rw [eq_str, decide_eq_true (p := (pyD (D.lst [D.lst (List.map (fun r => D.tup [D.str r.x, D.int r.n]) (qs.map (rwK i))), D.lst (xs.map D.str)])).shown = (pyD (shownD (qs.map (rwK i)) xs)).shown) rfl]
          exact ⟨rfl, h o3 (hs3.le (by omega))⟩

end
end Own

set_option Elab.async false
set_option linter.all false
set_option maxRecDepth 100000
set_option maxHeartbeats 4000000
namespace Own
open PySem L2 ClX PD
local macro_rules | `(tactic| walk_at "y") => `(tactic| first | (refine ifY ?e ?_; (case e => first | with_reducible rfl | decide +kernel)) | (refine bofE true ?e ?_; (case e => first | with_reducible rfl | decide +kernel)))
local macro_rules | `(tactic| walk_at "n") => `(tactic| first | (refine ifN ?e ?_; (case e => first | with_reducible rfl | decide +kernel)) | (refine bofE false ?e ?_; (case e => first | with_reducible rfl | decide +kernel)))
local macro_rules | `(tactic| walk_at "t") => `(tactic| (refine ifY ?e ?_; (case e => rfl)))
local macro_rules | `(tactic| walk_at "f") => `(tactic| (refine ifN ?e ?_; (case e => rfl)))
local macro_rules | `(tactic| walk_at "go") => `(tactic| repeat (first | walk_at "t" | walk_at "f"))
local macro_rules | `(tactic| walk_at "norm") => `(tactic| dsimp only [PD.dget, PD.dset, PD.wipeD, PD.putBack, PD.putOb, PD.reOb, PD.entryD, PD.nones, List.map, List.length, PD.stayD, PD.unwipeD])

section
variable {P : Program} {w : World} {K : PySem.W.Frag} {mg : Str → Option Value} {base : Heap} {A : Ad}
/-! ### the log whose second record is moved -/
structure Tl (A : Ad) (H0 H : Hp) (N p1 p2 C : Addr) (m : Int) : Prop where
  s : Same H0 H
  hN : H N = some (.lst [.ref p1, .ref p2])
  h1 : ∃ d1, H p1 = some (.ins A.c_Inserted d1 (rfs "x" 0))
  h2 : ∃ d2, H p2 = some (.ins A.c_Inserted d2 (rfs "y" m))
  hC : H C = some (.tup [.str "low", .str "y"])
  n2 : H0 p2 = none
  ne : p1 ≠ p2
theorem Tl.keep {H0 H H' : Hp} {N p1 p2 C : Addr} {m : Int} (t : Tl A H0 H N p1 p2 C m) (s : Same H H') : Tl A H0 H' N p1 p2 C m := by
  obtain ⟨d1, h1⟩ := t.h1
  obtain ⟨d2, h2⟩ := t.h2
  exact ⟨t.s.trans s, s _ _ t.hN, ⟨d1, s _ _ h1⟩, ⟨d2, s _ _ h2⟩, s _ _ t.hC, t.n2, t.ne⟩
theorem Tl.moved {H0 H H' : Hp} {N p1 p2 C d : Addr} {m k : Int} (t : Tl A H0 H N p1 p2 C m) (b : But p2 H H') (h : H' p2 = some (.ins A.c_Inserted d (rfs "y" k))) : Tl A H0 H' N p1 p2 C k := by
  obtain ⟨d1, h1⟩ := t.h1
  obtain ⟨d2, h2⟩ := t.h2
  refine ⟨fun c o e => b c o (t.s c o e) fun z => ?_, b _ _ t.hN fun z => ?_, ⟨d1, b _ _ h1 t.ne⟩, ⟨d, h⟩, b _ _ t.hC fun z => ?_, t.n2, t.ne⟩
  · rw [z, t.n2] at e; cases e
  · have := t.hN; rw [z, h2] at this; cases this
  · have := t.hC; rw [z, h2] at this; cases this
theorem Tl.put {H0 H : Hp} {N p1 p2 C L : Addr} {m : Int} {o : HO} (t : Tl A H0 H N p1 p2 C m) (nL : H0 L = none) {xs : List V} (hL : H L = some (.lst xs)) (ne : N ≠ L) : Tl A H0 (upd H L o) N p1 p2 C m := by
  obtain ⟨d1, h1⟩ := t.h1
  obtain ⟨d2, h2⟩ := t.h2
  refine ⟨fun c o e => ?_, by rw [upd_ne ne]; exact t.hN, ⟨d1, ?_⟩, ⟨d2, ?_⟩, ?_, t.n2, t.ne⟩
  · rw [upd_ne (ne_of_none e nL)]
    exact t.s c o e
  · rw [upd_ne fun z => by rw [z, hL] at h1; cases h1]; exact h1
  · rw [upd_ne fun z => by rw [z, hL] at h2; cases h2]; exact h2
  · rw [upd_ne fun z => by have := t.hC; rw [z, hL] at this; cases this]; exact t.hC
theorem sok {x : Str} (h : PySem.PyData.strOk x = true) (l : x.length ≤ 1000000) : SOk x := ⟨h, l⟩
theorem xy_ok : isItem "x" = true ∧ isItem "y" = true := by decide +kernel
theorem low_ok : SOk "low" := ⟨by decide +kernel, by decide +kernel⟩
def rowsM (m : Int) : List Rw := [⟨.I, "x", 0⟩, ⟨.I, "y", m⟩]
theorem rowsM_log {m : Int} (m0 : 0 ≤ m) (m60 : m ≤ 60) : Log (rowsM m) where
  v := fun r hr => by
    unfold rowsM at hr
    simp only [List.mem_cons, List.not_mem_nil, or_false] at hr
    rcases hr with rfl | rfl
    · exact rowB_mk xy_ok.1 (by decide) (by decide)
    · exact rowB_mk xy_ok.2 m0 m60
  l := show 2 ≤ 40 by decide
  k := fun r hr => by
    unfold rowsM at hr
    simp only [List.mem_cons, List.not_mem_nil, or_false] at hr
    rcases hr with rfl | rfl <;> exact fun e => by cases e
  o := fun r hr s hs => by
    unfold rowsM at hr hs
    simp only [List.mem_cons, List.not_mem_nil, or_false] at hr hs
    rcases hr with rfl | rfl <;> rcases hs with rfl | rfl <;> rfl
  n := show (["x", "y"] : List Str).Nodup by decide +kernel
theorem xy_its : Its (["x", "y"] : List Str) where
  l := by decide
  a := fun x hx => by
    simp only [List.mem_cons, List.not_mem_nil, or_false] at hx
    rcases hx with rfl | rfl
    · exact xy_ok.1
    · exact xy_ok.2
  n := by decide +kernel
theorem tail_call {H0 H : Hp} {N p1 p2 C B : Addr} {m : Int} {Q : VK} {Ex : XK} {due : Bool} (t : Tl A H0 H N p1 p2 C m) (hB : H B = some (.lst [.str "x", .str "y"])) (m0 : 0 ≤ m) (m60 : m ≤ 60)
    (hd : claimB (rowsM m) ["x", "y"] (.tup [.str "low", .str "y"]) = due) (q : ∀ H', Same H H' → Q (.bl due) H') : SpD K (cad A) gShows [.ref N, .ref B, .ref C] H Q Ex := by
  obtain ⟨d1, h1⟩ := t.h1
  obtain ⟨d2, h2⟩ := t.h2
  have ox := item_ok xy_ok.1
  have oy := item_ok xy_ok.2
  refine SpD.flat (F := H) (ds := [.lst ((rowsM m).map Rw.d), .lst ((["x", "y"] : List Str).map .str), .tup [.str "low", .str "y"]]) (Same.refl _) (.cons (.lst t.hN (.cons (.row (c := .I) h1 ox) (.cons (.row (c := .I) h2 oy) .nil))) (.cons (.lst hB (.cons (.str _ ox) (.cons (.str _ oy) .nil))) (.cons (.tup t.hC (.cons (.str _ low_ok) (.cons (.str _ oy) .nil))) .nil))) ?_
  refine ⟨rowsM m, ["x", "y"], _, rfl, rowsM_log m0 m60, xy_its, fun r hr => ?_, rfl, _, rfl, fun v F' H' s1 _ r => ?_⟩
  · unfold rowsM at hr
    simp only [List.mem_cons, List.not_mem_nil, or_false] at hr
    rcases hr with rfl | rfl <;> simp
  · obtain rfl := r.blI
    rw [hd]
    exact q H' s1
theorem move_sp {H : Hp} {p dx : Addr} {c : Kd} {x : Str} {n m : Int} {Qv : VK} {E1 : XK} (ok : SOk x) (hp : H p = some (.ins (cad A c.cn) dx (rfs x n))) (m0 : 0 ≤ m) (m1 : m ≤ 60) (h : ∀ (H' : Hp) (dx' : Addr), H' p = some (.ins (cad A c.cn) dx' (rfs x m)) → But p H H' → Qv .non H') :
    SpD K (cad A) gMove [.ref p, .int m] H Qv E1 := by
  classical
  have gf : GoodF K (cad A) (fun b => if b = p then none else H b) (fun _ => none) [.ref p, .int m] (slV [.val (.int m)]) [some (V.int m)] H (fun _ _ => False) := by
    refine ⟨fun b o e => ?_, fun b o e => (by cases e), rfl, fun i s e => ?_, fun i b q => q.elim, fun i j b q => q.elim⟩
    · by_cases z : b = p
      · have e : (if b = p then none else H b) = some o := e
        rw [if_pos z] at e; cases e
      · have e : (if b = p then none else H b) = some o := e
        rw [if_neg z] at e; exact e
    · cases i with
      | zero => cases e; exact ⟨_, rfl, Rep.int m, fun t o z => by cases z⟩
      | succ i => cases i <;> cases e
  have gg : Good K (cad A) (fun b => if b = p then none else H b) (fun _ => none) [.ref p, .int m] (slV [.own (some 0) (.row c x n), .val (.int m)]) [some (.ref p), some (.int m)] H :=
    Good.cons (S := fun b => b = p) gf ⟨p, rfl, fun b => Iff.rfl, ok, dx, hp⟩ (fun k o e => by cases e; rfl) (fun b e => by subst e; exact ⟨if_pos rfl, rfl, _, hp⟩) (fun i b q => q.elim)
  refine ⟨_, _, [.own (some 0) (.row c x n), .val (.int m)], fun r bs => r = .val .non ∧ bs = [.row c x m], fun _ _ _ => False, gg, ⟨rfl, trivial⟩, ⟨c, x, n, .int m, rfl, rfl, fun m' e y0 y1 => by cases e; exact ⟨rfl, rfl⟩, fun e => ?_⟩, fun r bs ⟨e1, e2⟩ v F' H' s g => ?_, fun _ _ _ z => z.elim⟩
  · have : isIdxD (.int m) = true := by
      show (decide (0 ≤ m) && decide (m ≤ 60)) = true
      rw [decide_eq_true m0, decide_eq_true m1]
      rfl
    rw [this] at e
    cases e
  · subst e1 e2
    obtain ⟨fp, g⟩ := g
    obtain ⟨w0, ew0, hw0, _⟩ := g.sl 0 _ rfl
    cases ew0
    have hw0 : Rep K (cad A) F' v .non := hw0
    obtain rfl := hw0.nonI
    obtain ⟨w1, ew, ⟨a, e3, sS, _, dx', ha⟩, _⟩ := g.sl 1 _ rfl
    cases ew
    cases e3
    refine h H' dx' ha fun b o e nb => g.sR b o ?_
    show (if b = p then none else H b) = some o
    rw [if_neg nb]
    exact e
theorem dues : claimB (rowsM 2) ["x", "y"] (.tup [.str "low", .str "y"]) = true ∧ claimB (rowsM 1) ["x", "y"] (.tup [.str "low", .str "y"]) = false ∧ claimB (rowsM 0) ["x", "y"] (.tup [.str "low", .str "y"]) = false ∧ claimB (rowsM 60) ["x", "y"] (.tup [.str "low", .str "y"]) = true := by
  decide +kernel
def mAt : Nat → Int
  | 0 => 2
  | 1 => 1
  | 2 => 0
  | _ => 60
def bAt : Nat → Bool
  | 0 => true
  | 1 => false
  | 2 => false
  | _ => true
def bsAt : Nat → List V
  | 0 => [.bl true]
  | 1 => [.bl true, .bl false]
  | 2 => [.bl true, .bl false, .bl false]
  | _ => [.bl true, .bl false, .bl false, .bl true]
theorem mAt_ok {i : Nat} {x : V} (h : ([.int 1, .int 0, .int 60] : List V)[i]? = some x) : x = .int (mAt (i + 1)) ∧ 0 ≤ mAt (i + 1) ∧ mAt (i + 1) ≤ 60 ∧ claimB (rowsM (mAt (i + 1))) ["x", "y"] (.tup [.str "low", .str "y"]) = bAt (i + 1) ∧ bsAt (i + 1) = bsAt i ++ [.bl (bAt (i + 1))] ∧ (bsAt i).length ≤ 3 := by
  obtain ⟨due2, due1, due0, due60⟩ := dues
  match i, h with
  | 0, h => cases h; exact ⟨rfl, by decide, by decide, due1, rfl, by decide⟩
  | 1, h => cases h; exact ⟨rfl, by decide, by decide, due0, rfl, by decide⟩
  | 2, h => cases h; exact ⟨rfl, by decide, by decide, due60, rfl, by decide⟩
  | i + 3, h => cases h

end
end Own

set_option Elab.async false
set_option linter.all false
set_option maxRecDepth 100000
set_option maxHeartbeats 4000000
namespace Own
open PySem L2 ClX PD
local macro_rules | `(tactic| walk_at "y") => `(tactic| first | (refine ifY ?e ?_; (case e => first | with_reducible rfl | decide +kernel)) | (refine bofE true ?e ?_; (case e => first | with_reducible rfl | decide +kernel)))
local macro_rules | `(tactic| walk_at "n") => `(tactic| first | (refine ifN ?e ?_; (case e => first | with_reducible rfl | decide +kernel)) | (refine bofE false ?e ?_; (case e => first | with_reducible rfl | decide +kernel)))
local macro_rules | `(tactic| walk_at "t") => `(tactic| (refine ifY ?e ?_; (case e => rfl)))
local macro_rules | `(tactic| walk_at "f") => `(tactic| (refine ifN ?e ?_; (case e => rfl)))
local macro_rules | `(tactic| walk_at "go") => `(tactic| repeat (first | walk_at "t" | walk_at "f"))
local macro_rules | `(tactic| walk_at "norm") => `(tactic| dsimp only [PD.dget, PD.dset, PD.wipeD, PD.putBack, PD.putOb, PD.reOb, PD.entryD, PD.nones, List.map, List.length, PD.stayD, PD.unwipeD])

section
variable {P : Program} {w : World} {K : PySem.W.Frag} {mg : Str → Option Value} {base : Heap} {A : Ad}
/-! ### the law -/
def fTrue : DTS := fun k δ => δ.length = 15 ∧ ∀ δ', k.rt (.val (.bl true)) δ'
theorem ds_tail {E : L2.St → XK} {t : TS} (h : DS K (cad A) E t fTrue) : DS K (cad A) E t fTrue := h
theorem len15 {α : Type} {σ : List α} (h : σ.length = 15) : ∃ a0 a1 a2 a3 a4 a5 a6 a7 a8 a9 b0 b1 b2 b3 b4 : α, σ = [a0, a1, a2, a3, a4, a5, a6, a7, a8, a9, b0, b1, b2, b3, b4] := by
  match σ, h with
  | [_, _, _, _, _, _, _, _, _, _, _, _, _, _, _], _ => exact ⟨_, _, _, _, _, _, _, _, _, _, _, _, _, _, _, rfl⟩
def gLaw : DSp := fun ss Q _ => ∃ ns : List Int, ss = [.val (.scr ns)] ∧ ns.length ≤ 63 ∧ Q (.val (.bl true)) []
theorem turns2 (L : Int) : 0 ≤ (if (if L < 2 then L else 2) > 1 then (if L < 2 then L else 2) else 1) ∧ (if (if L < 2 then L else 2) > 1 then (if L < 2 then L else 2) else 1) ≤ 2 := by
  constructor <;> (repeat' split) <;> omega
theorem ok_law (T : Txt K mg A) : OkG P w K mg base 9 A.f_law ["script"] (SpD K (cad A) gLaw) := by
  refine okGD T.fn_law sc_law (fun _ _ _ _ _ _ us hl => match us, hl with | [_], _ => rfl) (fun ss Q QX ⟨_, e, _⟩ => by rw [e]; rfl) fun cdv B up s H hr gd => ⟨_, _, (pss_cons (ps_for PassesOwn.never rfl (pi_range1 rfl T.no_range (pa_cons (pe_callB (call_max2 rfl) (by rfl) T.no_max (by decide +kernel) (pa_cons pe_int (pa_cons (pe_callB (call_min2 rfl) (by rfl) T.no_min (by decide +kernel) (pa_cons pe_int (pa_cons (pe_callB call_len (by rfl) T.no_len (by decide +kernel) (pa_cons (pv 0) pa_nil)) pa_nil))) pa_nil))) pa_nil)) (pg_name (i := 1) sc_law.nd rfl (Or.inl rfl))
      (pss_cons (ps_set (i := 2) sc_law.nd rfl (Or.inr rfl) (po_call (ok__law_source T) (hr.mono (by decide)) T.mg__law_source (pa_cons (pv 0) (pa_cons (pv 1) pa_nil))))
      (pss_one (ps_for PassesOwn.never rfl (pi_range1 rfl T.no_range (pa_cons pe_int pa_nil)) (pg_name (i := 3) sc_law.nd rfl (Or.inl rfl))
      (pss_cons (ps_set (i := 4) sc_law.nd rfl (Or.inl rfl) (pe_ix ix_seq (pe_lst (pa_cons pe_int (pa_cons (pe_ix ix_seq (pe_lst (pa_cons pe_int (pa_cons pe_int pa_nil))) (pe_callTy call_int1 (by rfl) T.no_int (by decide +kernel) (pa_cons (pe_cmpR (op_eqX hr) (pv 1) pe_int (nomark _)) pa_nil)) (fun _ _ => rfl)) pa_nil))) (po_call (ok__law_pick T) (hr.mono (by decide)) T.mg__law_pick (pa_cons (pv 2) (pa_cons pe_int pa_nil))) (fun _ _ => rfl)))
      (pss_cons (ps_asg (po_call (ok__law_history T) (hr.mono (by decide)) T.mg__law_history (pa_cons (pv 2) (pa_cons (pv 3) (pa_cons (pv 4) (pa_cons (pe_ix ix_seq (pe_lst (pa_cons pe_int (pa_cons pe_int pa_nil))) (po_call (ok__law_pick T) (hr.mono (by decide)) T.mg__law_pick (pa_cons (pv 2) (pa_cons pe_int pa_nil))) (fun _ _ => rfl)) pa_nil))))) (pg_tup (by rfl) (pgs_cons (pg_name (i := 5) sc_law.nd rfl (Or.inl rfl)) (pgs_cons (pg_name (i := 6) sc_law.nd rfl (Or.inl rfl)) pgs_nil))))
      (pss_cons (ps_setLcD (i := 7) (own := [("name", 14), ("index", 12)]) rfl sc_law.nd rfl rfl (sw_true rfl rfl rfl (by decide +kernel)) (pi_list (pv 5)) (blkOk_by (N := N_law) (sc := defScope s_law) (by decide +kernel)) (fun _ _ _ _ _ => pg_tup (by rfl) (pgs_cons (pg_name (i := 14) sc_law.nd rfl (Or.inl rfl)) (pgs_cons (pg_name (i := 12) sc_law.nd rfl (Or.inl rfl)) pgs_nil))) (fun _ _ _ _ _ => pts_nil) (fun _ _ _ _ _ => (pe_tup (pa_cons (pv 14) (pa_cons (po_call (ok__law_pick T) (hr.mono (by decide)) T.mg__law_pick (pa_cons (pv 2) (pa_cons pe_int pa_nil))) pa_nil)))))
      (pss_one (ps_for PassesOwn.never rfl (pi_list (pe_lst (pa_cons (pv 5) (pa_cons (po_call (ok__law_bent T) (hr.mono (by decide)) T.mg__law_bent (pa_cons (pv 2) (pa_cons (pv 5) pa_nil))) (pa_cons (pv 7) pa_nil))))) (pg_name (i := 8) sc_law.nd rfl (Or.inl rfl))
      (pss_one (ps_if (pt_not (pt_val (pg_call (ok__law_right T) (hr.mono (by decide)) gd T.mg__law_right (pa_cons (pv 2) (pa_cons (pv 3) (pa_cons (pv 8) (pa_cons (pv 6) pa_nil))))))) (pss_one (ps_ret pe_bl)) pss_nil)))))))))))
      (pss_cons (ps_par (i := 9) (j := 10) (by rfl) sc_law.nd rfl rfl (by decide) rfl rfl (pa_cons (pe_lst (pa_cons (po_make T.mk_Inserted (ok_Record___init__ T) (hr.mono (by decide)) T.mg_Inserted (pa_cons pe_str (pa_cons pe_int pa_nil))) (pa_cons (po_make T.mk_Inserted (ok_Record___init__ T) (hr.mono (by decide)) T.mg_Inserted (pa_cons pe_str (pa_cons pe_int pa_nil))) pa_nil))) (pa_cons (pe_tup (pa_cons pe_str (pa_cons pe_str pa_nil))) pa_nil)) (by rfl))
      (pss_cons (ps_set (i := 11) sc_law.nd rfl (Or.inl rfl) (pe_lst (pa_cons (px_call (ok_shows T) (fun _ => atL) (hr.mono (by decide)) T.mg_shows (pa_cons (pv 9) (pa_cons (pe_lst (pa_cons pe_str (pa_cons pe_str pa_nil))) (pa_cons (pv 10) pa_nil)))) pa_nil)))
      (pss_cons (ps_for PassesOwn.never rfl (pi_list (pe_lst (pa_cons pe_int (pa_cons pe_int (pa_cons pe_int pa_nil))))) (pg_name (i := 12) sc_law.nd rfl (Or.inl rfl))
      (pss_cons (ps_set (i := 13) sc_law.nd rfl (Or.inl rfl) (pe_ix ix_seq (pv 9) pe_int (fun _ _ => rfl)))
      (pss_cons (ps_expr (px_methF (K0 := K) (m := "move_to") (fs_move T) (fun _ => atL) (hr.mono (by decide)) (pv 13) (pa_cons (pv 12) pa_nil)))
      (pss_one (ps_expr (pe_bm PySem.F.plainAttrs_list PySem.F.slot_list_append PySem.F.type_list_append mt_append (pv 11) (pa_cons (px_call (ok_shows T) (fun _ => atL) (hr.mono (by decide)) T.mg_shows (pa_cons (pv 9) (pa_cons (pe_lst (pa_cons pe_str (pa_cons pe_str pa_nil))) (pa_cons (pv 10) pa_nil)))) pa_nil)))))))
      (pss_one (ps_ret (pe_cmpR (op_eqX hr) (pv 11) (pe_lst (pa_cons pe_bl (pa_cons pe_bl (pa_cons pe_bl (pa_cons pe_bl pa_nil))))) (nomark _)))))))), (ds_seq (ds_for (di_rng1 (da_cons (de_cb cd_max (da_cons de_int (da_cons (de_cb cd_min (da_cons de_int (da_cons (de_cb cd_len (da_cons (de_var (i := 0)) da_nil)) da_nil))) da_nil))) da_nil)) (dg_name (i := 1))
      (ds_seq (ds_setN (i := 2) (dn_call (da_cons (de_fz (de_var (i := 0))) (da_cons (de_fz (de_var (i := 1))) da_nil))))
      (ds_for (di_rng1 (da_cons de_int da_nil)) (dg_name (i := 3))
      (ds_seq (ds_set (i := 4) (de_op od_ix (de_frz (dn_lst (da_cons de_int (da_cons (de_op od_ix (de_frz (dn_lst (da_cons de_int (da_cons de_int da_nil)))) (de_cb cd_int1 (da_cons (de_op od_eq (de_var (i := 1)) de_int) da_nil))) da_nil)))) (de_call (da_cons (de_var (i := 2)) (da_cons de_int da_nil)))))
      (ds_seq (ds_asg (de_call (da_cons (de_var (i := 2)) (da_cons (de_fz (de_var (i := 3))) (da_cons (de_fz (de_var (i := 4))) (da_cons (de_op od_ix (de_frz (dn_lst (da_cons de_int (da_cons de_int da_nil)))) (de_call (da_cons (de_var (i := 2)) (da_cons de_int da_nil)))) da_nil))))) (dg_tup (dgs_cons (dg_name (i := 5)) (dgs_cons (dg_name (i := 6)) dgs_nil))))
      (ds_seq (ds_set (i := 7) (de_frz (dn_lc (di_list (de_var (i := 5))) (dg_tup (dgs_cons (dg_name (i := 14)) (dgs_cons (dg_name (i := 12)) dgs_nil))) dt_yes (de_tup (da_cons (de_var (i := 14)) (da_cons (de_call (da_cons (de_var (i := 2)) (da_cons de_int da_nil))) da_nil))) (by decide))))
      (ds_for (di_list (de_frz (dn_lst (da_cons (de_var (i := 5)) (da_cons (de_frz (dn_call (da_cons (de_var (i := 2)) (da_cons (de_fz (de_var (i := 5))) da_nil)))) (da_cons (de_var (i := 7)) da_nil)))))) (dg_name (i := 8))
      (ds_if (dt_not (dt_val (de_call (da_cons (de_var (i := 2)) (da_cons (de_fz (de_var (i := 3))) (da_cons (de_fz (de_var (i := 8))) (da_cons (de_fz (de_var (i := 6))) da_nil))))))) (ds_ret de_bl) ds_next))))))))
      (ds_tail ?tail)), fun ss Q QX h => ?_⟩
  case tail =>
    intro R F pars δ σ H0 D k g l q
    obtain ⟨ld, q⟩ := q
    have lσ : σ.length = 15 := by
      obtain ⟨fp, g⟩ := g
      rw [← g.len, ld]
    have fin : ∀ H', Same H0 H' → D.rt (.bl true) H' := fun H' s => by
      obtain ⟨fp, g⟩ := g
      refine l.rt (.val (.bl true)) [] [] (.bl true) F H' .refl ⟨fun _ _ => False, ⟨fun b o e => s _ _ (g.sR b o e), fun b o e => s _ _ (g.sF b o e), rfl, fun i u e => ?_, fun i b z => z.elim, fun i j b z => z.elim⟩⟩ (q [])
      cases i with
      | zero => cases e; exact ⟨_, rfl, Rep.bl true, fun t o z => by cases z⟩
      | succ i => cases e
    obtain ⟨a0, a1, a2, a3, a4, a5, a6, a7, a8, a9, b0, b1, b2, b3, b4, rfl⟩ := len15 lσ
    clear g l q ld lσ
    obtain ⟨due2, due1, due0, due60⟩ := dues
    intro p1 d1 np1 nd1 ne1
    refine ⟨p1, d1, .I, "x", 0, rfl, upd_same, xy_ok.1, by decide, by decide, fun H1 h1 bu1 => ⟨rfl, ?_⟩⟩
    have s1 : Same H0 H1 := made_same2 np1 nd1 bu1
    intro p2 d2 np2 nd2 ne2
    refine ⟨p2, d2, .I, "y", 2, rfl, upd_same, xy_ok.2, by decide, by decide, fun H2 h2 bu2 => ⟨rfl, ?_⟩⟩
    have s2 : Same H1 H2 := made_same2 np2 nd2 bu2
    refine ⟨Nat.le_of_ble_eq_true rfl, fun N nN => ⟨Nat.le_of_ble_eq_true rfl, fun C nC => ⟨_, _, rfl, ?_⟩⟩⟩
    have uN := Same.new (o := .lst [.ref p1, .ref p2]) nN
    have uC := Same.new (o := .tup [.str "low", .str "y"]) nC
    have n2 : H0 p2 = none := none_of s1 np2
    have t0 : Tl A H0 (upd (upd H2 N (.lst [.ref p1, .ref p2])) C (.tup [.str "low", .str "y"])) N p1 p2 C 2 :=
      ⟨(s1.trans s2).trans (uN.trans uC), uC _ _ upd_same, ⟨d1, uC _ _ (uN _ _ (s2 _ _ h1))⟩, ⟨d2, uC _ _ (uN _ _ h2)⟩, upd_same, n2, fun e => by rw [← e, h1] at np2; cases np2⟩
    generalize upd (upd H2 N (.lst [.ref p1, .ref p2])) C (.tup [.str "low", .str "y"]) = H3 at t0 ⊢
    refine ⟨_, rfl, ⟨Nat.le_of_ble_eq_true rfl, fun B1 nB => ⟨_, rfl, tail_call (t0.keep (Same.new nB)) upd_same (by decide) (by decide) due2 fun H4 s4 => ?_⟩⟩⟩
    have t1 := (t0.keep (Same.new nB)).keep s4
    refine ⟨Nat.le_of_ble_eq_true rfl, fun L nL => ?_⟩
    have t2 := t1.keep (Same.new (o := .lst [.bl true]) nL)
    have nL0 : H0 L = none := none_of t1.s nL
    have neL : N ≠ L := ne_of_none t1.hN nL
    have hL : upd H4 L (.lst [.bl true]) L = some (.lst (bsAt 0)) := upd_same
    generalize upd H4 L (.lst [.bl true]) = H5 at t2 hL ⊢
    refine ⟨Nat.le_of_ble_eq_true rfl, fun J nJ => ⟨J, rfl, ⟨_, SqL.of upd_same⟩, ?_⟩⟩
    have uJ := Same.new (o := .lst [.int 1, .int 0, .int 60]) nJ
    have neJ : J ≠ L := fun e => by rw [e, hL] at nJ; cases nJ
    refine for_list (K := K) (a := J) (xs := [.int 1, .int 0, .int 60]) (fun i σ H => ∃ (x12 x13 : Option V), σ = [a0, a1, a2, a3, a4, a5, a6, a7, a8, some (.ref N), some (.ref C), some (.ref L), x12, x13, b4] ∧ Tl A H0 H N p1 p2 C (mAt i) ∧ H L = some (.lst (bsAt i)) ∧ H J = some (.lst [.int 1, .int 0, .int 60])) ⟨_, _, rfl, t2.keep uJ, uJ _ _ hL, upd_same⟩ (fun i σ H hi ⟨_, _, _, _, _, hJ⟩ => SqL.of hJ) ?_ ?_
    · rintro i x σ H6 hx ⟨x12, x13, rfl, t, hL, hJ⟩
      obtain ⟨rfl, m0, m60, due, eb, lb⟩ := mAt_ok hx
      refine ⟨_, rfl, .inl ⟨N, _, 1, .ref p2, rfl, rfl, SqL.of t.hN, rfl, ?_⟩⟩
      obtain ⟨d2, h2⟩ := t.h2
      refine ⟨_, rfl, p2, _, d2, _, _, _, rfl, h2, no_mth (by decide +kernel) (by decide +kernel) "y" (mAt i), T.cl_Inserted, T.me_Inserted_move_to, ⟨rfl, rfl⟩, _, rfl, move_sp (c := .I) (item_ok xy_ok.2) h2 m0 m60 fun H7 dx' h7 b7 => ?_⟩
      have t7 := t.moved b7 h7
      have hL7 := b7 _ _ hL fun z => by rw [z, h2] at hL; cases hL
      have hJ7 := b7 _ _ hJ fun z => by rw [z, h2] at hJ; cases hJ
      refine ⟨_, rfl, .inl ⟨rfl, _, SqL.of hL7⟩, ⟨_, rfl, ⟨Nat.le_of_ble_eq_true rfl, fun B2 nB2 => ⟨_, rfl, tail_call (t7.keep (Same.new nB2)) upd_same m0 m60 due fun H8 s8 => ?_⟩⟩⟩⟩
      have uB := Same.new (o := .lst [.str "x", .str "y"]) nB2
      have t8 := (t7.keep uB).keep s8
      have hL8 := s8 _ _ (uB _ _ hL7)
      have hJ8 := s8 _ _ (uB _ _ hJ7)
      refine ⟨L, _, _, rfl, rfl, hL8, Nat.lt_of_le_of_lt lb (by decide), ?_⟩
      refine ⟨_, _, rfl, t8.put nL0 hL8 neL, by rw [eb]; exact upd_same, by rw [upd_ne neJ]; exact hJ8⟩
    · rintro σ H6 ⟨x12, x13, rfl, t, hL, hJ⟩
      refine ⟨_, rfl, ⟨Nat.le_of_ble_eq_true rfl, fun E1 nE => .inr ?_⟩⟩
      have uE := Same.new (o := .lst [.bl true, .bl false, .bl false, .bl true]) nE
      have r1 : Rep K (cad A) (upd H6 E1 (.lst [.bl true, .bl false, .bl false, .bl true])) (.ref L) (.lst [.bl true, .bl false, .bl false, .bl true]) := .lst (uE _ _ hL) (.cons (.bl _) (.cons (.bl _) (.cons (.bl _) (.cons (.bl _) .nil))))
      have r2 : Rep K (cad A) (upd H6 E1 (.lst [.bl true, .bl false, .bl false, .bl true])) (.ref E1) (.lst [.bl true, .bl false, .bl false, .bl true]) := .lst upd_same (.cons (.bl _) (.cons (.bl _) (.cons (.bl _) (.cons (.bl _) .nil))))
      exact ⟨_, _, (flat_dp (Same.refl _) 1 rfl r1).1, (flat_dp (Same.refl _) 1 rfl r2).1, rfl, rfl, fin _ (t.s.trans uE)⟩
  obtain ⟨ns, rfl, l63, h⟩ := h
  walk_at "norm"
  obtain ⟨j0, j1⟩ := turns2 ((ns.length : Nat) : Int)
  refine ⟨⟨by omega, by omega⟩, trivial, for_rng (I := fun j δ => ∃ (a b c d e f g i : Option Sl), δ = [some (.val (.scr ns)), a, b, c, d, e, f, g, i, none, none, none, none, none, none]) ⟨_, _, _, _, _, _, _, _, rfl⟩ (fun j δ hj hI nx hn => ?_) fun δ hI => ?_⟩
  · obtain ⟨a, b, c, d, e, f, g, i, rfl⟩ := hI
    refine ⟨ns, 0 + j, by rw [Int.natCast_add]; rfl, by omega, fun o0 hs => ?_⟩
    walk_at "norm"
    refine ⟨⟨by decide, by decide⟩, trivial, for_rng (I := fun t δ => ∃ (o1 : Ob) (c d e f g i : Option Sl), SrcD (t * 30000) o1 ∧ δ = [some (.val (.scr ns)), some (.val (.int (0 + (j : Nat)))), some (.own none o1), c, d, e, f, g, i, none, none, none, none, none, none]) ⟨o0, _, _, _, _, _, _, hs.le (by omega), rfl⟩ (fun t δ ht hI nx2 hn2 => ?_) fun δ hI => ?_⟩
    · obtain ⟨o1, c, d, e, f, g, i, hs1, rfl⟩ := hI
      walk_at "norm"
      refine ⟨rfl, rfl, ?_⟩
      generalize eqD (.int (0 + (j : Nat))) (.int 0) = bb
      refine at_nat (i := if bb = true then 1 else 0) (d := .int ((if bb = true then 40 else 8 : Nat) : Int)) (by cases bb <;> decide) (by cases bb <;> rfl) ?_
      refine ⟨o1, _, 2, rfl, by decide, by decide, hs1, by omega, fun r o2 r0 r1 hs2 => ?_⟩
      obtain ⟨m, em, lm⟩ : ∃ m : Nat, ([.int 5, .int ((if bb = true then 40 else 8 : Nat) : Int)] : List D)[r.toNat]? = some (.int (m : Int)) ∧ m ≤ 40 := by
        have : r = 0 ∨ r = 1 := by omega
        rcases this with rfl | rfl
        · exact ⟨5, rfl, by decide⟩
        · exact ⟨_, rfl, by cases bb <;> decide⟩
      refine at_nat r0 em ?_
      walk_at "norm"
      refine ⟨o2, _, 2, rfl, by decide, by decide, hs2, by omega, fun r' o3 q0 q1 hs3 => ?_⟩
      obtain ⟨m2, em2, lm2⟩ : ∃ m : Nat, ([.int 3, .int 20] : List D)[r'.toNat]? = some (.int (m : Int)) ∧ m ≤ 20 := by
        have : r' = 0 ∨ r' = 1 := by omega
        rcases this with rfl | rfl
        · exact ⟨3, rfl, by decide⟩
        · exact ⟨20, rfl, by decide⟩
      refine at_nat q0 em2 ?_
      refine ⟨o3, _, 0 + (t : Nat), m, m2, rfl, by omega, by omega, lm, lm2, hs3, by omega, fun ps xs o4 Hh hs4 => ?_⟩
      walk_at "norm"
      refine ⟨rfl, ?_⟩
      have lp := Hh.lp
      refine ⟨trivial, bl_walk (I := fun u acc δ => ∃ (qs : List (Str × Nat)) (o' : Ob), acc = qs.map pairD ∧ qs.map (·.1) = (ps.take u).map (·.1) ∧ (∀ q ∈ qs, q.2 ≤ 60) ∧ SrcD (t * 30000 + 1 + 1 + 1500 + u) o' ∧ δ = [some (.val (.scr ns)), some (.val (.int (0 + (j : Nat)))), some (.own none o'), some (.val (.int (0 + (t : Nat)))), some (.val (.int m)), some (.val (.lst (ps.map pairD))), some (.val (.lst (xs.map .str))), g, i, none, none, none, none, none, none]) (i := 0) ⟨[], o4, rfl, rfl, (fun q hq => by cases hq), hs4.le (by omega), rfl⟩ (fun u d acc δ R1 ed hI hn3 => ?_) fun acc δ hI => ?_⟩
      · obtain ⟨qs, o5, rfl, eq, qb, hs5, rfl⟩ := hI
        rw [Nat.zero_add] at eq hs5
        rw [List.getElem?_map] at ed
        cases ep : ps[u]? with
        | none => rw [ep] at ed; cases ed
        | some p =>
          rw [ep] at ed
          cases ed
          have lu := (List.getElem?_eq_some_iff.mp ep).1
          have lq : qs.length ≤ 40 := by
            have := congrArg List.length eq
            rw [List.length_map, List.length_map, List.length_take] at this
            omega
          refine ⟨rfl, o5, _, 61, rfl, by decide, by decide, hs5, by omega, fun r o6 r0 r1 hs6 => ?_⟩
          obtain ⟨v, rfl⟩ := Int.eq_ofNat_of_zero_le r0
          refine ⟨by rw [List.length_map]; omega, hn3 _ _ ⟨qs ++ [(p.1, v)], o6, by rw [List.map_append]; rfl, ?_, fun q hq => ?_, hs6.le (by omega), rfl⟩⟩
          · rw [Nat.zero_add, List.take_add_one, ep, List.map_append, List.map_append, eq]
            rfl
          · rcases List.mem_append.mp hq with z | z
            · exact qb q z
            · rw [List.mem_singleton.mp z]
              show v ≤ 60
              omega
      · obtain ⟨qs, o5, rfl, eq, qb, hs5, rfl⟩ := hI
        rw [Nat.zero_add, List.length_map] at eq hs5
        rw [List.take_length] at eq
        walk_at "norm"
        refine ⟨o5, _, ps, rfl, by omega, Hh.a, hs5, by omega, fun qs2 o6 eq2 qb2 hs6 => ?_⟩
        walk_at "norm"
        have Hz : ∀ z : List (Str × Nat), z.map (·.1) = ps.map (·.1) → (∀ q ∈ z, q.2 ≤ 60) → Hist z xs := fun z ez bz => by
          refine ⟨Hh.i, Hh.l, ?_, bz, by rw [ez]; exact Hh.n, by rw [ez]; exact Hh.s⟩
          have := congrArg List.length ez
          rw [List.length_map, List.length_map] at this
          omega
        have Ha : ∀ z ∈ [ps, qs2, qs], Hist z xs := fun z hz => by
          simp only [List.mem_cons, List.not_mem_nil, or_false] at hz
          rcases hz with rfl | rfl | rfl
          · exact Hh
          · exact Hz _ eq2 qb2
          · exact Hz _ eq qb
        refine ⟨trivial, for_map (f := fun z : List (Str × Nat) => D.lst (z.map pairD)) (xs := [ps, qs2, qs]) (fun p δ => ∃ (o' : Ob) (a : Option Sl), SrcD (t * 30000 + 6000 + 3000 * p.length) o' ∧ δ = [some (.val (.scr ns)), some (.val (.int (0 + (j : Nat)))), some (.own none o'), some (.val (.int (0 + (t : Nat)))), some (.val (.int m)), some (.val (.lst (ps.map pairD))), some (.val (.lst (xs.map .str))), some (.val (.lst (qs.map pairD))), a, none, none, none, none, none, none]) (pre := []) ⟨o6, _, hs6.le (by simp; omega), rfl⟩ (fun p z q δ e hI nx3 hn4 => ?_) fun δ hI => ?_⟩
        · obtain ⟨o7, a, hs7, rfl⟩ := hI
          have lp3 : p.length < 3 := by
            have := congrArg List.length e
            simp only [List.nil_append, List.length_append, List.length_cons, List.length_nil] at this
            omega
          have mz : z ∈ [ps, qs2, qs] := by
            have : z ∈ p ++ z :: q := by simp
            rw [← e] at this
            exact this
          walk_at "norm"
          refine ⟨o7, _, 0 + (t : Nat), z, xs, rfl, Ha z mz, by omega, by omega, hs7, by omega, fun o8 hs8 => ?_⟩
          unfold rVal frzR
          dsimp only
          refine bofE true rfl (ifN rfl ?_)
          exact hn4 _ ⟨o8, some (.val (.lst (z.map pairD))), hs8.le (by rw [List.length_append]; simp; omega), rfl⟩
        · obtain ⟨o7, a, hs7, rfl⟩ := hI
          refine hn2 _ ⟨o7, _, _, _, _, _, _, hs7.le ?_, rfl⟩
          simp only [List.nil_append, List.length_cons, List.length_nil]
          omega
    · obtain ⟨o1, c, d, e, f, g, i, hs1, rfl⟩ := hI
      exact hn _ ⟨_, _, _, _, _, _, _, _, rfl⟩
  · obtain ⟨a, b, c, d, e, f, g, i, rfl⟩ := hI
    exact ⟨rfl, fun δ' => h⟩
/-! from the hand layer's side -/
def spLaw (K : PySem.W.Frag) : Sp := fun vs H Q _ => ∃ (a : Addr) (ns : List Int), vs = [.ref a] ∧ SqL K H a (ns.map V.int) ∧ ns.length ≤ 63 ∧ ∀ H', Q (.bl true) H'
theorem done {fa : Addr} (T : Txt K mg A) (hm : mg "law" = some (.ref fa)) : ∀ base : Heap, K.In base → base.Ns mainGlobals mg → OkG P w K mg base 9 fa ["script"] (spLaw K) := by
  have e := T.mg_law.symm.trans hm
  obtain rfl : A.f_law = fa := by
    injection e with e
    injection e
  intro base _ _
  have G : OkG P w K mg base 9 A.f_law ["script"] (SpD K (cad A) gLaw) := ok_law T
  refine ⟨G.kp, fun B up s H us vs Q room gd e0 rv h => G.go B up s H us vs Q room gd e0 rv ?_⟩
  obtain ⟨a, ns, rfl, hS, hl, h⟩ := h
  exact SpD.flat (F := H) (ds := [.scr ns]) (Same.refl _) (.one (.scr hS)) ⟨ns, rfl, hl, _, rfl, fun v F' H' _ _ r => by
    obtain rfl := r.blI
    exact h _⟩

end
end Own

set_option Elab.async false
set_option linter.all false
set_option maxRecDepth 100000
set_option maxHeartbeats 4000000
namespace Own
open PySem L2 ClX PD
local macro_rules | `(tactic| walk_at "y") => `(tactic| first | (refine ifY ?e ?_; (case e => first | with_reducible rfl | decide +kernel)) | (refine bofE true ?e ?_; (case e => first | with_reducible rfl | decide +kernel)))
local macro_rules | `(tactic| walk_at "n") => `(tactic| first | (refine ifN ?e ?_; (case e => first | with_reducible rfl | decide +kernel)) | (refine bofE false ?e ?_; (case e => first | with_reducible rfl | decide +kernel)))
local macro_rules | `(tactic| walk_at "t") => `(tactic| (refine ifY ?e ?_; (case e => rfl)))
local macro_rules | `(tactic| walk_at "f") => `(tactic| (refine ifN ?e ?_; (case e => rfl)))
local macro_rules | `(tactic| walk_at "go") => `(tactic| repeat (first | walk_at "t" | walk_at "f"))
local macro_rules | `(tactic| walk_at "norm") => `(tactic| dsimp only [PD.dget, PD.dset, PD.wipeD, PD.putBack, PD.putOb, PD.reOb, PD.entryD, PD.nones, List.map, List.length, PD.stayD, PD.unwipeD])

theorem txt_mk {K : PySem.W.Frag} {h : Heap} {mg : Str → Option Value} {f_is_integer f_is_item f_is_items f_check_items f_check_index f_has_kind f_are_records f_is_log f_check_log f_sign_of f_is_fronted f_check_known f_rooms_of f_shifts_of f_certificates f_shows f__law_source f__law_pick f__law_mixed f__law_words f__law_made f__law_played f__law_history f__law_log f__law_pairs f__law_sides f__law_bent f__law_others f__law_told f__law_right f_law c_Record c_Inserted c_Removed c_Fronted c_NoItem c_NoIndex c_NoList c_NoLog c_NoText c_LogError m_Record___init__ m_Record_move_to m_Record___eq__ m_Record_item p_Record_item m_Record_slot p_Record_slot : Addr} (X : K.In h) (G : h.Ns mainGlobals mg)
    (a_is_integer : PySem.W.nsIn K mainGlobals "is_integer" = some (some (.ref f_is_integer)))
    (g_is_integer : FnT K "is_integer" "is_integer" s_is_integer f_is_integer)
    (a_is_item : PySem.W.nsIn K mainGlobals "is_item" = some (some (.ref f_is_item)))
    (g_is_item : FnT K "is_item" "is_item" s_is_item f_is_item)
    (a_is_items : PySem.W.nsIn K mainGlobals "is_items" = some (some (.ref f_is_items)))
    (g_is_items : FnT K "is_items" "is_items" s_is_items f_is_items)
    (a_check_items : PySem.W.nsIn K mainGlobals "check_items" = some (some (.ref f_check_items)))
    (g_check_items : FnT K "check_items" "check_items" s_check_items f_check_items)
    (a_check_index : PySem.W.nsIn K mainGlobals "check_index" = some (some (.ref f_check_index)))
    (g_check_index : FnT K "check_index" "check_index" s_check_index f_check_index)
    (a_has_kind : PySem.W.nsIn K mainGlobals "has_kind" = some (some (.ref f_has_kind)))
    (g_has_kind : FnT K "has_kind" "has_kind" s_has_kind f_has_kind)
    (a_are_records : PySem.W.nsIn K mainGlobals "are_records" = some (some (.ref f_are_records)))
    (g_are_records : FnT K "are_records" "are_records" s_are_records f_are_records)
    (a_is_log : PySem.W.nsIn K mainGlobals "is_log" = some (some (.ref f_is_log)))
    (g_is_log : FnT K "is_log" "is_log" s_is_log f_is_log)
    (a_check_log : PySem.W.nsIn K mainGlobals "check_log" = some (some (.ref f_check_log)))
    (g_check_log : FnT K "check_log" "check_log" s_check_log f_check_log)
    (a_sign_of : PySem.W.nsIn K mainGlobals "sign_of" = some (some (.ref f_sign_of)))
    (g_sign_of : FnT K "sign_of" "sign_of" s_sign_of f_sign_of)
    (a_is_fronted : PySem.W.nsIn K mainGlobals "is_fronted" = some (some (.ref f_is_fronted)))
    (g_is_fronted : FnT K "is_fronted" "is_fronted" s_is_fronted f_is_fronted)
    (a_check_known : PySem.W.nsIn K mainGlobals "check_known" = some (some (.ref f_check_known)))
    (g_check_known : FnT K "check_known" "check_known" s_check_known f_check_known)
    (a_rooms_of : PySem.W.nsIn K mainGlobals "rooms_of" = some (some (.ref f_rooms_of)))
    (g_rooms_of : FnT K "rooms_of" "rooms_of" s_rooms_of f_rooms_of)
    (a_shifts_of : PySem.W.nsIn K mainGlobals "shifts_of" = some (some (.ref f_shifts_of)))
    (g_shifts_of : FnT K "shifts_of" "shifts_of" s_shifts_of f_shifts_of)
    (a_certificates : PySem.W.nsIn K mainGlobals "certificates" = some (some (.ref f_certificates)))
    (g_certificates : FnT K "certificates" "certificates" s_certificates f_certificates)
    (a_shows : PySem.W.nsIn K mainGlobals "shows" = some (some (.ref f_shows)))
    (g_shows : FnT K "shows" "shows" s_shows f_shows)
    (a__law_source : PySem.W.nsIn K mainGlobals "_law_source" = some (some (.ref f__law_source)))
    (g__law_source : FnT K "_law_source" "_law_source" s__law_source f__law_source)
    (a__law_pick : PySem.W.nsIn K mainGlobals "_law_pick" = some (some (.ref f__law_pick)))
    (g__law_pick : FnT K "_law_pick" "_law_pick" s__law_pick f__law_pick)
    (a__law_mixed : PySem.W.nsIn K mainGlobals "_law_mixed" = some (some (.ref f__law_mixed)))
    (g__law_mixed : FnT K "_law_mixed" "_law_mixed" s__law_mixed f__law_mixed)
    (a__law_words : PySem.W.nsIn K mainGlobals "_law_words" = some (some (.ref f__law_words)))
    (g__law_words : FnT K "_law_words" "_law_words" s__law_words f__law_words)
    (a__law_made : PySem.W.nsIn K mainGlobals "_law_made" = some (some (.ref f__law_made)))
    (g__law_made : FnT K "_law_made" "_law_made" s__law_made f__law_made)
    (a__law_played : PySem.W.nsIn K mainGlobals "_law_played" = some (some (.ref f__law_played)))
    (g__law_played : FnT K "_law_played" "_law_played" s__law_played f__law_played)
    (a__law_history : PySem.W.nsIn K mainGlobals "_law_history" = some (some (.ref f__law_history)))
    (g__law_history : FnT K "_law_history" "_law_history" s__law_history f__law_history)
    (a__law_log : PySem.W.nsIn K mainGlobals "_law_log" = some (some (.ref f__law_log)))
    (g__law_log : FnT K "_law_log" "_law_log" s__law_log f__law_log)
    (a__law_pairs : PySem.W.nsIn K mainGlobals "_law_pairs" = some (some (.ref f__law_pairs)))
    (g__law_pairs : FnT K "_law_pairs" "_law_pairs" s__law_pairs f__law_pairs)
    (a__law_sides : PySem.W.nsIn K mainGlobals "_law_sides" = some (some (.ref f__law_sides)))
    (g__law_sides : FnT K "_law_sides" "_law_sides" s__law_sides f__law_sides)
    (a__law_bent : PySem.W.nsIn K mainGlobals "_law_bent" = some (some (.ref f__law_bent)))
    (g__law_bent : FnT K "_law_bent" "_law_bent" s__law_bent f__law_bent)
    (a__law_others : PySem.W.nsIn K mainGlobals "_law_others" = some (some (.ref f__law_others)))
    (g__law_others : FnT K "_law_others" "_law_others" s__law_others f__law_others)
    (a__law_told : PySem.W.nsIn K mainGlobals "_law_told" = some (some (.ref f__law_told)))
    (g__law_told : FnT K "_law_told" "_law_told" s__law_told f__law_told)
    (a__law_right : PySem.W.nsIn K mainGlobals "_law_right" = some (some (.ref f__law_right)))
    (g__law_right : FnT K "_law_right" "_law_right" s__law_right f__law_right)
    (a_law : PySem.W.nsIn K mainGlobals "law" = some (some (.ref f_law)))
    (g_law : FnT K "law" "law" s_law f_law)
    (a_Record : PySem.W.nsIn K mainGlobals "Record" = some (some (.ref c_Record)))
    (a_Inserted : PySem.W.nsIn K mainGlobals "Inserted" = some (some (.ref c_Inserted)))
    (a_Removed : PySem.W.nsIn K mainGlobals "Removed" = some (some (.ref c_Removed)))
    (a_Fronted : PySem.W.nsIn K mainGlobals "Fronted" = some (some (.ref c_Fronted)))
    (a_NoItem : PySem.W.nsIn K mainGlobals "NoItem" = some (some (.ref c_NoItem)))
    (a_NoIndex : PySem.W.nsIn K mainGlobals "NoIndex" = some (some (.ref c_NoIndex)))
    (a_NoList : PySem.W.nsIn K mainGlobals "NoList" = some (some (.ref c_NoList)))
    (a_NoLog : PySem.W.nsIn K mainGlobals "NoLog" = some (some (.ref c_NoLog)))
    (a_NoText : PySem.W.nsIn K mainGlobals "NoText" = some (some (.ref c_NoText)))
    (a_LogError : PySem.W.nsIn K mainGlobals "LogError" = some (some (.ref c_LogError)))
    (mk_Record : PySem.W.makesIn K c_Record = true)
    (in_Record : PySem.W.findIn K (.ref c_Record) "__init__" = some (some (.ref m_Record___init__)))
    (fi_Record : PySem.W.isFn K (.ref m_Record___init__) = true)
    (kc_Record : PySem.W.keepIn K (.ref c_Record) = true)
    (g_Record___init__ : FnT K "__init__" "Record.__init__" s_Record___init__ m_Record___init__)
    (pg_Record : PySem.W.plainGet K c_Record Str.empty = true)
    (hd_Record : PySem.W.hasDictIn K c_Record = true)
    (po_Record : PySem.W.plainOver K c_Record = true)
    (sa_Record : PySem.W.findIn K (.ref c_Record) "__setattr__" = some (some (.builtin "object.__setattr__")))
    (na_Record_item : PySem.W.findIn K (.ref c_Record) "_item" = some none)
    (na_Record_slot : PySem.W.findIn K (.ref c_Record) "_slot" = some none)
    (mk_Inserted : PySem.W.makesIn K c_Inserted = true)
    (in_Inserted : PySem.W.findIn K (.ref c_Inserted) "__init__" = some (some (.ref m_Record___init__)))
    (fi_Inserted : PySem.W.isFn K (.ref m_Record___init__) = true)
    (kc_Inserted : PySem.W.keepIn K (.ref c_Inserted) = true)
    (pg_Inserted : PySem.W.plainGet K c_Inserted Str.empty = true)
    (hd_Inserted : PySem.W.hasDictIn K c_Inserted = true)
    (po_Inserted : PySem.W.plainOver K c_Inserted = true)
    (sa_Inserted : PySem.W.findIn K (.ref c_Inserted) "__setattr__" = some (some (.builtin "object.__setattr__")))
    (na_Inserted_item : PySem.W.findIn K (.ref c_Inserted) "_item" = some none)
    (na_Inserted_slot : PySem.W.findIn K (.ref c_Inserted) "_slot" = some none)
    (mk_Removed : PySem.W.makesIn K c_Removed = true)
    (in_Removed : PySem.W.findIn K (.ref c_Removed) "__init__" = some (some (.ref m_Record___init__)))
    (fi_Removed : PySem.W.isFn K (.ref m_Record___init__) = true)
    (kc_Removed : PySem.W.keepIn K (.ref c_Removed) = true)
    (pg_Removed : PySem.W.plainGet K c_Removed Str.empty = true)
    (hd_Removed : PySem.W.hasDictIn K c_Removed = true)
    (po_Removed : PySem.W.plainOver K c_Removed = true)
    (sa_Removed : PySem.W.findIn K (.ref c_Removed) "__setattr__" = some (some (.builtin "object.__setattr__")))
    (na_Removed_item : PySem.W.findIn K (.ref c_Removed) "_item" = some none)
    (na_Removed_slot : PySem.W.findIn K (.ref c_Removed) "_slot" = some none)
    (mk_Fronted : PySem.W.makesIn K c_Fronted = true)
    (in_Fronted : PySem.W.findIn K (.ref c_Fronted) "__init__" = some (some (.ref m_Record___init__)))
    (fi_Fronted : PySem.W.isFn K (.ref m_Record___init__) = true)
    (kc_Fronted : PySem.W.keepIn K (.ref c_Fronted) = true)
    (pg_Fronted : PySem.W.plainGet K c_Fronted Str.empty = true)
    (hd_Fronted : PySem.W.hasDictIn K c_Fronted = true)
    (po_Fronted : PySem.W.plainOver K c_Fronted = true)
    (sa_Fronted : PySem.W.findIn K (.ref c_Fronted) "__setattr__" = some (some (.builtin "object.__setattr__")))
    (na_Fronted_item : PySem.W.findIn K (.ref c_Fronted) "_item" = some none)
    (na_Fronted_slot : PySem.W.findIn K (.ref c_Fronted) "_slot" = some none)
    (me_Record_move_to : PySem.W.findIn K (.ref c_Record) "move_to" = some (some (.ref m_Record_move_to)))
    (mf_Record_move_to : PySem.W.isFn K (.ref m_Record_move_to) = true)
    (mq_Record_move_to : PySem.W.keepIn K (.ref m_Record_move_to) = true)
    (g_Record_move_to : FnT K "move_to" "Record.move_to" s_Record_move_to m_Record_move_to)
    (me_Record___eq__ : PySem.W.findIn K (.ref c_Record) "__eq__" = some (some (.ref m_Record___eq__)))
    (mf_Record___eq__ : PySem.W.isFn K (.ref m_Record___eq__) = true)
    (mq_Record___eq__ : PySem.W.keepIn K (.ref m_Record___eq__) = true)
    (g_Record___eq__ : FnT K "__eq__" "Record.__eq__" s_Record___eq__ m_Record___eq__)
    (me_Inserted_move_to : PySem.W.findIn K (.ref c_Inserted) "move_to" = some (some (.ref m_Record_move_to)))
    (mf_Inserted_move_to : PySem.W.isFn K (.ref m_Record_move_to) = true)
    (mq_Inserted_move_to : PySem.W.keepIn K (.ref m_Record_move_to) = true)
    (me_Inserted___eq__ : PySem.W.findIn K (.ref c_Inserted) "__eq__" = some (some (.ref m_Record___eq__)))
    (mf_Inserted___eq__ : PySem.W.isFn K (.ref m_Record___eq__) = true)
    (mq_Inserted___eq__ : PySem.W.keepIn K (.ref m_Record___eq__) = true)
    (me_Removed_move_to : PySem.W.findIn K (.ref c_Removed) "move_to" = some (some (.ref m_Record_move_to)))
    (mf_Removed_move_to : PySem.W.isFn K (.ref m_Record_move_to) = true)
    (mq_Removed_move_to : PySem.W.keepIn K (.ref m_Record_move_to) = true)
    (me_Removed___eq__ : PySem.W.findIn K (.ref c_Removed) "__eq__" = some (some (.ref m_Record___eq__)))
    (mf_Removed___eq__ : PySem.W.isFn K (.ref m_Record___eq__) = true)
    (mq_Removed___eq__ : PySem.W.keepIn K (.ref m_Record___eq__) = true)
    (me_Fronted_move_to : PySem.W.findIn K (.ref c_Fronted) "move_to" = some (some (.ref m_Record_move_to)))
    (mf_Fronted_move_to : PySem.W.isFn K (.ref m_Record_move_to) = true)
    (mq_Fronted_move_to : PySem.W.keepIn K (.ref m_Record_move_to) = true)
    (me_Fronted___eq__ : PySem.W.findIn K (.ref c_Fronted) "__eq__" = some (some (.ref m_Record___eq__)))
    (mf_Fronted___eq__ : PySem.W.isFn K (.ref m_Record___eq__) = true)
    (mq_Fronted___eq__ : PySem.W.keepIn K (.ref m_Record___eq__) = true)
    (rd_Inserted : ∃ mc, ClX.CRead K c_Inserted mc)
    (rd_Removed : ∃ mc, ClX.CRead K c_Removed mc)
    (rd_Fronted : ∃ mc, ClX.CRead K c_Fronted mc)
    (rd_Record : ∃ mc, ClX.CRead K c_Record mc)
    (cv_Record_MOST : ∃ mc u, ClX.CRead K c_Record mc ∧ ClX.CVal K c_Record mc "MOST" (.int 60) u)
    (cv_Record_SIGN : ∃ mc u, ClX.CRead K c_Record mc ∧ ClX.CVal K c_Record mc "SIGN" (.str "") u)
    (cv_Inserted_SIGN : ∃ mc u, ClX.CRead K c_Inserted mc ∧ ClX.CVal K c_Inserted mc "SIGN" (.str "+") u)
    (cv_Removed_SIGN : ∃ mc u, ClX.CRead K c_Removed mc ∧ ClX.CVal K c_Removed mc "SIGN" (.str "-") u)
    (cv_Fronted_SIGN : ∃ mc u, ClX.CRead K c_Fronted mc ∧ ClX.CVal K c_Fronted mc "SIGN" (.str "^") u)
    (iv_Record_SIGN : ∃ u, Con K c_Record "SIGN" (.str "") u)
    (iv_Inserted_SIGN : ∃ u, Con K c_Inserted "SIGN" (.str "+") u)
    (iv_Removed_SIGN : ∃ u, Con K c_Removed "SIGN" (.str "-") u)
    (iv_Fronted_SIGN : ∃ u, Con K c_Fronted "SIGN" (.str "^") u)
    (mc_MOST_LETTERS : ∃ t, PySem.W.nsIn K mainGlobals "MOST_LETTERS" = some (some (.int 8 t)))
    (mc_MOST_ITEMS : ∃ t, PySem.W.nsIn K mainGlobals "MOST_ITEMS" = some (some (.int 60 t)))
    (mc_MOST_IN_LOG : ∃ t, PySem.W.nsIn K mainGlobals "MOST_IN_LOG" = some (some (.int 40 t)))
    (er_NoIndex : ErrT K c_NoIndex)
    (er_NoList : ErrT K c_NoList)
    (er_NoLog : ErrT K c_NoLog)
    (kit_type_NoneType_Inserted : PySem.W.kitOne K (.type "NoneType") (.ref c_Inserted) = some false)
    (kit_type_bool_Inserted : PySem.W.kitOne K (.type "bool") (.ref c_Inserted) = some false)
    (kit_type_int_Inserted : PySem.W.kitOne K (.type "int") (.ref c_Inserted) = some false)
    (kit_type_str_Inserted : PySem.W.kitOne K (.type "str") (.ref c_Inserted) = some false)
    (kit_type_list_Inserted : PySem.W.kitOne K (.type "list") (.ref c_Inserted) = some false)
    (kit_type_tuple_Inserted : PySem.W.kitOne K (.type "tuple") (.ref c_Inserted) = some false)
    (kit_type_dict_Inserted : PySem.W.kitOne K (.type "dict") (.ref c_Inserted) = some false)
    (kit_Record_Inserted : PySem.W.kitOne K (.ref c_Record) (.ref c_Inserted) = some false)
    (kit_Inserted_Inserted : PySem.W.kitOne K (.ref c_Inserted) (.ref c_Inserted) = some true)
    (kit_Removed_Inserted : PySem.W.kitOne K (.ref c_Removed) (.ref c_Inserted) = some false)
    (kit_Fronted_Inserted : PySem.W.kitOne K (.ref c_Fronted) (.ref c_Inserted) = some false)
    (kit_type_NoneType_Removed : PySem.W.kitOne K (.type "NoneType") (.ref c_Removed) = some false)
    (kit_type_bool_Removed : PySem.W.kitOne K (.type "bool") (.ref c_Removed) = some false)
    (kit_type_int_Removed : PySem.W.kitOne K (.type "int") (.ref c_Removed) = some false)
    (kit_type_str_Removed : PySem.W.kitOne K (.type "str") (.ref c_Removed) = some false)
    (kit_type_list_Removed : PySem.W.kitOne K (.type "list") (.ref c_Removed) = some false)
    (kit_type_tuple_Removed : PySem.W.kitOne K (.type "tuple") (.ref c_Removed) = some false)
    (kit_type_dict_Removed : PySem.W.kitOne K (.type "dict") (.ref c_Removed) = some false)
    (kit_Record_Removed : PySem.W.kitOne K (.ref c_Record) (.ref c_Removed) = some false)
    (kit_Inserted_Removed : PySem.W.kitOne K (.ref c_Inserted) (.ref c_Removed) = some false)
    (kit_Removed_Removed : PySem.W.kitOne K (.ref c_Removed) (.ref c_Removed) = some true)
    (kit_Fronted_Removed : PySem.W.kitOne K (.ref c_Fronted) (.ref c_Removed) = some false)
    (kit_type_NoneType_Fronted : PySem.W.kitOne K (.type "NoneType") (.ref c_Fronted) = some false)
    (kit_type_bool_Fronted : PySem.W.kitOne K (.type "bool") (.ref c_Fronted) = some false)
    (kit_type_int_Fronted : PySem.W.kitOne K (.type "int") (.ref c_Fronted) = some false)
    (kit_type_str_Fronted : PySem.W.kitOne K (.type "str") (.ref c_Fronted) = some false)
    (kit_type_list_Fronted : PySem.W.kitOne K (.type "list") (.ref c_Fronted) = some false)
    (kit_type_tuple_Fronted : PySem.W.kitOne K (.type "tuple") (.ref c_Fronted) = some false)
    (kit_type_dict_Fronted : PySem.W.kitOne K (.type "dict") (.ref c_Fronted) = some false)
    (kit_Record_Fronted : PySem.W.kitOne K (.ref c_Record) (.ref c_Fronted) = some false)
    (kit_Inserted_Fronted : PySem.W.kitOne K (.ref c_Inserted) (.ref c_Fronted) = some false)
    (kit_Removed_Fronted : PySem.W.kitOne K (.ref c_Removed) (.ref c_Fronted) = some false)
    (kit_Fronted_Fronted : PySem.W.kitOne K (.ref c_Fronted) (.ref c_Fronted) = some true)
    (kit_type_NoneType_Record : PySem.W.kitOne K (.type "NoneType") (.ref c_Record) = some false)
    (kit_type_bool_Record : PySem.W.kitOne K (.type "bool") (.ref c_Record) = some false)
    (kit_type_int_Record : PySem.W.kitOne K (.type "int") (.ref c_Record) = some false)
    (kit_type_str_Record : PySem.W.kitOne K (.type "str") (.ref c_Record) = some false)
    (kit_type_list_Record : PySem.W.kitOne K (.type "list") (.ref c_Record) = some false)
    (kit_type_tuple_Record : PySem.W.kitOne K (.type "tuple") (.ref c_Record) = some false)
    (kit_type_dict_Record : PySem.W.kitOne K (.type "dict") (.ref c_Record) = some false)
    (kit_Record_Record : PySem.W.kitOne K (.ref c_Record) (.ref c_Record) = some true)
    (kit_Inserted_Record : PySem.W.kitOne K (.ref c_Inserted) (.ref c_Record) = some true)
    (kit_Removed_Record : PySem.W.kitOne K (.ref c_Removed) (.ref c_Record) = some true)
    (kit_Fronted_Record : PySem.W.kitOne K (.ref c_Fronted) (.ref c_Record) = some true)
    (kit_Record_type_list : PySem.W.kitOne K (.ref c_Record) (.type "list") = some false)
    (kit_Inserted_type_list : PySem.W.kitOne K (.ref c_Inserted) (.type "list") = some false)
    (kit_Removed_type_list : PySem.W.kitOne K (.ref c_Removed) (.type "list") = some false)
    (kit_Fronted_type_list : PySem.W.kitOne K (.ref c_Fronted) (.type "list") = some false)
    (kit_Record_type_str : PySem.W.kitOne K (.ref c_Record) (.type "str") = some false)
    (kit_Inserted_type_str : PySem.W.kitOne K (.ref c_Inserted) (.type "str") = some false)
    (kit_Removed_type_str : PySem.W.kitOne K (.ref c_Removed) (.type "str") = some false)
    (kit_Fronted_type_str : PySem.W.kitOne K (.ref c_Fronted) (.type "str") = some false)
    (kit_Record_type_int : PySem.W.kitOne K (.ref c_Record) (.type "int") = some false)
    (kit_Inserted_type_int : PySem.W.kitOne K (.ref c_Inserted) (.type "int") = some false)
    (kit_Removed_type_int : PySem.W.kitOne K (.ref c_Removed) (.type "int") = some false)
    (kit_Fronted_type_int : PySem.W.kitOne K (.ref c_Fronted) (.type "int") = some false)
    (kit_Record_type_bool : PySem.W.kitOne K (.ref c_Record) (.type "bool") = some false)
    (kit_Inserted_type_bool : PySem.W.kitOne K (.ref c_Inserted) (.type "bool") = some false)
    (kit_Removed_type_bool : PySem.W.kitOne K (.ref c_Removed) (.type "bool") = some false)
    (kit_Fronted_type_bool : PySem.W.kitOne K (.ref c_Fronted) (.type "bool") = some false)
    (pr_Record_item : PropOf K c_Record "item" p_Record_item m_Record_item)
    (g_Record_item : FnT K "item" "Record.item" s_Record_item m_Record_item)
    (pr_Record_slot : PropOf K c_Record "slot" p_Record_slot m_Record_slot)
    (g_Record_slot : FnT K "slot" "Record.slot" s_Record_slot m_Record_slot)
    (pr_Inserted_item : PropOf K c_Inserted "item" p_Record_item m_Record_item)
    (pr_Inserted_slot : PropOf K c_Inserted "slot" p_Record_slot m_Record_slot)
    (pr_Removed_item : PropOf K c_Removed "item" p_Record_item m_Record_item)
    (pr_Removed_slot : PropOf K c_Removed "slot" p_Record_slot m_Record_slot)
    (pr_Fronted_item : PropOf K c_Fronted "item" p_Record_item m_Record_item)
    (pr_Fronted_slot : PropOf K c_Fronted "slot" p_Record_slot m_Record_slot)
    (ty_Record : InsT K c_Record)
    (ty_Inserted : InsT K c_Inserted)
    (ty_Removed : InsT K c_Removed)
    (ty_Fronted : InsT K c_Fronted)
    (no_abs : PySem.W.nsIn K mainGlobals "abs" = some none)
    (no_all : PySem.W.nsIn K mainGlobals "all" = some none)
    (no_bool : PySem.W.nsIn K mainGlobals "bool" = some none)
    (no_dict : PySem.W.nsIn K mainGlobals "dict" = some none)
    (no_enumerate : PySem.W.nsIn K mainGlobals "enumerate" = some none)
    (no_int : PySem.W.nsIn K mainGlobals "int" = some none)
    (no_isinstance : PySem.W.nsIn K mainGlobals "isinstance" = some none)
    (no_len : PySem.W.nsIn K mainGlobals "len" = some none)
    (no_list : PySem.W.nsIn K mainGlobals "list" = some none)
    (no_max : PySem.W.nsIn K mainGlobals "max" = some none)
    (no_min : PySem.W.nsIn K mainGlobals "min" = some none)
    (no_property : PySem.W.nsIn K mainGlobals "property" = some none)
    (no_range : PySem.W.nsIn K mainGlobals "range" = some none)
    (no_repr : PySem.W.nsIn K mainGlobals "repr" = some none)
    (no_set : PySem.W.nsIn K mainGlobals "set" = some none)
    (no_str : PySem.W.nsIn K mainGlobals "str" = some none)
    (ow_Record : OwnC K c_Record m_Record___eq__)
    (ow_Inserted : OwnC K c_Inserted m_Record___eq__)
    (ow_Removed : OwnC K c_Removed m_Record___eq__)
    (ow_Fronted : OwnC K c_Fronted m_Record___eq__)
    (su_Inserted_Record : PySem.W.subIn K (.ref c_Inserted) (.ref c_Record) = some true)
    (su_Removed_Record : PySem.W.subIn K (.ref c_Removed) (.ref c_Record) = some true)
    (su_Fronted_Record : PySem.W.subIn K (.ref c_Fronted) (.ref c_Record) = some true)
    (su_Record_Inserted : PySem.W.subIn K (.ref c_Record) (.ref c_Inserted) = some false)
    (su_Removed_Inserted : PySem.W.subIn K (.ref c_Removed) (.ref c_Inserted) = some false)
    (su_Fronted_Inserted : PySem.W.subIn K (.ref c_Fronted) (.ref c_Inserted) = some false)
    (su_Record_Removed : PySem.W.subIn K (.ref c_Record) (.ref c_Removed) = some false)
    (su_Inserted_Removed : PySem.W.subIn K (.ref c_Inserted) (.ref c_Removed) = some false)
    (su_Fronted_Removed : PySem.W.subIn K (.ref c_Fronted) (.ref c_Removed) = some false)
    (su_Record_Fronted : PySem.W.subIn K (.ref c_Record) (.ref c_Fronted) = some false)
    (su_Inserted_Fronted : PySem.W.subIn K (.ref c_Inserted) (.ref c_Fronted) = some false)
    (su_Removed_Fronted : PySem.W.subIn K (.ref c_Removed) (.ref c_Fronted) = some false)
    : Txt K mg ⟨f_is_integer, f_is_item, f_is_items, f_check_items, f_check_index, f_has_kind, f_are_records, f_is_log, f_check_log, f_sign_of, f_is_fronted, f_check_known, f_rooms_of, f_shifts_of, f_certificates, f_shows, f__law_source, f__law_pick, f__law_mixed, f__law_words, f__law_made, f__law_played, f__law_history, f__law_log, f__law_pairs, f__law_sides, f__law_bent, f__law_others, f__law_told, f__law_right, f_law, c_Record, c_Inserted, c_Removed, c_Fronted, c_NoItem, c_NoIndex, c_NoList, c_NoLog, c_NoText, c_LogError, m_Record___init__, m_Record_move_to, m_Record___eq__, m_Record_item, p_Record_item, m_Record_slot, p_Record_slot⟩ :=
  {
    mg_is_integer := PySem.W.mg_of X G a_is_integer
    fn_is_integer := g_is_integer
    mg_is_item := PySem.W.mg_of X G a_is_item
    fn_is_item := g_is_item
    mg_is_items := PySem.W.mg_of X G a_is_items
    fn_is_items := g_is_items
    mg_check_items := PySem.W.mg_of X G a_check_items
    fn_check_items := g_check_items
    mg_check_index := PySem.W.mg_of X G a_check_index
    fn_check_index := g_check_index
    mg_has_kind := PySem.W.mg_of X G a_has_kind
    fn_has_kind := g_has_kind
    mg_are_records := PySem.W.mg_of X G a_are_records
    fn_are_records := g_are_records
    mg_is_log := PySem.W.mg_of X G a_is_log
    fn_is_log := g_is_log
    mg_check_log := PySem.W.mg_of X G a_check_log
    fn_check_log := g_check_log
    mg_sign_of := PySem.W.mg_of X G a_sign_of
    fn_sign_of := g_sign_of
    mg_is_fronted := PySem.W.mg_of X G a_is_fronted
    fn_is_fronted := g_is_fronted
    mg_check_known := PySem.W.mg_of X G a_check_known
    fn_check_known := g_check_known
    mg_rooms_of := PySem.W.mg_of X G a_rooms_of
    fn_rooms_of := g_rooms_of
    mg_shifts_of := PySem.W.mg_of X G a_shifts_of
    fn_shifts_of := g_shifts_of
    mg_certificates := PySem.W.mg_of X G a_certificates
    fn_certificates := g_certificates
    mg_shows := PySem.W.mg_of X G a_shows
    fn_shows := g_shows
    mg__law_source := PySem.W.mg_of X G a__law_source
    fn__law_source := g__law_source
    mg__law_pick := PySem.W.mg_of X G a__law_pick
    fn__law_pick := g__law_pick
    mg__law_mixed := PySem.W.mg_of X G a__law_mixed
    fn__law_mixed := g__law_mixed
    mg__law_words := PySem.W.mg_of X G a__law_words
    fn__law_words := g__law_words
    mg__law_made := PySem.W.mg_of X G a__law_made
    fn__law_made := g__law_made
    mg__law_played := PySem.W.mg_of X G a__law_played
    fn__law_played := g__law_played
    mg__law_history := PySem.W.mg_of X G a__law_history
    fn__law_history := g__law_history
    mg__law_log := PySem.W.mg_of X G a__law_log
    fn__law_log := g__law_log
    mg__law_pairs := PySem.W.mg_of X G a__law_pairs
    fn__law_pairs := g__law_pairs
    mg__law_sides := PySem.W.mg_of X G a__law_sides
    fn__law_sides := g__law_sides
    mg__law_bent := PySem.W.mg_of X G a__law_bent
    fn__law_bent := g__law_bent
    mg__law_others := PySem.W.mg_of X G a__law_others
    fn__law_others := g__law_others
    mg__law_told := PySem.W.mg_of X G a__law_told
    fn__law_told := g__law_told
    mg__law_right := PySem.W.mg_of X G a__law_right
    fn__law_right := g__law_right
    mg_law := PySem.W.mg_of X G a_law
    fn_law := g_law
    mg_Record := PySem.W.mg_of X G a_Record
    mg_Inserted := PySem.W.mg_of X G a_Inserted
    mg_Removed := PySem.W.mg_of X G a_Removed
    mg_Fronted := PySem.W.mg_of X G a_Fronted
    mg_NoItem := PySem.W.mg_of X G a_NoItem
    mg_NoIndex := PySem.W.mg_of X G a_NoIndex
    mg_NoList := PySem.W.mg_of X G a_NoList
    mg_NoLog := PySem.W.mg_of X G a_NoLog
    mg_NoText := PySem.W.mg_of X G a_NoText
    mg_LogError := PySem.W.mg_of X G a_LogError
    mk_Record := ⟨mk_Record, in_Record, fi_Record, kc_Record⟩
    fn_Record___init__ := g_Record___init__
    cl_Record := ⟨pg_Record, hd_Record, po_Record, sa_Record⟩
    na_Record_item := na_Record_item
    na_Record_slot := na_Record_slot
    mk_Inserted := ⟨mk_Inserted, in_Inserted, fi_Inserted, kc_Inserted⟩
    cl_Inserted := ⟨pg_Inserted, hd_Inserted, po_Inserted, sa_Inserted⟩
    na_Inserted_item := na_Inserted_item
    na_Inserted_slot := na_Inserted_slot
    mk_Removed := ⟨mk_Removed, in_Removed, fi_Removed, kc_Removed⟩
    cl_Removed := ⟨pg_Removed, hd_Removed, po_Removed, sa_Removed⟩
    na_Removed_item := na_Removed_item
    na_Removed_slot := na_Removed_slot
    mk_Fronted := ⟨mk_Fronted, in_Fronted, fi_Fronted, kc_Fronted⟩
    cl_Fronted := ⟨pg_Fronted, hd_Fronted, po_Fronted, sa_Fronted⟩
    na_Fronted_item := na_Fronted_item
    na_Fronted_slot := na_Fronted_slot
    me_Record_move_to := ⟨me_Record_move_to, mf_Record_move_to, mq_Record_move_to⟩
    fn_Record_move_to := g_Record_move_to
    me_Record___eq__ := ⟨me_Record___eq__, mf_Record___eq__, mq_Record___eq__⟩
    fn_Record___eq__ := g_Record___eq__
    me_Inserted_move_to := ⟨me_Inserted_move_to, mf_Inserted_move_to, mq_Inserted_move_to⟩
    me_Inserted___eq__ := ⟨me_Inserted___eq__, mf_Inserted___eq__, mq_Inserted___eq__⟩
    me_Removed_move_to := ⟨me_Removed_move_to, mf_Removed_move_to, mq_Removed_move_to⟩
    me_Removed___eq__ := ⟨me_Removed___eq__, mf_Removed___eq__, mq_Removed___eq__⟩
    me_Fronted_move_to := ⟨me_Fronted_move_to, mf_Fronted_move_to, mq_Fronted_move_to⟩
    me_Fronted___eq__ := ⟨me_Fronted___eq__, mf_Fronted___eq__, mq_Fronted___eq__⟩
    cv_Record_MOST := cv_Record_MOST
    cv_Record_SIGN := cv_Record_SIGN
    cv_Inserted_SIGN := cv_Inserted_SIGN
    cv_Removed_SIGN := cv_Removed_SIGN
    cv_Fronted_SIGN := cv_Fronted_SIGN
    iv_Record_SIGN := iv_Record_SIGN
    iv_Inserted_SIGN := iv_Inserted_SIGN
    iv_Removed_SIGN := iv_Removed_SIGN
    iv_Fronted_SIGN := iv_Fronted_SIGN
    mg_MOST_LETTERS := let ⟨t, h⟩ := mc_MOST_LETTERS; ⟨t, PySem.W.mg_of X G h⟩
    mg_MOST_ITEMS := let ⟨t, h⟩ := mc_MOST_ITEMS; ⟨t, PySem.W.mg_of X G h⟩
    mg_MOST_IN_LOG := let ⟨t, h⟩ := mc_MOST_IN_LOG; ⟨t, PySem.W.mg_of X G h⟩
    er_NoIndex := er_NoIndex
    er_NoList := er_NoList
    er_NoLog := er_NoLog
    kit_type_NoneType_Inserted := kit_type_NoneType_Inserted
    kit_type_bool_Inserted := kit_type_bool_Inserted
    kit_type_int_Inserted := kit_type_int_Inserted
    kit_type_str_Inserted := kit_type_str_Inserted
    kit_type_list_Inserted := kit_type_list_Inserted
    kit_type_tuple_Inserted := kit_type_tuple_Inserted
    kit_type_dict_Inserted := kit_type_dict_Inserted
    kit_Record_Inserted := kit_Record_Inserted
    kit_Inserted_Inserted := kit_Inserted_Inserted
    kit_Removed_Inserted := kit_Removed_Inserted
    kit_Fronted_Inserted := kit_Fronted_Inserted
    kit_type_NoneType_Removed := kit_type_NoneType_Removed
    kit_type_bool_Removed := kit_type_bool_Removed
    kit_type_int_Removed := kit_type_int_Removed
    kit_type_str_Removed := kit_type_str_Removed
    kit_type_list_Removed := kit_type_list_Removed
    kit_type_tuple_Removed := kit_type_tuple_Removed
    kit_type_dict_Removed := kit_type_dict_Removed
    kit_Record_Removed := kit_Record_Removed
    kit_Inserted_Removed := kit_Inserted_Removed
    kit_Removed_Removed := kit_Removed_Removed
    kit_Fronted_Removed := kit_Fronted_Removed
    kit_type_NoneType_Fronted := kit_type_NoneType_Fronted
    kit_type_bool_Fronted := kit_type_bool_Fronted
    kit_type_int_Fronted := kit_type_int_Fronted
    kit_type_str_Fronted := kit_type_str_Fronted
    kit_type_list_Fronted := kit_type_list_Fronted
    kit_type_tuple_Fronted := kit_type_tuple_Fronted
    kit_type_dict_Fronted := kit_type_dict_Fronted
    kit_Record_Fronted := kit_Record_Fronted
    kit_Inserted_Fronted := kit_Inserted_Fronted
    kit_Removed_Fronted := kit_Removed_Fronted
    kit_Fronted_Fronted := kit_Fronted_Fronted
    kit_type_NoneType_Record := kit_type_NoneType_Record
    kit_type_bool_Record := kit_type_bool_Record
    kit_type_int_Record := kit_type_int_Record
    kit_type_str_Record := kit_type_str_Record
    kit_type_list_Record := kit_type_list_Record
    kit_type_tuple_Record := kit_type_tuple_Record
    kit_type_dict_Record := kit_type_dict_Record
    kit_Record_Record := kit_Record_Record
    kit_Inserted_Record := kit_Inserted_Record
    kit_Removed_Record := kit_Removed_Record
    kit_Fronted_Record := kit_Fronted_Record
    kit_Record_type_list := kit_Record_type_list
    kit_Inserted_type_list := kit_Inserted_type_list
    kit_Removed_type_list := kit_Removed_type_list
    kit_Fronted_type_list := kit_Fronted_type_list
    kit_Record_type_str := kit_Record_type_str
    kit_Inserted_type_str := kit_Inserted_type_str
    kit_Removed_type_str := kit_Removed_type_str
    kit_Fronted_type_str := kit_Fronted_type_str
    kit_Record_type_int := kit_Record_type_int
    kit_Inserted_type_int := kit_Inserted_type_int
    kit_Removed_type_int := kit_Removed_type_int
    kit_Fronted_type_int := kit_Fronted_type_int
    kit_Record_type_bool := kit_Record_type_bool
    kit_Inserted_type_bool := kit_Inserted_type_bool
    kit_Removed_type_bool := kit_Removed_type_bool
    kit_Fronted_type_bool := kit_Fronted_type_bool
    pr_Record_item := pr_Record_item
    fn_Record_item := g_Record_item
    pr_Record_slot := pr_Record_slot
    fn_Record_slot := g_Record_slot
    pr_Inserted_item := pr_Inserted_item
    pr_Inserted_slot := pr_Inserted_slot
    pr_Removed_item := pr_Removed_item
    pr_Removed_slot := pr_Removed_slot
    pr_Fronted_item := pr_Fronted_item
    pr_Fronted_slot := pr_Fronted_slot
    ty_Record := ty_Record
    ty_Inserted := ty_Inserted
    ty_Removed := ty_Removed
    ty_Fronted := ty_Fronted
    no_abs := PySem.W.mg_none_of X G no_abs
    no_all := PySem.W.mg_none_of X G no_all
    no_bool := PySem.W.mg_none_of X G no_bool
    no_dict := PySem.W.mg_none_of X G no_dict
    no_enumerate := PySem.W.mg_none_of X G no_enumerate
    no_int := PySem.W.mg_none_of X G no_int
    no_isinstance := PySem.W.mg_none_of X G no_isinstance
    no_len := PySem.W.mg_none_of X G no_len
    no_list := PySem.W.mg_none_of X G no_list
    no_max := PySem.W.mg_none_of X G no_max
    no_min := PySem.W.mg_none_of X G no_min
    no_property := PySem.W.mg_none_of X G no_property
    no_range := PySem.W.mg_none_of X G no_range
    no_repr := PySem.W.mg_none_of X G no_repr
    no_set := PySem.W.mg_none_of X G no_set
    no_str := PySem.W.mg_none_of X G no_str
    ow_Record := ow_Record
    ow_Inserted := ow_Inserted
    ow_Removed := ow_Removed
    ow_Fronted := ow_Fronted
    su_Inserted_Record := su_Inserted_Record
    su_Removed_Record := su_Removed_Record
    su_Fronted_Record := su_Fronted_Record
    su_Record_Inserted := su_Record_Inserted
    su_Removed_Inserted := su_Removed_Inserted
    su_Fronted_Inserted := su_Fronted_Inserted
    su_Record_Removed := su_Record_Removed
    su_Inserted_Removed := su_Inserted_Removed
    su_Fronted_Removed := su_Fronted_Removed
    su_Record_Fronted := su_Record_Fronted
    su_Inserted_Fronted := su_Inserted_Fronted
    su_Removed_Fronted := su_Removed_Fronted }

end Own

open PySem PySem.W PyProof.Rows in
set_option maxRecDepth 100000 in
set_option maxHeartbeats 0 in
theorem PySem.Challenge.cw_indexlogs_k27_certificates_judged_holds : PySem.Challenge.rw_indexlogs_k27_certificates_judged.Holds := by
  w_on; o_law; k_head; (case hw => w_witness2)
  k_fill
  refine L2.walkG (l := PySem.Challenge.rw_indexlogs_k27_certificates_judged) (n := 63) (k := 9) (sp := Own.spLaw) rfl (by decide) rfl ⟨rfl, by decide, by decide⟩ (fun w h Y => PySem.W.kIn_of Y) ?F fun K H a ns hl hS => ⟨a, ns, rfl, hS, hl, fun _ => rfl⟩
  case F =>
    intro w mg fa h KX G hmg
    refine' Own.done (Own.txt_mk KX G ?a_is_integer ?g_is_integer ?a_is_item ?g_is_item ?a_is_items ?g_is_items ?a_check_items ?g_check_items ?a_check_index ?g_check_index ?a_has_kind ?g_has_kind ?a_are_records ?g_are_records ?a_is_log ?g_is_log ?a_check_log ?g_check_log ?a_sign_of ?g_sign_of ?a_is_fronted ?g_is_fronted ?a_check_known ?g_check_known ?a_rooms_of ?g_rooms_of ?a_shifts_of ?g_shifts_of ?a_certificates ?g_certificates ?a_shows ?g_shows ?a__law_source ?g__law_source ?a__law_pick ?g__law_pick ?a__law_mixed ?g__law_mixed ?a__law_words ?g__law_words ?a__law_made ?g__law_made ?a__law_played ?g__law_played ?a__law_history ?g__law_history ?a__law_log ?g__law_log ?a__law_pairs ?g__law_pairs ?a__law_sides ?g__law_sides ?a__law_bent ?g__law_bent ?a__law_others ?g__law_others ?a__law_told ?g__law_told ?a__law_right ?g__law_right ?a_law ?g_law ?a_Record ?a_Inserted ?a_Removed ?a_Fronted ?a_NoItem ?a_NoIndex ?a_NoList ?a_NoLog ?a_NoText ?a_LogError ?mk_Record ?in_Record ?fi_Record ?kc_Record ?g_Record___init__ ?pg_Record ?hd_Record ?po_Record ?sa_Record ?na_Record_item ?na_Record_slot ?mk_Inserted ?in_Inserted ?fi_Inserted ?kc_Inserted ?pg_Inserted ?hd_Inserted ?po_Inserted ?sa_Inserted ?na_Inserted_item ?na_Inserted_slot ?mk_Removed ?in_Removed ?fi_Removed ?kc_Removed ?pg_Removed ?hd_Removed ?po_Removed ?sa_Removed ?na_Removed_item ?na_Removed_slot ?mk_Fronted ?in_Fronted ?fi_Fronted ?kc_Fronted ?pg_Fronted ?hd_Fronted ?po_Fronted ?sa_Fronted ?na_Fronted_item ?na_Fronted_slot ?me_Record_move_to ?mf_Record_move_to ?mq_Record_move_to ?g_Record_move_to ?me_Record___eq__ ?mf_Record___eq__ ?mq_Record___eq__ ?g_Record___eq__ ?me_Inserted_move_to ?mf_Inserted_move_to ?mq_Inserted_move_to ?me_Inserted___eq__ ?mf_Inserted___eq__ ?mq_Inserted___eq__ ?me_Removed_move_to ?mf_Removed_move_to ?mq_Removed_move_to ?me_Removed___eq__ ?mf_Removed___eq__ ?mq_Removed___eq__ ?me_Fronted_move_to ?mf_Fronted_move_to ?mq_Fronted_move_to ?me_Fronted___eq__ ?mf_Fronted___eq__ ?mq_Fronted___eq__ ?rd_Inserted ?rd_Removed ?rd_Fronted ?rd_Record ?cv_Record_MOST ?cv_Record_SIGN ?cv_Inserted_SIGN ?cv_Removed_SIGN ?cv_Fronted_SIGN ?iv_Record_SIGN ?iv_Inserted_SIGN ?iv_Removed_SIGN ?iv_Fronted_SIGN ?mc_MOST_LETTERS ?mc_MOST_ITEMS ?mc_MOST_IN_LOG ?er_NoIndex ?er_NoList ?er_NoLog ?kit_type_NoneType_Inserted ?kit_type_bool_Inserted ?kit_type_int_Inserted ?kit_type_str_Inserted ?kit_type_list_Inserted ?kit_type_tuple_Inserted ?kit_type_dict_Inserted ?kit_Record_Inserted ?kit_Inserted_Inserted ?kit_Removed_Inserted ?kit_Fronted_Inserted ?kit_type_NoneType_Removed ?kit_type_bool_Removed ?kit_type_int_Removed ?kit_type_str_Removed ?kit_type_list_Removed ?kit_type_tuple_Removed ?kit_type_dict_Removed ?kit_Record_Removed ?kit_Inserted_Removed ?kit_Removed_Removed ?kit_Fronted_Removed ?kit_type_NoneType_Fronted ?kit_type_bool_Fronted ?kit_type_int_Fronted ?kit_type_str_Fronted ?kit_type_list_Fronted ?kit_type_tuple_Fronted ?kit_type_dict_Fronted ?kit_Record_Fronted ?kit_Inserted_Fronted ?kit_Removed_Fronted ?kit_Fronted_Fronted ?kit_type_NoneType_Record ?kit_type_bool_Record ?kit_type_int_Record ?kit_type_str_Record ?kit_type_list_Record ?kit_type_tuple_Record ?kit_type_dict_Record ?kit_Record_Record ?kit_Inserted_Record ?kit_Removed_Record ?kit_Fronted_Record ?kit_Record_type_list ?kit_Inserted_type_list ?kit_Removed_type_list ?kit_Fronted_type_list ?kit_Record_type_str ?kit_Inserted_type_str ?kit_Removed_type_str ?kit_Fronted_type_str ?kit_Record_type_int ?kit_Inserted_type_int ?kit_Removed_type_int ?kit_Fronted_type_int ?kit_Record_type_bool ?kit_Inserted_type_bool ?kit_Removed_type_bool ?kit_Fronted_type_bool ?pr_Record_item ?g_Record_item ?pr_Record_slot ?g_Record_slot ?pr_Inserted_item ?pr_Inserted_slot ?pr_Removed_item ?pr_Removed_slot ?pr_Fronted_item ?pr_Fronted_slot ?ty_Record ?ty_Inserted ?ty_Removed ?ty_Fronted ?no_abs ?no_all ?no_bool ?no_dict ?no_enumerate ?no_int ?no_isinstance ?no_len ?no_list ?no_max ?no_min ?no_property ?no_range ?no_repr ?no_set ?no_str ?ow_Record ?ow_Inserted ?ow_Removed ?ow_Fronted ?su_Inserted_Record ?su_Removed_Record ?su_Fronted_Record ?su_Record_Inserted ?su_Removed_Inserted ?su_Fronted_Inserted ?su_Record_Removed ?su_Inserted_Removed ?su_Fronted_Removed ?su_Record_Fronted ?su_Inserted_Fronted ?su_Removed_Fronted) hmg
    (case a_is_integer => k_is)
    (case g_is_integer => (refine' L2.fnT_mk ?l ?c ?k; (case l => k_is); (case c => k_is); (case k => k_is)))
    (case a_is_item => k_is)
    (case g_is_item => (refine' L2.fnT_mk ?l ?c ?k; (case l => k_is); (case c => k_is); (case k => k_is)))
    (case a_is_items => k_is)
    (case g_is_items => (refine' L2.fnT_mk ?l ?c ?k; (case l => k_is); (case c => k_is); (case k => k_is)))
    (case a_check_items => k_is)
    (case g_check_items => (refine' L2.fnT_mk ?l ?c ?k; (case l => k_is); (case c => k_is); (case k => k_is)))
    (case a_check_index => k_is)
    (case g_check_index => (refine' L2.fnT_mk ?l ?c ?k; (case l => k_is); (case c => k_is); (case k => k_is)))
    (case a_has_kind => k_is)
    (case g_has_kind => (refine' L2.fnT_mk ?l ?c ?k; (case l => k_is); (case c => k_is); (case k => k_is)))
    (case a_are_records => k_is)
    (case g_are_records => (refine' L2.fnT_mk ?l ?c ?k; (case l => k_is); (case c => k_is); (case k => k_is)))
    (case a_is_log => k_is)
    (case g_is_log => (refine' L2.fnT_mk ?l ?c ?k; (case l => k_is); (case c => k_is); (case k => k_is)))
    (case a_check_log => k_is)
    (case g_check_log => (refine' L2.fnT_mk ?l ?c ?k; (case l => k_is); (case c => k_is); (case k => k_is)))
    (case a_sign_of => k_is)
    (case g_sign_of => (refine' L2.fnT_mk ?l ?c ?k; (case l => k_is); (case c => k_is); (case k => k_is)))
    (case a_is_fronted => k_is)
    (case g_is_fronted => (refine' L2.fnT_mk ?l ?c ?k; (case l => k_is); (case c => k_is); (case k => k_is)))
    (case a_check_known => k_is)
    (case g_check_known => (refine' L2.fnT_mk ?l ?c ?k; (case l => k_is); (case c => k_is); (case k => k_is)))
    (case a_rooms_of => k_is)
    (case g_rooms_of => (refine' L2.fnT_mk ?l ?c ?k; (case l => k_is); (case c => k_is); (case k => k_is)))
    (case a_shifts_of => k_is)
    (case g_shifts_of => (refine' L2.fnT_mk ?l ?c ?k; (case l => k_is); (case c => k_is); (case k => k_is)))
    (case a_certificates => k_is)
    (case g_certificates => (refine' L2.fnT_mk ?l ?c ?k; (case l => k_is); (case c => k_is); (case k => k_is)))
    (case a_shows => k_is)
    (case g_shows => (refine' L2.fnT_mk ?l ?c ?k; (case l => k_is); (case c => k_is); (case k => k_is)))
    (case a__law_source => k_is)
    (case g__law_source => (refine' L2.fnT_mk ?l ?c ?k; (case l => k_is); (case c => k_is); (case k => k_is)))
    (case a__law_pick => k_is)
    (case g__law_pick => (refine' L2.fnT_mk ?l ?c ?k; (case l => k_is); (case c => k_is); (case k => k_is)))
    (case a__law_mixed => k_is)
    (case g__law_mixed => (refine' L2.fnT_mk ?l ?c ?k; (case l => k_is); (case c => k_is); (case k => k_is)))
    (case a__law_words => k_is)
    (case g__law_words => (refine' L2.fnT_mk ?l ?c ?k; (case l => k_is); (case c => k_is); (case k => k_is)))
    (case a__law_made => k_is)
    (case g__law_made => (refine' L2.fnT_mk ?l ?c ?k; (case l => k_is); (case c => k_is); (case k => k_is)))
    (case a__law_played => k_is)
    (case g__law_played => (refine' L2.fnT_mk ?l ?c ?k; (case l => k_is); (case c => k_is); (case k => k_is)))
    (case a__law_history => k_is)
    (case g__law_history => (refine' L2.fnT_mk ?l ?c ?k; (case l => k_is); (case c => k_is); (case k => k_is)))
    (case a__law_log => k_is)
    (case g__law_log => (refine' L2.fnT_mk ?l ?c ?k; (case l => k_is); (case c => k_is); (case k => k_is)))
    (case a__law_pairs => k_is)
    (case g__law_pairs => (refine' L2.fnT_mk ?l ?c ?k; (case l => k_is); (case c => k_is); (case k => k_is)))
    (case a__law_sides => k_is)
    (case g__law_sides => (refine' L2.fnT_mk ?l ?c ?k; (case l => k_is); (case c => k_is); (case k => k_is)))
    (case a__law_bent => k_is)
    (case g__law_bent => (refine' L2.fnT_mk ?l ?c ?k; (case l => k_is); (case c => k_is); (case k => k_is)))
    (case a__law_others => k_is)
    (case g__law_others => (refine' L2.fnT_mk ?l ?c ?k; (case l => k_is); (case c => k_is); (case k => k_is)))
    (case a__law_told => k_is)
    (case g__law_told => (refine' L2.fnT_mk ?l ?c ?k; (case l => k_is); (case c => k_is); (case k => k_is)))
    (case a__law_right => k_is)
    (case g__law_right => (refine' L2.fnT_mk ?l ?c ?k; (case l => k_is); (case c => k_is); (case k => k_is)))
    (case a_law => k_is)
    (case g_law => (refine' L2.fnT_mk ?l ?c ?k; (case l => k_is); (case c => k_is); (case k => k_is)))
    (case a_Record => k_is)
    (case a_Inserted => k_is)
    (case a_Removed => k_is)
    (case a_Fronted => k_is)
    (case a_NoItem => k_is)
    (case a_NoIndex => k_is)
    (case a_NoList => k_is)
    (case a_NoLog => k_is)
    (case a_NoText => k_is)
    (case a_LogError => k_is)
    (case mk_Record => k_is)
    (case in_Record => k_is)
    (case fi_Record => k_is)
    (case kc_Record => k_is)
    (case g_Record___init__ => (refine' L2.fnT_mk ?l ?c ?k; (case l => k_is); (case c => k_is); (case k => k_is)))
    (case pg_Record => k_is)
    (case hd_Record => k_is)
    (case po_Record => k_is)
    (case sa_Record => k_is)
    (case na_Record_item => k_is)
    (case na_Record_slot => k_is)
    (case mk_Inserted => k_is)
    (case in_Inserted => k_is)
    (case fi_Inserted => k_is)
    (case kc_Inserted => k_is)
    (case pg_Inserted => k_is)
    (case hd_Inserted => k_is)
    (case po_Inserted => k_is)
    (case sa_Inserted => k_is)
    (case na_Inserted_item => k_is)
    (case na_Inserted_slot => k_is)
    (case mk_Removed => k_is)
    (case in_Removed => k_is)
    (case fi_Removed => k_is)
    (case kc_Removed => k_is)
    (case pg_Removed => k_is)
    (case hd_Removed => k_is)
    (case po_Removed => k_is)
    (case sa_Removed => k_is)
    (case na_Removed_item => k_is)
    (case na_Removed_slot => k_is)
    (case mk_Fronted => k_is)
    (case in_Fronted => k_is)
    (case fi_Fronted => k_is)
    (case kc_Fronted => k_is)
    (case pg_Fronted => k_is)
    (case hd_Fronted => k_is)
    (case po_Fronted => k_is)
    (case sa_Fronted => k_is)
    (case na_Fronted_item => k_is)
    (case na_Fronted_slot => k_is)
    (case me_Record_move_to => k_is)
    (case mf_Record_move_to => k_is)
    (case mq_Record_move_to => k_is)
    (case g_Record_move_to => (refine' L2.fnT_mk ?l ?c ?k; (case l => k_is); (case c => k_is); (case k => k_is)))
    (case me_Record___eq__ => k_is)
    (case mf_Record___eq__ => k_is)
    (case mq_Record___eq__ => k_is)
    (case g_Record___eq__ => (refine' L2.fnT_mk ?l ?c ?k; (case l => k_is); (case c => k_is); (case k => k_is)))
    (case me_Inserted_move_to => k_is)
    (case mf_Inserted_move_to => k_is)
    (case mq_Inserted_move_to => k_is)
    (case me_Inserted___eq__ => k_is)
    (case mf_Inserted___eq__ => k_is)
    (case mq_Inserted___eq__ => k_is)
    (case me_Removed_move_to => k_is)
    (case mf_Removed_move_to => k_is)
    (case mq_Removed_move_to => k_is)
    (case me_Removed___eq__ => k_is)
    (case mf_Removed___eq__ => k_is)
    (case mq_Removed___eq__ => k_is)
    (case me_Fronted_move_to => k_is)
    (case mf_Fronted_move_to => k_is)
    (case mq_Fronted_move_to => k_is)
    (case me_Fronted___eq__ => k_is)
    (case mf_Fronted___eq__ => k_is)
    (case mq_Fronted___eq__ => k_is)
    (case rd_Inserted => (refine' ⟨.type "type", ⟨?r, ?s⟩⟩; (case r => k_is); (case s => k_is)))
    (case rd_Removed => (refine' ⟨.type "type", ⟨?r, ?s⟩⟩; (case r => k_is); (case s => k_is)))
    (case rd_Fronted => (refine' ⟨.type "type", ⟨?r, ?s⟩⟩; (case r => k_is); (case s => k_is)))
    (case rd_Record => (refine' ⟨.type "type", ⟨?r, ?s⟩⟩; (case r => k_is); (case s => k_is)))
    (case cv_Record_MOST => (refine' ⟨.type "type", _, ⟨?r, ?s⟩, ⟨?t, ?v⟩⟩; (case r => k_is); (case s => k_is); (case t => k_is); (case v => first | rfl | exact ⟨_, rfl⟩)))
    (case cv_Record_SIGN => (refine' ⟨.type "type", _, ⟨?r, ?s⟩, ⟨?t, ?v⟩⟩; (case r => k_is); (case s => k_is); (case t => k_is); (case v => first | rfl | exact ⟨_, rfl⟩)))
    (case cv_Inserted_SIGN => (refine' ⟨.type "type", _, ⟨?r, ?s⟩, ⟨?t, ?v⟩⟩; (case r => k_is); (case s => k_is); (case t => k_is); (case v => first | rfl | exact ⟨_, rfl⟩)))
    (case cv_Removed_SIGN => (refine' ⟨.type "type", _, ⟨?r, ?s⟩, ⟨?t, ?v⟩⟩; (case r => k_is); (case s => k_is); (case t => k_is); (case v => first | rfl | exact ⟨_, rfl⟩)))
    (case cv_Fronted_SIGN => (refine' ⟨.type "type", _, ⟨?r, ?s⟩, ⟨?t, ?v⟩⟩; (case r => k_is); (case s => k_is); (case t => k_is); (case v => first | rfl | exact ⟨_, rfl⟩)))
    (case iv_Record_SIGN => (refine' ⟨_, ⟨?t, ?v, ?g, ?w⟩⟩; (case t => k_is); (case v => first | rfl | exact ⟨_, rfl⟩); (case g => first | k_is | rfl | decide +kernel); (case w => first | rfl | decide +kernel)))
    (case iv_Inserted_SIGN => (refine' ⟨_, ⟨?t, ?v, ?g, ?w⟩⟩; (case t => k_is); (case v => first | rfl | exact ⟨_, rfl⟩); (case g => first | k_is | rfl | decide +kernel); (case w => first | rfl | decide +kernel)))
    (case iv_Removed_SIGN => (refine' ⟨_, ⟨?t, ?v, ?g, ?w⟩⟩; (case t => k_is); (case v => first | rfl | exact ⟨_, rfl⟩); (case g => first | k_is | rfl | decide +kernel); (case w => first | rfl | decide +kernel)))
    (case iv_Fronted_SIGN => (refine' ⟨_, ⟨?t, ?v, ?g, ?w⟩⟩; (case t => k_is); (case v => first | rfl | exact ⟨_, rfl⟩); (case g => first | k_is | rfl | decide +kernel); (case w => first | rfl | decide +kernel)))
    (case mc_MOST_LETTERS => (refine' L2.gconst_mk ?t ?r; (case t => k_is); (case r => exact ⟨_, rfl⟩)))
    (case mc_MOST_ITEMS => (refine' L2.gconst_mk ?t ?r; (case t => k_is); (case r => exact ⟨_, rfl⟩)))
    (case mc_MOST_IN_LOG => (refine' L2.gconst_mk ?t ?r; (case t => k_is); (case r => exact ⟨_, rfl⟩)))
    (case er_NoIndex => (refine' ⟨?a, ?b, ?c, ?d⟩; (case a => first | k_exc | k_is | decide +kernel | kernel_rfl); (case b => k_is); (case c => k_is); (case d => k_is)))
    (case er_NoList => (refine' ⟨?a, ?b, ?c, ?d⟩; (case a => first | k_exc | k_is | decide +kernel | kernel_rfl); (case b => k_is); (case c => k_is); (case d => k_is)))
    (case er_NoLog => (refine' ⟨?a, ?b, ?c, ?d⟩; (case a => first | k_exc | k_is | decide +kernel | kernel_rfl); (case b => k_is); (case c => k_is); (case d => k_is)))
    (case kit_type_NoneType_Inserted => (refine' L2.kit_ref ?a ?b ?c ?d; (case a => k_is); (case b => k_is); (case c => k_is); (case d => first | exact fun _ => rfl | exact fun z => absurd (Value.ref.inj z) (by decide) | exact fun z => by cases z)))
    (case kit_type_bool_Inserted => (refine' L2.kit_ref ?a ?b ?c ?d; (case a => k_is); (case b => k_is); (case c => k_is); (case d => first | exact fun _ => rfl | exact fun z => absurd (Value.ref.inj z) (by decide) | exact fun z => by cases z)))
    (case kit_type_int_Inserted => (refine' L2.kit_ref ?a ?b ?c ?d; (case a => k_is); (case b => k_is); (case c => k_is); (case d => first | exact fun _ => rfl | exact fun z => absurd (Value.ref.inj z) (by decide) | exact fun z => by cases z)))
    (case kit_type_str_Inserted => (refine' L2.kit_ref ?a ?b ?c ?d; (case a => k_is); (case b => k_is); (case c => k_is); (case d => first | exact fun _ => rfl | exact fun z => absurd (Value.ref.inj z) (by decide) | exact fun z => by cases z)))
    (case kit_type_list_Inserted => (refine' L2.kit_ref ?a ?b ?c ?d; (case a => k_is); (case b => k_is); (case c => k_is); (case d => first | exact fun _ => rfl | exact fun z => absurd (Value.ref.inj z) (by decide) | exact fun z => by cases z)))
    (case kit_type_tuple_Inserted => (refine' L2.kit_ref ?a ?b ?c ?d; (case a => k_is); (case b => k_is); (case c => k_is); (case d => first | exact fun _ => rfl | exact fun z => absurd (Value.ref.inj z) (by decide) | exact fun z => by cases z)))
    (case kit_type_dict_Inserted => (refine' L2.kit_ref ?a ?b ?c ?d; (case a => k_is); (case b => k_is); (case c => k_is); (case d => first | exact fun _ => rfl | exact fun z => absurd (Value.ref.inj z) (by decide) | exact fun z => by cases z)))
    (case kit_Record_Inserted => (refine' L2.kit_ref ?a ?b ?c ?d; (case a => k_is); (case b => k_is); (case c => k_is); (case d => first | exact fun _ => rfl | exact fun z => absurd (Value.ref.inj z) (by decide) | exact fun z => by cases z)))
    (case kit_Inserted_Inserted => (refine' L2.kit_ref ?a ?b ?c ?d; (case a => k_is); (case b => k_is); (case c => k_is); (case d => first | exact fun _ => rfl | exact fun z => absurd (Value.ref.inj z) (by decide) | exact fun z => by cases z)))
    (case kit_Removed_Inserted => (refine' L2.kit_ref ?a ?b ?c ?d; (case a => k_is); (case b => k_is); (case c => k_is); (case d => first | exact fun _ => rfl | exact fun z => absurd (Value.ref.inj z) (by decide) | exact fun z => by cases z)))
    (case kit_Fronted_Inserted => (refine' L2.kit_ref ?a ?b ?c ?d; (case a => k_is); (case b => k_is); (case c => k_is); (case d => first | exact fun _ => rfl | exact fun z => absurd (Value.ref.inj z) (by decide) | exact fun z => by cases z)))
    (case kit_type_NoneType_Removed => (refine' L2.kit_ref ?a ?b ?c ?d; (case a => k_is); (case b => k_is); (case c => k_is); (case d => first | exact fun _ => rfl | exact fun z => absurd (Value.ref.inj z) (by decide) | exact fun z => by cases z)))
    (case kit_type_bool_Removed => (refine' L2.kit_ref ?a ?b ?c ?d; (case a => k_is); (case b => k_is); (case c => k_is); (case d => first | exact fun _ => rfl | exact fun z => absurd (Value.ref.inj z) (by decide) | exact fun z => by cases z)))
    (case kit_type_int_Removed => (refine' L2.kit_ref ?a ?b ?c ?d; (case a => k_is); (case b => k_is); (case c => k_is); (case d => first | exact fun _ => rfl | exact fun z => absurd (Value.ref.inj z) (by decide) | exact fun z => by cases z)))
    (case kit_type_str_Removed => (refine' L2.kit_ref ?a ?b ?c ?d; (case a => k_is); (case b => k_is); (case c => k_is); (case d => first | exact fun _ => rfl | exact fun z => absurd (Value.ref.inj z) (by decide) | exact fun z => by cases z)))
    (case kit_type_list_Removed => (refine' L2.kit_ref ?a ?b ?c ?d; (case a => k_is); (case b => k_is); (case c => k_is); (case d => first | exact fun _ => rfl | exact fun z => absurd (Value.ref.inj z) (by decide) | exact fun z => by cases z)))
    (case kit_type_tuple_Removed => (refine' L2.kit_ref ?a ?b ?c ?d; (case a => k_is); (case b => k_is); (case c => k_is); (case d => first | exact fun _ => rfl | exact fun z => absurd (Value.ref.inj z) (by decide) | exact fun z => by cases z)))
    (case kit_type_dict_Removed => (refine' L2.kit_ref ?a ?b ?c ?d; (case a => k_is); (case b => k_is); (case c => k_is); (case d => first | exact fun _ => rfl | exact fun z => absurd (Value.ref.inj z) (by decide) | exact fun z => by cases z)))
    (case kit_Record_Removed => (refine' L2.kit_ref ?a ?b ?c ?d; (case a => k_is); (case b => k_is); (case c => k_is); (case d => first | exact fun _ => rfl | exact fun z => absurd (Value.ref.inj z) (by decide) | exact fun z => by cases z)))
    (case kit_Inserted_Removed => (refine' L2.kit_ref ?a ?b ?c ?d; (case a => k_is); (case b => k_is); (case c => k_is); (case d => first | exact fun _ => rfl | exact fun z => absurd (Value.ref.inj z) (by decide) | exact fun z => by cases z)))
    (case kit_Removed_Removed => (refine' L2.kit_ref ?a ?b ?c ?d; (case a => k_is); (case b => k_is); (case c => k_is); (case d => first | exact fun _ => rfl | exact fun z => absurd (Value.ref.inj z) (by decide) | exact fun z => by cases z)))
    (case kit_Fronted_Removed => (refine' L2.kit_ref ?a ?b ?c ?d; (case a => k_is); (case b => k_is); (case c => k_is); (case d => first | exact fun _ => rfl | exact fun z => absurd (Value.ref.inj z) (by decide) | exact fun z => by cases z)))
    (case kit_type_NoneType_Fronted => (refine' L2.kit_ref ?a ?b ?c ?d; (case a => k_is); (case b => k_is); (case c => k_is); (case d => first | exact fun _ => rfl | exact fun z => absurd (Value.ref.inj z) (by decide) | exact fun z => by cases z)))
    (case kit_type_bool_Fronted => (refine' L2.kit_ref ?a ?b ?c ?d; (case a => k_is); (case b => k_is); (case c => k_is); (case d => first | exact fun _ => rfl | exact fun z => absurd (Value.ref.inj z) (by decide) | exact fun z => by cases z)))
    (case kit_type_int_Fronted => (refine' L2.kit_ref ?a ?b ?c ?d; (case a => k_is); (case b => k_is); (case c => k_is); (case d => first | exact fun _ => rfl | exact fun z => absurd (Value.ref.inj z) (by decide) | exact fun z => by cases z)))
    (case kit_type_str_Fronted => (refine' L2.kit_ref ?a ?b ?c ?d; (case a => k_is); (case b => k_is); (case c => k_is); (case d => first | exact fun _ => rfl | exact fun z => absurd (Value.ref.inj z) (by decide) | exact fun z => by cases z)))
    (case kit_type_list_Fronted => (refine' L2.kit_ref ?a ?b ?c ?d; (case a => k_is); (case b => k_is); (case c => k_is); (case d => first | exact fun _ => rfl | exact fun z => absurd (Value.ref.inj z) (by decide) | exact fun z => by cases z)))
    (case kit_type_tuple_Fronted => (refine' L2.kit_ref ?a ?b ?c ?d; (case a => k_is); (case b => k_is); (case c => k_is); (case d => first | exact fun _ => rfl | exact fun z => absurd (Value.ref.inj z) (by decide) | exact fun z => by cases z)))
    (case kit_type_dict_Fronted => (refine' L2.kit_ref ?a ?b ?c ?d; (case a => k_is); (case b => k_is); (case c => k_is); (case d => first | exact fun _ => rfl | exact fun z => absurd (Value.ref.inj z) (by decide) | exact fun z => by cases z)))
    (case kit_Record_Fronted => (refine' L2.kit_ref ?a ?b ?c ?d; (case a => k_is); (case b => k_is); (case c => k_is); (case d => first | exact fun _ => rfl | exact fun z => absurd (Value.ref.inj z) (by decide) | exact fun z => by cases z)))
    (case kit_Inserted_Fronted => (refine' L2.kit_ref ?a ?b ?c ?d; (case a => k_is); (case b => k_is); (case c => k_is); (case d => first | exact fun _ => rfl | exact fun z => absurd (Value.ref.inj z) (by decide) | exact fun z => by cases z)))
    (case kit_Removed_Fronted => (refine' L2.kit_ref ?a ?b ?c ?d; (case a => k_is); (case b => k_is); (case c => k_is); (case d => first | exact fun _ => rfl | exact fun z => absurd (Value.ref.inj z) (by decide) | exact fun z => by cases z)))
    (case kit_Fronted_Fronted => (refine' L2.kit_ref ?a ?b ?c ?d; (case a => k_is); (case b => k_is); (case c => k_is); (case d => first | exact fun _ => rfl | exact fun z => absurd (Value.ref.inj z) (by decide) | exact fun z => by cases z)))
    (case kit_type_NoneType_Record => (refine' L2.kit_ref ?a ?b ?c ?d; (case a => k_is); (case b => k_is); (case c => k_is); (case d => first | exact fun _ => rfl | exact fun z => absurd (Value.ref.inj z) (by decide) | exact fun z => by cases z)))
    (case kit_type_bool_Record => (refine' L2.kit_ref ?a ?b ?c ?d; (case a => k_is); (case b => k_is); (case c => k_is); (case d => first | exact fun _ => rfl | exact fun z => absurd (Value.ref.inj z) (by decide) | exact fun z => by cases z)))
    (case kit_type_int_Record => (refine' L2.kit_ref ?a ?b ?c ?d; (case a => k_is); (case b => k_is); (case c => k_is); (case d => first | exact fun _ => rfl | exact fun z => absurd (Value.ref.inj z) (by decide) | exact fun z => by cases z)))
    (case kit_type_str_Record => (refine' L2.kit_ref ?a ?b ?c ?d; (case a => k_is); (case b => k_is); (case c => k_is); (case d => first | exact fun _ => rfl | exact fun z => absurd (Value.ref.inj z) (by decide) | exact fun z => by cases z)))
    (case kit_type_list_Record => (refine' L2.kit_ref ?a ?b ?c ?d; (case a => k_is); (case b => k_is); (case c => k_is); (case d => first | exact fun _ => rfl | exact fun z => absurd (Value.ref.inj z) (by decide) | exact fun z => by cases z)))
    (case kit_type_tuple_Record => (refine' L2.kit_ref ?a ?b ?c ?d; (case a => k_is); (case b => k_is); (case c => k_is); (case d => first | exact fun _ => rfl | exact fun z => absurd (Value.ref.inj z) (by decide) | exact fun z => by cases z)))
    (case kit_type_dict_Record => (refine' L2.kit_ref ?a ?b ?c ?d; (case a => k_is); (case b => k_is); (case c => k_is); (case d => first | exact fun _ => rfl | exact fun z => absurd (Value.ref.inj z) (by decide) | exact fun z => by cases z)))
    (case kit_Record_Record => (refine' L2.kit_ref ?a ?b ?c ?d; (case a => k_is); (case b => k_is); (case c => k_is); (case d => first | exact fun _ => rfl | exact fun z => absurd (Value.ref.inj z) (by decide) | exact fun z => by cases z)))
    (case kit_Inserted_Record => (refine' L2.kit_ref ?a ?b ?c ?d; (case a => k_is); (case b => k_is); (case c => k_is); (case d => first | exact fun _ => rfl | exact fun z => absurd (Value.ref.inj z) (by decide) | exact fun z => by cases z)))
    (case kit_Removed_Record => (refine' L2.kit_ref ?a ?b ?c ?d; (case a => k_is); (case b => k_is); (case c => k_is); (case d => first | exact fun _ => rfl | exact fun z => absurd (Value.ref.inj z) (by decide) | exact fun z => by cases z)))
    (case kit_Fronted_Record => (refine' L2.kit_ref ?a ?b ?c ?d; (case a => k_is); (case b => k_is); (case c => k_is); (case d => first | exact fun _ => rfl | exact fun z => absurd (Value.ref.inj z) (by decide) | exact fun z => by cases z)))
    (case kit_Record_type_list => (refine' L2.kit_bty (by decide +kernel) ?c; (case c => k_is)))
    (case kit_Inserted_type_list => (refine' L2.kit_bty (by decide +kernel) ?c; (case c => k_is)))
    (case kit_Removed_type_list => (refine' L2.kit_bty (by decide +kernel) ?c; (case c => k_is)))
    (case kit_Fronted_type_list => (refine' L2.kit_bty (by decide +kernel) ?c; (case c => k_is)))
    (case kit_Record_type_str => (refine' L2.kit_bty (by decide +kernel) ?c; (case c => k_is)))
    (case kit_Inserted_type_str => (refine' L2.kit_bty (by decide +kernel) ?c; (case c => k_is)))
    (case kit_Removed_type_str => (refine' L2.kit_bty (by decide +kernel) ?c; (case c => k_is)))
    (case kit_Fronted_type_str => (refine' L2.kit_bty (by decide +kernel) ?c; (case c => k_is)))
    (case kit_Record_type_int => (refine' L2.kit_bty (by decide +kernel) ?c; (case c => k_is)))
    (case kit_Inserted_type_int => (refine' L2.kit_bty (by decide +kernel) ?c; (case c => k_is)))
    (case kit_Removed_type_int => (refine' L2.kit_bty (by decide +kernel) ?c; (case c => k_is)))
    (case kit_Fronted_type_int => (refine' L2.kit_bty (by decide +kernel) ?c; (case c => k_is)))
    (case kit_Record_type_bool => (refine' L2.kit_bty (by decide +kernel) ?c; (case c => k_is)))
    (case kit_Inserted_type_bool => (refine' L2.kit_bty (by decide +kernel) ?c; (case c => k_is)))
    (case kit_Removed_type_bool => (refine' L2.kit_bty (by decide +kernel) ?c; (case c => k_is)))
    (case kit_Fronted_type_bool => (refine' L2.kit_bty (by decide +kernel) ?c; (case c => k_is)))
    (case pr_Record_item => (refine' L2.propOf_mk ?pa ?pb ?pc ?pd; (case pa => k_is); (case pb => k_is); (case pc => k_is); (case pd => k_is)))
    (case g_Record_item => (refine' L2.fnT_mk ?l ?c ?k; (case l => k_is); (case c => k_is); (case k => k_is)))
    (case pr_Record_slot => (refine' L2.propOf_mk ?pa ?pb ?pc ?pd; (case pa => k_is); (case pb => k_is); (case pc => k_is); (case pd => k_is)))
    (case g_Record_slot => (refine' L2.fnT_mk ?l ?c ?k; (case l => k_is); (case c => k_is); (case k => k_is)))
    (case pr_Inserted_item => (refine' L2.propOf_mk ?pa ?pb ?pc ?pd; (case pa => k_is); (case pb => k_is); (case pc => k_is); (case pd => k_is)))
    (case pr_Inserted_slot => (refine' L2.propOf_mk ?pa ?pb ?pc ?pd; (case pa => k_is); (case pb => k_is); (case pc => k_is); (case pd => k_is)))
    (case pr_Removed_item => (refine' L2.propOf_mk ?pa ?pb ?pc ?pd; (case pa => k_is); (case pb => k_is); (case pc => k_is); (case pd => k_is)))
    (case pr_Removed_slot => (refine' L2.propOf_mk ?pa ?pb ?pc ?pd; (case pa => k_is); (case pb => k_is); (case pc => k_is); (case pd => k_is)))
    (case pr_Fronted_item => (refine' L2.propOf_mk ?pa ?pb ?pc ?pd; (case pa => k_is); (case pb => k_is); (case pc => k_is); (case pd => k_is)))
    (case pr_Fronted_slot => (refine' L2.propOf_mk ?pa ?pb ?pc ?pd; (case pa => k_is); (case pb => k_is); (case pc => k_is); (case pd => k_is)))
    (case ty_Record => (refine' ⟨?a, ?b, ?c, ?d⟩; (case a => k_is); (case b => k_is); (case c => k_is); (case d => k_is)))
    (case ty_Inserted => (refine' ⟨?a, ?b, ?c, ?d⟩; (case a => k_is); (case b => k_is); (case c => k_is); (case d => k_is)))
    (case ty_Removed => (refine' ⟨?a, ?b, ?c, ?d⟩; (case a => k_is); (case b => k_is); (case c => k_is); (case d => k_is)))
    (case ty_Fronted => (refine' ⟨?a, ?b, ?c, ?d⟩; (case a => k_is); (case b => k_is); (case c => k_is); (case d => k_is)))
    (case no_abs => k_is)
    (case no_all => k_is)
    (case no_bool => k_is)
    (case no_dict => k_is)
    (case no_enumerate => k_is)
    (case no_int => k_is)
    (case no_isinstance => k_is)
    (case no_len => k_is)
    (case no_list => k_is)
    (case no_max => k_is)
    (case no_min => k_is)
    (case no_property => k_is)
    (case no_range => k_is)
    (case no_repr => k_is)
    (case no_set => k_is)
    (case no_str => k_is)
    (case ow_Record => (refine' ⟨?a, ?b, ?c, ?d, ?e, ?f, ?g, ?h, ?i, ?j, ?k⟩; (case a => k_is); (case b => k_is); (case c => k_is); (case d => k_is); (case e => k_is); (case f => k_is); (case g => k_is); (case h => k_is); (case i => k_is); (case j => k_is); (case k => k_is)))
    (case ow_Inserted => (refine' ⟨?a, ?b, ?c, ?d, ?e, ?f, ?g, ?h, ?i, ?j, ?k⟩; (case a => k_is); (case b => k_is); (case c => k_is); (case d => k_is); (case e => k_is); (case f => k_is); (case g => k_is); (case h => k_is); (case i => k_is); (case j => k_is); (case k => k_is)))
    (case ow_Removed => (refine' ⟨?a, ?b, ?c, ?d, ?e, ?f, ?g, ?h, ?i, ?j, ?k⟩; (case a => k_is); (case b => k_is); (case c => k_is); (case d => k_is); (case e => k_is); (case f => k_is); (case g => k_is); (case h => k_is); (case i => k_is); (case j => k_is); (case k => k_is)))
    (case ow_Fronted => (refine' ⟨?a, ?b, ?c, ?d, ?e, ?f, ?g, ?h, ?i, ?j, ?k⟩; (case a => k_is); (case b => k_is); (case c => k_is); (case d => k_is); (case e => k_is); (case f => k_is); (case g => k_is); (case h => k_is); (case i => k_is); (case j => k_is); (case k => k_is)))
    (case su_Inserted_Record => k_is)
    (case su_Removed_Record => k_is)
    (case su_Fronted_Record => k_is)
    (case su_Record_Inserted => k_is)
    (case su_Removed_Inserted => k_is)
    (case su_Fronted_Inserted => k_is)
    (case su_Record_Removed => k_is)
    (case su_Inserted_Removed => k_is)
    (case su_Fronted_Removed => k_is)
    (case su_Record_Fronted => k_is)
    (case su_Inserted_Fronted => k_is)
    (case su_Removed_Fronted => k_is)
