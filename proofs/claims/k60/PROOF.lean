import PyProof.Rows.All
import Wide.All
import OpenK.AllK
import Wide.FinOn
import HandS.ForMost
import HandS.Evl
import KE.KStateDown
import HandS.Wide
import HandS.WideBits
import HandS.StrMore
import HandS.SortInts
import HandS.IsInst
import HandS.FStr
import HandS.Conv
import HandS.Defaults
import HandS.WordsExc
import HandS.Head0
import HandS.Head1
import HandS.Head2
import HandS.HeadEnd
import HandS.HeadHook1
import HandS.HeadHook2
import HandS.Gcd
import HandS.Head3
import Flt.RightSqrt
import HandS.Flt
import HandS.RaiseMore
import HandS.Codes
import HandS.Dict
import PyProof.StrOps2
import HandS.Words
import KE.GoesMore
import KE.GoesEnum
import PyProof.EnumMake
import HandS.Iter
import HandS.TryOnly
import PyProof.ReprLen
import PyProof.Rows.ReprItems
import PyProof.Rows.RegStrFacts
import HandS.HeadHook4
import PySem.Challenge.RW_unpressed_k60_told_excess
set_option Elab.async false
set_option maxRecDepth 100000
set_option maxHeartbeats 4000000
namespace My
open PySem PySem.W PySem.Calls PyProof.Rows PySem.Builtin PySem.Builtin.Str PySem.Builtin.Int
/-- a number's digits to base two -/
def binT (n : Nat) : PySem.Str := ⟨((Nat.toDigits 2 n).map Char.toNat).toArray⟩
theorem fmt_b {a : Int} {t : Tok} (h0 : 0 ≤ a) (hL : (binT a.natAbs).length ≤ sizeLine) (u : Tok) : Meets («int.__format__» ⟨[.int a t, .str (⟨#[98]⟩ : PySem.Str) u], []⟩) (fun _ R s => ∀ t' k, R (.ok (.ret (.str (binT a.natAbs) t'))) { s with toks := k }) := by
  apply KPc.meets_of
  intro prog w A s Q E hq
  unfold Builtin.«int.__format__»
  refine wpAny_bind (wpAny_of_eq (a := (_, _)) rfl ?_)
  refine wpAny_bind (wpAny_of_eq (a := _) rfl ?_)
  kxf_if
  refine wpAny_bind (wpAny_typeNameOf (T := "str") (typeIs_str _ _ _) (by decide) fun _ => ?_)
  refine wpAny_bind (wpAny_of_eq (a := some _) rfl ?_)
  kxf_if
  kxf_if
  refine wpAny_bind (wpAny_typeNameOfCut_int ?_)
  (repeat kxf_if)
  refine (fun (e : _ = binT a.natAbs) => KXf.ret_text e (by rw [e]; exact hL) hq) ?e
  case e =>
    have hn : decide (a < 0) = false := decide_eq_false (by omega)
    have hD : Nat.toDigits 2 a.natAbs ≠ [] := Nat.toDigits_ne_nil
    rw [hn]
    unfold binT
    generalize Nat.toDigits 2 a.natAbs = D at hD ⊢
    conv => lhs; whnf
    have z : ∀ n : Nat, (-1 - (n : Int)).toNat = 0 := fun n => by omega
    simp [hD, Option.isNone, List.head?, z]
    trace_state
end My

set_option Elab.async false
set_option linter.all false
set_option maxRecDepth 100000
set_option maxHeartbeats 4000000
namespace My
open PySem PySem.Spec PyProof.Rows L2 Evl
/-! ### defs at their names -/
structure Dn (P : Program) (w : World) (K : PySem.W.Frag) (mg : Str → Option Value) (base : Heap) (k : Nat) (x : Str) (st : Stmt) (ps : List Str) (sp : Sp) : Prop where
  ex : ∃ (f : Addr) (fd : FuncData), FunD K x x (defArgs st) (defBody st) (defScope st) [] [] f fd ∧ FnOk P w K mg base CX0 k f fd ps sp ∧ mg x = some (.ref f) ∧ Binds K fd ps []
/-- the same for a call by keywords ks -/
structure Kd (P : Program) (w : World) (K : PySem.W.Frag) (mg : Str → Option Value) (base : Heap) (k : Nat) (x : Str) (n : Nat) (ks : List Str) (gV : List V → List V → List V) (sp : Sp) : Prop where
  ex : ∃ (f : Addr) (fd : FuncData) (ps : List Str) (g : List Value → List Value → List Value), FnOk P w K mg base CX0 k f fd ps sp ∧ mg x = some (.ref f) ∧ PySem.W.keepIn K (.ref f) = true ∧ KBn K fd ps n ks g gV
abbrev FnP (K : PySem.W.Frag) (x : Str) (st : Stmt) (f : Addr) (fd : FuncData) : Prop := FunD K x x (defArgs st) (defBody st) (defScope st) [] [] f fd
structure At (K : PySem.W.Frag) (mg : Str → Option Value) (x : Str) (st : Stmt) : Prop where
  ex : ∃ (f : Addr) (fd : FuncData), FnP K x st f fd ∧ mg x = some (.ref f)
section
variable {P : Program} {w : World} {K : PySem.W.Frag} {mg : Str → Option Value} {base : Heap} {x : Str} {st : Stmt} {N ps : List Str} {k : Nat} {sp : Sp}
theorem FunD.kbn {K : PySem.W.Frag} {x qual : Str} {params : Arguments} {body : List Stmt} {scope : Scope} {kws : List (Str × V)} {f : Addr} {fd : FuncData} {ps : List Str} (F : FunD K x qual params body scope [] kws f fd) (n : Nat) (ks : List Str) (g : List Value → List Value → List Value) (gV : List V → List V → List V)
    (h : ∀ (kV doc pm : Value) (an : Option Addr) (cdv ct : Value) (us ws : List Value), us.length = n → ws.length = ks.length → bindArgs (PySem.W.fnOf x qual params body scope .none kV doc pm an cdv ct) ⟨us, ks.zip ws⟩ = pure (ps.zip (g us ws)))
    (hr : ∀ {vs : List V} {us : List Value} {zs : List V} {ws : List Value}, Vals vs us → Vals zs ws → Vals (gV vs zs) (g us ws)) : KBn K fd ps n ks g gV := by
  obtain ⟨oc, od, dV, kV, doc, pm, an, cdv, ct, osl, rfl, lk, hcd, hD, hK⟩ := F.ex
  rcases hD with ⟨_, rfl⟩ | ⟨e, _⟩
  · exact ⟨fun s us ws _ l1 l2 => .of_eq (h kV doc pm an cdv ct us ws l1 l2), hr⟩
  · exact absurd rfl e
theorem dn_ok (F : At K mg x st) (S : FnScope N ps (defScope st))
    (hb : ∀ (kV doc pm : Value) (an : Option Addr) (cdv ct : Value) (us : List Value), us.length = ps.length → bindArgs (PySem.W.fnOf x x (defArgs st) (defBody st) (defScope st) .none kV doc pm an cdv ct) ⟨us, []⟩ = pure (ps.zip us))
    (len : ∀ vs H Q E, sp vs H Q E → vs.length = ps.length)
    (hbody : ∀ (f : Addr) (cdv : Value) (A : Around) (outer : List Env) (s : Shared) (H : Hp) (vs : List V) (Q : VK) (E : XK), Room k (A.deeper (envOfC x (defScope st) s.heap.objs.size f cdv)) → sp vs H Q E →
      ∃ t, PSs (cxOf CX0 P w K mg base N x (defScope st) f cdv A outer s H E).nox (defBody st) t ∧ t { nx := fun _ H' => Q .non H', rt := Q } (start N vs) H) : Dn P w K mg base (k + 1) x st ps sp := by
  obtain ⟨f, fd, F, g⟩ := F.ex
  refine ⟨f, fd, F, FunD.ok F S len (fun cdv A outer s H vs Q E hr h => ?_), g, F.bindsN hb⟩
  obtain ⟨t, h1, h2⟩ := hbody f cdv A outer s H vs Q E hr h
  exact ⟨t, PSs.nox h1, h2⟩
/-- one function object stands at one address -/
theorem fd_one {K : PySem.W.Frag} {x : Str} {st st' : Stmt} {f : Addr} {fd fd' : FuncData} (F : FnP K x st f fd) (F' : FnP K x st' f fd') : fd = fd' := by
  obtain ⟨oc, od, dV, kV, doc, pm, an, cdv, ct, osl, h1, lk, _⟩ := F.ex
  obtain ⟨oc2, od2, dV2, kV2, doc2, pm2, an2, cdv2, ct2, osl2, h2, lk2, _⟩ := F'.ex
  rw [lk] at lk2
  simp only [Option.some.injEq, Obj.mk.injEq, Data.func.injEq] at lk2
  exact lk2.2.2.1
/-- a call by keywords of a def that keeps its promise -/
theorem kd_of (D : Dn P w K mg base k x st ps sp) (n : Nat) (ks : List Str) (g : List Value → List Value → List Value) (gV : List V → List V → List V)
    (h : ∀ (kV doc pm : Value) (an : Option Addr) (cdv ct : Value) (us ws : List Value), us.length = n → ws.length = ks.length → bindArgs (PySem.W.fnOf x x (defArgs st) (defBody st) (defScope st) .none kV doc pm an cdv ct) ⟨us, ks.zip ws⟩ = pure (ps.zip (g us ws)))
    (hr : ∀ {vs : List V} {us : List Value} {zs : List V} {ws : List Value}, Vals vs us → Vals zs ws → Vals (gV vs zs) (g us ws)) : Kd P w K mg base k x n ks gV sp := by
  obtain ⟨f, fd, F, FO, g1, _⟩ := D.ex
  exact ⟨f, fd, ps, g, FO, g1, F.kp, FunD.kbn F n ks g gV h hr⟩
end
section
variable {X : Cx} {k j n : Nat} {x : Str} {p pos : Pos} {ps ks : List Str} {sp : Sp} {gV : List V → List V → List V} {e : Expr} {es : List Expr} {kws : List Keyword} {t tk : TA}
theorem pe_dn {st : Stmt} (D : Dn X.prog X.w X.K X.mg X.base k x st ps sp) (hr : Room j X.A) (hk : k ≤ j) (hg : Gl X x) (ha : PA X (e :: es) t) (hdb : (x == ("__debug__" : Str)) = false := by decide)
    (he : starEach (e :: es) X.env = (false, eval e X.env) :: starEach es X.env := by rfl) (hpl : (backTo pos (starEach es X.env)).any (·.1) = false := by rfl) : PE X (.Call (.Name x p) (e :: es) [] pos) (tCall sp [] E0 t) := by
  obtain ⟨f, fd, FD, F, hm, hb⟩ := D.ex
  exact pe_call F (hr.mono hk) hg hm FD.kp hb .nil pass0 ha (hdb := hdb) (he := he) (hpl := hpl)
theorem pe_kd (D : Kd X.prog X.w X.K X.mg X.base k x 0 ks gV sp) (hr : Room j X.A) (hk' : k ≤ j) (hg : Gl X x) (hkw : PK X kws tk)
    (hall : (backToKw pos (keywordEach kws X.env)).all (·.1.isSome) = true := by rfl) (hks : (backToKw pos (keywordEach kws X.env)).filterMap (·.1) = ks := by rfl)
    (hdb : (x == ("__debug__" : Str)) = false := by decide)
    (hpl : ((backTo pos (starEach [] X.env)).any (·.1) || (backToKw pos (keywordEach kws X.env)).any (·.1.isNone)) = false := by rfl) :
    PE X (.Call (.Name x p) [] kws pos) (tCallN 0 ks.length sp gV E0 tNil tk) := by
  obtain ⟨f, fd, ps, g, F, hm, hk, hb⟩ := D.ex
  refine ⟨fun pins s σ H Q I h => ?_⟩
  refine wpAny_Call_Name_kw (ld_glob I hg hm ?_ hdb)
  refine PySem.W.callWith_KW0 (h₀ := X.base) I.ok.mod.kin hk hall (thn (hkw.run pos pins s σ H _ I h) fun ws s2 ⟨zs, H2, I2, rz, l1, l2, q2⟩ => ⟨I2.kIn, ?_⟩) hpl
  rw [hks]
  exact run_fnN F (hr.mono hk') hb pass0 I2 .nil rz l1 l2 q2
/-- a built-in type by its name -/
theorem pe_tyn (T : String) {x : Str} {pos : Pos} (hg : Gl X x) (hm : X.mg x = none) (hv : bootBuiltins x = some (.type T)) (hn : x ≠ "__name__" := by decide) (hd : (x == ("__debug__" : Str)) = false := by decide) : PE X (.Name x pos) (tC (.ty T)) := pe_bltn hg hm hv (show RelV (.ty T) (.type T) from rfl) hn hd
/-- f'{x:b}' of a number not below 0 -/
def tFmtB (te : TE) : TE := fun σ H Q => te σ H fun x H1 => ∃ i : Int, x = .int i ∧ 0 ≤ i ∧ (binT i.natAbs).length ≤ sizeLine ∧ Q (.str (binT i.natAbs)) H1
theorem pe_fmtB {te : TE} {pos p1 p2 : Pos} {j : Nat} (he : PE X e te) : PE X (.FormattedValue e (-1) (some (.JoinedStr [.Constant (.str "b") j p1] p2)) pos) (tFmtB te) := by
  refine ⟨fun pins s σ H Q I h => ?_⟩
  refine wpAny_FormattedValue_spec (thn (he.run pins s σ H _ I h) fun v s1 hv => ?_)
  obtain ⟨x, H1, I1, r1, i, rfl, h0, hz, q⟩ := hv
  obtain ⟨t, rfl⟩ := r1
  have hs : PE X (.JoinedStr [.Constant (.str "b") j p1] p2) (tC (.str "b")) := pe_joined1 pe_str
  refine thn (hs.run pins s1 σ H1 (fun v H' => v = .str "b" ∧ H' = H1) I1 ⟨rfl, rfl⟩) fun v2 s2 hv2 => ?_
  obtain ⟨y, H2, I2, r2, rfl, rfl⟩ := hv2
  obtain ⟨t2, rfl⟩ := r2
  refine ⟨_, _, rfl, PySem.W.KXf.field_int (spec' := ⟨#[98]⟩) (by decide +kernel) rfl (by decide) (fun u => fmt_b h0 hz u) fun t' k => ?_⟩
  exact ⟨.str _, _, I2.tok _, ⟨_, rfl⟩, q⟩
end
/-! ### readings -/
section
variable {K : PySem.W.Frag} {σ : L2.St} {H : Hp} {ta tb te : TE} {x y z v : V} {D : Ends} {tu tz : TS}
def rInt1 : List V → Hp → VK → Prop := fun xs H Q => (∃ i, xs = [.int i] ∧ Q (.int i) H) ∨ ∃ k, xs = [.bl k] ∧ Q (.int (if k then 1 else 0)) H
theorem ev_int {i : Int} (h : Ev te σ H (.int i)) : Ev (tCB rInt1 (tCons te tNil)) σ H (.int i) := fun H1 e Q q => h H1 e _ fun H2 e2 => Or.inl ⟨i, rfl, q H2 e2⟩
theorem ev_intB {b : Bool} (h : Ev te σ H (.bl b)) : Ev (tCB rInt1 (tCons te tNil)) σ H (.int (if b then 1 else 0)) := fun H1 e Q q => h H1 e _ fun H2 e2 => Or.inr ⟨b, rfl, q H2 e2⟩
def rMin2 : List V → Hp → VK → Prop := fun xs H Q => ∃ i j, xs = [.int i, .int j] ∧ Q (.int (if j < i then j else i)) H
theorem ev_min2 {i j : Int} (ha : Ev ta σ H (.int i)) (hb : Ev tb σ H (.int j)) : Ev (tCB rMin2 (tCons ta (tCons tb tNil))) σ H (.int (if j < i then j else i)) := fun H1 e Q q =>
  ha H1 e _ fun H2 e2 => hb H2 (e.trans e2) _ fun H3 e3 => ⟨i, j, rfl, q H3 (e2.trans e3)⟩
theorem ev_isi {c : V} {t u : Value} {b : Bool} (ha : Ev ta σ H x) (hb : Ev tb σ H c) (k : ClsV c u) (ty : ∀ H1, Ex H H1 → TyX K H1 x t) (e : PySem.W.kitOne K t u = some b) : Ev (tCB (rIsi K) (tCons ta (tCons tb tNil))) σ H (.bl b) := fun H1 e1 Q q =>
  ha H1 e1 _ fun H2 e2 => hb H2 (e1.trans e2) _ fun H3 e3 => ⟨x, c, t, u, b, rfl, k, ty H3 ((e1.trans e2).trans e3), e, q H3 (e2.trans e3)⟩
theorem ev_lenStr {s : Str} (ha : Ev ta σ H (.str s)) (hs : s.length ≤ sizeLine) : Ev (tCB (fun xs H Q => ∃ z : Str, xs = [.str z] ∧ z.length ≤ sizeLine ∧ Q (.int z.length) H) (tCons ta tNil)) σ H (.int (s.length : Int)) := fun H1 e Q q =>
  ha H1 e _ fun H2 e2 => ⟨s, rfl, hs, q H2 e2⟩
theorem ev_bits {i : Int} (h : Ev te σ H (.int i)) : Ev (tBits te) σ H (.int (Builtin.Int.intBits i : Nat)) := fun H1 e Q q => h H1 e _ fun H2 e2 => ⟨i, rfl, q H2 e2⟩
theorem ev_fmtB {i : Int} (h : Ev te σ H (.int i)) (h0 : 0 ≤ i) (hz : (binT i.natAbs).length ≤ sizeLine) : Ev (tFmtB te) σ H (.str (binT i.natAbs)) := fun H1 e Q q => h H1 e _ fun H2 e2 => ⟨i, rfl, h0, hz, q H2 e2⟩
def rZfill : V → List V → Hp → VK → Prop := fun x xs H Q => ∃ (a : Str) (i : Int), x = .str a ∧ xs = [.int i] ∧ PadOk i = true ∧ Q (.str (Txt.zfill a i)) H
theorem ev_zfill {a : Str} {i : Int} (ha : Ev ta σ H (.str a)) (hb : Ev tb σ H (.int i)) (hp : PadOk i = true) : Ev (tBM K "str" rZfill ta (tCons tb tNil)) σ H (.str (Txt.zfill a i)) := fun H1 e Q q =>
  ha H1 e _ fun H2 e2 => ⟨rfl, hb H2 (e.trans e2) _ fun H3 e3 => ⟨a, i, rfl, rfl, hp, q H3 (e2.trans e3)⟩⟩
theorem ev_callN {n m : Nat} {sp : Sp} {gV : List V → List V → List V} {E : XK} {t tk : TA} {vs zs : List V} (h : EvA t σ H vs) (hk : EvA tk σ H zs) (h1 : vs.length = n) (h2 : zs.length = m) (hs : SpV sp (gV vs zs) H z) : Ev (tCallN n m sp gV E t tk) σ H z := fun H1 e Q q =>
  h H1 e _ fun H2 e2 => hk H2 (e.trans e2) _ fun H3 e3 => ⟨h1, h2, hs H3 ((e.trans e2).trans e3) Q (fun H4 e4 => q H4 ((e2.trans e3).trans e4)) E⟩
/-- two new lists one behind the other -/
theorem el_cat {xs ys : List V} (ha : EvL ta σ H xs) (hb : EvL tb σ H ys) (hz : xs.length + ys.length ≤ 100000) : EvL (tOp rCat ta tb) σ H (xs ++ ys) := fun H1 e Q q =>
  ha H1 e _ fun p H2 hp e2 h2 => hb H2 (e.trans e2) _ fun r H3 hr e3 h3 => ⟨p, r, xs, ys, rfl, rfl, e3 p _ h2, h3, sz_of hz, fun l hl => q l _ (fresh_back (e2.trans e3) hl) ((e2.trans e3).trans (Ex.new hl)) upd_same⟩
theorem el_catV {xs ys : List V} {b : Addr} (ha : EvL ta σ H xs) (hb : Ev tb σ H (.ref b)) (hy : H b = some (.lst ys)) (hz : xs.length + ys.length ≤ 100000) : EvL (tOp rCat ta tb) σ H (xs ++ ys) := fun H1 e Q q =>
  ha H1 e _ fun p H2 hp e2 h2 => hb H2 (e.trans e2) _ fun H3 e3 => ⟨p, b, xs, ys, rfl, rfl, e3 p _ h2, ((e.trans e2).trans e3) b _ hy, sz_of hz, fun l hl => q l _ (fresh_back (e2.trans e3) hl) ((e2.trans e3).trans (Ex.new hl)) upd_same⟩
end
end My

set_option Elab.async false
set_option linter.all false
set_option maxRecDepth 100000
set_option maxHeartbeats 4000000
namespace My
open PySem PySem.Spec PyProof.Rows L2 Evl
/-! ### a law's def, called where no text of an object is under way -/
structure FnG (P : Program) (w : World) (K : PySem.W.Frag) (mg : Str → Option Value) (base : Heap) (CX : CXT) (k : Nat) (f : Addr) (fd : FuncData) (ps : List Str) (sp : Sp) : Prop where
  run : ∀ (A : Around) (outer : List Env) (s : Shared) (H : Hp) (args : Args) (us : List Value) (vs : List V) (Q : VK) (E : XK), Room k A → A.guards = some [] → Env0 P w K mg base A outer s H → BindsTo s fd args (ps.zip us) → Vals vs us → sp vs H Q E →
    codeAny (model P w) A (.call (.ref f) args) (CR CX outer P w H s Q E) s
theorem guards_deeper (A : Around) (env : Env) : (A.deeper env).guards = A.guards := rfl
section
variable {P : Program} {w : World} {K : PySem.W.Frag} {mg : Str → Option Value} {base : Heap}
theorem fnG_of {k : Nat} {f : Addr} {fd : FuncData} {x : Str} {st : Stmt} {N ps : List Str} {sp : Sp} (F : FnP K x st f fd) (S : FnScope N ps (defScope st)) (len : ∀ vs H Q E, sp vs H Q E → vs.length = ps.length)
    (body : ∀ (cdv : Value) (A : Around) (outer : List Env) (s : Shared) (H : Hp) (vs : List V) (Q : VK) (E : XK), Room k (A.deeper (envOfC x (defScope st) s.heap.objs.size f cdv)) → A.guards = some [] → sp vs H Q E →
      ∃ t, PSs (cxOf CX0 P w K mg base N x (defScope st) f cdv A outer s H E).nox (defBody st) t ∧ t { nx := fun _ H' => Q .non H', rt := Q } (start N vs) H) : FnG P w K mg base CX0 (k + 1) f fd ps sp := by
  obtain ⟨oc, od, dV, kV, doc, pm, an, cdv, ct, osl, rfl, lk, hcd, _, _⟩ := F.ex
  constructor
  intro A outer t H args us vs Q E room gd env bind rel hsp
  have hlen := len vs H Q E hsp
  have inK : K.In t.heap := env.mod.kin.keeps fun b o z => (env.bs b o z).1
  have noLim : t.heap.NoLimit := env.mod.nolimit.keeps fun b o z => (env.bs b o z).1
  refine codeAny_call_function room.depth (inK _ _ lk) rfl S.co S.gen rfl (PySem.W.codeRec_of inK hcd) (bind _ _ _ _ ?_)
  refine wpAny_newFunctionEnv_cells S.kind (fun y hy => ?_) fun env' e1 t1 inCall => ?_
  · obtain ⟨n, v⟩ := y
    rcases S.par n (List.of_mem_zip hy).1 with z | z
    · exact Or.inl z
    · exact Or.inr ⟨z, PySem.W.cellsFrom_some _ _ _ (Or.inl z)⟩
  subst e1
  refine ⟨noLim.keeps inCall.toInCall.keep, codeAny_func ?_⟩
  obtain ⟨tt, ht0, hq⟩ := body cdv A outer t H vs Q E (room.deeper _) gd hsp
  have ht := PSs.nox ht0
  have J0 : Inv (cxOf CX0 P w K mg base N x (defScope st) f cdv A outer t H E) [] (start N vs) H t1 := inv_start S room.hd env hlen rel inCall
  refine wpAny_mono (ht.run [] t1 (start N vs) H _ J0 hq) (fun fl t2 hs => ?_) fun _ _ z => z
  cases fl with
  | ret u =>
    obtain ⟨v, σ', H', J, rv, q⟩ := hs
    exact ⟨v, H', J.os, J.bare, J.base, J.hok, rv, q⟩
  | next =>
    obtain ⟨σ', H', J, q⟩ := hs
    exact ⟨V.non, H', J.os, J.bare, J.base, J.hok, rfl, q⟩
  | brk =>
    obtain ⟨_, _, _, q⟩ := hs
    exact q.elim
  | cont =>
    obtain ⟨_, _, _, q⟩ := hs
    exact q.elim
/-- the law called on its script -/
theorem lawG_call {k : Nat} {fa a : Addr} {fd : FuncData} {x : Str} {mb : Str → Option Value} {sp : Sp} {t : Shared} {vs : List Value} {ns : List Int}
    (inK : K.In t.heap) (gN : t.heap.Ns mainGlobals mg) (bN : t.heap.Ns builtinsNs mb) (bI : ∀ y : Str, y ≠ "__name__" → mb y = bootBuiltins y) (noLim : t.heap.NoLimit) (gE : t.gens = #[])
    (hobj : t.heap.get? a = some { cls := .type "list", data := .seq vs.toArray }) (hi : IntsAre vs ns) (hl : ns.length ≤ sizeLine) (room : Room k callerA)
    (F : ∀ base : Heap, K.In base → base.Ns mainGlobals mg → FnG P w K mg base CX0 k fa fd [x] sp) (bind : ∀ (s : Shared) (u : Value), BindsTo s fd ⟨[u], []⟩ [(x, u)])
    (hsp : ∀ H : Hp, SqL K H a (ns.map V.int) → sp [.ref a] H (fun v _ => v = .bl true) fun _ _ _ => False) :
    codeAny (model P w) callerA (.call (.ref fa) ⟨[.ref a], []⟩) (fun r s' => r = .ok (.ret (.bool true)) ∧ OldK t.heap s'.heap ∧ s'.os = t.os ∧ AllBare s'.gens) t := by
  have go : ∀ H : Hp, (∀ b, H b ≠ none → b = a ∧ K.lookup a = none ∧ ∃ ob xs, H a = some (HO.frz ob (.lst xs))) → SqL K H a (ns.map V.int) → HOk P w H t.heap →
      codeAny (model P w) callerA (.call (.ref fa) ⟨[.ref a], []⟩) (fun r s' => r = .ok (.ret (.bool true)) ∧ OldK t.heap s'.heap ∧ s'.os = t.os ∧ AllBare s'.gens) t := by
    intro H hH hS hok
    have free : ∀ {b : Addr} {o : Obj} {es : Array DictEntry} {ep : Nat}, t.heap.get? b = some o → o.data = .dict es ep → H b = none := by
      intro b o es ep g d
      by_cases z : H b = none
      · exact z
      · obtain ⟨rfl, _⟩ := hH b z
        rw [hobj] at g
        cases g
        cases (show Data.seq vs.toArray _ = Data.dict es ep from d)
    have ns' : ∀ {b : Addr} {m : Str → Option Value}, t.heap.Ns b m → (hidT t.heap H).Ns b m := by
      rintro b m ⟨o, es, ep, g, d, r⟩
      exact ⟨o, es, ep, hidT_get g (free g d), d, r⟩
    have inB : K.In (hidT t.heap H) := by
      intro b o g
      refine hidT_get (inK b o g) ?_
      by_cases z : H b = none
      · exact z
      · obtain ⟨rfl, z2, _⟩ := hH b z
        rw [z2] at g
        cases g
    have md : Mod K mg (hidT t.heap H) := by
      obtain ⟨mc, h1, h2⟩ := noLim
      exact ⟨inB, ns' gN, ⟨mb, ns' bN, bI⟩, ⟨mc, ns' h1, h2⟩⟩
    have env : Env0 P w K mg (hidT t.heap H) callerA [] t H := ⟨rfl, md, fun b o g => of_hidT g, Nat.le_of_eq (hidT_size _ _), trivial, fun b hb => (List.not_mem_nil hb).elim, hok, .of_eq gE⟩
    have run := (F _ inB (ns' gN)).run callerA [] t H ⟨[.ref a], []⟩ [.ref a] [.ref a] _ _ room rfl env (bind t (.ref a)) (.cons rfl .nil) (hsp H hS)
    refine codeAny_mono run fun r s' h => ?_
    match r, h with
    | .ok (.ret u), h =>
      obtain ⟨v, H', os, bare, un, hok', rel, q⟩ := h
      cases (show v = V.bl true from q)
      obtain rfl : u = Value.bool true := rel
      refine ⟨rfl, OldK.of_keep fun b o g => ?_, os, bare⟩
      by_cases z : H b = none
      · exact un.keep b o g z (fun c => (List.not_mem_nil c).elim) (fun c => (List.not_mem_nil c).elim)
      · obtain ⟨rfl, _, ob, xs, z2⟩ := hH b z
        have z3 := un.frzs b ob _ z2
        obtain ⟨g1, _⟩ := hok b _ z2
        obtain ⟨g2, _⟩ := hok' b _ z3
        rw [g] at g1
        cases g1
        exact g2
  have rel := vals_ints hi
  have lenV := hi.length
  by_cases hk : K.lookup a = none
  · refine go (fun b => if b = a then some (.frz { cls := .type "list", data := .seq vs.toArray } (.lst (ns.map V.int))) else none) (fun b z => ?_) (Or.inl (Or.inr ⟨_, if_pos rfl⟩)) (fun b u z => ?_)
    · have e : b = a := by
        by_cases e : b = a
        · exact e
        · exact (z (if_neg e)).elim
      exact ⟨e, hk, _, _, if_pos rfl⟩
    · by_cases e : b = a
      · have z' := (if_pos e).symm.trans z
        cases z'
        subst e
        exact ⟨hobj, by rw [List.length_map]; exact hl, vs, _, rel, hobj⟩
      · have z' := (if_neg e).symm.trans z
        cases z'
  · obtain ⟨o, ho⟩ := Option.ne_none_iff_exists'.mp hk
    have g := inK a o ho
    rw [hobj] at g
    cases g
    refine go (fun _ => none) (fun b z => (z rfl).elim) (Or.inr ⟨_, vs.toArray, _, ho, rfl, rfl, rfl, by rw [List.size_toArray, lenV]; exact hl, by simpa using rel⟩) (fun b u z => ?_)
    cases (show (none : Option HO) = some u from z)
end
theorem walkG {l : PySem.W.OpenLaw} {n k : Nat} {q : Program} {loose : List Str} {XP : (Str → Option Value) → Heap → Prop} {YP : World → Heap → Prop} {d : DefRec} {x : Str}
    (hn : l.most = some n) (hn2 : n ≤ sizeLine) (hdf : d.params.defaults = []) (room : Room k callerA)
    (F : ∀ (w : World) (mg : Str → Option Value) (fa : Addr) (h : Heap), YP w h → h.Ns mainGlobals mg → mg d.name = some (.ref fa) →
      ∃ (K : PySem.W.Frag) (fd : FuncData) (sp : Sp), K.In h ∧ (∀ (s : Shared) (u : Value), BindsTo s fd ⟨[u], []⟩ [(x, u)]) ∧
        (∀ (H : Hp) (a : Addr) (ns : List Int), ns.length ≤ n → SqL K H a (ns.map V.int) → sp [.ref a] H (fun v _ => v = .bl true) fun _ _ _ => False) ∧
        ∀ base : Heap, K.In base → base.Ns mainGlobals mg → FnG l.prog w K mg base CX0 k fa fd [x] sp) :
    PySem.W.WalkO q loose XP YP l.row.toRowW d [] (fun f vs => PySem.call f vs) := by
  refine Att.attach_call hn hdf fun w s0 s1 mg mb fa o pm cd doc a vs ns G Y _ _ _ hmg hobj hints hlen hg => ?_
  obtain ⟨K, fd, sp, inK, hb, hsp, hF⟩ := F w mg fa _ Y G.T.g hmg
  exact lawG_call inK G.T.g G.T.b G.T.builtins G.T.nolimit hg hobj hints (Nat.le_trans hlen hn2) room hF hb fun H hS => hsp H a ns hlen hS
/-! ### repr of a list of ints -/
def reprInts (ns : List Int) : Str := (PyData.list (ns.map PyData.int)).shown
section
variable {X : Cx}
theorem reads_ints {h : Heap} : ∀ {ns : List Int} {its : List Value}, Vals (ns.map V.int) its → ReadsAll h its (ns.map PyData.int) []
  | [], _, .nil => .nil
  | n :: ns, _, .cons ⟨t, e⟩ r => by
    subst e
    exact .cons (.int n t) (reads_ints r)
theorem showable_ints : ∀ {ns : List Int}, (∀ n ∈ ns, n.natAbs.log2 < 1920) → PyData.showableAll (ns.map PyData.int) = true
  | [], _ => rfl
  | n :: ns, h => by
    show (decide (n.natAbs.log2 < 1920) && PyData.showableAll (ns.map PyData.int)) = true
    rw [decide_eq_true (h n List.mem_cons_self), showable_ints fun m hm => h m (List.mem_cons_of_mem _ hm)]
    rfl
def rReprL (K : PySem.W.Frag) : List V → Hp → VK → Prop := fun xs H Q => ∃ p ns, xs = [.ref p] ∧ H p = some (.lst (ns.map V.int)) ∧ (∀ n ∈ ns, n.natAbs.log2 < 1920) ∧ (reprInts ns).length ≤ sizeLine ∧ Q (.str (reprInts ns)) H
theorem depth_ints : ∀ ns : List Int, PyData.depthAll (ns.map PyData.int) ≤ 1
  | [] => by decide
  | n :: ns => by
    have h := depth_ints ns
    simp only [List.map_cons, PyData.depthAll, PyData.depth]
    omega
theorem noDict_ints : ∀ ns : List Int, PyData.hasDictAll (ns.map PyData.int) = false
  | [] => rfl
  | n :: ns => by
    have h := noDict_ints ns
    simp only [List.map_cons, PyData.hasDictAll, PyData.hasDict, h, Bool.or_self]
theorem cr_reprL {k : Nat} (hg : X.A.guards = some []) (hr : Room k X.A) : CallR X (.builtin "repr") (rReprL X.K) := by
  intro pins s σ H xs us Q I r h
  obtain ⟨p, ns, rfl, hp, hb, hz, q⟩ := h
  obtain ⟨u, rfl, ru⟩ := vals1 r
  cases (show u = Value.ref p from ru)
  obtain ⟨its, rv, pl, _⟩ := I.list (SqL.of hp)
  obtain ⟨o, n0, ho, hc, _, hd⟩ := pl
  have hd1 := depth_ints ns
  have hu := hr.units
  refine repr_of_reads' (d := .list (ns.map PyData.int)) (.list ho hc hd (by simpa using reads_ints rv)) (showable_ints hb) (fun c => by simp [PyData.hasDict, noDict_ints] at c) hg (by simp only [PyData.depth]; omega) (fun b o z => z) (fun h' u tk hk => ?_) hz
  exact ⟨.str _, H, I.kept hk, ⟨u, rfl⟩, q⟩
end
end My

set_option Elab.async false
set_option linter.all false
set_option maxRecDepth 100000
set_option maxHeartbeats 4000000
namespace My
open PySem PySem.Spec PyProof.Rows L2 Evl
section
variable {X : Cx}
theorem pip_of {op : Operator} {r : R2} (h : OpR X (inplaceOp op) r) : PIp X op r := fun pins s σ H x y v u Q I r1 r2 hh => h pins s σ H x y v u Q I r1 r2 hh
def rIsqrt : List V → Hp → VK → Prop := fun xs H Q => ∃ n : Nat, xs = [.int (n : Int)] ∧ n < 2 ^ 4000 ∧ Q (.int (Float64.isqrt n : Nat)) H
theorem cr_isqrt : CallR X (.builtin "math.isqrt") rIsqrt := by
  intro pins s σ H xs us Q I r h
  obtain ⟨n, rfl, hn, q⟩ := h
  obtain ⟨u, rfl, t, rfl⟩ := vals1 r
  have hl : ((n : Nat) : Int).toNat.log2 ≤ 3999 := by
    rw [Int.toNat_natCast]
    by_cases z : n = 0
    · subst z; decide
    · exact Nat.le_of_lt_succ ((Nat.log2_lt z).mpr hn)
  have g := PySem.W.mg_run_isqrt (n : Int) t (by omega) (by omega) (by omega)
  exact call_function_meets PySem.W.MGF.kind_isqrt PySem.W.MGF.plain_isqrt PySem.W.MGF.entry_isqrt (PySem.W.MGF.args_isqrt _) g.meets ⟨.int _, H, I.tok _, ⟨_, by rw [Int.toNat_natCast]⟩, q⟩
end
section
variable {K : PySem.W.Frag} {σ : L2.St} {H : Hp} {ta tb te : TE} {x y z v : V} {D : Ends} {tu tz : TS}
theorem ev_isqrt {n : Nat} (h : Ev te σ H (.int (n : Int))) (hn : n < 2 ^ 4000) : Ev (tCB rIsqrt (tCons te tNil)) σ H (.int (Float64.isqrt n : Nat)) := fun H1 e Q q => h H1 e _ fun H2 e2 => ⟨n, rfl, hn, q H2 e2⟩
theorem q_augR {i : Nat} {r : R2} {a : V} (hx : σ[i]? = some (some a)) (h : Ev te σ H y) (hr : RV r a y H z) (k : ∀ H1, Ex H H1 → tz D (σ.set i (some z)) H1) : tSeq (tAug i te r) tz D σ H :=
  ⟨a, hx, h H (Ex.refl H) _ fun H1 e => hr H1 e _ fun H2 e2 => k H2 (e.trans e2)⟩
theorem s_augR {i : Nat} {r : R2} {a : V} (hx : σ[i]? = some (some a)) (h : Ev te σ H y) (hr : RV r a y H z) (k : ∀ H1, Ex H H1 → D.nx (σ.set i (some z)) H1) : tAug i te r D σ H :=
  ⟨a, hx, h H (Ex.refl H) _ fun H1 e => hr H1 e _ fun H2 e2 => k H2 (e.trans e2)⟩
theorem ev_sum {ns : List Int} (h : EvL te σ H (ns.map V.int)) : Ev (tCB (rSum K) (tCons te tNil)) σ H (.int ns.sum) := fun H1 e Q q => h H1 e _ fun p H2 _ e2 h2 => ⟨p, ns, rfl, sq_of h2, q H2 e2⟩
theorem ev_reprL {ns : List Int} (h : EvL te σ H (ns.map V.int)) (hb : ∀ n ∈ ns, n.natAbs.log2 < 1920) (hz : (reprInts ns).length ≤ sizeLine) : Ev (tCB (rReprL K) (tCons te tNil)) σ H (.str (reprInts ns)) := fun H1 e Q q => h H1 e _ fun p H2 _ e2 h2 => ⟨p, ns, rfl, h2, hb, hz, q H2 e2⟩
theorem wmul {i j : Int} (hi : i.natAbs < 2 ^ 1000) (hj : j.natAbs < 2 ^ 1000) : CMulW i j := wide_mul hi hj (by decide) (by decide) (by decide)
end
end My

set_option Elab.async false
set_option linter.all false
set_option maxRecDepth 100000
set_option maxHeartbeats 4000000
namespace My
open PySem PySem.Spec PyProof.Rows L2 Evl
structure TT (mg : Str → Option Value) : Prop where
  len : mg "len" = none
  int_ : mg "int" = none
  bool_ : mg "bool" = none
  str_ : mg "str" = none
  list_ : mg "list" = none
  tuple_ : mg "tuple" = none
  range : mg "range" = none
  max : mg "max" = none
  min : mg "min" = none
  sum : mg "sum" = none
  isinstance : mg "isinstance" = none
  sorted : mg "sorted" = none
  repr : mg "repr" = none
  abs : mg "abs" = none
  enumerate : mg "enumerate" = none
/-- a loop over a text's signs -/
theorem for_str {x : Str} {g : TG} {tb : TS} {D : Ends} {σ : L2.St} {H : Hp} (Pv : Nat → L2.St → Hp → Prop) (h0 : Pv 0 σ H)
    (hs : ∀ i c σ H, x.cps[i]? = some c → Pv i σ H → g (.str ⟨#[c]⟩) σ H fun σ2 H2 => tb { D with nx := Pv (i + 1), ct := Pv (i + 1), bk := D.nx } σ2 H2) (hd : ∀ σ H, Pv x.cps.size σ H → D.nx σ H) :
    ∃ W : Nat → Nat → L2.St → Hp → Prop, (∃ m, W 0 m σ H) ∧ ∀ i m σ H, W i m σ H →
      ((Its x).stop i H ∧ D.nx σ H) ∨ ((Its x).go i H ∧ ∃ N : L2.St → Hp → Prop, (∀ σ' H', N σ' H' → ∃ m', m' < m ∧ W (i + 1) m' σ' H') ∧ ∀ y H', (Its x).yld i H y H' → g y σ H' fun σ2 H2 => tb { D with nx := N, ct := N, bk := D.nx } σ2 H2) := by
  refine ⟨fun i m σ H => m = x.cps.size - i ∧ i ≤ x.cps.size ∧ Pv i σ H, ⟨x.cps.size, by simp, Nat.zero_le _, h0⟩, ?_⟩
  rintro i m σ H ⟨rfl, hi, p⟩
  by_cases hlt : i < x.cps.size
  · refine .inr ⟨hlt, Pv (i + 1), fun σ' H' p' => ⟨x.cps.size - (i + 1), by omega, rfl, hlt, p'⟩, fun y H' z => ?_⟩
    obtain ⟨e, c, hc, rfl⟩ := z
    subst e
    exact hs i c σ _ hc p
  · have e : i = x.cps.size := by omega
    subst e
    exact .inl ⟨Nat.le_refl _, hd σ H p⟩
theorem q_forS {x : Str} {tl : TE} {g : TG} {D : Ends} {σ : L2.St} {H : Hp} {tu tz : TS} (h : Ev tl σ H (.str x)) (Pv : Nat → L2.St → Hp → Prop) (h0 : ∀ H1, Ex H H1 → Pv 0 σ H1)
    (hs : ∀ i c σ' H', x.cps[i]? = some c → Pv i σ' H' → g (.str ⟨#[c]⟩) σ' H' fun σ2 H2 => tu { D with nx := Pv (i + 1), ct := Pv (i + 1), bk := tz D } σ2 H2) (hd : ∀ σ' H', Pv x.cps.size σ' H' → tz D σ' H') : tSeq (tFor (iStr tl) g tu) tz D σ H :=
  h H (Ex.refl H) _ fun H1 e => ⟨x, rfl, for_str (D := { D with nx := tz D }) Pv (h0 H1 e) hs hd⟩
theorem vals_rev {zs : List V} {ws : List Value} (r : Vals zs ws) : Vals zs.reverse ws.reverse := by
  induction r with
  | nil => exact .nil
  | cons a r ih => rw [List.reverse_cons, List.reverse_cons]; exact ih.append (.cons a .nil)
/-! ### lists of ints in the heap -/
theorem get_map {ns : List Int} {i : Nat} {x : V} (h : (ns.map V.int)[i]? = some x) : ∃ z, ns[i]? = some z ∧ x = .int z := by
  rw [List.getElem?_map] at h
  cases e : ns[i]? with
  | none => rw [e] at h; cases h
  | some z => rw [e] at h; exact ⟨z, rfl, (Option.some.inj h).symm⟩
theorem drop_get {α : Type} {l : List α} {i : Nat} {x : α} (h : l[i]? = some x) : l.drop i = x :: l.drop (i + 1) := by
  obtain ⟨hi, e⟩ := List.getElem?_eq_some_iff.mp h
  rw [List.drop_eq_getElem_cons hi, e]
theorem at_map {ns : List Int} {i : Int} {z : Int} (h0 : 0 ≤ i) (h : ns[i.toNat]? = some z) : atI (ns.map V.int) i = some (.int z) := by
  have hi : i.toNat < ns.length := (List.getElem?_eq_some_iff.mp h).1
  have e : ixN (ns.map V.int).length i = some i.toNat := by
    unfold ixN
    rw [List.length_map, if_pos h0, if_pos (by omega)]
  unfold atI
  rw [e]
  show (ns.map V.int)[i.toNat]? = _
  rw [List.getElem?_map, h]
  rfl
/-! ### a cell -/
def seedF (ns : List Int) : Int := ns.foldl (fun s c => (s * 31 + c % 1000003) % 1000003) 17
def cellF (ns : List Int) (k : Int) : Int := if k < (ns.length : Int) then ns.getD k.toNat 0 else ((seedF ns + 7) * (k + 3) * 69621) % 2147483647
/-! ### digits -/
def digA : Int → List Int → List Int
  | _, [] => []
  | r, s :: ss => r % s :: digA (r / s) ss
def digB : Int → Int → List Int → List Int
  | _, _, [] => []
  | seed, k, s :: ss =>
    let seed' := (seed * 48271 + 974711 * k + 12345) % 2147483647
    let twice := (seed' * (seed' / 65537 + 3)) % 2147483629
    (twice / 19 % s) :: digB seed' (k + 1) ss
def digitsF (c : Int) (ss : List Int) : List Int := if 1000000000000000000 ≤ c then digA (c - 1000000000000000000) ss else digB (c % 2147483629) 0 ss
theorem digA_len : ∀ (r : Int) (ss : List Int), (digA r ss).length = ss.length
  | _, [] => rfl
  | r, s :: ss => by simp [digA, digA_len]
theorem digB_len : ∀ (r k : Int) (ss : List Int), (digB r k ss).length = ss.length
  | _, _, [] => rfl
  | r, k, s :: ss => by simp [digB, digB_len]
theorem digits_len (c : Int) (ss : List Int) : (digitsF c ss).length = ss.length := by
  unfold digitsF; split
  · exact digA_len _ _
  · exact digB_len _ _ _
/-- each digit is from 0 to its size, without it -/
def Within : List Int → List Int → Prop
  | [], [] => True
  | d :: ds, s :: ss => (0 ≤ d ∧ d < s) ∧ Within ds ss
  | _, _ => False
theorem digA_in : ∀ (r : Int) (ss : List Int), (∀ s ∈ ss, 0 < s) → Within (digA r ss) ss
  | _, [], _ => trivial
  | r, s :: ss, h => ⟨⟨Int.emod_nonneg _ (by have := h s List.mem_cons_self; omega), Int.emod_lt_of_pos _ (h s List.mem_cons_self)⟩, digA_in _ ss fun z hz => h z (List.mem_cons_of_mem _ hz)⟩
theorem digB_in : ∀ (r k : Int) (ss : List Int), (∀ s ∈ ss, 0 < s) → Within (digB r k ss) ss
  | _, _, [], _ => trivial
  | r, k, s :: ss, h => ⟨⟨Int.emod_nonneg _ (by have := h s List.mem_cons_self; omega), Int.emod_lt_of_pos _ (h s List.mem_cons_self)⟩, digB_in _ _ ss fun z hz => h z (List.mem_cons_of_mem _ hz)⟩
theorem digits_in (c : Int) (ss : List Int) (h : ∀ s ∈ ss, 0 < s) : Within (digitsF c ss) ss := by
  unfold digitsF; split
  · exact digA_in _ _ h
  · exact digB_in _ _ _ h
theorem et_yes {σ : L2.St} {H : Hp} : EvT tYes σ H true := fun H1 _ Q q => q H1 (Ex.refl H1)
theorem Within.get : ∀ {ds ss : List Int}, Within ds ss → ∀ i, i < ss.length → 0 ≤ ds.getD i 0 ∧ ds.getD i 0 < ss.getD i 0
  | [], [], _, i, h => absurd h (Nat.not_lt_zero i)
  | d :: ds, s :: ss, h, 0, _ => h.1
  | d :: ds, s :: ss, h, i + 1, hi => h.2.get i (by simpa using hi)
  | [], _ :: _, h, _, _ => h.elim
  | _ :: _, [], h, _, _ => h.elim
theorem Within.len : ∀ {ds ss : List Int}, Within ds ss → ds.length = ss.length
  | [], [], _ => rfl
  | _ :: _, _ :: _, h => congrArg Nat.succ h.2.len
  | [], _ :: _, h => h.elim
  | _ :: _, [], h => h.elim
theorem at_d {rs : List Int} {i : Nat} (h : i < rs.length) : atI (rs.map V.int) (i : Int) = some (.int (rs.getD i 0)) := at_map (by omega) (by
  rw [Int.toNat_natCast, List.getD_eq_getElem?_getD, List.getElem?_eq_getElem h]; rfl)
theorem pow_mono (b : Nat) (hb : 1 ≤ b) {i j : Nat} (h : i ≤ j) : ((b : Int)) ^ i ≤ (b : Int) ^ j := by
  have := Nat.pow_le_pow_right hb h
  have h2 : ((b ^ i : Nat) : Int) ≤ ((b ^ j : Nat) : Int) := Int.ofNat_le.mpr this
  rwa [Int.natCast_pow, Int.natCast_pow] at h2
theorem flat_ints (ns : List Int) : (ns.map V.int).all flatV = true := by
  rw [List.all_eq_true]
  intro x hx
  obtain ⟨z, _, rfl⟩ := List.mem_map.mp hx
  rfl
theorem in_ints (z : Int) (ns : List Int) : inV (.int z) (ns.map V.int) = decide (z ∈ ns) := by
  unfold inV
  induction ns with
  | nil => simp
  | cons a ns ih =>
    rw [List.map_cons, List.any_cons, ih]
    have : eqV (.int a) (.int z) = (a == z) := rfl
    rw [this]
    by_cases h : a = z
    · subst h; simp
    · have h2 : ¬ z = a := fun e => h e.symm
      simp [h, h2]
theorem given_map {α : Type} (xs : List α) (d : α) (g : α → V) (v : Nat → V) (h : ∀ i, i < xs.length → v i = g (xs.getD i d)) : given xs.length (fun _ => true) v = xs.map g := by
  unfold given
  rw [List.filter_eq_self.mpr (fun _ _ => rfl)]
  refine List.ext_getElem (by simp) fun i h1 h2 => ?_
  rw [List.getElem_map, List.getElem_map, List.getElem_range]
  rw [List.length_map] at h2
  rw [h i h2, List.getD_eq_getElem?_getD, List.getElem?_eq_getElem h2]
  rfl
/-- a call whose answer is one of several -/
theorem q_call {σ : L2.St} {H : Hp} {i : Nat} {sp : Sp} {dvs vs : List V} {E : XK} {ta : TA} {D : Ends} {tz : TS} (h : EvA ta σ H vs) (hs : ∀ H1, Ex H H1 → sp (vs ++ dvs) H1 (fun x H2 => tz D (σ.set i (some x)) H2) E) : tSeq (tAsg (tCall sp dvs E ta) (gName i)) tz D σ H :=
  h H (Ex.refl H) _ fun H1 e1 => hs H1 e1
/-- [x] * n -/
theorem el_rep {σ : L2.St} {H : Hp} {ta tb : TE} {xs : List V} {k : Int} (ha : EvL ta σ H xs) (hb : ∀ H1, Ex H H1 → Ev tb σ H1 (.int k)) (h0 : 0 ≤ k) (h1 : xs.length * k.toNat ≤ 100000) (h2 : k < 2 ^ 63) : EvL (tOp rRep ta tb) σ H (List.replicate k.toNat xs).flatten := fun H1 e Q q =>
  ha H1 e _ fun p H2 hp e2 h2' => hb H2 (e.trans e2) H2 (Ex.refl H2) _ fun H3 e3 => ⟨p, k, xs, rfl, rfl, e3 p _ h2', by omega, h2, sz_of h1, fun l hl => q l _ (fresh_back (e2.trans e3) hl) ((e2.trans e3).trans (Ex.new hl)) upd_same⟩
/-- a call with a new list as its second argument, its answer a new list -/
theorem q_call2L {σ : L2.St} {H : Hp} {i : Nat} {x : V} {xs ys : List V} {sp : Sp} {E : XK} {ta tb : TE} {D : Ends} {tz : TS} (ha : Ev ta σ H x) (hb : EvL tb σ H xs) (hs : ∀ p H1, H1 p = some (.lst xs) → Ex H H1 → SpL sp [x, .ref p] H1 ys)
    (k : ∀ p H1, H p = none → Ex H H1 → H1 p = some (.lst ys) → tz D (σ.set i (some (.ref p))) H1) : tSeq (tAsg (tCall sp [] E (tCons ta (tCons tb tNil))) (gName i)) tz D σ H :=
  ha H (Ex.refl H) _ fun H1 e1 => hb H1 e1 _ fun p H2 hp e2 h2 => hs p H2 h2 (e1.trans e2) H2 (Ex.refl H2) _ (fun r H3 hr e3 h3 => k r H3 (fresh_back (e1.trans e2) hr) ((e1.trans e2).trans e3) h3) E
theorem ev_callL2 {σ : L2.St} {H : Hp} {x z : V} {xs : List V} {sp : Sp} {E : XK} {ta tb : TE} (ha : Ev ta σ H x) (hb : EvL tb σ H xs) (hs : ∀ p H1, H1 p = some (.lst xs) → Ex H H1 → SpV sp [x, .ref p] H1 z) : Ev (tCall sp [] E (tCons ta (tCons tb tNil))) σ H z := fun H0 e0 Q q =>
  ha H0 e0 _ fun H1 e1 => hb H1 (e0.trans e1) _ fun p H2 hp e2 h2 => hs p H2 h2 ((e0.trans e1).trans e2) H2 (Ex.refl H2) Q (fun H3 e3 => q H3 ((e1.trans e2).trans e3)) E
theorem ev_callL1 {σ : L2.St} {H : Hp} {y z : V} {xs : List V} {sp : Sp} {E : XK} {ta tb : TE} (ha : EvL ta σ H xs) (hb : ∀ H1, Ex H H1 → Ev tb σ H1 y) (hs : ∀ p H1, H1 p = some (.lst xs) → Ex H H1 → SpV sp [.ref p, y] H1 z) : Ev (tCall sp [] E (tCons ta (tCons tb tNil))) σ H z := fun H0 e0 Q q =>
  ha H0 e0 _ fun p H1 hp e1 h1 => hb H1 (e0.trans e1) H1 (Ex.refl H1) _ fun H2 e2 => hs p H2 (e2 p _ h1) ((e0.trans e1).trans e2) H2 (Ex.refl H2) Q (fun H3 e3 => q H3 ((e1.trans e2).trans e3)) E
theorem ea_consNL {σ : L2.St} {H : Hp} {te : TE} {xs : List V} (h : EvL te σ H xs) (Q : List V → Hp → Prop) (q : ∀ p H2, H p = none → Ex H H2 → H2 p = some (.lst xs) → Q [.ref p] H2) : tCons te tNil σ H Q := h H (Ex.refl H) _ fun p H2 hp e h2 => q p H2 hp e h2
theorem kit_int_int {K : PySem.W.Frag} : PySem.W.kitOne K (.type "int") (.type "int") = some true := by rfl
theorem kit_int_bool {K : PySem.W.Frag} : PySem.W.kitOne K (.type "int") (.type "bool") = some false := by rfl
theorem kit_str_str {K : PySem.W.Frag} : PySem.W.kitOne K (.type "str") (.type "str") = some true := by rfl
def OkSizes (ss : List Int) : Prop := ss.length ≤ 10000 ∧ ∀ s ∈ ss, 0 < s ∧ s < 2 ^ 64
theorem divw {i j : Int} (h0 : 0 < j) (h : j < 2 ^ 64) : CDivW i j := wide_div (b := 64) h0 (by omega) (by decide) (by decide)
def spWhole : Sp := fun vs H Q _ => ∃ m : Int, vs = [.int m] ∧ RetV (.bl true) H Q
theorem sv_whole {m : Int} {H : Hp} : SpV spWhole [.int m] H (.bl true) := fun H1 _ Q q _ => ⟨m, rfl, q⟩
section
variable {K : PySem.W.Frag}
def spCellF (K : PySem.W.Frag) : Sp := fun vs H Q _ => ∃ (a : Addr) (ns : List Int) (k : Int), vs = [.ref a, .int k] ∧ SqL K H a (ns.map V.int) ∧ 0 ≤ k ∧ k ≤ 1000000 ∧ RetV (.int (cellF ns k)) H Q
theorem sv_cell {a : Addr} {ns : List Int} {k : Int} {H : Hp} (hS : SqL K H a (ns.map V.int)) (h0 : 0 ≤ k) (h1 : k ≤ 1000000) : SpV (spCellF K) [.ref a, .int k] H (.int (cellF ns k)) := fun H1 e Q q _ => ⟨a, ns, k, rfl, ex_l e hS, h0, h1, q⟩
def spDigits (K : PySem.W.Frag) : Sp := fun vs H Q _ => ∃ (c : Int) (b : Addr) (ss : List Int), vs = [.int c, .ref b] ∧ SqL K H b (ss.map V.int) ∧ OkSizes ss ∧ RetL ((digitsF c ss).map V.int) H Q
theorem sl_digits {c : Int} {b : Addr} {ss : List Int} {H : Hp} (hS : SqL K H b (ss.map V.int)) (ok : OkSizes ss) : SpL (spDigits K) [.int c, .ref b] H ((digitsF c ss).map V.int) := fun H1 e Q q _ => ⟨c, b, ss, rfl, ex_l e hS, ok, fun p H2 hp e2 h2 => q p H2 hp e2 h2⟩
theorem pos_of {ss : List Int} (h : OkSizes ss) : ∀ s ∈ ss, 0 < s := fun s hs => (h.2 s hs).1
end
end My

set_option Elab.async false
set_option linter.all false
set_option maxRecDepth 100000
set_option maxHeartbeats 4000000
namespace My
open PySem PySem.Spec PyProof.Rows L2 Evl
/-! ### lists of natural numbers, min and max, repr of a number -/
abbrev nV (l : List Nat) : List V := l.map fun (n : Nat) => V.int (n : Int)
theorem at_nV {l : List Nat} {i : Nat} (h : i < l.length) : atI (nV l) (i : Int) = some (.int (l.getD i 0 : Nat)) := by
  have e : ixN (nV l).length (i : Int) = some i := by
    unfold ixN
    rw [List.length_map, if_pos (by omega), if_pos (by omega)]
    simp
  unfold atI
  rw [e]
  show (nV l)[i]? = _
  rw [List.getElem?_map, List.getElem?_eq_getElem h, List.getD_eq_getElem?_getD, List.getElem?_eq_getElem h]
  rfl
theorem nV_len (l : List Nat) : (nV l).length = l.length := List.length_map _
abbrev nI (l : List Nat) : List Int := l.map fun (n : Nat) => (n : Int)
theorem nV_nI (l : List Nat) : nV l = (nI l).map V.int := by rw [List.map_map]; rfl
theorem sum_nI (l : List Nat) : (nI l).sum = ((l.sum : Nat) : Int) := by
  induction l with
  | nil => rfl
  | cons a l ih =>
    show (a : Int) + (nI l).sum = _
    rw [List.sum_cons, ih, Int.natCast_add]
theorem nV_app (l : List Nat) (n : Nat) : nV l ++ [V.int (n : Int)] = nV (l ++ [n]) := by simp [nV]
theorem nV_set (l : List Nat) (i n : Nat) : (nV l).set i (V.int (n : Int)) = nV (l.set i n) := by simp [nV, List.map_set]
section
variable {K : PySem.W.Frag} {σ : L2.St} {H : Hp} {ta tb tc te : TE}
def mn3 (a b c : Int) : Int := if c < (if b < a then b else a) then c else (if b < a then b else a)
theorem num3 (a b c : Int) : nuMin3 (.int a) (.int b) (.int c) = some (.int (mn3 a b c)) := by
  have h : ∀ i j : Int, nuLt (.int i) (.int j) = some (decide (i < j)) := fun _ _ => rfl
  unfold nuMin3 nuMin2 mn3
  rw [h]
  by_cases h1 : b < a
  · simp only [h1, decide_true, Option.map_some, Option.bind_some, if_true, h]
    by_cases h2 : c < b <;> simp [h2]
  · simp only [h1, decide_false, Option.map_some, Option.bind_some, if_false, h]
    by_cases h2 : c < a <;> simp [h2, h]
theorem ev_min3 {a b c : Int} (ha : Ev ta σ H (.int a)) (hb : Ev tb σ H (.int b)) (hc : Ev tc σ H (.int c)) : Ev (tCB (rNuC3 nuMin3) (tCons ta (tCons tb (tCons tc tNil)))) σ H (.int (mn3 a b c)) := fun H1 e Q q =>
  ha H1 e _ fun H2 e2 => hb H2 (e.trans e2) _ fun H3 e3 => hc H3 ((e.trans e2).trans e3) _ fun H4 e4 => ⟨_, _, _, _, rfl, num3 a b c, q H4 ((e2.trans e3).trans e4)⟩
def rReprI : List V → Hp → VK → Prop := fun xs H Q => ∃ i : Int, xs = [.int i] ∧ i.natAbs.log2 < 1920 ∧ Q (.str (toString i)) H
theorem cr_reprI {X : Cx} : CallR X (.builtin "repr") rReprI := SkE.call_repr_int
theorem ev_reprI {i : Int} (h : Ev te σ H (.int i)) (hb : i.natAbs.log2 < 1920) : Ev (tCB rReprI (tCons te tNil)) σ H (.str (toString i)) := fun H1 e Q q => h H1 e _ fun H2 e2 => ⟨i, rfl, hb, q H2 e2⟩
/-- min and max of a new list of numbers, told by what they are -/
theorem ev_minL {ns : List Int} {v : Int} (h : EvL te σ H (ns.map V.int)) (hne : 0 < ns.length) (hv : ∀ m, m ∈ ns → (∀ y, y ∈ ns → m ≤ y) → m = v) : Ev (tCB (rMin K) (tCons te tNil)) σ H (.int v) := fun H1 e Q q => h H1 e _ fun p H2 _ e2 h2 =>
  ⟨p, ns, rfl, sq_of h2, hne, fun m h1 h3 => by rw [hv m h1 h3]; exact q H2 e2⟩
theorem ev_maxL {ns : List Int} {v : Int} (h : EvL te σ H (ns.map V.int)) (hne : 0 < ns.length) (hv : ∀ m, m ∈ ns → (∀ y, y ∈ ns → y ≤ m) → m = v) : Ev (tCB (rMax K) (tCons te tNil)) σ H (.int v) := fun H1 e Q q => h H1 e _ fun p H2 _ e2 h2 =>
  ⟨p, ns, rfl, sq_of h2, hne, fun m h1 h3 => by rw [hv m h1 h3]; exact q H2 e2⟩
/-- the sum of a list that stands -/
theorem ev_sumR {p : Addr} {ns : List Int} (h : Ev te σ H (.ref p)) (hS : SqL K H p (ns.map V.int)) : Ev (tCB (rSum K) (tCons te tNil)) σ H (.int ns.sum) := fun H1 e Q q => h H1 e _ fun H2 e2 => ⟨p, ns, rfl, ex_l (e.trans e2) hS, q H2 e2⟩
theorem min2_nat (a b : Nat) : (if (b : Int) < (a : Int) then (b : Int) else (a : Int)) = ((min a b : Nat) : Int) := by split <;> omega
end
end My

set_option Elab.async false
set_option linter.all false
set_option maxRecDepth 100000
set_option maxHeartbeats 4000000
namespace My
open PySem PySem.Spec PyProof.Rows L2 Evl
open SX (S S_len S_cat S_beq S_beq_eq S_inj S_tl)
/-! ### texts as lists of code points -/
def cutL {α : Type} (l : List α) (lo hi : Option Int) : List α := (l.drop (HT.sIx l.length 0 lo)).take (HT.sIx l.length l.length hi - HT.sIx l.length 0 lo)
theorem cutV_L (xs : List V) (lo hi : Option Int) : cutV xs lo hi = cutL xs lo hi := rfl
theorem cutS_S (l : List Nat) (lo hi : Option Int) : cutS (S l) lo hi = S (cutL l lo hi) := by
  unfold cutS cutL
  rw [S_len]
theorem sIx_pos {n d : Nat} {i : Int} (h : 0 ≤ i) : HT.sIx n d (some i) = min i.toNat n := by
  show (if i < 0 then _ else min i.toNat n) = _
  rw [if_neg (by omega)]
theorem cutL_to {α : Type} {l : List α} {i : Int} (h : 0 ≤ i) : cutL l none (some i) = l.take i.toNat := by
  unfold cutL
  rw [sIx_pos h, HT.sIx_none, List.drop_zero, Nat.sub_zero]
  rw [List.take_eq_take_iff]
  omega
theorem cutL_from {α : Type} {l : List α} {i : Int} (h : 0 ≤ i) : cutL l (some i) none = l.drop i.toNat := by
  unfold cutL
  rw [sIx_pos h, HT.sIx_none]
  by_cases c : i.toNat ≤ l.length
  · rw [Nat.min_eq_left c]
    apply List.take_of_length_le
    rw [List.length_drop]
    omega
  · rw [Nat.min_eq_right (by omega), List.drop_length, List.drop_eq_nil_of_le (by omega)]
    simp
theorem cutL_mid {α : Type} {l : List α} {i j : Int} (h : 0 ≤ i) (hj : 0 ≤ j) : cutL l (some i) (some j) = (l.drop i.toNat).take (j.toNat - i.toNat) := by
  unfold cutL
  rw [sIx_pos h, sIx_pos hj]
  by_cases c : i.toNat ≤ l.length
  · rw [Nat.min_eq_left c, List.take_eq_take_iff, List.length_drop]
    omega
  · have e : min i.toNat l.length = l.length := Nat.min_eq_right (by omega)
    rw [e, List.drop_length, List.drop_eq_nil_of_le (show l.length ≤ i.toNat by omega)]
    simp
theorem cutL_map {α β : Type} (f : α → β) (l : List α) (lo hi : Option Int) : cutL (l.map f) lo hi = (cutL l lo hi).map f := by
  unfold cutL
  rw [List.length_map, List.map_take, List.map_drop]
theorem cutL_len {α : Type} (l : List α) (lo hi : Option Int) : (cutL l lo hi).length ≤ l.length := by
  unfold cutL
  rw [List.length_take, List.length_drop]
  omega
section
variable {X : Cx}
/-- a text times an int -/
def rRepS : R2 := fun x y H Q => ∃ (l : List Nat) (k : Int), x = .str (S l) ∧ y = .int k ∧ 0 ≤ k ∧ k ≤ 1000000 ∧ l.length * k.toNat ≤ 1000000 ∧ Q (.str (S (List.replicate k.toNat l).flatten)) H
theorem fold_app (l : List Nat) : ∀ (n : Nat) (acc : Array Nat), List.foldl (· ++ ·) acc (List.replicate n l.toArray) = acc ++ (List.replicate n l).flatten.toArray
  | 0, acc => by simp
  | n + 1, acc => by
    rw [List.replicate_succ, List.foldl_cons, fold_app l n, List.replicate_succ, List.flatten_cons]
    simp
theorem op_repS : OpR X (binaryOp .Mult) rRepS := by
  intro pins s σ H x y v u Q I rx ry h
  obtain ⟨l, k, rfl, rfl, h0, h1, hz, q⟩ := h
  obtain ⟨t, rfl⟩ := rx
  obtain ⟨t2, rfl⟩ := ry
  have hl : (S l).length = l.length := S_len l
  have hr : (decide (k < -(2 ^ 63 : Int)) || decide (k ≥ 2 ^ 63)) = false := by
    rw [decide_eq_false (by omega), decide_eq_false (by omega)]; rfl
  refine PySem.P.mul_str hr (fun n1 n2 => ?_) (fun n1 n2 => ?_) ?_
  · rw [hl]
    have a : (l.length : Int) ≤ 1000000 := by
      have : l.length * 1 ≤ l.length * k.toNat := Nat.mul_le_mul_left _ (by omega)
      omega
    have b : (1000000 : Int) ≤ (2 ^ 63 - 1) / k := (Int.le_ediv_iff_mul_le (by omega)).mpr (by omega)
    omega
  · rw [hl]
    show decide (l.length * k.toNat > sizeLine) = false
    have : sizeLine = 16777216 := rfl
    exact decide_eq_false (by omega)
  · by_cases c : k < 1
    · rw [if_pos c]
      have k0 : k.toNat = 0 := by omega
      rw [k0] at q
      exact ⟨by decide, ⟨.str (S []), H, I.tok _, ⟨_, rfl⟩, q⟩⟩
    · rw [if_neg c]
      by_cases d : (k == 1 || (S l).length == 0) = true
      · rw [if_pos d]
        have e : (List.replicate k.toNat l).flatten = l := by
          rw [Bool.or_eq_true] at d
          rcases d with d | d
          · have : k = 1 := by simpa using d
            subst this
            simp
          · have : l = [] := by
              rw [hl] at d
              exact List.length_eq_zero_iff.mp (by simpa using d)
            subst this
            simp
        rw [e] at q
        exact ⟨.str (S l), H, I, ⟨_, rfl⟩, q⟩
      · rw [if_neg d]
        have e : (⟨(List.replicate k.toNat (S l).cps).foldl (· ++ ·) #[]⟩ : PySem.Str) = S (List.replicate k.toNat l).flatten := by
          show PySem.Str.mk _ = PySem.Str.mk _
          rw [fold_app l]
          simp
        rw [e]
        refine ⟨?_, ⟨.str _, H, I.tok _, ⟨_, rfl⟩, q⟩⟩
        rw [S_len, List.length_flatten]
        have : sizeLine = 16777216 := rfl
        have e2 : (List.map List.length (List.replicate k.toNat l)).sum = k.toNat * l.length := by simp
        rw [e2, Nat.mul_comm]
        omega
end
/-! ### readings -/
abbrev rAddS : R2 := fun x y H Q => ∃ i j, x = .str i ∧ y = .str j ∧ i.length + j.length ≤ sizeLine ∧ Q (.str (i ++ j)) H
abbrev rJoin (K : PySem.W.Frag) : V → List V → Hp → VK → Prop := fun x xs H Q => ∃ a p, ∃ ys : List Str, x = .str a ∧ xs = [.ref p] ∧ (SqL K H p (ys.map V.str) ∨ SqT K H p (ys.map V.str)) ∧
    (ys.map (·.length)).sum + ys.length * a.length ≤ 16777216 ∧ Q (.str (Txt.join a ys)) H
abbrev sV (ls : List (List Nat)) : List V := ls.map fun l => V.str (S l)
section
variable {K : PySem.W.Frag} {σ : L2.St} {H : Hp} {ta tb te : TE} {x y z v : V} {D : Ends} {tu tz : TS} {tl th : TO}
theorem rv_addS {a b : List Nat} (h : a.length + b.length ≤ 1000000) : RV rAddS (.str (S a)) (.str (S b)) H (.str (S (a ++ b))) := fun H1 _ Q q =>
  ⟨S a, S b, rfl, rfl, by rw [S_len, S_len]; have : sizeLine = 16777216 := rfl; omega, by rw [S_cat]; exact q H1 (Ex.refl H1)⟩
theorem rv_repS {l : List Nat} {k : Int} (h0 : 0 ≤ k) (h1 : k ≤ 1000000) (hz : l.length * k.toNat ≤ 1000000) : RV rRepS (.str (S l)) (.int k) H (.str (S (List.replicate k.toNat l).flatten)) := fun H1 _ Q q => ⟨l, k, rfl, rfl, h0, h1, hz, q H1 (Ex.refl H1)⟩
theorem rv_ixSS {l : List Nat} {i : Int} {c : Nat} (h : l.length ≤ 100000) (ha : atI l i = some c) : RV rIxS (.str (S l)) (.int i) H (.str (S [c])) := rv_ixS (by rw [S_len]; exact h) (by simpa using ha)
theorem ev_slS {l : List Nat} {lo hi : Option Int} (h : Ev te σ H (.str (S l))) (h1 : EvO tl σ H lo) (h2 : EvO th σ H hi) (hz : l.length ≤ 1000000) : Ev (tSl rSlS te tl th) σ H (.str (S (cutL l lo hi))) := fun H1 e Q q =>
  h H1 e _ fun H2 e2 => h1 H2 (e.trans e2) _ fun H3 e3 => h2 H3 ((e.trans e2).trans e3) _ fun H4 e4 => ⟨S l, rfl, by rw [S_len]; have : sizeLine = 16777216 := rfl; omega, by
    rw [cutS_S]
    exact q H4 ((e2.trans e3).trans e4)⟩
theorem ev_lenSS {l : List Nat} (ha : Ev ta σ H (.str (S l))) (hs : l.length ≤ 1000000) : Ev (tCB (fun xs H Q => ∃ z : Str, xs = [.str z] ∧ z.length ≤ sizeLine ∧ Q (.int z.length) H) (tCons ta tNil)) σ H (.int (l.length : Int)) := by
  have h := ev_lenStr (s := S l) ha (by rw [S_len]; have : sizeLine = 16777216 := rfl; omega)
  rw [S_len] at h
  exact h
theorem joinL_nil : ∀ ls : List (List Nat), TL.joinL [] ls = ls.flatten
  | [] => rfl
  | [p] => by simp [TL.joinL]
  | p :: q :: r => by
    rw [TL.joinL, joinL_nil (q :: r)]
    simp
theorem sum_le {ls : List (List Nat)} {n : Nat} (h : ∀ l ∈ ls, l.length ≤ n) : (ls.map List.length).sum ≤ ls.length * n := by
  induction ls with
  | nil => simp
  | cons l ls ih =>
    have a := ih fun m hm => h m (List.mem_cons_of_mem _ hm)
    have b := h l List.mem_cons_self
    rw [List.map_cons, List.sum_cons, List.length_cons, Nat.succ_mul]
    omega
/-- ''.join(xs), xs a new list -/
theorem ev_joinL {ls : List (List Nat)} (ho : Ev ta σ H (.str (S []))) (hb : EvL tb σ H (sV ls)) (hz : (ls.map List.length).sum ≤ 1000000) : Ev (tM1 (rJoin K) ta tb) σ H (.str (S ls.flatten)) := fun H1 e Q q =>
  ho H1 e _ fun H2 e2 => ⟨⟨_, rfl⟩, hb H2 (e.trans e2) _ fun p H3 hp e3 h3 => ⟨S [], p, ls.map S, rfl, rfl, Or.inl (by rw [List.map_map]; exact sq_of h3), by
    rw [SX.lens, List.length_map]
    have : (S ([] : List Nat)).length = 0 := rfl
    rw [this, Nat.mul_zero]
    exact Nat.le_trans hz (by decide), by
    rw [SX.join_S, joinL_nil]
    exact q H3 (e2.trans e3)⟩⟩
end
/-! ### a dict whose keys are texts that were met -/
def DW (H : Hp) (d : Addr) (ws : List (List Nat)) : Prop := ∃ kvs, H d = some (.dK kvs) ∧ kvs.length ≤ ws.length ∧ ∀ w, (valV kvs (Sum.inr (S w))).isSome = decide (w ∈ ws)
theorem DW.ex {H H' : Hp} {d : Addr} {ws : List (List Nat)} (h : DW H d ws) (e : Ex H H') : DW H' d ws := by
  obtain ⟨kvs, a, b, c⟩ := h
  exact ⟨kvs, e _ _ a, b, c⟩
theorem DW.upd {H : Hp} {d p : Addr} {o : HO} {ws : List (List Nat)} (h : DW H d ws) (hp : d ≠ p) : DW (upd H p o) d ws := by
  obtain ⟨kvs, a, b, c⟩ := h
  exact ⟨kvs, by rw [upd_ne hp]; exact a, b, c⟩
theorem kV_str (w : List Nat) : (kV (Sum.inr (S w)) : V) = .str (S w) := rfl
section
variable {K : PySem.W.Frag} {σ : L2.St} {H : Hp} {ta tb te : TE} {D : Ends} {tz : TS}
theorem q_dnew {i : Nat} (k : ∀ p H1, H p = none → DW H1 p [] → Ex H H1 → tz D (σ.set i (some (.ref p))) H1) : tSeq (tAsg tDNewK (gName i)) tz D σ H := fun p hp =>
  k p _ hp ⟨[], upd_same, Nat.le_refl _, fun w => by simp [valV_nil]⟩ (Ex.new hp)
theorem ev_din {d : Addr} {w : List Nat} {ws : List (List Nat)} (ha : Ev ta σ H (.str (S w))) (hb : Ev tb σ H (.ref d)) (h : DW H d ws) : Ev (tDIn ta tb) σ H (.bl (decide (w ∈ ws))) := fun H1 e Q q =>
  ha H1 e _ fun H2 e2 => hb H2 (e.trans e2) _ fun H3 e3 => by
    obtain ⟨kvs, h1, h2, h3⟩ := h.ex ((e.trans e2).trans e3)
    exact ⟨d, _, rfl, DGet.k (k := Sum.inr (S w)) h1, by rw [h3]; exact q H3 (e2.trans e3)⟩
theorem ev_dni {d : Addr} {w : List Nat} {ws : List (List Nat)} (ha : Ev ta σ H (.str (S w))) (hb : Ev tb σ H (.ref d)) (h : DW H d ws) : Ev (tDNotIn ta tb) σ H (.bl (!decide (w ∈ ws))) := fun H1 e Q q =>
  ha H1 e _ fun H2 e2 => hb H2 (e.trans e2) _ fun H3 e3 => by
    obtain ⟨kvs, h1, h2, h3⟩ := h.ex ((e.trans e2).trans e3)
    exact ⟨d, _, rfl, DGet.k (k := Sum.inr (S w)) h1, by rw [h3]; exact q H3 (e2.trans e3)⟩
theorem dw_put {d : Addr} {w : List Nat} {ws : List (List Nat)} {v : V} {H : Hp} {kvs : List (Key × V)} (h2 : kvs.length ≤ ws.length) (h3 : ∀ w, (valV kvs (Sum.inr (S w))).isSome = decide (w ∈ ws)) : DW (upd H d (.dK (putK kvs (Sum.inr (S w)) v))) d (w :: ws) := by
  refine ⟨_, upd_same, ?_, fun u => ?_⟩
  · have : (putK kvs (Sum.inr (S w)) v).length ≤ kvs.length + 1 := by
      unfold putK
      split
      · rw [List.length_map]; omega
      · rw [List.length_append]; simp
    rw [List.length_cons]
    omega
  · rw [valV_put]
    by_cases e : u = w
    · subst e; simp
    · have e2 : ¬ (Sum.inr (S u) : Key) = Sum.inr (S w) := fun c => e (S_inj (Sum.inr.inj c))
      rw [if_neg e2, h3]
      simp [e]
/-- d[w] = True; d is not of the first heap -/
theorem s_dput {d : Addr} {w : List Nat} {ws : List (List Nat)} {v : V} (hv : Ev te σ H v) (ho : Ev tb σ H (.ref d)) (hi : Ev ta σ H (.str (S w))) (h : DW H d ws) (hl : ws.length < 100000)
    (k : ∀ H1, Ex H H1 → ∀ kvs, DW (upd H1 d (.dK kvs)) d (w :: ws) → D.nx σ (upd H1 d (.dK kvs))) : sDPut tb ta te D σ H :=
  hv H (Ex.refl H) _ fun H1 e1 => ho H1 e1 _ fun H2 e2 => hi H2 (e1.trans e2) _ fun H3 e3 => by
    obtain ⟨kvs, h1, h2, h3⟩ := h.ex ((e1.trans e2).trans e3)
    exact ⟨d, _, rfl, DPut.k (k := Sum.inr (S w)) h1 (sz_lt (by omega)), k H3 ((e1.trans e2).trans e3) _ (dw_put h2 h3)⟩
theorem q_dput {d : Addr} {w : List Nat} {ws : List (List Nat)} {v : V} (hv : Ev te σ H v) (ho : Ev tb σ H (.ref d)) (hi : Ev ta σ H (.str (S w))) (h : DW H d ws) (hl : ws.length < 100000)
    (k : ∀ H1, Ex H H1 → ∀ kvs, DW (upd H1 d (.dK kvs)) d (w :: ws) → tz D σ (upd H1 d (.dK kvs))) : tSeq (sDPut tb ta te) tz D σ H := s_dput (D := { D with nx := tz D }) hv ho hi h hl k
end
end My

set_option Elab.async false
set_option linter.all false
set_option maxRecDepth 100000
set_option maxHeartbeats 4000000
namespace My
open PySem PySem.Spec PyProof.Rows L2 Evl
open SX (S S_len S_cat S_beq S_beq_eq S_inj S_tl)
/-! ### a <= b < c <= d -/
def tChain3 (r r' r'' : R2) (ta tb tc td : TE) : L2.TT := fun σ H Q => ta σ H fun x H1 => tb σ H1 fun y H2 => r x y H2 fun z H3 => ∃ k, z = .bl k ∧
  (if k = true then tc σ H3 fun w H4 => r' y w H4 fun z2 H5 => ∃ k2, z2 = .bl k2 ∧ (if k2 = true then td σ H5 fun u H6 => r'' w u H6 fun z3 H7 => ∃ k3, z3 = .bl k3 ∧ Q k3 H7 else Q false H5) else Q false H3)
section
variable {X : Cx} {a b c d : Expr} {ta tb tc td : TE} {pos : Pos}
theorem pt_chain3 {op op' op'' : CmpOp} {r r' r'' : R2} (ho : OpR X (compareOp op) r) (ho' : OpR X (compareOp op') r') (ho'' : OpR X (compareOp op'') r'') (ha : PE X a ta) (hb : PE X b tb) (hc : PE X c tc) (hd : PE X d td)
    (hm : lastMarks [op, op', op''] [b, c, d] = false := by with_unfolding_all rfl) : PT X (.Compare a [op, op', op''] [b, c, d] pos) (tChain3 r r' r'' ta tb tc td) := by
  refine ⟨fun pins s σ H Q I h => ?_⟩
  refine isTrue_chain (thn (ha.run pins s σ H _ I h) fun v s1 ⟨x, H1, I1, r1, q1⟩ => test_link (thn (hb.run pins s1 σ H1 _ I1 q1) fun u s2 ⟨y, H2, I2, r2, q2⟩ =>
    thn (ho pins s2 σ H2 x y v u _ I2 r1 r2 q2) fun e s3 ⟨z, H3, I3, r3, k, e0, q3⟩ => ?_)) hm
  subst e0
  cases r3
  refine wpAny_truthy_bool ?_
  cases k with
  | false => exact ite_ff ⟨H3, I3, q3⟩
  | true =>
    refine ite_tt (test_link (thn (hc.run pins s3 σ H3 _ I3 q3) fun w' s4 ⟨w, H4, I4, r4, q4⟩ => thn (ho' pins s4 σ H4 y w u w' _ I4 r2 r4 q4) fun d' s5 ⟨z2, H5, I5, r5, k2, e2, q5⟩ => ?_))
    subst e2
    cases r5
    refine wpAny_truthy_bool ?_
    cases k2 with
    | false => exact ite_ff ⟨H5, I5, q5⟩
    | true =>
      refine ite_tt (test_last (thn (hd.run pins s5 σ H5 _ I5 q5) fun u' s6 ⟨u2, H6, I6, r6, q6⟩ => thn (ho'' pins s6 σ H6 w u2 w' u' _ I6 r4 r6 q6) fun d2 s7 ⟨z3, H7, I7, r7, k3, e3, q7⟩ => ?_))
      subst e3
      cases r7
      exact wpAny_truthy_bool ⟨H7, I7, q7⟩
end
section
variable {K : PySem.W.Frag} {σ : L2.St} {H : Hp} {ta tb tc td te : TE} {x y w u z v : V} {D : Ends} {tu tz : TS}
theorem et_chain3 {r r' r'' : R2} {k1 k2 k3 : Bool} (ha : Ev ta σ H x) (hb : Ev tb σ H y) (hc : Ev tc σ H w) (hd : Ev td σ H u) (h1 : RV r x y H (.bl k1)) (h2 : RV r' y w H (.bl k2)) (h3 : RV r'' w u H (.bl k3)) :
    EvT (tChain3 r r' r'' ta tb tc td) σ H (k1 && (k2 && k3)) := fun H0 e0 Q q => ha H0 e0 _ fun H1 e1 => hb H1 (e0.trans e1) _ fun H2 e2 => h1 H2 ((e0.trans e1).trans e2) _ fun H3 e3 => ⟨k1, rfl, by
    cases k1 with
    | false => exact ite_ff (q H3 ((e1.trans e2).trans e3))
    | true =>
      refine ite_tt (hc H3 (((e0.trans e1).trans e2).trans e3) _ fun H4 e4 => h2 H4 ((((e0.trans e1).trans e2).trans e3).trans e4) _ fun H5 e5 => ⟨k2, rfl, ?_⟩)
      cases k2 with
      | false => exact ite_ff (q H5 ((((e1.trans e2).trans e3).trans e4).trans e5))
      | true => exact ite_tt (hd H5 (((((e0.trans e1).trans e2).trans e3).trans e4).trans e5) _ fun H6 e6 => h3 H6 ((((((e0.trans e1).trans e2).trans e3).trans e4).trans e5).trans e6) _ fun H7 e7 => ⟨k3, rfl, q H7 ((((((e1.trans e2).trans e3).trans e4).trans e5).trans e6).trans e7)⟩)⟩
/-! ### items -/
theorem at_get {α : Type} {l : List α} {i : Int} (h0 : 0 ≤ i) (h1 : i < (l.length : Int)) : ∃ c, atI l i = some c ∧ c ∈ l := by
  obtain ⟨j, rfl⟩ : ∃ j : Nat, i = (j : Int) := ⟨i.toNat, by omega⟩
  have hj : j < l.length := by omega
  exact ⟨l[j], atI_nat (List.getElem?_eq_getElem hj), List.getElem_mem hj⟩
theorem at_str {l : Str} {i : Int} {n : Nat} (hn : l.length = n) (hz : n ≤ 100000) (h0 : 0 ≤ i) (h1 : i < (n : Int)) : ∃ c, RV rIxS (.str l) (.int i) H (.str (S [c])) := by
  obtain ⟨c, hc, _⟩ := at_get (l := l.cps.toList) h0 (by
    have : l.cps.toList.length = l.length := by simp [Str.length]
    omega)
  exact ⟨c, rv_ixS (by omega) hc⟩
theorem at_S {l : List Nat} {i : Int} (hz : l.length ≤ 100000) (h0 : 0 ≤ i) (h1 : i < (l.length : Int)) : ∃ c, c ∈ l ∧ RV rIxS (.str (S l)) (.int i) H (.str (S [c])) := by
  obtain ⟨c, hc, hm⟩ := at_get (l := l) h0 h1
  exact ⟨c, hm, rv_ixSS hz hc⟩
/-- an item of a written list of numbers -/
theorem at_ints {ns : List Int} {i : Int} (P : Int → Prop) (hP : ∀ n ∈ ns, P n) (h0 : 0 ≤ i) (h1 : i < (ns.length : Int)) : ∃ z, atI (ns.map V.int) i = some (.int z) ∧ P z := by
  obtain ⟨c, hc, hm⟩ := at_get (l := ns.map V.int) h0 (by rw [List.length_map]; exact h1)
  obtain ⟨z, hz, rfl⟩ := List.mem_map.mp hm
  exact ⟨z, hc, hP z hz⟩
theorem flat_strs (ls : List (List Nat)) : (sV ls).all flatV = true := by
  rw [List.all_eq_true]
  intro v hv
  obtain ⟨l, _, rfl⟩ := List.mem_map.mp hv
  rfl
theorem el_call2 {xs ys : List V} {sp : Sp} {E : XK} (ha : Ev ta σ H x) (hb : EvL tb σ H xs) (hs : ∀ p H1, H1 p = some (.lst xs) → Ex H H1 → SpL sp [x, .ref p] H1 ys) : EvL (tCall sp [] E (tCons ta (tCons tb tNil))) σ H ys := fun H0 e0 Q q =>
  ha H0 e0 _ fun H1 e1 => hb H1 (e0.trans e1) _ fun p H2 hp e2 h2 => hs p H2 h2 ((e0.trans e1).trans e2) H2 (Ex.refl H2) Q (fun r H3 hr e3 h3 => q r H3 (fresh_back (e1.trans e2) hr) ((e1.trans e2).trans e3) h3) E
theorem ev_ixNew {xs : List V} {i : Int} (ha : EvL ta σ H xs) (hb : ∀ H1, Ex H H1 → Ev tb σ H1 (.int i)) (h : atI xs i = some v) : Ev (tOp (rIxL K) ta tb) σ H v := fun H1 e Q q =>
  ha H1 e _ fun p H2 hp e2 h2 => hb H2 (e.trans e2) H2 (Ex.refl H2) _ fun H3 e3 => ⟨p, xs, i, v, rfl, rfl, sq_of (e3 _ _ h2), h, q H3 (e2.trans e3)⟩
/-- ''.join(sorted(xs)), fewer than 64 -/
theorem ev_joinSorted {p : Addr} {ls : List (List Nat)} {Q : VK} (ho : Ev ta σ H (.str (S []))) (hb : Ev tb σ H (.ref p)) (h : SqL K H p (sV ls)) (h64 : ls.length < 64) (hz : (ls.map List.length).sum ≤ 1000000)
    (q : ∀ (l : List Nat) H2, l.length = (ls.map List.length).sum → Ex H H2 → Q (.str (S l)) H2) : (tM1 (rJoin K) ta (tCB (rSortedS K) (tCons tb tNil))) σ H Q :=
  ho H (Ex.refl H) _ fun H1 e1 => ⟨⟨_, rfl⟩, hb H1 e1 _ fun H2 e2 => ⟨p, ls.map S, rfl, by rw [List.map_map]; exact ex_l (e1.trans e2) h, by rw [List.length_map]; exact h64, fun ys d perm _ hd =>
    ⟨S [], d, ys, rfl, rfl, Or.inl (sq_of upd_same), by
      have e : (S ([] : List Nat)).length = 0 := rfl
      have s := (perm.map (·.length)).sum_nat
      rw [SX.lens] at s
      rw [e, Nat.mul_zero, s]
      exact Nat.le_trans hz (by decide), by
      have e3 : ys = (ys.map fun y => y.cps.toList).map S := by
        rw [List.map_map]
        exact (List.map_id ys).symm.trans (List.map_congr_left fun y _ => (S_tl y).symm)
      have s := (perm.map (·.length)).sum_nat
      rw [SX.lens] at s
      rw [e3] at s ⊢
      rw [SX.join_S, joinL_nil]
      refine q _ _ ?_ ((e1.trans e2).trans (Ex.new hd))
      rw [SX.lens] at s
      rw [List.length_flatten]
      exact s⟩⟩⟩
theorem s_forS {l : List Nat} {tl : TE} {g : TG} (h : Ev tl σ H (.str (S l))) (Pv : Nat → L2.St → Hp → Prop) (h0 : ∀ H1, Ex H H1 → Pv 0 σ H1)
    (hs : ∀ i c σ H, (S l).cps[i]? = some c → Pv i σ H → g (.str ⟨#[c]⟩) σ H fun σ2 H2 => tu { D with nx := Pv (i + 1), ct := Pv (i + 1), bk := D.nx } σ2 H2) (hd : ∀ σ H, Pv (S l).cps.size σ H → D.nx σ H) : tFor (iStr tl) g tu D σ H :=
  h H (Ex.refl H) _ fun H1 e => ⟨S l, rfl, for_str Pv (h0 H1 e) hs hd⟩
end
end My

set_option Elab.async false
set_option linter.all false
set_option maxRecDepth 100000
set_option maxHeartbeats 4000000
namespace My
open PySem PySem.Spec PyProof.Rows L2 Evl
open SX (S S_len S_cat S_beq S_beq_eq S_inj S_tl)
section
variable {K : PySem.W.Frag} {σ : L2.St} {H : Hp} {ta tb tc td te : TE} {x y w u z v : V} {D : Ends} {tu tz : TS} {t : L2.TT}
theorem el_lcR2 {ta : TA} {j : Nat} {vs : List Nat} {lo n : Int} (f : Nat → Bool) (v : Nat → V) (h : EvA ta σ H [.int lo, .int n]) (hn : -10000 ≤ lo ∧ lo ≤ 10000 ∧ n ≤ 10000 ∧ -10000 ≤ n) (hw : ∀ x, wipe ((wipe σ vs).set j (some x)) vs = wipe σ vs)
    (ht : ∀ (i : Nat) H1, Ex H H1 → i < (n - lo).toNat → EvT t ((wipe σ vs).set j (some (.int (lo + (i : Int))))) H1 (f i)) (he : ∀ (i : Nat) H1, Ex H H1 → i < (n - lo).toNat → f i = true → Ev te ((wipe σ vs).set j (some (.int (lo + (i : Int))))) H1 (v i)) :
    EvL (tLc (iRng2 ta) (gName j) t te vs) σ H (given (n - lo).toNat f v) := fun H0 e Q q => h H0 e _ fun H1 e1 => ⟨lo, n, rfl, ⟨by omega, by omega, by omega, by omega⟩, fun Dl hD =>
  lc_range (lo := lo) (n := (n - lo).toNat) (Cw H1 f v Dl) ⟨hD, Ex.new hD, upd_same⟩ (fun i H' hi p => ⟨hw _, cw_turn p (by omega) (ht i H1 (e.trans e1) hi) (fun hf => he i H1 (e.trans e1) hi hf)⟩) (fun H' p => q Dl H' (fresh_back e1 p.1) (e1.trans p.2.1) p.2.2)⟩
theorem lc_str {x : Str} {g : TG} {tt : L2.TT} {te : TE} {vs : List Nat} {σ : L2.St} {H1 : Hp} {D : Addr} {Qd : Hp → Prop} (Pv : Nat → Hp → Prop) (h0 : Pv 0 (upd H1 D (.lst [])))
    (hs : ∀ i c H, x.cps[i]? = some c → Pv i H → g (.str ⟨#[c]⟩) (wipe σ vs) H fun σ2 H2 => wipe σ2 vs = wipe σ vs ∧ tt σ2 H2 fun b H3 =>
      if b = true then te σ2 H3 fun y H4 => ∃ acc, H4 D = some (.lst acc) ∧ acc.length < sizeLine ∧ Pv (i + 1) (upd H4 D (.lst (acc ++ [y]))) else Pv (i + 1) H3) (hd : ∀ H, Pv x.cps.size H → Qd H) :
    ∃ W : Nat → Nat → Hp → Prop, (∃ m, W 0 m (upd H1 D (.lst []))) ∧ ∀ i m H, W i m H →
      ((Its x).stop i H ∧ Qd H) ∨ ((Its x).go i H ∧ ∃ Nx : Hp → Prop, (∀ H', Nx H' → ∃ m', m' < m ∧ W (i + 1) m' H') ∧ ∀ y H', (Its x).yld i H y H' → g y (wipe σ vs) H' fun σ2 H2 => wipe σ2 vs = wipe σ vs ∧ tt σ2 H2 fun b H3 =>
        if b = true then te σ2 H3 fun y H4 => ∃ acc, H4 D = some (.lst acc) ∧ acc.length < sizeLine ∧ Nx (upd H4 D (.lst (acc ++ [y]))) else Nx H3) := by
  refine ⟨fun i m H => m = x.cps.size - i ∧ i ≤ x.cps.size ∧ Pv i H, ⟨x.cps.size, by simp, Nat.zero_le _, h0⟩, ?_⟩
  rintro i m H ⟨rfl, hi, p⟩
  by_cases hlt : i < x.cps.size
  · refine .inr ⟨hlt, Pv (i + 1), fun H' p' => ⟨x.cps.size - (i + 1), by omega, rfl, hlt, p'⟩, fun y H' z => ?_⟩
    obtain ⟨e, c, hc, rfl⟩ := z
    subst e
    exact hs i c _ hc p
  · have e : i = x.cps.size := by omega
    subst e
    exact .inl ⟨Nat.le_refl _, hd H p⟩
theorem el_lcS {l : List Nat} {tl : TE} {j : Nat} {vs : List Nat} (f : Nat → Bool) (v : Nat → V) (h : Ev tl σ H (.str (S l))) (hz : l.length ≤ 40000) (hw : ∀ x, wipe ((wipe σ vs).set j (some x)) vs = wipe σ vs)
    (ht : ∀ (i c : Nat) H1, Ex H H1 → l[i]? = some c → EvT t ((wipe σ vs).set j (some (.str (S [c])))) H1 (f i)) (he : ∀ (i c : Nat) H1, Ex H H1 → l[i]? = some c → f i = true → Ev te ((wipe σ vs).set j (some (.str (S [c])))) H1 (v i)) :
    EvL (tLc (iStr tl) (gName j) t te vs) σ H (given l.length f v) := fun H0 e Q q => h H0 e _ fun H1 e1 => ⟨S l, rfl, fun Dl hD => by
  have hsz : (S l).cps.size = l.length := by simp
  refine lc_str (x := S l) (Cw H1 f v Dl) ⟨hD, Ex.new hD, upd_same⟩ (fun i c H' hi p => ?_) (fun H' p => ?_)
  · have hi2 : l[i]? = some c := by simpa using hi
    have := (List.getElem?_eq_some_iff.mp hi2).1
    exact ⟨hw _, cw_turn p (by omega) (ht i c H1 (e.trans e1) hi2) (fun hf => he i c H1 (e.trans e1) hi2 hf)⟩
  · rw [hsz] at p
    exact q Dl H' (fresh_back e1 p.1) (e1.trans p.2.1) p.2.2⟩
/-- the texts made, as a list -/
theorem given_S (g : Nat → List Nat) : ∀ n, given n (fun _ => true) (fun i => V.str (S (g i))) = sV ((List.range n).map g)
  | 0 => rfl
  | n + 1 => by
    rw [given_yes rfl, given_S g n, List.range_succ, List.map_append]
    show _ = List.map _ (List.map g (List.range n) ++ [g n])
    rw [List.map_append]
    rfl
theorem sum_range (g : Nat → List Nat) (b : Nat) (h : ∀ i, (g i).length ≤ b) (n : Nat) : (((List.range n).map g).map List.length).sum ≤ n * b := by
  have := sum_le (ls := (List.range n).map g) (n := b) fun l hl => by
    obtain ⟨i, _, rfl⟩ := List.mem_map.mp hl
    exact h i
  rw [List.length_map, List.length_range] at this
  exact this
theorem len_range (g : Nat → List Nat) (b : Nat) (h : ∀ i, (g i).length = b) : ∀ n, (((List.range n).map g).flatten).length = n * b
  | 0 => by simp
  | n + 1 => by
    rw [List.range_succ, List.map_append, List.flatten_append, List.length_append, len_range g b h n, Nat.succ_mul]
    simp [h]
theorem len_range_le (g : Nat → List Nat) (b : Nat) (h : ∀ i, (g i).length ≤ b) (n : Nat) : (((List.range n).map g).flatten).length ≤ n * b := by
  rw [List.length_flatten]
  exact sum_range g b h n
end
end My

set_option Elab.async false
set_option linter.all false
set_option maxRecDepth 100000
set_option maxHeartbeats 4000000
namespace My
open PySem PySem.Spec PyProof.Rows L2 Evl
section
variable {K : PySem.W.Frag} {σ : L2.St} {H : Hp} {ta tb tc td te : TE} {x y w u z v : V} {D : Ends} {tu tz : TS}
theorem et_chain {r r' : R2} {k1 k2 : Bool} (ha : Ev ta σ H x) (hb : Ev tb σ H y) (hc : Ev tc σ H w) (h1 : RV r x y H (.bl k1)) (h2 : RV r' y w H (.bl k2)) : EvT (tTest (tChain r r' ta tb tc)) σ H (k1 && k2) :=
  et_test fun H0 e0 Q q => ha H0 e0 _ fun H1 e1 => hb H1 (e0.trans e1) _ fun H2 e2 => h1 H2 ((e0.trans e1).trans e2) _ fun H3 e3 => ⟨k1, rfl, by
    cases k1 with
    | false => exact ite_ff (q H3 ((e1.trans e2).trans e3))
    | true => exact ite_tt (hc H3 (((e0.trans e1).trans e2).trans e3) _ fun H4 e4 => h2 H4 ((((e0.trans e1).trans e2).trans e3).trans e4) _ fun H5 e5 => q H5 ((((e1.trans e2).trans e3).trans e4).trans e5))⟩
/-- list(range(n)) -/
theorem el_listRg {n : Int} (h : Ev te σ H (.int n)) (h0 : 0 ≤ n) (h1 : n ≤ 40000) : EvL (tLstRg (tRg1 te)) σ H (rgV 0 n) := fun H1 e Q q =>
  h H1 e _ fun H2 e2 => ⟨n, rfl, by unfold RgOk; omega, fun l hl => q l _ (fresh_back e2 hl) (e2.trans (Ex.new hl)) upd_same⟩
theorem rgV_nat (n : Nat) : rgV 0 (n : Int) = nV (List.range n) := by
  unfold rgV nV
  rw [Int.sub_zero, Int.toNat_natCast]
  refine List.map_congr_left fun i _ => ?_
  rw [Int.zero_add]
/-- a call with two new lists -/
theorem q_callLL {i : Nat} {xs ys : List V} {sp : Sp} {E : XK} (ha : EvL ta σ H xs) (hb : EvL tb σ H ys)
    (k : ∀ p q H1, Ex H H1 → H1 p = some (.lst xs) → H1 q = some (.lst ys) → sp [.ref p, .ref q] H1 (fun x H2 => tz D (σ.set i (some x)) H2) E) : tSeq (tAsg (tCall sp [] E (tCons ta (tCons tb tNil))) (gName i)) tz D σ H :=
  ha H (Ex.refl H) _ fun p H1 hp e1 h1 => hb H1 e1 _ fun q H2 hq e2 h2 => k p q H2 (e1.trans e2) (e2 _ _ h1) h2
theorem q_callVL {i : Nat} {ys : List V} {sp : Sp} {E : XK} (ha : Ev ta σ H x) (hb : EvL tb σ H ys)
    (k : ∀ q H1, Ex H H1 → H1 q = some (.lst ys) → sp [x, .ref q] H1 (fun x H2 => tz D (σ.set i (some x)) H2) E) : tSeq (tAsg (tCall sp [] E (tCons ta (tCons tb tNil))) (gName i)) tz D σ H :=
  ha H (Ex.refl H) _ fun H1 e1 => hb H1 e1 _ fun q H2 hq e2 h2 => k q H2 (e1.trans e2) h2
/-- a call whose second argument of four is a new list -/
theorem ev_call4L2 {xs : List V} {sp : Sp} {E : XK} (ha : Ev ta σ H x) (hb : EvL tb σ H xs) (hc : Ev tc σ H y) (hd : Ev td σ H w) (hs : ∀ p H1, H1 p = some (.lst xs) → Ex H H1 → SpV sp [x, .ref p, y, w] H1 z) :
    Ev (tCall sp [] E (tCons ta (tCons tb (tCons tc (tCons td tNil))))) σ H z := fun H0 e0 Q q =>
  ha H0 e0 _ fun H1 e1 => hb H1 (e0.trans e1) _ fun p H2 hp e2 h2 => hc H2 ((e0.trans e1).trans e2) _ fun H3 e3 => hd H3 (((e0.trans e1).trans e2).trans e3) _ fun H4 e4 =>
    hs p H4 (e4 _ _ (e3 _ _ h2)) ((((e0.trans e1).trans e2).trans e3).trans e4) H4 (Ex.refl H4) Q (fun H5 e5 => q H5 ((((e1.trans e2).trans e3).trans e4).trans e5)) E
theorem q_callLV {i : Nat} {xs : List V} {sp : Sp} {E : XK} (ha : EvL ta σ H xs) (hb : Ev tb σ H y)
    (k : ∀ q H1, Ex H H1 → H1 q = some (.lst xs) → sp [.ref q, y] H1 (fun x H2 => tz D (σ.set i (some x)) H2) E) : tSeq (tAsg (tCall sp [] E (tCons ta (tCons tb tNil))) (gName i)) tz D σ H :=
  ha H (Ex.refl H) _ fun q H1 hq e1 h1 => hb H1 e1 _ fun H2 e2 => k q H2 (e1.trans e2) (e2 _ _ h1)
/-- over range(n), n may be below 0 -/
theorem el_lcRz {ta : TA} {t : L2.TT} {j : Nat} {vs : List Nat} {n : Int} (f : Nat → Bool) (v : Nat → V) (h : EvA ta σ H [.int n]) (hn : -40000 ≤ n ∧ n ≤ 40000) (hw : ∀ x, wipe ((wipe σ vs).set j (some x)) vs = wipe σ vs)
    (ht : ∀ (i : Nat) H1, Ex H H1 → (i : Int) < n → EvT t ((wipe σ vs).set j (some (.int (i : Int)))) H1 (f i)) (he : ∀ (i : Nat) H1, Ex H H1 → (i : Int) < n → f i = true → Ev te ((wipe σ vs).set j (some (.int (i : Int)))) H1 (v i)) :
    EvL (tLc (iRng1 ta) (gName j) t te vs) σ H (given n.toNat f v) := fun H0 e Q q => h H0 e _ fun H1 e1 => ⟨n, rfl, by omega, by omega, fun Dl hD =>
  lc_range (lo := 0) (n := n.toNat) (Cw H1 f v Dl) ⟨hD, Ex.new hD, upd_same⟩ (fun i H' hi p => by
    have e0 : (0 : Int) + (i : Int) = (i : Int) := Int.zero_add _
    show wipe ((wipe σ vs).set j (some (.int ((0 : Int) + (i : Int))))) vs = wipe σ vs ∧ t ((wipe σ vs).set j (some (.int ((0 : Int) + (i : Int))))) H' fun b H3 => if b = true then te ((wipe σ vs).set j (some (.int ((0 : Int) + (i : Int))))) H3 fun y H4 => ∃ acc, H4 Dl = some (.lst acc) ∧ acc.length < sizeLine ∧ Cw H1 f v Dl (i + 1) (upd H4 Dl (.lst (acc ++ [y]))) else Cw H1 f v Dl (i + 1) H3
    rw [e0]
    exact ⟨hw _, cw_turn p (by omega) (ht i H1 (e.trans e1) (by omega)) (fun hf => he i H1 (e.trans e1) (by omega) hf)⟩) (fun H' p => q Dl H' (fresh_back e1 p.1) (e1.trans p.2.1) p.2.2)⟩
/-- the least, the greatest of a new list, given to a name -/
theorem q_minL {i : Nat} {ns : List Int} (h : EvL te σ H (ns.map V.int)) (hne : 0 < ns.length) (k : ∀ m, m ∈ ns → (∀ y, y ∈ ns → m ≤ y) → ∀ H1, Ex H H1 → tz D (σ.set i (some (.int m))) H1) : tSeq (tAsg (tCB (rMin K) (tCons te tNil)) (gName i)) tz D σ H :=
  h H (Ex.refl H) _ fun p H1 _ e1 h1 => ⟨p, ns, rfl, sq_of h1, hne, fun m a b => k m a b H1 e1⟩
theorem q_maxL {i : Nat} {ns : List Int} (h : EvL te σ H (ns.map V.int)) (hne : 0 < ns.length) (k : ∀ m, m ∈ ns → (∀ y, y ∈ ns → y ≤ m) → ∀ H1, Ex H H1 → tz D (σ.set i (some (.int m))) H1) : tSeq (tAsg (tCB (rMax K) (tCons te tNil)) (gName i)) tz D σ H :=
  h H (Ex.refl H) _ fun p H1 _ e1 h1 => ⟨p, ns, rfl, sq_of h1, hne, fun m a b => k m a b H1 e1⟩
end
theorem log2_small {n : Nat} (h : n < 2 ^ 1000) : ((n : Nat) : Int).natAbs.log2 < 1920 := by
  rw [Int.natAbs_natCast]
  by_cases z : n = 0
  · subst z; decide
  · have := (Nat.log2_lt z).mpr h
    omega
theorem within_cons {ds : List Int} {s : Int} {ss : List Int} (h : Within ds (s :: ss)) : ∃ d rest, ds = d :: rest ∧ (0 ≤ d ∧ d < s) ∧ Within rest ss := by
  cases ds with
  | nil => exact h.elim
  | cons d rest => exact ⟨d, rest, rfl, h.1, h.2⟩
theorem sum_range_succ (f : Nat → Nat) (n : Nat) : ((List.range (n + 1)).map f).sum = f 0 + ((List.range n).map fun i => f (i + 1)).sum := by
  rw [List.range_succ_eq_map, List.map_cons, List.sum_cons, List.map_map]
  rfl
theorem sum_range_last (f : Nat → Nat) (n : Nat) : ((List.range (n + 1)).map f).sum = ((List.range n).map f).sum + f n := by
  rw [List.range_succ, List.map_append, List.sum_append]
  simp
end My

set_option Elab.async false
set_option linter.all false
set_option maxRecDepth 100000
set_option maxHeartbeats 4000000
namespace My
/-! ### how many texts have 1 to w letters, and how many letters they have together -/
def Sn (s : Nat) : Nat → Nat
  | 0 => 0
  | w + 1 => Sn s w + s ^ (w + 1)
def Bn (s : Nat) : Nat → Nat
  | 0 => 0
  | w + 1 => Bn s w + (w + 1) * s ^ (w + 1)
/-- t is the least total of c texts -/
def Tot (s c t : Nat) : Prop := ∃ w j, c = Sn s w + j ∧ j ≤ s ^ (w + 1) ∧ t = Bn s w + (w + 1) * j
theorem Sn_mono {s : Nat} : ∀ {v w : Nat}, v ≤ w → Sn s v ≤ Sn s w
  | v, 0, h => by
    have : v = 0 := by omega
    rw [this]
    exact Nat.le_refl _
  | v, w + 1, h => by
    by_cases e : v = w + 1
    · rw [e]
      exact Nat.le_refl _
    · exact Nat.le_trans (Sn_mono (v := v) (w := w) (by omega)) (Nat.le_add_right _ _)
theorem Bn_mono {s : Nat} : ∀ {v w : Nat}, v ≤ w → Bn s v ≤ Bn s w
  | v, 0, h => by
    have : v = 0 := by omega
    rw [this]
    exact Nat.le_refl _
  | v, w + 1, h => by
    by_cases e : v = w + 1
    · rw [e]
      exact Nat.le_refl _
    · exact Nat.le_trans (Bn_mono (v := v) (w := w) (by omega)) (Nat.le_add_right _ _)
theorem pow_pos' {s : Nat} (h : 1 ≤ s) (w : Nat) : 1 ≤ s ^ w := Nat.one_le_pow _ _ h
/-- fewer texts have fewer letters -/
theorem tot_le {s c d t u : Nat} (hs : 1 ≤ s) (h1 : Tot s c t) (h2 : Tot s d u) (h : c ≤ d) : t ≤ u := by
  obtain ⟨w, j, e1, hj, rfl⟩ := h1
  obtain ⟨v, i, e2, hi, rfl⟩ := h2
  by_cases hw : w < v
  · have a := Bn_mono (s := s) (show w + 1 ≤ v by omega)
    have b : (w + 1) * j ≤ (w + 1) * s ^ (w + 1) := Nat.mul_le_mul_left _ hj
    have c : Bn s (w + 1) = Bn s w + (w + 1) * s ^ (w + 1) := rfl
    omega
  · by_cases hv : v < w
    · have a := Sn_mono (s := s) (show v + 1 ≤ w by omega)
      have b : Sn s (v + 1) = Sn s v + s ^ (v + 1) := rfl
      have hi2 : i = s ^ (v + 1) := by omega
      have hj0 : j = 0 := by omega
      have hS : Sn s w = Sn s (v + 1) := by omega
      have hvw : w = v + 1 := by
        by_cases z : v + 2 ≤ w
        · have c1 := Sn_mono (s := s) z
          have c2 : Sn s (v + 2) = Sn s (v + 1) + s ^ (v + 2) := rfl
          have c3 := pow_pos' hs (v + 2)
          omega
        · omega
      subst hvw hi2 hj0
      exact Nat.le_of_eq rfl
    · have : w = v := by omega
      subst this
      have hji : j ≤ i := by omega
      exact Nat.add_le_add_left (Nat.mul_le_mul_left _ hji) _
theorem tot_uniq {s c t u : Nat} (hs : 1 ≤ s) (h1 : Tot s c t) (h2 : Tot s c u) : t = u :=
  Nat.le_antisymm (tot_le hs h1 h2 (Nat.le_refl _)) (tot_le hs h2 h1 (Nat.le_refl _))
theorem tot_succ {s w j : Nat} (hs : 1 ≤ s) (hj : j ≤ s ^ (w + 1)) : ∃ k, Tot s (Sn s w + j + 1) (Bn s w + (w + 1) * j + k) ∧ w + 1 ≤ k := by
  by_cases e : j = s ^ (w + 1)
  · refine ⟨w + 2, ⟨w + 1, 1, ?_, pow_pos' hs _, ?_⟩, by omega⟩
    · show _ = Sn s w + s ^ (w + 1) + 1
      omega
    · show _ = Bn s w + (w + 1) * s ^ (w + 1) + (w + 1 + 1) * 1
      rw [e]
      omega
  · refine ⟨w + 1, ⟨w, j + 1, by omega, by omega, ?_⟩, Nat.le_refl _⟩
    rw [Nat.mul_add]
    omega
/-- one text more has more letters -/
theorem tot_lt {s c d t u : Nat} (hs : 1 ≤ s) (h1 : Tot s c t) (h2 : Tot s d u) (h : c < d) : t < u := by
  obtain ⟨w, j, e1, hj, e3⟩ := h1
  obtain ⟨k, h3, hk⟩ := tot_succ hs hj
  have := tot_le hs h3 h2 (by omega)
  omega
/-- each depth bounds the total from below -/
theorem tot_depth {s c t : Nat} (hs : 1 ≤ s) (h : Tot s c t) : ∀ d, (d + 1) * c ≤ t + (d + 1) * Sn s d := by
  obtain ⟨w, j, rfl, hj, rfl⟩ := h
  have key : ∀ w, ∀ d, (d + 1) * Sn s w ≤ Bn s w + (d + 1) * Sn s d := by
    intro w
    induction w with
    | zero => intro d; simp [Sn]
    | succ w ih =>
      intro d
      by_cases hd : w + 1 ≤ d
      · have := Sn_mono (s := s) hd
        have := Nat.mul_le_mul_left (d + 1) this
        omega
      · have a := ih d
        have b : (d + 1) * s ^ (w + 1) ≤ (w + 1) * s ^ (w + 1) := Nat.mul_le_mul_right _ (by omega)
        show (d + 1) * (Sn s w + s ^ (w + 1)) ≤ Bn s w + (w + 1) * s ^ (w + 1) + _
        rw [Nat.mul_add]
        omega
  intro d
  by_cases hd : w < d
  · have a : Sn s w + j ≤ Sn s d := by
      have := Sn_mono (s := s) (show w + 1 ≤ d by omega)
      have c : Sn s (w + 1) = Sn s w + s ^ (w + 1) := rfl
      omega
    have := Nat.mul_le_mul_left (d + 1) a
    omega
  · have a := key w d
    have b : (d + 1) * j ≤ (w + 1) * j := Nat.mul_le_mul_right _ (by omega)
    rw [Nat.mul_add]
    omega
/-! ### one letter -/
theorem Sn_one : ∀ w, Sn 1 w = w
  | 0 => rfl
  | w + 1 => by show Sn 1 w + 1 ^ (w + 1) = w + 1; rw [Sn_one w, Nat.one_pow]
theorem Bn_one : ∀ w, 2 * Bn 1 w = w * (w + 1)
  | 0 => rfl
  | w + 1 => by
    show 2 * (Bn 1 w + (w + 1) * 1 ^ (w + 1)) = (w + 1) * (w + 1 + 1)
    rw [Nat.one_pow, Nat.mul_add, Bn_one w, Nat.mul_one, ← Nat.add_mul, Nat.mul_comm]
theorem tot_one (c : Nat) : Tot 1 c (c * (c + 1) / 2) := by
  refine ⟨c, 0, by rw [Sn_one]; rfl, Nat.zero_le _, ?_⟩
  have := Bn_one c
  omega
/-- fewer letters, no more texts: with one letter they are the longest -/
theorem tot_base {s c t u : Nat} (hs : 1 ≤ s) (h : Tot s c t) (h1 : Tot 1 c u) : t ≤ u := by
  obtain ⟨w, j, rfl, hj, rfl⟩ := h
  have key : ∀ w, w ≤ Sn s w := by
    intro w
    induction w with
    | zero => exact Nat.le_refl _
    | succ w ih =>
      have := pow_pos' hs (w + 1)
      show w + 1 ≤ Sn s w + s ^ (w + 1)
      omega
  -- by counting: the total is at most that of one letter, text by text
  have tri : ∀ n m, n * (n + 1) + 2 * ((n + 1) * m) ≤ (n + m) * (n + m + 1) := by
    intro n m
    have e : (n + m) * (n + m + 1) = n * (n + 1) + 2 * ((n + 1) * m) + m * (m - 1) := by
      cases m with
      | zero => simp
      | succ m =>
        have : (n + (m + 1)) * (n + (m + 1) + 1) = n * (n + 1) + 2 * ((n + 1) * (m + 1)) + (m + 1) * m := by
          simp only [Nat.mul_add, Nat.add_mul, Nat.mul_one, Nat.one_mul]
          have : m * n = n * m := Nat.mul_comm _ _
          omega
        exact this
    omega
  have hB : ∀ w, 2 * Bn s w ≤ Sn s w * (Sn s w + 1) := by
    intro w
    induction w with
    | zero => exact Nat.le_refl _
    | succ w ih =>
      have a := tri (Sn s w) (s ^ (w + 1))
      have b : (w + 1) * s ^ (w + 1) ≤ (Sn s w + 1) * s ^ (w + 1) := Nat.mul_le_mul_right _ (by have := key w; omega)
      show 2 * (Bn s w + (w + 1) * s ^ (w + 1)) ≤ (Sn s w + s ^ (w + 1)) * (Sn s w + s ^ (w + 1) + 1)
      omega
  have hu := tot_uniq (by decide) h1 (tot_one _)
  have a := tri (Sn s w) j
  have b : (w + 1) * j ≤ (Sn s w + 1) * j := Nat.mul_le_mul_right _ (by have := key w; omega)
  have c := hB w
  omega
end My

set_option Elab.async false
set_option linter.all false
set_option maxRecDepth 100000
set_option maxHeartbeats 4000000
namespace My
theorem tot_ex {s : Nat} (hs : 1 ≤ s) : ∀ c, ∃ t, Tot s c t
  | 0 => ⟨0, 0, 0, rfl, Nat.zero_le _, rfl⟩
  | c + 1 => by
    obtain ⟨t, w, j, e, hj, _⟩ := tot_ex hs c
    obtain ⟨k, h, _⟩ := tot_succ hs hj
    exact ⟨_, by rw [e]; exact h⟩
open Classical in
noncomputable def totF (s c : Nat) : Nat := if h : ∃ t, Tot s c t then h.choose else 0
theorem totF_spec {s c : Nat} (hs : 1 ≤ s) : Tot s c (totF s c) := by
  unfold totF
  rw [dif_pos (tot_ex hs c)]
  exact (tot_ex hs c).choose_spec
theorem totF_is {s c t : Nat} (hs : 1 ≤ s) (h : Tot s c t) : totF s c = t := tot_uniq hs (totF_spec hs) h
theorem totF_lt {s c d : Nat} (hs : 1 ≤ s) (h : c < d) : totF s c < totF s d := tot_lt hs (totF_spec hs) (totF_spec hs) h
theorem totF_le {s c d : Nat} (hs : 1 ≤ s) (h : c ≤ d) : totF s c ≤ totF s d := tot_le hs (totF_spec hs) (totF_spec hs) h
theorem totF_ge {s c : Nat} (hs : 1 ≤ s) : c ≤ totF s c := by
  have := tot_depth hs (totF_spec (c := c) hs) 0
  simp [Sn] at this
  exact this
/-- the greatest count of so many letters -/
def Gr (s far c : Nat) : Prop := totF s c ≤ far ∧ far < totF s (c + 1)
theorem gr_uniq {s far c d : Nat} (hs : 1 ≤ s) (h1 : Gr s far c) (h2 : Gr s far d) : c = d := by
  by_cases a : c < d
  · have := totF_le hs (show c + 1 ≤ d by omega)
    have := h1.2
    have := h2.1
    omega
  · by_cases b : d < c
    · have := totF_le hs (show d + 1 ≤ c by omega)
      have := h1.1
      have := h2.2
      omega
    · omega
theorem gr_loop {s w rest far : Nat} (hs : 1 ≤ s) (h : far = Bn s w + rest) (hr : rest ≤ s ^ (w + 1) * (w + 1)) : Gr s far (Sn s w + rest / (w + 1)) := by
  have hj : rest / (w + 1) ≤ s ^ (w + 1) := by
    apply Nat.div_le_of_le_mul
    rw [Nat.mul_comm]
    exact hr
  have h1 : Tot s (Sn s w + rest / (w + 1)) (Bn s w + (w + 1) * (rest / (w + 1))) := ⟨w, _, rfl, hj, rfl⟩
  obtain ⟨k, h2, hk⟩ := tot_succ hs hj
  have a := Nat.div_mul_le_self rest (w + 1)
  have b := Nat.lt_div_mul_add (a := rest) (b := w + 1) (by omega)
  rw [Nat.mul_comm] at a b
  refine ⟨?_, ?_⟩
  · rw [totF_is hs h1]
    omega
  · rw [totF_is hs h2]
    omega
theorem sq_step (a b : Nat) (h : a ≤ b) : a * a ≤ b * b := Nat.mul_le_mul h h
theorem gr_one {L r : Nat} (h1 : r * r ≤ 8 * L + 1) (h2 : 8 * L + 1 < (r + 1) * (r + 1)) : Gr 1 L ((r - 1) / 2) := by
  have hr : 1 ≤ r := by
    by_cases z : r = 0
    · subst z; simp at h2
    · omega
  obtain ⟨n, hn⟩ : ∃ n, n = (r - 1) / 2 := ⟨_, rfl⟩
  rw [← hn]
  have a : 2 * n + 1 ≤ r := by omega
  have b : r + 1 ≤ 2 * n + 3 := by omega
  have a2 := sq_step _ _ a
  have b2 := sq_step _ _ b
  have e1 : (2 * n + 1) * (2 * n + 1) = 4 * (n * (n + 1)) + 1 := by
    simp only [Nat.mul_add, Nat.add_mul, Nat.mul_one, Nat.one_mul]
    have : 2 * n * (2 * n) = 4 * (n * n) := by rw [Nat.mul_mul_mul_comm]
    omega
  have e2 : (2 * n + 3) * (2 * n + 3) = 4 * ((n + 1) * (n + 1 + 1)) + 1 := by
    simp only [Nat.mul_add, Nat.add_mul, Nat.mul_one, Nat.one_mul]
    have : 2 * n * (2 * n) = 4 * (n * n) := by rw [Nat.mul_mul_mul_comm]
    omega
  refine ⟨?_, ?_⟩
  · rw [totF_is (by decide) (tot_one n)]
    omega
  · rw [totF_is (by decide) (tot_one (n + 1))]
    have ev : ∃ k, (n + 1) * (n + 1 + 1) = 2 * k := by
      have := Nat.mod_two_eq_zero_or_one n
      rcases this with z | z
      · exact ⟨(n / 2 + 1) * (n + 1), by
          have e : n + 1 + 1 = 2 * (n / 2 + 1) := by omega
          rw [e, Nat.mul_comm (n + 1), Nat.mul_assoc]⟩
      · exact ⟨(n + 1) / 2 * (n + 1 + 1), by
          have e : n + 1 = 2 * ((n + 1) / 2) := by omega
          rw [← Nat.mul_assoc, ← e]⟩
    obtain ⟨k, hk⟩ := ev
    rw [hk] at e2 ⊢
    omega
/-- the least count of so many letters -/
def Le (L n : Nat) : Prop := 2 * L ≤ n * (n + 3) ∧ (n = 0 ∨ (n - 1) * (n + 2) < 2 * L)
theorem le_of {L r : Nat} (h1 : r * r ≤ 8 * L + 9) (h2 : 8 * L + 9 < (r + 1) * (r + 1)) : Le L (if (r - 3) / 2 * ((r - 3) / 2 + 3) < 2 * L then (r - 3) / 2 + 1 else (r - 3) / 2) := by
  have hr : 3 ≤ r := by
    by_cases z : r ≤ 2
    · have := sq_step (r + 1) 3 (by omega)
      omega
    · omega
  obtain ⟨n, hn⟩ : ∃ n, n = (r - 3) / 2 := ⟨_, rfl⟩
  rw [← hn]
  have a2 := sq_step _ _ (show 2 * n + 3 ≤ r by omega)
  have b2 := sq_step _ _ (show r + 1 ≤ 2 * n + 5 by omega)
  have sq : 2 * n * (2 * n) = 4 * (n * n) := by rw [Nat.mul_mul_mul_comm]
  have e1 : (2 * n + 3) * (2 * n + 3) = 4 * (n * (n + 3)) + 9 := by
    simp only [Nat.mul_add, Nat.add_mul, Nat.mul_one, Nat.one_mul]
    omega
  have e2 : (2 * n + 5) * (2 * n + 5) = 4 * ((n + 1) * (n + 1 + 3)) + 9 := by
    simp only [Nat.mul_add, Nat.add_mul, Nat.mul_one, Nat.one_mul]
    omega
  split
  · rename_i hlt
    refine ⟨by omega, Or.inr ?_⟩
    show (n + 1 - 1) * (n + 1 + 2) < 2 * L
    rw [Nat.add_sub_cancel]
    exact hlt
  · rename_i hge
    refine ⟨by omega, ?_⟩
    cases n with
    | zero => exact Or.inl rfl
    | succ n =>
      refine Or.inr ?_
      have e3 : (n + 1) * (n + 1 + 3) = (n + 1 - 1) * (n + 1 + 2) + (2 * n + 4) := by
        rw [Nat.add_sub_cancel]
        simp only [Nat.mul_add, Nat.add_mul, Nat.mul_one, Nat.one_mul]
        omega
      omega
theorem le_mono {n m : Nat} (h : n ≤ m) : n * (n + 3) ≤ m * (m + 3) := Nat.mul_le_mul h (by omega)
theorem le_uniq {L n m : Nat} (h1 : Le L n) (h2 : Le L m) : n = m := by
  have key : ∀ {n m : Nat}, Le L n → Le L m → ¬ n < m := by
    intro n m h1 h2 c
    rcases h2.2 with z | z
    · omega
    · have := le_mono (show n ≤ m - 1 by omega)
      have e : m - 1 + 3 = m + 2 := by omega
      rw [e] at this
      have := h1.1
      omega
  have := key h1 h2
  have := key h2 h1
  omega
theorem le_far {L n : Nat} (h : Le L n) : n ≤ L := by
  rcases h.2 with z | z
  · omega
  · obtain ⟨m, rfl⟩ : ∃ m, n = m + 1 := ⟨n - 1, by
      by_cases z : n = 0
      · subst z; have := h.1; omega
      · omega⟩
    rw [Nat.add_sub_cancel] at z
    by_cases c : m = 0
    · subst c; omega
    · have : m * 4 ≤ m * (m + 1 + 2) := Nat.mul_le_mul_left _ (by omega)
      omega
theorem gr_le {L n : Nat} (h : Gr 1 L n) : Le L n := by
  obtain ⟨h1, h2⟩ := h
  rw [totF_is (by decide) (tot_one n)] at h1
  rw [totF_is (by decide) (tot_one (n + 1))] at h2
  have e1 : n * (n + 3) = n * (n + 1) + 2 * n := by rw [show n + 3 = n + 1 + 2 by omega, Nat.mul_add]; omega
  have e2 : (n + 1) * (n + 1 + 1) = n * (n + 1) + 2 * n + 2 := by
    simp only [Nat.mul_add, Nat.add_mul, Nat.mul_one, Nat.one_mul]
    omega
  have ev : ∃ k, n * (n + 1) = 2 * k := by
    rcases Nat.mod_two_eq_zero_or_one n with z | z
    · exact ⟨n / 2 * (n + 1), by
        have e : n = 2 * (n / 2) := by omega
        rw [← Nat.mul_assoc, ← e]⟩
    · exact ⟨n * ((n + 1) / 2), by
        have e : n + 1 = 2 * ((n + 1) / 2) := by omega
        conv => lhs; rw [e]
        rw [← Nat.mul_assoc, Nat.mul_comm n 2, Nat.mul_assoc]⟩
  obtain ⟨k, hk⟩ := ev
  refine ⟨by omega, ?_⟩
  cases n with
  | zero => exact Or.inl rfl
  | succ n =>
    refine Or.inr ?_
    have e3 : (n + 1) * (n + 1 + 1) = (n + 1 - 1) * (n + 1 + 2) + 2 := by
      rw [Nat.add_sub_cancel]
      simp only [Nat.mul_add, Nat.add_mul, Nat.mul_one, Nat.one_mul]
      omega
    omega
theorem gr_base {s L n m : Nat} (hs : 1 ≤ s) (h1 : Gr 1 L n) (h2 : Gr s L m) : n ≤ m := by
  by_cases c : m < n
  · have a := totF_le hs (show m + 1 ≤ n by omega)
    have b := tot_base hs (totF_spec (c := n) hs) (totF_spec (s := 1) (by decide))
    have := h1.1
    have := h2.2
    omega
  · omega
theorem gr_depth {s L m : Nat} (hs : 1 ≤ s) (h : Gr s L m) (d : Nat) : m ≤ L / (d + 1) + Sn s d := by
  have a := tot_depth hs (totF_spec (c := m) hs) d
  have b := h.1
  have c : (d + 1) * (m - Sn s d) ≤ L := by
    rw [Nat.mul_sub]
    omega
  have := (Nat.le_div_iff_mul_le (show 0 < d + 1 by omega)).mpr (by rw [Nat.mul_comm]; exact c)
  omega
theorem gr_ex {s : Nat} (hs : 1 ≤ s) (L : Nat) : ∃ c, Gr s L c := by
  have key : ∀ n, L < totF s n → ∃ c, Gr s L c := by
    intro n
    induction n with
    | zero =>
      intro h
      have e : totF s 0 = 0 := totF_is hs ⟨0, 0, rfl, Nat.zero_le _, rfl⟩
      omega
    | succ n ih =>
      intro h
      by_cases c : L < totF s n
      · exact ih c
      · exact ⟨n, by omega, h⟩
  exact key (L + 1) (totF_ge hs)
open Classical in
noncomputable def grF (s L : Nat) : Nat := if h : ∃ c, Gr s L c then h.choose else 0
theorem grF_spec {s L : Nat} (hs : 1 ≤ s) : Gr s L (grF s L) := by
  unfold grF
  rw [dif_pos (gr_ex hs L)]
  exact (gr_ex hs L).choose_spec
theorem grF_is {s L c : Nat} (hs : 1 ≤ s) (h : Gr s L c) : grF s L = c := gr_uniq hs (grF_spec hs) h
theorem grF_le {s L : Nat} (hs : 1 ≤ s) : grF s L ≤ L := Nat.le_trans (totF_ge hs) (grF_spec hs).1
/-- the count of the letters of c texts -/
theorem grF_tot {s c : Nat} (hs : 1 ≤ s) : grF s (totF s c) = c := grF_is hs ⟨Nat.le_refl _, totF_lt hs (Nat.lt_succ_self c)⟩
theorem grF_tot1 {s c : Nat} (hs : 1 ≤ s) (h : 1 ≤ totF s c) : grF s (totF s c - 1) + 1 = c := by
  have hc : 1 ≤ c := by
    by_cases z : c = 0
    · subst z
      have e : totF s 0 = 0 := totF_is hs ⟨0, 0, rfl, Nat.zero_le _, rfl⟩
      omega
    · omega
  obtain ⟨d, rfl⟩ : ∃ d, c = d + 1 := ⟨c - 1, by omega⟩
  have : grF s (totF s (d + 1) - 1) = d := grF_is hs ⟨by have := totF_lt hs (Nat.lt_add_one d); omega, by omega⟩
  omega
theorem totF_cap {s c : Nat} (hs : 1 ≤ s) : totF s c ≤ c * (c + 1) / 2 := tot_base hs (totF_spec hs) (tot_one c)
def cap : Nat := 10 ^ 30 + 1
theorem totF_big {s c : Nat} (hs : 1 ≤ s) (h : c ≤ cap) : totF s c < 2 ^ 250 := by
  have a := totF_cap (c := c) hs
  have b : c * (c + 1) ≤ cap * (cap + 1) := Nat.mul_le_mul h (by omega)
  have d : cap * (cap + 1) < 2 ^ 250 := by decide +kernel
  omega
theorem level_small {s w : Nat} (hs : 2 ≤ s) (h : s ^ w ≤ 6 * cap) : w ≤ 110 := by
  by_cases c : 111 ≤ w
  · have a : 2 ^ 111 ≤ 2 ^ w := Nat.pow_le_pow_right (by decide) c
    have b : 2 ^ w ≤ s ^ w := Nat.pow_le_pow_left hs w
    have d : 6 * cap < 2 ^ 111 := by decide +kernel
    omega
  · omega
theorem cap_lt : cap < 2 ^ 101 := by decide +kernel
end My

set_option Elab.async false
set_option linter.all false
set_option maxRecDepth 100000
set_option maxHeartbeats 4000000
namespace My
open PySem
/-! ### bits -/
def bitsL : Nat → Nat → List Nat
  | 0, _ => []
  | w + 1, n => bitsL w (n / 2) ++ [48 + n % 2]
theorem bitsL_len : ∀ (w n : Nat), (bitsL w n).length = w
  | 0, _ => rfl
  | w + 1, n => by simp [bitsL, bitsL_len w]
def dig (n : Nat) : List Nat := (Nat.toDigits 2 n).map Char.toNat
theorem dig_lt {n : Nat} (h : n < 2) : dig n = [48 + n] := by
  have h2 : n = 0 ∨ n = 1 := by omega
  rcases h2 with rfl | rfl <;> decide
theorem dig_ge {n : Nat} (h : 2 ≤ n) : dig n = dig (n / 2) ++ [48 + n % 2] := by
  unfold dig
  rw [Nat.toDigits_of_base_le (by decide) h, List.map_append]
  have h2 : n % 2 = 0 ∨ n % 2 = 1 := by omega
  rcases h2 with h2 | h2 <;> rw [h2] <;> rfl
theorem dig_mem : ∀ (k n : Nat), n ≤ k → ∀ c ∈ dig n, c = 48 ∨ c = 49
  | k, n, hk, c, hc => by
    by_cases h : n < 2
    · rw [dig_lt h] at hc
      simp at hc
      omega
    · rw [dig_ge (by omega)] at hc
      rcases List.mem_append.mp hc with hc | hc
      · match k with
        | 0 => omega
        | k + 1 => exact dig_mem k (n / 2) (by omega) c hc
      · simp at hc
        omega
theorem dig_pos (n : Nat) : 1 ≤ (dig n).length := by
  unfold dig
  rw [List.length_map]
  exact Nat.length_toDigits_pos
theorem dig_len : ∀ (w n : Nat), 1 ≤ w → n < 2 ^ w → (dig n).length ≤ w
  | 0, _, h, _ => by omega
  | w + 1, n, _, hn => by
    by_cases h : n < 2
    · rw [dig_lt h]; simp
    · rw [dig_ge (by omega), List.length_append]
      by_cases hw : w = 0
      · subst hw
        have : (2 : Nat) ^ (0 + 1) = 2 := by decide
        omega
      · have := dig_len w (n / 2) (by omega) (by rw [Nat.pow_succ] at hn; omega)
        simp only [List.length_cons, List.length_nil]
        omega
theorem pad_bits : ∀ (w n : Nat), 1 ≤ w → n < 2 ^ w → List.replicate (w - (dig n).length) 48 ++ dig n = bitsL w n
  | 0, _, h, _ => by omega
  | w + 1, n, _, hn => by
    by_cases h : n < 2
    · rw [dig_lt h]
      have e1 : n / 2 = 0 := by omega
      have e2 : n % 2 = n := by omega
      unfold bitsL
      rw [e1, e2]
      by_cases hw : w = 0
      · subst hw
        rfl
      · rw [← pad_bits w 0 (by omega) (Nat.two_pow_pos w), dig_lt (by omega : 0 < 2)]
        obtain ⟨v, rfl⟩ : ∃ v, w = v + 1 := ⟨w - 1, by omega⟩
        show List.replicate (v + 1 + 1 - 1) 48 ++ [48 + n] = List.replicate (v + 1 - 1) 48 ++ [48 + 0] ++ [48 + n]
        congr 1
        show List.replicate (v + 1) 48 = List.replicate v 48 ++ [48]
        exact List.replicate_succ'
    · rw [dig_ge (by omega)]
      have hw : 1 ≤ w := by
        by_cases hw : w = 0
        · subst hw
          have : (2 : Nat) ^ (0 + 1) = 2 := by decide
          omega
        · omega
      unfold bitsL
      rw [← pad_bits w (n / 2) hw (by rw [Nat.pow_succ] at hn; omega), ← List.append_assoc]
      congr 2
      rw [List.length_append]
      show List.replicate (w + 1 - ((dig (n / 2)).length + 1)) 48 = _
      congr 1
      omega
/-- a number in so many bits -/
def bitS (w : Nat) (n : Nat) : Str := ⟨(bitsL w n).toArray⟩
theorem zfill_bits {w n : Nat} (hw : 1 ≤ w) (hn : n < 2 ^ w) : Txt.zfill (binT n) (w : Int) = bitS w n := by
  have e : binT n = ⟨(dig n).toArray⟩ := rfl
  have hl : (binT n).length = (dig n).length := by rw [e]; simp [Str.length]
  have hd := dig_len w n hw hn
  have hp := pad_bits w n hw hn
  unfold Txt.zfill
  rw [hl]
  by_cases h : (w : Int) ≤ ((dig n).length : Int)
  · rw [if_pos h, e]
    have h2 : w - (dig n).length = 0 := by omega
    rw [h2] at hp
    unfold bitS
    rw [← hp]
    rfl
  · rw [if_neg h]
    have h3 : ((w : Int).toNat - (dig n).length) = w - (dig n).length := by simp
    rw [h3]
    have hm := dig_mem n n (Nat.le_refl _)
    have h1 := dig_pos n
    unfold bitS
    rw [← hp, e]
    generalize dig n = d at hm h1 ⊢
    match d, h1 with
    | c :: cs, _ =>
      unfold zfilled
      have hc := hm c List.mem_cons_self
      have e0 : (⟨(c :: cs).toArray⟩ : Str).cps[0]? = some c := rfl
      rw [e0]
      rcases hc with rfl | rfl
      · show Builtin.Str.padded _ _ 0 48 = _
        simp [Builtin.Str.padded]
      · show Builtin.Str.padded _ _ 0 48 = _
        simp [Builtin.Str.padded]
/-! ### order -/
theorem lex_app {α : Type} {r : α → α → Prop} : ∀ {a b c d : List α}, List.Lex r a b → a.length = b.length → List.Lex r (a ++ c) (b ++ d)
  | _, _, _, _, .nil, h => by simp at h
  | _, _, _, _, .rel h, _ => .rel h
  | _, _, _, _, .cons h, e => .cons (lex_app h (by simpa using e))
theorem lex_last {α : Type} {r : α → α → Prop} {x y : α} (h : r x y) : ∀ a : List α, List.Lex r (a ++ [x]) (a ++ [y])
  | [] => .rel h
  | _ :: a => .cons (lex_last h a)
theorem bits_lt : ∀ (w n m : Nat), n < m → m < 2 ^ w → bitsL w n < bitsL w m
  | 0, n, m, h, hm => by simp at hm; omega
  | w + 1, n, m, h, hm => by
    unfold bitsL
    by_cases e : n / 2 = m / 2
    · rw [e]
      exact lex_last (by omega) _
    · exact lex_app (bits_lt w (n / 2) (m / 2) (by omega) (by rw [Nat.pow_succ] at hm; omega)) (by rw [bitsL_len, bitsL_len])
/-! ### reading -/
def valL (l : List Nat) : Int := l.foldl (fun v c => v * 2 + if c = 49 then 1 else 0) 0
theorem valL_snoc (l : List Nat) (c : Nat) : valL (l ++ [c]) = valL l * 2 + if c = 49 then 1 else 0 := by
  unfold valL
  rw [List.foldl_append]
  rfl
theorem valL_bits : ∀ (w n : Nat), n < 2 ^ w → valL (bitsL w n) = n
  | 0, n, h => by
    have : n = 0 := by simpa using h
    subst this
    rfl
  | w + 1, n, h => by
    unfold bitsL
    rw [valL_snoc, valL_bits w (n / 2) (by rw [Nat.pow_succ] at h; omega)]
    split <;> omega
theorem bits_mem : ∀ (w n : Nat), ∀ c ∈ bitsL w n, c = 48 ∨ c = 49
  | 0, _, c, h => by simp [bitsL] at h
  | w + 1, n, c, h => by
    unfold bitsL at h
    rcases List.mem_append.mp h with h | h
    · exact bits_mem w _ c h
    · simp at h; omega
/-! ### widths -/
def wd (m : Int) : Nat := Builtin.Int.intBits (m - 1)
theorem wd_spec {m : Int} (h : 1 ≤ m) : m ≤ 2 ^ wd m ∧ ∀ j, j < wd m → (2 : Int) ^ j < m := by
  unfold wd Builtin.Int.intBits
  obtain ⟨n, hn⟩ : ∃ n : Nat, m = (n : Int) + 1 := ⟨(m - 1).toNat, by omega⟩
  subst hn
  have e : (n : Int) + 1 - 1 = n := by omega
  rw [e]
  by_cases hz : n = 0
  · subst hz
    refine ⟨?_, fun j hj => ?_⟩
    · show (0 : Int) + 1 ≤ 2 ^ 0
      decide
    · exact absurd hj (Nat.not_lt_zero _)
  · have hb : ((n : Int) == 0) = false := by simpa using hz
    rw [hb]
    simp only [Bool.false_eq_true, if_false, Int.natAbs_natCast]
    have h1 := Nat.lt_log2_self (n := n)
    have h2 := Nat.log2_self_le hz
    refine ⟨?_, fun j hj => ?_⟩
    · have : ((n + 1 : Nat) : Int) ≤ ((2 ^ (n.log2 + 1) : Nat) : Int) := Int.ofNat_le.mpr h1
      rw [Int.natCast_pow] at this
      simpa using this
    · have h3 : 2 ^ j ≤ 2 ^ n.log2 := Nat.pow_le_pow_right (by decide) (by omega)
      have : ((2 ^ j : Nat) : Int) < ((n + 1 : Nat) : Int) := Int.ofNat_lt.mpr (by omega)
      rw [Int.natCast_pow] at this
      simpa using this
theorem wd_uniq {m : Int} (h : 1 ≤ m) {i : Nat} (h1 : m ≤ 2 ^ i) (h2 : ∀ j, j < i → (2 : Int) ^ j < m) : i = wd m := by
  obtain ⟨a, b⟩ := wd_spec h
  by_cases c : i < wd m
  · have := b i c
    omega
  · by_cases d : wd m < i
    · have := h2 _ d
      omega
    · omega
theorem p2 (i : Nat) : ((2 : Int) ^ i) = ((2 ^ i : Nat) : Int) := by rw [Int.natCast_pow]; rfl
theorem wd_le {m : Int} (h : 1 ≤ m) {b : Nat} (hb : m ≤ 2 ^ b) : wd m ≤ b := by
  by_cases c : b < wd m
  · have := (wd_spec h).2 b c
    omega
  · omega
theorem nat_lt_wd {n m : Int} (h0 : 0 ≤ n) (h : n < m) : n.natAbs < 2 ^ wd m := by
  have a := (wd_spec (m := m) (by omega)).1
  rw [p2] at a
  omega
theorem wd_one {m : Int} (h : 1 ≤ m) (h1 : m ≠ 1) : 1 ≤ wd m := by
  by_cases c : wd m = 0
  · have a := (wd_spec h).1
    rw [c] at a
    have : (2 : Int) ^ 0 = 1 := by decide
    omega
  · omega
theorem wd_1 : wd 1 = 0 := rfl
end My

set_option linter.all false
namespace My
/-- how many strings there is room for: empty ones, then those of 1, 2, .. bits -/
def Rm (e s : Nat) : Nat → Nat
  | 0 => e
  | k + 1 => s * 2 ^ (k + 1)
def Cm (e s : Nat) : Nat → Nat
  | 0 => 0
  | k + 1 => Cm e s k + Rm e s k
def Tm (e s n : Nat) : Nat → Nat
  | 0 => 0
  | k + 1 => Tm e s n k + (n - Cm e s (k + 1))
def totE (e s n : Nat) : Nat := Tm e s n (n + 1)
theorem Cm_mono (e s : Nat) {i j : Nat} (h : i ≤ j) : Cm e s i ≤ Cm e s j := by
  induction h with
  | refl => exact Nat.le_refl _
  | step _ ih => exact Nat.le_trans ih (Nat.le_add_right _ _)
theorem Cm_big {e s : Nat} (hs : 1 ≤ s) : ∀ k, 2 ^ k ≤ Cm e s k + 2
  | 0 => by show 1 ≤ 2; decide
  | 1 => by show 2 ≤ 0 + e + 2; omega
  | k + 2 => by
    have ih := Cm_big (e := e) hs (k + 1)
    have h1 : 2 ^ (k + 1) ≤ s * 2 ^ (k + 1) := Nat.le_mul_of_pos_left _ hs
    have h2 : Cm e s (k + 2) = Cm e s (k + 1) + s * 2 ^ (k + 1) := rfl
    have h3 : 2 ^ (k + 2) = 2 ^ (k + 1) + 2 ^ (k + 1) := by rw [Nat.pow_succ]; omega
    omega
theorem two_pow_gt : ∀ n : Nat, n + 2 ≤ 2 ^ (n + 1)
  | 0 => by decide
  | n + 1 => by
    have ih := two_pow_gt n
    have h3 : 2 ^ (n + 2) = 2 ^ (n + 1) + 2 ^ (n + 1) := by rw [Nat.pow_succ]; omega
    show n + 1 + 2 ≤ 2 ^ (n + 2)
    omega
theorem Tm_stay {e s n k : Nat} (h : n ≤ Cm e s k) : ∀ j, Tm e s n (k + j) = Tm e s n k
  | 0 => rfl
  | j + 1 => by
    show Tm e s n (k + j) + (n - Cm e s (k + j + 1)) = _
    have := Cm_mono e s (show k ≤ k + j + 1 by omega)
    rw [Tm_stay h j, Nat.sub_eq_zero_of_le (Nat.le_trans h this), Nat.add_zero]
theorem tot_is {e s n k : Nat} (hs : 1 ≤ s) (h : n ≤ Cm e s k) : Tm e s n k = totE e s n := by
  have h2 : n ≤ Cm e s (n + 1) := by
    have := Cm_big (e := e) hs (n + 1)
    have := two_pow_gt n
    omega
  unfold totE
  by_cases hk : k ≤ n + 1
  · rw [show n + 1 = k + (n + 1 - k) by omega, Tm_stay h]
  · rw [show k = n + 1 + (k - (n + 1)) by omega, Tm_stay h2]
/-- one turn of a loop that uses the lengths up -/
theorem tot_turn {e s n k t : Nat} (h : t + k * (n - Cm e s k) = Tm e s n k) : t + k * min (n - Cm e s k) (Rm e s k) + (k + 1) * (n - Cm e s (k + 1)) = Tm e s n (k + 1) := by
  have h1 : n - Cm e s (k + 1) = n - Cm e s k - Rm e s k := by show n - (Cm e s k + Rm e s k) = _; omega
  show _ = Tm e s n k + (n - Cm e s (k + 1))
  rw [h1, ← h]
  generalize n - Cm e s k = r
  generalize Rm e s k = R
  have h2 : min r R = r - (r - R) := by omega
  have h3 : r - R ≤ r := by omega
  rw [h2, Nat.mul_sub, Nat.add_mul, Nat.one_mul]
  have h4 : k * (r - R) ≤ k * r := Nat.mul_le_mul_left _ h3
  omega
theorem Rm_same (s k : Nat) : Rm s s k = s * 2 ^ k := by cases k with
  | zero => show s = s * 1; rw [Nat.mul_one]
  | succ k => rfl
/-! ### lists of rooms and uses -/
def Gs : Nat → List Nat → Nat
  | _, [] => 0
  | m, r :: rs => (m - r) + Gs (m - r) rs
def SS : List Nat → Nat
  | [] => 0
  | _ :: us => us.sum + SS us
def lenS : Nat → List Nat → Nat
  | _, [] => 0
  | k, u :: us => k * u + lenS (k + 1) us
def Bd : List Nat → List Nat → Prop
  | [], [] => True
  | r :: rs, u :: us => u ≤ r ∧ Bd rs us
  | _, _ => False
def tightF : Bool → List Nat → List Nat → Bool
  | g, r :: rs, u :: us => if g = true ∧ 0 < u then false else tightF (g || decide (u < r)) rs us
  | _, _, _ => true
theorem lenS_SS : ∀ (k : Nat) (us : List Nat), lenS k us = k * us.sum + SS us
  | k, [] => by simp [lenS, SS]
  | k, u :: us => by
    show k * u + lenS (k + 1) us = k * (u :: us).sum + (us.sum + SS us)
    rw [lenS_SS (k + 1) us, List.sum_cons, Nat.add_mul, Nat.mul_add]
    omega
theorem Gs_le : ∀ {rs us : List Nat} {m : Nat}, Bd rs us → m ≤ us.sum → Gs m rs ≤ SS us
  | [], [], _, _, _ => Nat.le_refl _
  | r :: rs, u :: us, m, h, hm => by
    rw [List.sum_cons] at hm
    obtain ⟨hu, hb⟩ := h
    have h1 : m - r ≤ us.sum := by omega
    have := Gs_le hb h1
    show (m - r) + Gs (m - r) rs ≤ us.sum + SS us
    omega
  | [], _ :: _, _, h, _ => h.elim
  | _ :: _, [], _, h, _ => h.elim
theorem SS_zero : ∀ {us : List Nat}, us.sum = 0 → SS us = 0
  | [], _ => rfl
  | u :: us, h => by
    rw [List.sum_cons] at h
    have h1 : us.sum = 0 := by omega
    show us.sum + SS us = 0
    rw [h1, SS_zero h1]
theorem Gs_zero : ∀ rs : List Nat, Gs 0 rs = 0
  | [] => rfl
  | r :: rs => by show (0 - r) + Gs (0 - r) rs = 0; rw [Nat.zero_sub, Gs_zero rs]
theorem tight_true : ∀ {rs us : List Nat}, Bd rs us → (tightF true rs us = true ↔ us.sum = 0)
  | [], [], _ => by simp [tightF]
  | r :: rs, u :: us, h => by
    have ih := tight_true h.2
    unfold tightF
    by_cases hu : 0 < u
    · rw [if_pos ⟨rfl, hu⟩, List.sum_cons]
      simp
      omega
    · rw [if_neg (by simp [hu]), Bool.true_or, ih, List.sum_cons]
      omega
  | [], _ :: _, h => h.elim
  | _ :: _, [], h => h.elim
theorem Gs_eq : ∀ {rs us : List Nat}, Bd rs us → (Gs us.sum rs = SS us ↔ tightF false rs us = true)
  | [], [], _ => by simp [tightF, Gs, SS]
  | r :: rs, u :: us, h => by
    obtain ⟨hu, hb⟩ := h
    show ((u :: us).sum - r) + Gs ((u :: us).sum - r) rs = us.sum + SS us ↔ _
    rw [List.sum_cons]
    unfold tightF
    rw [if_neg (by simp), Bool.false_or]
    by_cases hlt : u < r
    · rw [decide_eq_true hlt, tight_true hb]
      constructor
      · intro he
        by_cases hz : us.sum = 0
        · exact hz
        · have := Gs_le hb (show u + us.sum - r ≤ us.sum by omega)
          omega
      · intro hz
        have e1 : u + us.sum - r = 0 := by omega
        rw [e1, Gs_zero, SS_zero hz]
        omega
    · have e1 : u + us.sum - r = us.sum := by omega
      rw [decide_eq_false hlt, e1, ← Gs_eq hb]
      omega
  | [], _ :: _, h => h.elim
  | _ :: _, [], h => h.elim
def roomL (e s m : Nat) : List Nat := (List.range m).map (Rm e s)
theorem roomL_succ (e s m : Nat) : roomL e s (m + 1) = roomL e s m ++ [Rm e s m] := by
  unfold roomL
  rw [List.range_succ, List.map_append]
  rfl
theorem roomL_len (e s m : Nat) : (roomL e s m).length = m := by simp [roomL]
theorem roomL_sum (e s : Nat) : ∀ m, (roomL e s m).sum = Cm e s m
  | 0 => rfl
  | m + 1 => by rw [roomL_succ, List.sum_append, roomL_sum e s m]; simp [Cm]
theorem Gs_app : ∀ (rs : List Nat) (n r : Nat), Gs n (rs ++ [r]) = Gs n rs + (n - (rs.sum + r))
  | [], n, r => by simp [Gs]
  | a :: rs, n, r => by
    show (n - a) + Gs (n - a) (rs ++ [r]) = (n - a) + Gs (n - a) rs + _
    rw [Gs_app rs, List.sum_cons]
    have : n - a - (rs.sum + r) = n - (a + rs.sum + r) := by omega
    omega
theorem Gs_room (e s n : Nat) : ∀ m, Gs n (roomL e s m) = Tm e s n m
  | 0 => rfl
  | m + 1 => by rw [roomL_succ, Gs_app, Gs_room e s n m, roomL_sum]; rfl
theorem Bd_sum : ∀ {rs us : List Nat}, Bd rs us → us.sum ≤ rs.sum
  | [], [], _ => Nat.le_refl _
  | r :: rs, u :: us, h => by
    have := Bd_sum h.2
    have := h.1
    rw [List.sum_cons, List.sum_cons]
    omega
  | [], _ :: _, h => h.elim
  | _ :: _, [], h => h.elim
/-- no choice has fewer bits, and as many exactly if it is tight -/
theorem choice_le {e s m : Nat} {us : List Nat} (hs : 1 ≤ s) (h : Bd (roomL e s m) us) : totE e s us.sum ≤ lenS 0 us ∧ (totE e s us.sum = lenS 0 us ↔ tightF false (roomL e s m) us = true) := by
  have h1 : us.sum ≤ Cm e s m := by rw [← roomL_sum]; exact Bd_sum h
  rw [← tot_is hs h1, ← Gs_room, lenS_SS, Nat.zero_mul, Nat.zero_add]
  exact ⟨Gs_le h (Nat.le_refl _), Gs_eq h⟩
theorem Bd.len : ∀ {rs us : List Nat}, Bd rs us → us.length = rs.length
  | [], [], _ => rfl
  | _ :: _, _ :: _, h => congrArg Nat.succ h.2.len
  | [], _ :: _, h => h.elim
  | _ :: _, [], h => h.elim
theorem Bd_of : ∀ {rs us : List Nat}, us.length = rs.length → (∀ i, i < rs.length → us.getD i 0 ≤ rs.getD i 0) → Bd rs us
  | [], [], _, _ => trivial
  | r :: rs, u :: us, hl, h => ⟨h 0 (by simp), Bd_of (by simpa using hl) fun i hi => by have := h (i + 1) (by simpa using hi); simpa using this⟩
  | [], _ :: _, hl, _ => by simp at hl
  | _ :: _, [], hl, _ => by simp at hl
theorem Bd.get : ∀ {rs us : List Nat}, Bd rs us → ∀ i, us.getD i 0 ≤ rs.getD i 0
  | [], [], _, _ => Nat.le_refl _
  | _ :: _, _ :: _, h, 0 => h.1
  | _ :: _, _ :: _, h, i + 1 => by simpa using h.2.get i
  | [], _ :: _, h, _ => h.elim
  | _ :: _, [], h, _ => h.elim
end My

set_option Elab.async false
set_option linter.all false
set_option maxRecDepth 100000
set_option maxHeartbeats 4000000
namespace My
/-- the width of n options -/
def cl (n : Nat) : Nat := wd (n : Int)
theorem cl_spec {n : Nat} (h : 1 ≤ n) : n ≤ 2 ^ cl n ∧ ∀ j, j < cl n → 2 ^ j < n := by
  obtain ⟨a, b⟩ := wd_spec (m := (n : Int)) (by omega)
  refine ⟨?_, fun j hj => ?_⟩
  · rw [p2] at a; exact Int.ofNat_le.mp a
  · have := b j hj
    rw [p2] at this
    exact Int.ofNat_lt.mp this
theorem cl_le {n b : Nat} (h1 : 1 ≤ n) (h : n ≤ 2 ^ b) : cl n ≤ b := by
  by_cases c : cl n ≤ b
  · exact c
  · have := (cl_spec h1).2 b (by omega)
    omega
theorem lt_cl {n b : Nat} (h1 : 1 ≤ n) (h : 2 ^ b < n) : b < cl n := by
  by_cases c : b < cl n
  · exact c
  · have a := (cl_spec h1).1
    have := Nat.pow_le_pow_right (n := 2) (by decide) (show cl n ≤ b by omega)
    omega
theorem cl_mono {n m : Nat} (h1 : 1 ≤ n) (h : n ≤ m) : cl n ≤ cl m := cl_le h1 (Nat.le_trans h (cl_spec (by omega)).1)
/-- the bits of row i -/
def rowW (s i : Nat) : Nat := cl ((i + 1) * (s - 1) + 2)
def rsum (s : Nat) : Nat → Nat
  | 0 => 0
  | n + 1 => rsum s n + rowW s n
def plF (s c : Nat) : Nat := cl (c + 1) + rsum s (c + 1)
/-! ### a sum over lengths, turn by turn -/
def colS (f : Nat → Nat) (n : Nat) : Nat → Nat
  | 0 => 0
  | k + 1 => colS f n k + (n - f k)
def cntS (f : Nat → Nat) (n : Nat) : Nat → Nat
  | 0 => 0
  | k + 1 => cntS f n k + if f k ≤ n then 1 else 0
theorem colS_succ (f : Nat → Nat) (n : Nat) : ∀ k, colS f (n + 1) k = colS f n k + cntS f n k
  | 0 => rfl
  | k + 1 => by
    show colS f (n + 1) k + (n + 1 - f k) = colS f n k + (n - f k) + (cntS f n k + if f k ≤ n then 1 else 0)
    rw [colS_succ f n k]
    split <;> omega
theorem colS_zero (f : Nat → Nat) : ∀ k, colS f 0 k = 0
  | 0 => rfl
  | k + 1 => by
    show colS f 0 k + (0 - f k) = 0
    rw [colS_zero f k, Nat.zero_sub]
theorem cntS_le (f : Nat → Nat) (n : Nat) : ∀ k, cntS f n k ≤ k
  | 0 => Nat.le_refl _
  | k + 1 => by
    have := cntS_le f n k
    show cntS f n k + (if f k ≤ n then 1 else 0) ≤ k + 1
    split <;> omega
theorem cntS_spec {f : Nat → Nat} (hf : ∀ i j, i ≤ j → f i ≤ f j) (n : Nat) : ∀ k b, b < k → (f b ≤ n ↔ b < cntS f n k)
  | 0, b, h => absurd h (Nat.not_lt_zero b)
  | k + 1, b, h => by
    have ih := cntS_spec hf n k
    have hl := cntS_le f n k
    show _ ↔ b < cntS f n k + if f k ≤ n then 1 else 0
    by_cases c : f k ≤ n
    · rw [if_pos c]
      have all : cntS f n k = k := by
        cases k with
        | zero => exact Nat.le_zero.mp hl
        | succ k =>
          have h1 := (ih k (by omega)).mp (Nat.le_trans (hf _ _ (by omega)) c)
          omega
      rw [all]
      exact ⟨fun _ => h, fun _ => Nat.le_trans (hf _ _ (by omega)) c⟩
    · rw [if_neg c, Nat.add_zero]
      by_cases hb : b < k
      · exact ih b hb
      · have e : b = k := by omega
        subst e
        exact ⟨fun z => absurd z c, fun z => by omega⟩
/-! ### the rows, by columns -/
theorem colS_rows {s : Nat} {f : Nat → Nat} {N : Nat} (hf : ∀ i b, i < N → (f b ≤ i ↔ b < rowW s i)) {k : Nat} (hk : ∀ i, i < N → rowW s i ≤ k) : ∀ n, n ≤ N → colS f n k = rsum s n
  | 0, _ => colS_zero f k
  | n + 1, h => by
    have ih := colS_rows hf hk n (by omega)
    rw [colS_succ, ih]
    show _ = rsum s n + rowW s n
    congr 1
    have hn := hf n
    have hkn := hk n (by omega)
    have : ∀ k, cntS f n k = min k (rowW s n) := by
      intro k
      induction k with
      | zero => show 0 = _; omega
      | succ k ihk =>
        show cntS f n k + (if f k ≤ n then 1 else 0) = _
        rw [ihk]
        by_cases c : f k ≤ n
        · have := (hn k (by omega)).mp c
          rw [if_pos c]; omega
        · have : ¬ k < rowW s n := fun z => c ((hn k (by omega)).mpr z)
          rw [if_neg c]; omega
    rw [this]
    omega
/-! ### the floor, one text more -/
def CmS (e s : Nat) (b : Nat) : Nat := Cm e s (b + 1)
theorem Tm_col (e s n : Nat) : ∀ k, Tm e s n k = colS (CmS e s) n k
  | 0 => rfl
  | k + 1 => by
    show Tm e s n k + (n - Cm e s (k + 1)) = colS (CmS e s) n k + (n - CmS e s k)
    rw [Tm_col e s n k]
    rfl
theorem Cm_is (e s : Nat) : ∀ b, Cm e s (b + 1) + 2 * s = e + s * 2 ^ (b + 1)
  | 0 => by
    show 0 + e + 2 * s = e + s * 2
    omega
  | b + 1 => by
    have ih := Cm_is e s b
    show Cm e s (b + 1) + s * 2 ^ (b + 1) + 2 * s = e + s * 2 ^ (b + 2)
    rw [Nat.pow_succ 2 (b + 1), ← Nat.mul_assoc]
    omega
def flF (e s n : Nat) : Nat := cntS (CmS e s) n (n + 2)
theorem Cm_past {e s : Nat} (hs : 1 ≤ s) (n : Nat) : n < Cm e s (n + 2) := by
  have h1 := Cm_big (e := e) hs (n + 2)
  have h2 := two_pow_gt (n + 1)
  have h3 : (2 : Nat) ^ (n + 1 + 1) = 2 ^ (n + 2) := rfl
  omega
theorem totE_succ {e s : Nat} (hs : 1 ≤ s) (n : Nat) : totE e s (n + 1) = totE e s n + flF e s n := by
  have h1 : totE e s (n + 1) = Tm e s (n + 1) (n + 2) := rfl
  have h2 : Tm e s n (n + 2) = totE e s n := tot_is hs (Nat.le_of_lt (Cm_past hs n))
  rw [h1, ← h2, Tm_col, Tm_col, colS_succ]
  rfl
theorem flF_spec {e s : Nat} (hs : 1 ≤ s) (n : Nat) : n < Cm e s (flF e s n + 1) ∧ ∀ b, b < flF e s n → Cm e s (b + 1) ≤ n := by
  have hm : ∀ i j, i ≤ j → CmS e s i ≤ CmS e s j := fun i j h => Cm_mono e s (show i + 1 ≤ j + 1 by omega)
  have hl := cntS_le (CmS e s) n (n + 2)
  have hsp := cntS_spec hm n (n + 2)
  have hp := Cm_past (e := e) hs n
  have h1 : flF e s n < n + 2 := by
    by_cases c : flF e s n < n + 2
    · exact c
    · have hc : cntS (CmS e s) n (n + 2) = n + 2 := Nat.le_antisymm hl (by unfold flF at c; omega)
      have := (hsp (n + 1) (by omega)).mpr (by omega)
      have : Cm e s (n + 2) ≤ n := this
      omega
  refine ⟨?_, fun b hb => (hsp b (by omega)).mpr hb⟩
  by_cases c : n < Cm e s (flF e s n + 1)
  · exact c
  · have := (hsp (flF e s n) h1).mp (show Cm e s (flF e s n + 1) ≤ n by omega)
    unfold flF at this
    omega
theorem totE_zero (e s : Nat) : totE e s 0 = 0 := by
  show Tm e s 0 1 = 0
  show 0 + (0 - Cm e s 1) = 0
  omega
/-! ### what is told of the excess -/
theorem row_floor {s t n : Nat} (hs : 1 ≤ s) (ht : 1 ≤ t) : rowW s (n + 1) ≤ cl s + 1 + 2 * cl t + flF (t * (t - 1) / 2) (t * t) n := by
  have hS : 1 ≤ t * t := Nat.mul_pos ht ht
  obtain ⟨h1, _⟩ := flF_spec (e := t * (t - 1) / 2) hS n
  have h2 := Cm_is (t * (t - 1) / 2) (t * t) (flF (t * (t - 1) / 2) (t * t) n)
  generalize flF (t * (t - 1) / 2) (t * t) n = b at h1 h2 ⊢
  have he : t * (t - 1) / 2 ≤ t * t := Nat.le_trans (Nat.div_le_self _ _) (Nat.mul_le_mul_left _ (Nat.sub_le _ _))
  have h3 : n + 2 ≤ t * t * 2 ^ (b + 1) := by omega
  have ht2 := (cl_spec ht).1
  have h4 : t * t ≤ 2 ^ cl t * 2 ^ cl t := Nat.mul_le_mul ht2 ht2
  have h5 : n + 2 ≤ 2 ^ cl t * 2 ^ cl t * 2 ^ (b + 1) := Nat.le_trans h3 (Nat.mul_le_mul_right _ h4)
  have hs2 := (cl_spec hs).1
  have h6 : (n + 2) * (s - 1) + 2 ≤ s * (n + 2) := by
    obtain ⟨k, rfl⟩ : ∃ k, s = k + 1 := ⟨s - 1, by omega⟩
    have a1 : (n + 2) * k = k * (n + 2) := Nat.mul_comm _ _
    have a2 : (k + 1) * (n + 2) = k * (n + 2) + (n + 2) := by rw [Nat.add_mul, Nat.one_mul]
    rw [Nat.add_sub_cancel, a1, a2]
    omega
  have h7 : s * (n + 2) ≤ 2 ^ cl s * (2 ^ cl t * 2 ^ cl t * 2 ^ (b + 1)) := Nat.mul_le_mul hs2 h5
  have h8 : 2 ^ cl s * (2 ^ cl t * 2 ^ cl t * 2 ^ (b + 1)) = 2 ^ (cl s + 1 + 2 * cl t + b) := by
    rw [← Nat.pow_add, ← Nat.pow_add, ← Nat.pow_add]
    congr 1
    omega
  rw [h8] at h7
  exact cl_le (by omega) (Nat.le_trans h6 h7)
def eachF (s t : Nat) : Nat := cl s + 1 + 2 * cl t
def flT (t c : Nat) : Nat := totE (t * (t - 1) / 2) (t * t) c
theorem rsum_floor {s t : Nat} (hs : 1 ≤ s) (ht : 1 ≤ t) : ∀ c, rsum s (c + 1) ≤ rowW s 0 + c * eachF s t + flT t c
  | 0 => by
    show 0 + rowW s 0 ≤ _
    omega
  | c + 1 => by
    have ih := rsum_floor hs ht c
    have h := row_floor (n := c) hs ht
    have h2 : flT t (c + 1) = flT t c + flF (t * (t - 1) / 2) (t * t) c := totE_succ (Nat.mul_pos ht ht) c
    show rsum s (c + 1) + rowW s (c + 1) ≤ _
    rw [h2, Nat.add_mul, Nat.one_mul]
    unfold eachF at ih ⊢
    omega
def toldF (s t c : Nat) : Nat := c * eachF s t + cl s + 2 + 2 * (cl (c + 2) - 1)
theorem gap_told {s t : Nat} (hs : 1 ≤ s) (ht : 1 ≤ t) (c : Nat) : plF s c ≤ flT t c + toldF s t c := by
  have h1 := rsum_floor hs ht c
  have h2 : rowW s 0 ≤ cl s + 1 := by
    refine cl_le (by omega) ?_
    have := (cl_spec hs).1
    rw [Nat.pow_succ]
    omega
  have h3 := cl_mono (n := c + 1) (m := c + 2) (by omega) (by omega)
  have h4 : 0 < cl (c + 2) := lt_cl (by omega) (by show 1 < _; omega)
  unfold plF toldF
  omega
/-! ### more pieces, more excess -/
theorem floor_row {s t n : Nat} (hs : 2 ≤ s) (ht : 1 ≤ t) : flF (t * (t - 1) / 2) (t * t) n < rowW s (n + 1) := by
  have hS : 1 ≤ t * t := Nat.mul_pos ht ht
  obtain ⟨_, h2⟩ := flF_spec (e := t * (t - 1) / 2) hS n
  generalize flF (t * (t - 1) / 2) (t * t) n = b at h2 ⊢
  have h6 : n + 4 ≤ (n + 1 + 1) * (s - 1) + 2 := by
    have := Nat.mul_le_mul_left (n + 1 + 1) (show 1 ≤ s - 1 by omega)
    omega
  refine lt_cl (by omega) ?_
  cases b with
  | zero => show 1 < _; omega
  | succ b =>
    have h3 := h2 b (by omega)
    have h4 := Cm_is (t * (t - 1) / 2) (t * t) b
    have h5 : 2 ^ (b + 1) * 1 + 2 * (t * t) ≤ t * t * 2 ^ (b + 1) + 2 := by
      obtain ⟨k, hk⟩ : ∃ k, t * t = k + 1 := ⟨t * t - 1, by omega⟩
      have h7 : 2 ≤ 2 ^ (b + 1) := by rw [Nat.pow_succ]; have := Nat.one_le_two_pow (n := b); omega
      rw [hk, Nat.add_mul, Nat.mul_add, Nat.one_mul]
      have := Nat.mul_le_mul_left k h7
      omega
    omega
theorem gap_step {s t : Nat} (hs : 2 ≤ s) (ht : 1 ≤ t) (c : Nat) : plF s c + flT t (c + 1) < plF s (c + 1) + flT t c := by
  have h1 := floor_row (n := c) hs ht
  have h2 : flT t (c + 1) = flT t c + flF (t * (t - 1) / 2) (t * t) c := totE_succ (Nat.mul_pos ht ht) c
  have h3 := cl_mono (n := c + 1) (m := c + 1 + 1) (by omega) (by omega)
  have h4 : rsum s (c + 1 + 1) = rsum s (c + 1) + rowW s (c + 1) := rfl
  unfold plF
  omega
def gapF (s t c : Nat) : Int := (plF s c : Int) - (flT t c : Int)
theorem gap_lt {s t : Nat} (hs : 2 ≤ s) (ht : 1 ≤ t) {c d : Nat} (h : c < d) : gapF s t c < gapF s t d := by
  induction d with
  | zero => omega
  | succ d ih =>
    have h1 := gap_step hs ht d
    have h2 : gapF s t d < gapF s t (d + 1) := by unfold gapF; omega
    by_cases e : c = d
    · subst e; exact h2
    · exact Int.lt_trans (ih (by omega)) h2
theorem gap_le {s t : Nat} (hs : 2 ≤ s) (ht : 1 ≤ t) {c d : Nat} (h : c ≤ d) : gapF s t c ≤ gapF s t d := by
  by_cases e : c = d
  · subst e; exact Int.le_refl _
  · exact Int.le_of_lt (gap_lt hs ht (by omega))
theorem gap_told' {s t : Nat} (hs : 1 ≤ s) (ht : 1 ≤ t) (c : Nat) : gapF s t c ≤ (toldF s t c : Int) := by
  have := gap_told hs ht c
  unfold gapF
  omega
end My

set_option linter.all false
namespace My
/-- the length of the word number k -/
def lev (k : Nat) : Nat := (if 1 ≤ k then 1 else 0) + (if 3 ≤ k then 1 else 0) + (if 7 ≤ k then 1 else 0) + (if 15 ≤ k then 1 else 0)
def wS : Nat → List Nat → Nat
  | _, [] => 0
  | k, u :: us => lev k * u + wS (k + 1) us
def hi (c : Nat) : Nat → List Nat → Nat
  | _, [] => 0
  | k, u :: us => (if c ≤ k then u else 0) + hi c (k + 1) us
def lo (c : Nat) : Nat → List Nat → Nat
  | _, [] => 0
  | k, u :: us => (if c ≤ k then 0 else u) + lo c (k + 1) us
theorem wS_hi : ∀ (k : Nat) (us : List Nat), wS k us = hi 1 k us + hi 3 k us + hi 7 k us + hi 15 k us
  | _, [] => rfl
  | k, u :: us => by
    show lev k * u + wS (k + 1) us = _
    have e : ∀ c, hi c k (u :: us) = (if c ≤ k then u else 0) + hi c (k + 1) us := fun _ => rfl
    rw [wS_hi (k + 1) us, e, e, e, e]
    unfold lev
    have h : ∀ (p q r t : Prop) [Decidable p] [Decidable q] [Decidable r] [Decidable t], ((if p then 1 else 0) + (if q then 1 else 0) + (if r then 1 else 0) + (if t then 1 else 0)) * u = (if p then u else 0) + (if q then u else 0) + (if r then u else 0) + (if t then u else 0) := by
      intro p q r t _ _ _ _
      split <;> split <;> split <;> split <;> omega
    rw [h]
    omega
theorem hi_lo (c : Nat) : ∀ (k : Nat) (us : List Nat), hi c k us + lo c k us = us.sum
  | _, [] => rfl
  | k, u :: us => by
    have := hi_lo c (k + 1) us
    rw [List.sum_cons]
    unfold hi lo
    split <;> omega
theorem lo_le (c : Nat) : ∀ (k : Nat) {rs us : List Nat}, Bd rs us → lo c k us ≤ lo c k rs
  | _, [], [], _ => Nat.le_refl _
  | k, r :: rs, u :: us, h => by
    have := lo_le c (k + 1) h.2
    have := h.1
    unfold lo
    split <;> omega
  | _, [], _ :: _, h => h.elim
  | _, _ :: _, [], h => h.elim
theorem lo_eq (c : Nat) : ∀ (k : Nat) {rs us : List Nat}, Bd rs us → (lo c k us = lo c k rs ↔ ∀ i, i < rs.length → k + i < c → us.getD i 0 = rs.getD i 0)
  | _, [], [], _ => by simp
  | k, r :: rs, u :: us, h => by
    have ih := lo_eq c (k + 1) h.2
    have hl := lo_le c (k + 1) h.2
    have hu := h.1
    constructor
    · intro e i hi hk
      unfold lo at e
      cases i with
      | zero => rw [if_neg (by omega), if_neg (by omega)] at e; simp; omega
      | succ i =>
        have e2 : lo c (k + 1) us = lo c (k + 1) rs := by split at e <;> omega
        have := ih.mp e2 i (by simpa using hi) (by omega)
        simpa using this
    · intro a
      have e2 : lo c (k + 1) us = lo c (k + 1) rs := ih.mpr fun i hi hk => by
        have := a (i + 1) (by simpa using hi) (by omega)
        simpa using this
      unfold lo
      rw [e2]
      split
      · rfl
      · have := a 0 (by simp) (by omega)
        simp at this
        omega
  | _, [], _ :: _, h => h.elim
  | _, _ :: _, [], h => h.elim
theorem hi_zero (c : Nat) : ∀ (k : Nat) (us : List Nat), (hi c k us = 0 ↔ ∀ i, i < us.length → c ≤ k + i → us.getD i 0 = 0)
  | _, [] => by simp [hi]
  | k, u :: us => by
    have ih := hi_zero c (k + 1) us
    constructor
    · intro e i hi' hk
      unfold hi at e
      cases i with
      | zero => rw [if_pos (by omega)] at e; simp; omega
      | succ i =>
        have := ih.mp (by omega) i (by simpa using hi') (by omega)
        simpa using this
    · intro a
      have e2 := ih.mpr fun i hi' hk => by
        have := a (i + 1) (by simpa using hi') (by omega)
        simpa using this
      unfold hi
      rw [e2]
      split
      · have := a 0 (by simp) (by omega)
        simpa using this
      · rfl
/-- the least number of bits of n of the 31 first words -/
def fewT (rs : List Nat) (n : Nat) : Nat := (n - lo 1 0 rs) + (n - lo 3 0 rs) + (n - lo 7 0 rs) + (n - lo 15 0 rs)
theorem lev_ge : ∀ k, k < 31 → ∀ L, 1 ≤ L → L ≤ 4 → (L ≤ lev k ↔ 2 ^ L - 1 ≤ k) := by
  intro k hk L h1 h4
  have : L = 1 ∨ L = 2 ∨ L = 3 ∨ L = 4 := by omega
  rcases this with rfl | rfl | rfl | rfl <;> unfold lev <;> simp only [Nat.reducePow, Nat.reduceSub] <;> split <;> split <;> split <;> split <;> omega
theorem lev_lt : ∀ k, lev k ≤ 4 := fun k => by unfold lev; split <;> split <;> split <;> split <;> omega
theorem few_choice {rs us : List Nat} (hl : rs.length = 31) (h : Bd rs us) {gap longest : Nat}
    (g1 : gap ≤ 5) (g2 : ∀ L, L ≤ 5 → (L ≤ gap ↔ ∀ k, k < 31 → us.getD k 0 < rs.getD k 0 → L ≤ lev k))
    (l1 : longest ≤ 4) (l2 : ∀ L, 1 ≤ L → (longest < L ↔ ∀ k, k < 31 → 0 < us.getD k 0 → lev k < L)) :
    fewT rs us.sum ≤ wS 0 us ∧ (fewT rs us.sum = wS 0 us ↔ longest ≤ gap) := by
  have hul : us.length = 31 := by rw [h.len, hl]
  have one : ∀ L, 1 ≤ L → L ≤ 4 → us.sum - lo (2 ^ L - 1) 0 rs ≤ hi (2 ^ L - 1) 0 us ∧ (us.sum - lo (2 ^ L - 1) 0 rs = hi (2 ^ L - 1) 0 us ↔ (L ≤ gap ∨ longest < L)) := by
    intro L h1 h4
    have e1 := hi_lo (2 ^ L - 1) 0 us
    have e2 := lo_le (2 ^ L - 1) 0 h
    have e3 := lo_eq (2 ^ L - 1) 0 h
    have e4 := hi_zero (2 ^ L - 1) 0 us
    rw [hl] at e3
    rw [hul] at e4
    have a1 : L ≤ gap ↔ lo (2 ^ L - 1) 0 us = lo (2 ^ L - 1) 0 rs := by
      rw [g2 L (by omega), e3]
      constructor
      · intro a i hi hk
        have := h.get i
        by_cases hlt : us.getD i 0 < rs.getD i 0
        · have := (lev_ge i hi L h1 h4).mp (a i hi hlt)
          omega
        · omega
      · intro a i hi hlt
        refine (lev_ge i hi L h1 h4).mpr (Nat.le_of_not_lt fun hk => ?_)
        have := a i hi (by omega)
        omega
    have a2 : longest < L ↔ hi (2 ^ L - 1) 0 us = 0 := by
      rw [l2 L h1, e4]
      constructor
      · intro a i hi hk
        by_cases hz : 0 < us.getD i 0
        · have := a i hi hz
          have := (lev_ge i hi L h1 h4).mpr (by omega)
          omega
        · omega
      · intro a i hi hz
        refine Nat.lt_of_not_le fun hge => ?_
        have := a i hi (by have := (lev_ge i hi L h1 h4).mp hge; omega)
        omega
    rw [a1, a2]
    omega
  rw [wS_hi]
  obtain ⟨b1, c1⟩ := one 1 (by decide) (by decide)
  obtain ⟨b2, c2⟩ := one 2 (by decide) (by decide)
  obtain ⟨b3, c3⟩ := one 3 (by decide) (by decide)
  obtain ⟨b4, c4⟩ := one 4 (by decide) (by decide)
  simp only [Nat.reducePow, Nat.reduceSub] at b1 c1 b2 c2 b3 c3 b4 c4
  unfold fewT
  refine ⟨by omega, ?_⟩
  constructor
  · intro e
    have d1 := c1.mp (by omega)
    have d2 := c2.mp (by omega)
    have d3 := c3.mp (by omega)
    have d4 := c4.mp (by omega)
    omega
  · intro e
    have d1 := c1.mpr (by omega)
    have d2 := c2.mpr (by omega)
    have d3 := c3.mpr (by omega)
    have d4 := c4.mpr (by omega)
    omega
/-- the first strings of the plain list -/
def plainS (f : Nat → Nat) : Nat → Nat
  | 0 => 0
  | n + 1 => plainS f n + f n
theorem plain_53 {s : Nat} (hs : 1 ≤ s) : ∀ n, plainS (fun k => lev (k / s)) n = (n - s) + (n - 3 * s) + (n - 7 * s) + (n - 15 * s)
  | 0 => by simp [plainS]
  | n + 1 => by
    show plainS _ n + lev (n / s) = _
    rw [plain_53 hs n]
    have h : ∀ c, c ≤ n / s ↔ c * s ≤ n := fun c => Nat.le_div_iff_mul_le hs
    have h1 := h 1
    unfold lev
    simp only [h]
    split <;> split <;> split <;> split <;> omega
theorem plain_54 {S : Nat} (hs : 1 ≤ S) : ∀ n, plainS (fun k => lev (1 + k / S)) n = n + (n - 2 * S) + (n - 6 * S) + (n - 14 * S)
  | 0 => by simp [plainS]
  | n + 1 => by
    show plainS _ n + lev (1 + n / S) = _
    rw [plain_54 hs n]
    have h : ∀ c, c ≤ n / S ↔ c * S ≤ n := fun c => Nat.le_div_iff_mul_le hs
    have h2 : 3 ≤ 1 + n / S ↔ 2 * S ≤ n := by rw [← h]; omega
    have h3 : 7 ≤ 1 + n / S ↔ 6 * S ≤ n := by rw [← h]; omega
    have h4 : 15 ≤ 1 + n / S ↔ 14 * S ≤ n := by rw [← h]; omega
    have h1 : 1 ≤ 1 + n / S := Nat.le_add_right 1 _
    unfold lev
    simp only [h2, h3, h4, h1, if_true]
    split <;> split <;> split <;> omega
theorem few_53 {s n : Nat} (hs : 1 ≤ s) (hn : n ≤ 31 * s) : fewT (List.replicate 31 s) n = totE s s n := by
  rw [← tot_is (k := 5) hs (by simp [Cm, Rm]; omega)]
  simp [fewT, List.replicate, lo, Tm, Cm, Rm]
  omega
theorem few_54 {e S n : Nat} (hs : 1 ≤ S) (hn : n ≤ e + 30 * S) : fewT (e :: List.replicate 30 S) n = totE e S n := by
  rw [← tot_is (k := 5) hs (by simp [Cm, Rm]; omega)]
  simp [fewT, List.replicate, lo, Tm, Cm, Rm]
  omega
end My

set_option Elab.async false
set_option linter.all false
set_option maxRecDepth 100000
set_option maxHeartbeats 4000000
namespace My
open PySem PySem.Spec PyProof.Rows L2 Evl
def top (i : Nat) : Stmt := PySem.Challenge.pw_unpressed_k60_told_excess.main.body.getD i (.Pass ⟨0, 0, 0, 0⟩)
section
variable {P : Program} {w : World} {K : PySem.W.Frag} {mg : Str → Option Value} {base : Heap}
/-! ### _law_whole -/
abbrev s_law_whole : Stmt := top 16
abbrev N_law_whole : List Str := ["value"]
theorem sc_law_whole : FnScope N_law_whole ["value"] (defScope s_law_whole) := ⟨rfl, rfl, rfl, by decide +kernel, rfl, by decide +kernel, by decide +kernel⟩
theorem ok_law_whole (T : TT mg) (F : At K mg "_law_whole" s_law_whole) : Dn P w K mg base 1 "_law_whole" s_law_whole ["value"] spWhole := by
  refine dn_ok F sc_law_whole (fun _ _ _ _ _ _ us hl => match us, hl with | [_], _ => rfl) (fun vs H Q E h => ?_) (fun f cdv A outer s H vs Q E hr h => ?_)
  · obtain ⟨m, rfl, _⟩ := h; rfl
  · obtain ⟨m, rfl, q⟩ := h
    refine ⟨_, (pss_one (ps_ret (pe_and (pe_callB call_isi (by rfl) T.isinstance (by decide +kernel) (pa_cons (pv 0) (pa_cons (pe_tyn "int" rfl T.int_ (by decide +kernel)) pa_nil))) (pe_one (pe_not (pe_callB call_isi (by rfl) T.isinstance (by decide +kernel) (pa_cons (pv 0) (pa_cons (pe_tyn "bool" rfl T.bool_ (by decide +kernel)) pa_nil)))))))), ?_⟩
    exact s_ret (v := .bl (true && !false)) (ev_andV (ev_isi (ev_var rfl) ev_c (ClsV.ty "int") (fun _ _ => .base (.int m)) kit_int_int) fun _ => ev_notV (ev_isi (ev_var rfl) ev_c (ClsV.ty "bool") (fun _ _ => .base (.int m)) kit_int_bool)) fun H1 e => q H1 e
/-! ### _law_cell -/
abbrev s_law_cell : Stmt := top 17
abbrev N_law_cell : List Str := ["script", "k", "seed", "cell"]
theorem sc_law_cell : FnScope N_law_cell ["script", "k"] (defScope s_law_cell) := ⟨rfl, rfl, rfl, by decide +kernel, rfl, by decide +kernel, by decide +kernel⟩
theorem ok_law_cell (T : TT mg) (F : At K mg "_law_cell" s_law_cell) : Dn P w K mg base 1 "_law_cell" s_law_cell ["script", "k"] (spCellF K) := by
  refine dn_ok F sc_law_cell (fun _ _ _ _ _ _ us hl => match us, hl with | [_, _], _ => rfl) (fun vs H Q E h => ?_) (fun f cdv A outer s H vs Q E hr h => ?_)
  · obtain ⟨a, ns, k, rfl, _⟩ := h; rfl
  · obtain ⟨a, ns, k, rfl, hS, hk, hk2, q⟩ := h
    refine ⟨_, (pss_cons (ps_if (pt_cmpR op_lt (pv 1) (pe_callB call_len_seq (by rfl) T.len boot_len (pa_cons (pv 0) pa_nil)) (nomark _)) (pss_one (ps_ret (pe_ix ix_list (pv 0) (pv 1) (fun _ _ => rfl)))) pss_nil)
      (pss_cons (ps_set (i := 2) sc_law_cell.nd rfl (Or.inl rfl) pe_int)
      (pss_cons (ps_for PassesOwn.never rfl (pi_list (pv 0)) (pg_name (i := 3) sc_law_cell.nd rfl (Or.inl rfl))
        (pss_one (ps_set (i := 2) sc_law_cell.nd rfl (Or.inl rfl) (pe_op op_mod (pe_callTy call_int1 (by rfl) T.int_ (by decide +kernel) (pa_cons (pe_op op_add (pe_op op_mul (pv 2) pe_int) (pe_op op_mod (pe_callTy call_int1 (by rfl) T.int_ (by decide +kernel) (pa_cons (pv 3) pa_nil)) pe_int)) pa_nil)) pe_int))))
      (pss_one (ps_ret (pe_op op_mod (pe_callTy call_int1 (by rfl) T.int_ (by decide +kernel) (pa_cons (pe_op op_mul (pe_op op_mul (pe_op op_add (pv 2) pe_int) (pe_op op_add (pv 1) pe_int)) pe_int) pa_nil)) pe_int)))))), ?_⟩
    refine q_when (et_test (ev_op (ev_var rfl) (ev_len (ev_var rfl) hS) rv_I0)) (fun hb H1 e1 => ?_) (fun hb H1 e1 => ?_)
    · have hlt : k < (ns.length : Int) := by
        have := of_decide_eq_true hb
        rw [List.length_map] at this
        exact this
      have hv : cellF ns k = ns.getD k.toNat 0 := if_pos hlt
      rw [hv] at q
      have hg : ns[k.toNat]? = some (ns.getD k.toNat 0) := by
        rw [List.getD_eq_getElem?_getD, List.getElem?_eq_getElem (by omega)]; rfl
      exact s_ret (ev_op (ev_var rfl) (ev_var rfl) (rv_ixL (ex_l e1 hS) (at_map hk hg))) fun H2 e2 => q H2 (e1.trans e2)
    · have hge : ¬ k < (ns.length : Int) := by
        have := of_decide_eq_false hb
        rw [List.length_map] at this
        exact this
      have hv : cellF ns k = ((seedF ns + 7) * (k + 3) * 69621) % 2147483647 := if_neg hge
      rw [hv] at q
      refine q_asg ev_c fun H2 e2 => ?_
      refine q_forLn (ev_var rfl) (ex_l (e1.trans e2) hS) (fun i σ' H' => ∃ (sd : Int) (v : Option V), σ' = [some (.ref a), some (.int k), some (.int sd), v] ∧ Ex H H' ∧ 0 ≤ sd ∧ sd < 1000003 ∧ (ns.drop i).foldl (fun s c => (s * 31 + c % 1000003) % 1000003) sd = seedF ns)
        (fun H3 e3 => ⟨17, none, rfl, (e1.trans e2).trans e3, by decide, by decide, rfl⟩) (fun i σ' H' _ ⟨_, _, _, e, _⟩ => ex_l e hS) ?_ ?_
      · rintro i x σ' H' hx ⟨sd, v, rfl, e, h0, h1, hf⟩
        obtain ⟨z, hz, rfl⟩ := get_map hx
        rw [drop_get hz, List.foldl_cons] at hf
        refine s_asg (ev_op (ev_int (ev_op (ev_op (ev_var rfl) ev_c (rv_I (by unfold CMul; omega))) (ev_op (ev_int (ev_var rfl)) ev_c (rv_I (by decide))) rv_I0)) ev_c (rv_I (by decide))) fun H4 e4 => ?_
        exact ⟨_, _, rfl, e.trans e4, Int.emod_nonneg _ (by decide), Int.emod_lt_of_pos _ (by decide), hf⟩
      · rintro σ' H' ⟨sd, v, rfl, e, h0, h1, hf⟩
        rw [List.length_map, List.drop_length] at hf
        have hsd : sd = seedF ns := hf
        subst hsd
        exact s_ret (ev_op (ev_int (ev_op (ev_op (ev_op (ev_var rfl) ev_c rv_I0) (ev_op (ev_var rfl) ev_c rv_I0) (rv_I (by unfold CMul; omega))) ev_c (rv_I (by unfold CMul; omega)))) ev_c (rv_I (by decide))) fun H4 e4 => q H4 (e.trans e4)
/-! ### _law_digits -/
abbrev s_law_digits : Stmt := top 21
abbrev N_law_digits : List Str := ["cell", "tops", "row", "rest", "seed", "k", "top", "twice"]
theorem sc_law_digits : FnScope N_law_digits ["cell", "tops"] (defScope s_law_digits) := ⟨rfl, rfl, rfl, by decide +kernel, rfl, by decide +kernel, by decide +kernel⟩
theorem ok_law_digits (T : TT mg) (F : At K mg "_law_digits" s_law_digits) : Dn P w K mg base 1 "_law_digits" s_law_digits ["cell", "tops"] (spDigits K) := by
  refine dn_ok F sc_law_digits (fun _ _ _ _ _ _ us hl => match us, hl with | [_, _], _ => rfl) (fun vs H Q E h => ?_) (fun f cdv A outer s H vs Q E hr h => ?_)
  · obtain ⟨c, b, ss, rfl, _⟩ := h; rfl
  · obtain ⟨c, b, ss, rfl, hS, ⟨hlen, hss⟩, q⟩ := h
    refine ⟨_, (pss_cons (ps_set (i := 2) sc_law_digits.nd rfl (Or.inl rfl) (pe_lst pa_nil))
      (pss_cons (ps_set (i := 3) sc_law_digits.nd rfl (Or.inl rfl) (pe_callTy call_int1 (by rfl) T.int_ (by decide +kernel) (pa_cons (pv 0) pa_nil)))
      (pss_cons (ps_if (pt_cmpR op_ge (pv 3) (pe_op op_pow pe_int pe_int) (nomark _)) (pss_cons (ps_set (i := 3) sc_law_digits.nd rfl (Or.inl rfl) (pe_op op_sub (pv 3) (pe_op op_pow pe_int pe_int)))
        (pss_cons (ps_for PassesOwn.never rfl (pi_list (pv 1)) (pg_name (i := 6) sc_law_digits.nd rfl (Or.inl rfl))
          (pss_cons (ps_expr (pe_bm PySem.F.plainAttrs_list PySem.F.slot_list_append PySem.F.type_list_append mt_append (pv 2) (pa_cons (pe_op op_mod (pe_callTy call_int1 (by rfl) T.int_ (by decide +kernel) (pa_cons (pv 3) pa_nil)) (pv 6)) pa_nil)))
            (pss_one (ps_set (i := 3) sc_law_digits.nd rfl (Or.inl rfl) (pe_op op_fdivW (pe_callTy call_int1 (by rfl) T.int_ (by decide +kernel) (pa_cons (pv 3) pa_nil)) (pv 6))))))
        (pss_one (ps_ret (pv 2))))) pss_nil)
      (pss_cons (ps_set (i := 4) sc_law_digits.nd rfl (Or.inl rfl) (pe_op op_mod (pe_callTy call_int1 (by rfl) T.int_ (by decide +kernel) (pa_cons (pv 3) pa_nil)) pe_int))
      (pss_cons (ps_for PassesOwn.never rfl (pi_range1 (by rfl) T.range (pa_cons (pe_callB call_len_seq (by rfl) T.len boot_len (pa_cons (pv 1) pa_nil)) pa_nil)) (pg_name (i := 5) sc_law_digits.nd rfl (Or.inl rfl))
        (pss_cons (ps_set (i := 4) sc_law_digits.nd rfl (Or.inl rfl) (pe_op op_mod (pe_callTy call_int1 (by rfl) T.int_ (by decide +kernel) (pa_cons (pe_op op_add (pe_op op_add (pe_op op_mul (pv 4) pe_int) (pe_op op_mul pe_int (pv 5))) pe_int) pa_nil)) pe_int))
          (pss_cons (ps_set (i := 7) sc_law_digits.nd rfl (Or.inl rfl) (pe_op op_mod (pe_callTy call_int1 (by rfl) T.int_ (by decide +kernel) (pa_cons (pe_op op_mul (pv 4) (pe_op op_add (pe_op op_fdiv (pv 4) pe_int) pe_int)) pa_nil)) pe_int))
          (pss_one (ps_expr (pe_bm PySem.F.plainAttrs_list PySem.F.slot_list_append PySem.F.type_list_append mt_append (pv 2) (pa_cons (pe_op op_mod (pe_op op_fdiv (pv 7) pe_int) (pe_ix ix_list (pv 1) (pv 5) (fun _ _ => rfl))) pa_nil)))))))
      (pss_one (ps_ret (pv 2)))))))), ?_⟩
    have e18 : (10 : Int) ^ (Int.toNat 18) = 1000000000000000000 := by decide
    have c18 : CPow 10 18 := by unfold CPow; decide
    refine q_asgL (el_lst ea_nil (by decide)) fun l H1 nl e1 h1 => ?_
    refine q_asg (ev_int (ev_var rfl)) fun H2 e2 => ?_
    refine q_when (et_test (ev_op (ev_var rfl) (ev_op ev_c ev_c (rv_I c18)) rv_I0)) (fun hb H3 e3 => ?_) (fun hb H3 e3 => ?_)
    · have hge : 1000000000000000000 ≤ c := by
        have := of_decide_eq_true hb
        rw [e18] at this
        exact this
      have hv : digitsF c ss = digA (c - 1000000000000000000) ss := if_pos hge
      rw [hv] at q
      refine q_asg (ev_op (ev_var rfl) (ev_op ev_c ev_c (rv_I c18)) rv_I0) fun H4 e4 => ?_
      have e14 : Ex H H4 := ((e1.trans e2).trans e3).trans e4
      refine q_forLn (ev_var rfl) (ex_l e14 hS) (fun i σ' H' => ∃ (r : Int) (done : List Int) (v : Option V), σ' = [some (.int c), some (.ref b), some (.ref l), some (.int r), none, none, v, none] ∧ Ex H H' ∧ H' l = some (.lst (done.map V.int)) ∧ done.length = i ∧ done ++ digA r (ss.drop i) = digA (c - 1000000000000000000) ss)
        (fun H5 e5 => ⟨_, [], none, rfl, e14.trans e5, e5 l _ (e4 l _ (e3 l _ (e2 l _ h1))), rfl, by rw [e18]; rfl⟩) (fun i σ' H' _ ⟨_, _, _, _, e, _⟩ => ex_l e hS) ?_ ?_
      · rintro i x σ' H' hx ⟨r, done, v, rfl, e, hl, hd, hf⟩
        obtain ⟨z, hz, rfl⟩ := get_map hx
        have hi := (List.getElem?_eq_some_iff.mp hz).1
        obtain ⟨z0, z1⟩ := hss z (List.mem_of_getElem? hz)
        rw [drop_get hz] at hf
        refine q_app hl (ev_var rfl) (ev_op (ev_int (ev_var rfl)) (ev_var rfl) (rv_I z0)) (by rw [List.length_map]; omega) fun H5 e5 => ?_
        refine s_asg (ev_op (ev_int (ev_var rfl)) (ev_var rfl) (rv_I (divw z0 z1))) fun H6 e6 => ?_
        refine ⟨r / z, done ++ [r % z], _, rfl, (Ex.mut (e.trans e5) nl).trans e6, ?_, by rw [List.length_append]; simp [hd], ?_⟩
        · rw [List.map_append]
          exact e6 l _ upd_same
        · rw [List.append_assoc]
          exact hf
      · rintro σ' H' ⟨r, done, v, rfl, e, hl, hd, hf⟩
        rw [List.length_map, List.drop_length] at hf
        have hf2 : done = digA (c - 1000000000000000000) ss := by rw [← hf]; simp [digA]
        subst hf2
        exact s_ret (ev_var rfl) fun H5 e5 => q l H5 nl (e.trans e5) (e5 l _ hl)
    · have hlt : ¬ 1000000000000000000 ≤ c := by
        have := of_decide_eq_false hb
        rw [e18] at this
        exact this
      have hv : digitsF c ss = digB (c % 2147483629) 0 ss := if_neg hlt
      rw [hv] at q
      refine q_asg (ev_op (ev_int (ev_var rfl)) ev_c (rv_I (by decide))) fun H4 e4 => ?_
      have e14 : Ex H H4 := ((e1.trans e2).trans e3).trans e4
      refine q_forR1 (ea_cons (ev_len (ev_var rfl) (ex_l e14 hS)) ea_nil) ⟨by omega, by rw [List.length_map]; omega⟩ (fun i σ' H' => ∃ (sd : Int) (done : List Int) (v u : Option V), σ' = [some (.int c), some (.ref b), some (.ref l), some (.int c), some (.int sd), v, none, u] ∧ Ex H H' ∧ H' l = some (.lst (done.map V.int)) ∧ done.length = i ∧ 0 ≤ sd ∧ sd < 2147483647 ∧ done ++ digB sd i (ss.drop i) = digB (c % 2147483629) 0 ss)
        (fun H5 e5 => ⟨_, [], none, none, rfl, e14.trans e5, e5 l _ (e4 l _ (e3 l _ (e2 l _ h1))), rfl, Int.emod_nonneg _ (by decide), Int.lt_trans (Int.emod_lt_of_pos _ (by decide)) (by decide), rfl⟩) ?_ ?_
      · rintro i σ' H' hi ⟨sd, done, v, u, rfl, e, hl, hd, h0, h1', hf⟩
        rw [List.length_map] at hi
        obtain ⟨z, hz⟩ : ∃ z, ss[i]? = some z := ⟨_, List.getElem?_eq_getElem (by omega)⟩
        obtain ⟨z0, z1⟩ := hss z (List.mem_of_getElem? hz)
        rw [drop_get hz] at hf
        have hm : 0 ≤ (sd * 48271 + 974711 * (i : Int) + 12345) % 2147483647 := Int.emod_nonneg _ (by decide)
        have hm2 : (sd * 48271 + 974711 * (i : Int) + 12345) % 2147483647 < 2147483647 := Int.emod_lt_of_pos _ (by decide)
        refine q_asg (ev_op (ev_int (ev_op (ev_op (ev_op (ev_var rfl) ev_c (rv_I (by unfold CMul; omega))) (ev_op ev_c (ev_var rfl) (rv_I (by unfold CMul; omega))) rv_I0) ev_c rv_I0)) ev_c (rv_I (by decide))) fun H5 e5 => ?_
        refine q_asg (ev_op (ev_int (ev_op (ev_var rfl) (ev_op (ev_op (ev_var rfl) ev_c (rv_I (by unfold CDiv; decide))) ev_c rv_I0) (rv_I (by unfold CMul; omega)))) ev_c (rv_I (by decide))) fun H6 e6 => ?_
        have e16 : Ex H H6 := (e.trans e5).trans e6
        refine s_app (e6 l _ (e5 l _ hl)) (ev_var rfl) (ev_op (ev_op (ev_var rfl) ev_c (rv_I (by unfold CDiv; decide))) (ev_op (ev_var rfl) (ev_var rfl) (rv_ixL (ex_l e16 hS) (at_map (by omega) (by simpa using hz)))) (rv_I z0)) (by rw [List.length_map]; omega) fun H7 e7 => ?_
        refine ⟨_, done ++ [(sd * 48271 + 974711 * (i : Int) + 12345) % 2147483647 * ((sd * 48271 + 974711 * (i : Int) + 12345) % 2147483647 / 65537 + 3) % 2147483629 / 19 % z], _, _, rfl, Ex.mut (e16.trans e7) nl, ?_, by rw [List.length_append]; simp [hd], hm, hm2, ?_⟩
        · rw [List.map_append]
          exact upd_same
        · rw [List.append_assoc]
          exact hf
      · rintro σ' H' ⟨sd, done, v, u, rfl, e, hl, hd, h0, h1', hf⟩
        have en : ((ss.map V.int).length : Int).toNat = ss.length := by simp
        rw [en, List.drop_length] at hf
        have hf2 : done = digB (c % 2147483629) 0 ss := by rw [← hf]; simp [digB]
        subst hf2
        exact s_ret (ev_var rfl) fun H5 e5 => q l H5 nl (e.trans e5) (e5 l _ hl)
end

/-! ### numbers that may be asked -/
def Big : Nat := 2 ^ 240
theorem big_steps {e s c k : Nat} (hs : 1 ≤ s) (hc : c ≤ Big) (h : Cm e s k < c) : k ≤ 241 := by
  have h1 := Cm_big (e := e) hs k
  refine Nat.le_of_not_lt fun hk => ?_
  have h2 : 2 ^ 242 ≤ 2 ^ k := Nat.pow_le_pow_right (by decide) (by omega)
  have h3 : Big + 2 < 2 ^ 242 := by decide +kernel
  omega
theorem Rm_twice (e s k : Nat) : Rm e s (k + 1) * 2 = Rm e s (k + 2) := by
  show s * 2 ^ (k + 1) * 2 = s * 2 ^ (k + 2)
  rw [Nat.pow_succ 2 (k + 1), Nat.mul_assoc]
theorem Rm_pos {e s : Nat} (hs : 1 ≤ s) (k : Nat) : 1 ≤ Rm e s (k + 1) := Nat.mul_pos hs (Nat.pow_pos (by decide))
section
variable {P : Program} {w : World} {K : PySem.W.Frag} {mg : Str → Option Value} {base : Heap}

/-! ### the program -/
abbrev s_least_bits : Stmt := top 10
abbrev N_least_bits : List Str := ["count", "empties", "share", "total", "rest", "bits", "room", "taken"]
theorem sc_least_bits : FnScope N_least_bits ["count", "empties", "share"] (defScope s_least_bits) := ⟨rfl, rfl, rfl, by decide +kernel, rfl, by decide +kernel, by decide +kernel⟩
def spLB : Sp := fun vs H Q _ => ∃ c e s : Nat, vs = [.int (c : Int), .int (e : Int), .int (s : Int)] ∧ 1 ≤ s ∧ c ≤ Big ∧ RetV (.int (totE e s c : Nat)) H Q
theorem sv_lb {c e s : Nat} {H : Hp} (h1 : 1 ≤ s) (hc : c ≤ Big) : SpV spLB [.int (c : Int), .int (e : Int), .int (s : Int)] H (.int (totE e s c : Nat)) := fun _ _ _ q _ => ⟨c, e, s, rfl, h1, hc, q⟩
theorem ok_least_bits (T : TT mg) (F : At K mg "_least_bits" s_least_bits) : Dn P w K mg base 1 "_least_bits" s_least_bits ["count", "empties", "share"] spLB := by
  refine dn_ok F sc_least_bits (fun _ _ _ _ _ _ us hl => match us, hl with | [_, _, _], _ => rfl) (fun vs H Q E h => ?_) (fun f cdv A outer t H vs Q E hr h => ?_)
  · obtain ⟨c, e, s, rfl, _⟩ := h; rfl
  · obtain ⟨c, e, s, rfl, h1, hc, q⟩ := h
    refine ⟨_, (pss_cons (ps_set (i := 3) sc_least_bits.nd rfl (Or.inl rfl) pe_int)
      (pss_cons (ps_set (i := 4) sc_least_bits.nd rfl (Or.inl rfl) (pe_callB (call_max2 rfl) (by rfl) T.max (by decide +kernel) (pa_cons pe_int (pa_cons (pe_op op_sub (pv 0) (pv 1)) pa_nil))))
      (pss_cons (ps_set (i := 5) sc_least_bits.nd rfl (Or.inl rfl) pe_int)
      (pss_cons (ps_set (i := 6) sc_least_bits.nd rfl (Or.inl rfl) (pe_op op_mul pe_int (pv 2)))
      (pss_cons (ps_while PassesOwn.never (pt_cmpR op_gt (pv 4) pe_int (nomark _))
        (pss_cons (ps_set (i := 7) sc_least_bits.nd rfl (Or.inl rfl) (pe_callB (call_min2 rfl) (by rfl) T.min (by decide +kernel) (pa_cons (pv 4) (pa_cons (pv 6) pa_nil))))
          (pss_cons (ps_aug (i := 3) sc_least_bits.nd rfl (Or.inl rfl) (pe_op op_mul (pv 7) (pv 5)) (pip_of iop_add))
          (pss_cons (ps_aug (i := 4) sc_least_bits.nd rfl (Or.inl rfl) (pv 7) (pip_of iop_sub))
          (pss_cons (ps_aug (i := 5) sc_least_bits.nd rfl (Or.inl rfl) pe_int (pip_of iop_add))
          (pss_one (ps_aug (i := 6) sc_least_bits.nd rfl (Or.inl rfl) pe_int (pip_of iop_mul))))))))
      (pss_one (ps_ret (pv 3)))))))), ?_⟩
    refine q_asg ev_c fun H1 e1 => ?_
    have hm : (if (c : Int) - (e : Int) > 0 then (c : Int) - (e : Int) else 0) = ((c - Cm e s 1 : Nat) : Int) := by
      show _ = ((c - (0 + e) : Nat) : Int)
      split <;> omega
    refine q_asg (ev_max2 ev_c (ev_op (ev_var rfl) (ev_var rfl) rv_I0)) fun H2 e2 => ?_
    rw [hm]
    refine q_asg ev_c fun H3 e3 => ?_
    refine q_asg (ev_op ev_c (ev_var rfl) (rv_I (Or.inl (by decide)))) fun H4 e4 => ?_
    refine q_while (fun m σ H' => ∃ (b tt : Nat) (v : Option V), c - Cm e s (b + 1) = m ∧ σ = [some (.int (c : Int)), some (.int (e : Int)), some (.int (s : Int)), some (.int (tt : Int)), some (.int ((c - Cm e s (b + 1) : Nat) : Int)), some (.int ((b + 1 : Nat) : Int)), some (.int (Rm e s (b + 1) : Nat)), v] ∧ Ex H H' ∧ tt + (b + 1) * (c - Cm e s (b + 1)) = Tm e s c (b + 1))
      (c - Cm e s 1) ⟨0, 0, none, rfl, ?_, ((e1.trans e2).trans e3).trans e4, by show 0 + (0 + 1) * (c - Cm e s (0 + 1)) = 0 + (c - Cm e s (0 + 1)); omega⟩ ?_
    · have e9 : (2 : Int) * (s : Int) = ((Rm e s 1 : Nat) : Int) := by
        show _ = ((s * 2 ^ 1 : Nat) : Int)
        rw [Nat.pow_one]
        omega
      rw [e9]
      rfl
    · rintro m σ' H' ⟨b, tt, v, rfl, rfl, ex, hinv⟩
      refine ⟨_, et_test (ev_op (ev_var rfl) ev_c rv_I0), fun hb H6 e6 => ?_, fun hb H6 e6 => ?_⟩
      · have hlt : Cm e s (b + 1) < c := by
          have := of_decide_eq_true hb
          omega
        have hb41 := big_steps h1 hc hlt
        have hturn := tot_turn hinv
        have hRp := Rm_pos (e := e) h1 b
        have hC : Cm e s (b + 1 + 1) = Cm e s (b + 1) + Rm e s (b + 1) := rfl
        refine ⟨fun σ2 H2 => ∃ m', m' < c - Cm e s (b + 1) ∧ ∃ (b tt : Nat) (v : Option V), c - Cm e s (b + 1) = m' ∧ σ2 = [some (.int (c : Int)), some (.int (e : Int)), some (.int (s : Int)), some (.int (tt : Int)), some (.int ((c - Cm e s (b + 1) : Nat) : Int)), some (.int ((b + 1 : Nat) : Int)), some (.int (Rm e s (b + 1) : Nat)), v] ∧ Ex H H2 ∧ tt + (b + 1) * (c - Cm e s (b + 1)) = Tm e s c (b + 1), fun _ _ h => h, ?_⟩
        refine q_asg (ev_min2 (ev_var rfl) (ev_var rfl)) fun H7 e7 => ?_
        rw [min2_nat]
        refine q_augR rfl (ev_op (ev_var rfl) (ev_var rfl) (rv_I (Or.inr (by omega)))) rv_I0 fun H8 e8 => ?_
        refine q_augR rfl (ev_var rfl) rv_I0 fun H9 e9 => ?_
        refine q_augR rfl ev_c rv_I0 fun H10 e10 => ?_
        refine s_augR rfl ev_c (rv_I (Or.inr (by decide))) fun H11 e11 => ?_
        refine ⟨c - Cm e s (b + 1 + 1), by omega, b + 1, tt + (b + 1) * min (c - Cm e s (b + 1)) (Rm e s (b + 1)), some (.int ((min (c - Cm e s (b + 1)) (Rm e s (b + 1)) : Nat) : Int)), rfl, ?_, (((((ex.trans e6).trans e7).trans e8).trans e9).trans e10).trans e11, hturn⟩
        have f1 : ((tt : Nat) : Int) + ((min (c - Cm e s (b + 1)) (Rm e s (b + 1)) : Nat) : Int) * ((b + 1 : Nat) : Int) = ((tt + (b + 1) * min (c - Cm e s (b + 1)) (Rm e s (b + 1)) : Nat) : Int) := by
          rw [Nat.mul_comm (b + 1), Int.natCast_add tt, Int.natCast_mul]
        have f2 : ((c - Cm e s (b + 1) : Nat) : Int) - ((min (c - Cm e s (b + 1)) (Rm e s (b + 1)) : Nat) : Int) = ((c - Cm e s (b + 1 + 1) : Nat) : Int) := by omega
        have f3 : ((b + 1 : Nat) : Int) + 1 = ((b + 1 + 1 : Nat) : Int) := by omega
        have f4 : ((Rm e s (b + 1) : Nat) : Int) * 2 = ((Rm e s (b + 1 + 1) : Nat) : Int) := by
          rw [← Rm_twice, Int.natCast_mul]
          rfl
        rw [← f1, ← f2, ← f3, ← f4]
        rfl
      · have hge : c ≤ Cm e s (b + 1) := by
          have := of_decide_eq_false hb
          omega
        have ht : tt = totE e s c := by
          rw [← tot_is h1 hge, ← hinv, Nat.sub_eq_zero_of_le hge]
          omega
        subst ht
        exact s_ret (ev_var rfl) fun H7 e7 => q H7 ((ex.trans e6).trans e7)
end
theorem cB (s w : Nat) : ((Bn s w : Nat) : Int) + ((s ^ (w + 1) : Nat) : Int) * ((w + 1 : Nat) : Int) = ((Bn s (w + 1) : Nat) : Int) := by
  rw [← Int.natCast_mul, ← Int.natCast_add]
  congr 1
  show Bn s w + s ^ (w + 1) * (w + 1) = Bn s w + (w + 1) * s ^ (w + 1)
  rw [Nat.mul_comm]
theorem cS (s w : Nat) : ((Sn s w : Nat) : Int) + ((s ^ (w + 1) : Nat) : Int) = ((Sn s (w + 1) : Nat) : Int) := by
  rw [← Int.natCast_add]
  rfl
theorem cP (s w : Nat) : ((s ^ (w + 1) : Nat) : Int) * ((s : Nat) : Int) = ((s ^ (w + 1 + 1) : Nat) : Int) := by
  rw [← Int.natCast_mul]
  rfl
theorem cN (w : Nat) : ((w + 1 : Nat) : Int) + 1 = ((w + 1 + 1 : Nat) : Int) := by omega
theorem tri_cast (c : Nat) : ((c : Int) * ((c : Int) + 1)) / 2 = ((c * (c + 1) / 2 : Nat) : Int) := by
  rw [Int.natCast_ediv, Int.natCast_mul, Int.natCast_add]
  rfl
theorem capN {c : Nat} (h : c ≤ cap) : ((c : Nat) : Int).natAbs < 2 ^ 1000 := by
  have a := cap_lt
  have b : (2 : Nat) ^ 101 < 2 ^ 1000 := by decide +kernel
  rw [Int.natAbs_natCast]
  omega
theorem capN1 {c : Nat} (h : c ≤ cap) : ((c : Nat) : Int).natAbs + 10 < 2 ^ 1000 := by
  have a := cap_lt
  have b : (2 : Nat) ^ 101 + 10 < 2 ^ 1000 := by decide +kernel
  rw [Int.natAbs_natCast]
  omega

def eT (p : Nat) : Nat := p * (p - 1) / 2
def sT (p : Nat) : Nat := p * p
theorem eT_cast {p : Nat} (h : 1 ≤ p) : (p : Int) * ((p : Int) - 1) / 2 = ((eT p : Nat) : Int) := by
  unfold eT
  rw [Int.natCast_ediv, Int.natCast_mul]
  have : ((p : Int) - 1) = ((p - 1 : Nat) : Int) := by omega
  rw [this]
  rfl
theorem sT_cast (p : Nat) : (p : Int) * (p : Int) = ((sT p : Nat) : Int) := by unfold sT; rw [Int.natCast_mul]
theorem sT_pos {p : Nat} (h : 1 ≤ p) : 1 ≤ sT p := Nat.mul_pos h h
section
variable {P : Program} {w : World} {K : PySem.W.Frag} {mg : Str → Option Value} {base : Heap}
abbrev s_floor_bits : Stmt := top 9
abbrev N_floor_bits : List Str := ["standings", "count"]
theorem sc_floor_bits : FnScope N_floor_bits ["standings", "count"] (defScope s_floor_bits) := ⟨rfl, rfl, rfl, by decide +kernel, rfl, by decide +kernel, by decide +kernel⟩
def spTot : Sp := fun vs H Q _ => ∃ p c : Nat, vs = [.int (p : Int), .int (c : Int)] ∧ 1 ≤ p ∧ p ≤ 10000 ∧ c ≤ Big ∧ RetV (.int (totE (eT p) (sT p) c : Nat)) H Q
theorem sv_tot {p c : Nat} {H : Hp} (h1 : 1 ≤ p) (h2 : p ≤ 10000) (hc : c ≤ Big) : SpV spTot [.int (p : Int), .int (c : Int)] H (.int (totE (eT p) (sT p) c : Nat)) := fun _ _ _ q _ => ⟨p, c, rfl, h1, h2, hc, q⟩
theorem pmul {p : Nat} (h : p ≤ 10000) (j : Int) : CMul (p : Int) j := Or.inl (by omega)
theorem ok_floor_bits (D_least_bits : Dn P w K mg base 1 "_least_bits" s_least_bits ["count", "empties", "share"] spLB) (F : At K mg "floor_bits" s_floor_bits) : Dn P w K mg base 2 "floor_bits" s_floor_bits ["standings", "count"] spTot := by
  refine dn_ok F sc_floor_bits (fun _ _ _ _ _ _ us hl => match us, hl with | [_, _], _ => rfl) (fun vs H Q E h => ?_) (fun f cdv A outer t H vs Q E hr h => ?_)
  · obtain ⟨p, c, rfl, _⟩ := h; rfl
  · obtain ⟨p, c, rfl, h1, h2, hc, q⟩ := h
    refine ⟨_, (pss_one (ps_ret (pe_dn D_least_bits hr (by decide) rfl (pa_cons (pv 1) (pa_cons (pe_op op_fdiv (pe_op op_mul (pv 0) (pe_op op_sub (pv 0) pe_int)) pe_int) (pa_cons (pe_op op_mul (pv 0) (pv 0)) pa_nil)))))), ?_⟩
    exact s_ret (ev_call (ea_cons (ev_var rfl) (ea_cons (ev_is (ev_op (ev_op (ev_var rfl) (ev_op (ev_var rfl) ev_c rv_I0) (rv_I (pmul h2 _))) ev_c (rv_I (by unfold CDiv; decide))) (congrArg V.int (eT_cast h1))) (ea_cons (ev_is (ev_op (ev_var rfl) (ev_var rfl) (rv_I (pmul h2 _))) (congrArg V.int (sT_cast p))) ea_nil))) (sv_lb (sT_pos h1) hc)) fun H1 e1 => q H1 e1
abbrev s_width : Stmt := top 2
abbrev N_width : List Str := ["options"]
theorem sc_width : FnScope N_width ["options"] (defScope s_width) := ⟨rfl, rfl, rfl, by decide +kernel, rfl, by decide +kernel, by decide +kernel⟩
def spWidth : Sp := fun vs H Q _ => ∃ m : Int, vs = [.int m] ∧ RetV (.int (wd m : Nat)) H Q
theorem ok_width (F : At K mg "width" s_width) : Dn P w K mg base 1 "width" s_width ["options"] spWidth := by
  refine dn_ok F sc_width (fun _ _ _ _ _ _ us hl => match us, hl with | [_], _ => rfl) (fun vs H Q E h => ?_) (fun f cdv A outer s H vs Q E hr h => ?_)
  · obtain ⟨m, rfl, _⟩ := h; rfl
  · obtain ⟨m, rfl, q⟩ := h
    refine ⟨_, (pss_one (ps_ret (pe_bits (pe_op op_sub (pv 0) pe_int)))), ?_⟩
    exact s_ret (ev_bits (ev_op (ev_var rfl) ev_c rv_I0)) fun H1 e => q H1 e
theorem sv_width {m : Int} {H : Hp} : SpV spWidth [.int m] H (.int (wd m : Nat)) := fun H1 _ Q q _ => ⟨m, rfl, q⟩
theorem kd_width (D : Dn P w K mg base 1 "width" s_width ["options"] spWidth) : Kd P w K mg base 1 "width" 0 ["options"] (fun _ zs => zs) spWidth :=
  kd_of D 0 ["options"] (fun _ ws => ws) (fun _ zs => zs) (fun _ _ _ _ _ _ us ws h1 h2 => match us, ws, h1, h2 with | [], [_], _, _ => rfl) (fun _ r => r)
abbrev s_greatest_count : Stmt := top 7
abbrev N_greatest_count : List Str := ["size", "length", "count", "rest", "word", "texts"]
theorem sc_greatest_count : FnScope N_greatest_count ["size", "length"] (defScope s_greatest_count) := ⟨rfl, rfl, rfl, by decide +kernel, rfl, by decide +kernel, by decide +kernel⟩
def spGC : Sp := fun vs H Q _ => ∃ s L : Nat, vs = [.int (s : Int), .int (L : Int)] ∧ 1 ≤ s ∧ s ≤ 6 ∧ L ≤ cap ∧ RetV (.int (grF s L : Nat)) H Q
theorem isqrt_dec (n k : Nat) (hk : k ≤ 3) (h9 : 9 ≤ n ∨ k ≤ 1 ∧ 1 ≤ n) : ((Float64.isqrt n : Nat) : Int) - (k : Int) = ((Float64.isqrt n - k : Nat) : Int) := by
  have h := PySem.Float64.isqrt_spec n
  have : k ≤ Float64.isqrt n := by
    rcases h9 with a | ⟨a, b⟩
    · by_cases c : Float64.isqrt n ≤ 2
      · have := sq_step (Float64.isqrt n + 1) 3 (by omega)
        omega
      · omega
    · by_cases c : Float64.isqrt n = 0
      · rw [c] at h; omega
      · omega
  omega
theorem ok_greatest_count (TI : mg "isqrt" = some (.builtin "math.isqrt")) (F : At K mg "greatest_count" s_greatest_count) : Dn P w K mg base 1 "greatest_count" s_greatest_count ["size", "length"] spGC := by
  refine dn_ok F sc_greatest_count (fun _ _ _ _ _ _ us hl => match us, hl with | [_, _], _ => rfl) (fun vs H Q E h => ?_) (fun f cdv A outer t H vs Q E hr h => ?_)
  · obtain ⟨s, c, rfl, _⟩ := h; rfl
  · obtain ⟨s, L, rfl, h1, h6, hL, q⟩ := h
    refine ⟨_, (pss_cons (ps_if (pt_cmpR op_eq (pv 0) pe_int (nomark _)) (pss_one (ps_ret (pe_op op_fdiv (pe_op op_sub (pe_callBfun cr_isqrt (by rfl) TI (pa_cons (pe_op op_add (pe_op op_mul pe_int (pv 1)) pe_int) pa_nil)) pe_int) pe_int))) pss_nil)
      (pss_cons (ps_set (i := 2) sc_greatest_count.nd rfl (Or.inl rfl) pe_int)
      (pss_cons (ps_set (i := 3) sc_greatest_count.nd rfl (Or.inl rfl) (pv 1))
      (pss_cons (ps_set (i := 4) sc_greatest_count.nd rfl (Or.inl rfl) pe_int)
      (pss_cons (ps_set (i := 5) sc_greatest_count.nd rfl (Or.inl rfl) (pv 0))
      (pss_cons (ps_while PassesOwn.never (pt_cmpR op_gt (pv 3) (pe_op op_mul (pv 5) (pv 4)) (nomark _))
        (pss_cons (ps_aug (i := 2) sc_greatest_count.nd rfl (Or.inl rfl) (pv 5) (pip_of iop_add))
          (pss_cons (ps_aug (i := 3) sc_greatest_count.nd rfl (Or.inl rfl) (pe_op op_mul (pv 5) (pv 4)) (pip_of iop_sub))
          (pss_cons (ps_aug (i := 4) sc_greatest_count.nd rfl (Or.inl rfl) pe_int (pip_of iop_add))
          (pss_one (ps_aug (i := 5) sc_greatest_count.nd rfl (Or.inl rfl) (pv 0) (pip_of iop_mul)))))))
      (pss_one (ps_ret (pe_op op_add (pv 2) (pe_op op_fdiv (pv 3) (pv 4))))))))))), ?_⟩
    have hL2 := cap_lt
    refine q_when (et_test (ev_op (ev_var rfl) ev_c (rv_eq rfl))) (fun hb H1 e1 => ?_) (fun hb H1 e1 => ?_)
    · have hs : s = 1 := by
        have := of_decide_eq_true hb
        injection this
        omega
      subst hs
      have hi := PySem.Float64.isqrt_spec (8 * L + 1)
      rw [grF_is (by decide) (gr_one hi.1 hi.2)] at q
      have e8 : (8 : Int) * (L : Int) + 1 = ((8 * L + 1 : Nat) : Int) := by omega
      have ev : (((Float64.isqrt (8 * L + 1) - 1) / 2 : Nat) : Int) = (((Float64.isqrt (8 * L + 1) : Nat) : Int) - 1) / 2 := by
        have := isqrt_dec (8 * L + 1) 1 (by decide) (Or.inr ⟨by decide, by omega⟩)
        have c1 : ((1 : Nat) : Int) = 1 := rfl
        rw [c1] at this
        rw [this, Int.natCast_ediv]
        rfl
      rw [ev] at q
      refine s_ret (ev_op (ev_op (ev_isqrt (n := 8 * L + 1) ?_ ?_) ev_c rv_I0) ev_c (rv_I (by unfold CDiv; decide))) fun H2 e2 => q H2 (e1.trans e2)
      · rw [← e8]
        exact ev_op (ev_op ev_c (ev_var rfl) (rv_I (Or.inl (by decide)))) ev_c rv_I0
      · have : (8 * 2 ^ 101 + 1 : Nat) < 2 ^ 4000 := by decide +kernel
        omega
    · have hs : 2 ≤ s := by
        have := of_decide_eq_false hb
        by_cases z : s = 1
        · subst z; exact absurd rfl this
        · omega
      refine q_asg ev_c fun H2 e2 => ?_
      refine q_asg (ev_var rfl) fun H3 e3 => ?_
      refine q_asg ev_c fun H4 e4 => ?_
      refine q_asg (ev_var rfl) fun H5 e5 => ?_
      refine q_while (fun m σ H' => ∃ v rest : Nat, rest = m ∧ σ = [some (.int (s : Int)), some (.int (L : Int)), some (.int (Sn s v : Nat)), some (.int (rest : Int)), some (.int (v + 1 : Nat)), some (.int (s ^ (v + 1) : Nat))] ∧ Ex H H' ∧ L = Bn s v + rest ∧ s ^ v ≤ 6 * cap)
        L ⟨0, L, rfl, by rw [Nat.pow_one]; rfl, (((e1.trans e2).trans e3).trans e4).trans e5, by simp [Bn], by rw [Nat.pow_zero]; decide +kernel⟩ ?_
      rintro m σ' H' ⟨v, rest, rfl, rfl, e, hcr, hv⟩
      have v110 := level_small hs hv
      have eM : ((s ^ (v + 1) : Nat) : Int) * ((v + 1 : Nat) : Int) = ((s ^ (v + 1) * (v + 1) : Nat) : Int) := (Int.natCast_mul _ _).symm
      refine ⟨_, et_test (ev_op (ev_var rfl) (ev_op (ev_var rfl) (ev_var rfl) (rv_I (Or.inr (by omega)))) rv_I0), fun hb2 H6 e6 => ?_, fun hb2 H6 e6 => ?_⟩
      · have hlt : s ^ (v + 1) * (v + 1) < rest := by
          have := of_decide_eq_true hb2
          rw [eM] at this
          omega
        have hp := pow_pos' (show 1 ≤ s by omega) (v + 1)
        have hp2 : s ^ (v + 1) ≤ s ^ (v + 1) * (v + 1) := Nat.le_mul_of_pos_right _ (by omega)
        refine ⟨fun σ2 H2 => ∃ m', m' < rest ∧ ∃ v rest : Nat, rest = m' ∧ σ2 = [some (.int (s : Int)), some (.int (L : Int)), some (.int (Sn s v : Nat)), some (.int (rest : Int)), some (.int (v + 1 : Nat)), some (.int (s ^ (v + 1) : Nat))] ∧ Ex H H2 ∧ L = Bn s v + rest ∧ s ^ v ≤ 6 * cap, fun _ _ h => h, ?_⟩
        refine q_augR rfl (ev_var rfl) rv_I0 fun H7 e7 => ?_
        refine q_augR rfl (ev_op (ev_var rfl) (ev_var rfl) (rv_I (Or.inr (by omega)))) rv_I0 fun H8 e8 => ?_
        refine q_augR rfl ev_c rv_I0 fun H9 e9 => ?_
        refine s_augR rfl (ev_var rfl) (rv_I (Or.inr (by omega))) fun H10 e10 => ?_
        refine ⟨rest - s ^ (v + 1) * (v + 1), by omega, v + 1, rest - s ^ (v + 1) * (v + 1), rfl, ?_, ((((e.trans e6).trans e7).trans e8).trans e9).trans e10, ?_, by omega⟩
        · have e1 : ((rest : Nat) : Int) - ((s ^ (v + 1) : Nat) : Int) * ((v + 1 : Nat) : Int) = ((rest - s ^ (v + 1) * (v + 1) : Nat) : Int) := by rw [eM]; omega
          rw [← cS, ← cP, ← cN, ← e1]
          rfl
        · show L = Bn s v + (v + 1) * s ^ (v + 1) + (rest - s ^ (v + 1) * (v + 1))
          have := Nat.mul_comm (v + 1) (s ^ (v + 1))
          omega
      · have hge : rest ≤ s ^ (v + 1) * (v + 1) := by
          have := of_decide_eq_false hb2
          rw [eM] at this
          omega
        have ht : grF s L = Sn s v + rest / (v + 1) := grF_is (by omega) (gr_loop (by omega) hcr hge)
        have ev : ((grF s L : Nat) : Int) = ((Sn s v : Nat) : Int) + ((rest : Nat) : Int) / ((v + 1 : Nat) : Int) := by
          rw [ht, Int.natCast_add, Int.natCast_ediv]
        rw [ev] at q
        exact s_ret (ev_op (ev_var rfl) (ev_op (ev_var rfl) (ev_var rfl) (rv_I ⟨by omega, by omega⟩)) rv_I0) fun H7 e7 => q H7 ((e.trans e6).trans e7)
theorem sv_gc {s L : Nat} {H : Hp} (h1 : 1 ≤ s) (h6 : s ≤ 6) (hc : L ≤ cap) : SpV spGC [.int (s : Int), .int (L : Int)] H (.int (grF s L : Nat)) := fun _ _ _ q _ => ⟨s, L, rfl, h1, h6, hc, q⟩
abbrev s_law_width : Stmt := top 19
abbrev N_law_width : List Str := ["options", "wide", "top", "k"]
theorem sc_law_width : FnScope N_law_width ["options"] (defScope s_law_width) := ⟨rfl, rfl, rfl, by decide +kernel, rfl, by decide +kernel, by decide +kernel⟩
def top2 : Int := 2 ^ 399
def spLW : Sp := fun vs H Q _ => ∃ m : Int, vs = [.int m] ∧ 1 ≤ m ∧ m ≤ top2 ∧ RetV (.int (wd m : Nat)) H Q
theorem ok_law_width (T : TT mg) (F : At K mg "_law_width" s_law_width) : Dn P w K mg base 1 "_law_width" s_law_width ["options"] spLW := by
  refine dn_ok F sc_law_width (fun _ _ _ _ _ _ us hl => match us, hl with | [_], _ => rfl) (fun vs H Q E h => ?_) (fun f cdv A outer s H vs Q E hr h => ?_)
  · obtain ⟨m, rfl, _⟩ := h; rfl
  · obtain ⟨m, rfl, h1, h2, q⟩ := h
    refine ⟨_, (pss_cons (ps_set (i := 1) sc_law_width.nd rfl (Or.inl rfl) pe_int)
      (pss_cons (ps_set (i := 2) sc_law_width.nd rfl (Or.inl rfl) pe_int)
      (pss_cons (ps_for PassesOwn.never rfl (pi_range1 (by rfl) T.range (pa_cons pe_int pa_nil)) (pg_name (i := 3) sc_law_width.nd rfl (Or.inl rfl))
        (pss_cons (ps_if (pt_cmpR op_ge (pv 2) (pv 0) (nomark _)) (pss_one ps_break) pss_nil)
          (pss_cons (ps_set (i := 2) sc_law_width.nd rfl (Or.inl rfl) (pe_op op_mul (pv 2) pe_int))
          (pss_one (ps_set (i := 1) sc_law_width.nd rfl (Or.inl rfl) (pe_op op_add (pv 1) pe_int))))))
      (pss_one (ps_ret (pv 1)))))), ?_⟩
    refine q_asg ev_c fun H1 e1 => ?_
    refine q_asg ev_c fun H2 e2 => ?_
    refine q_forR1 (ea_cons ev_c ea_nil) ⟨by decide, by decide⟩ (fun i σ' H' => ∃ v : Option V, σ' = [some (.int m), some (.int (i : Int)), some (.int (2 ^ i)), v] ∧ Ex H H' ∧ ∀ j, j < i → (2 : Int) ^ j < m) (fun H3 e3 => ⟨none, rfl, (e1.trans e2).trans e3, fun j hj => absurd hj (Nat.not_lt_zero j)⟩) ?_ ?_
    · rintro i σ' H' hi ⟨v, rfl, e, hj⟩
      refine q_when (et_test (ev_op (ev_var rfl) (ev_var rfl) rv_I0)) (fun hb H3 e3 => ?_) (fun hb H3 e3 => ?_)
      · have hc : m ≤ 2 ^ i := of_decide_eq_true hb
        have hw := wd_uniq h1 hc hj
        rw [← hw] at q
        show tRet (tVar 1) { nx := fun _ H' => Q .non H', rt := Q } _ _
        exact s_ret (ev_var rfl) fun H4 e4 => q H4 ((e.trans e3).trans e4)
      · have hc : ¬ m ≤ 2 ^ i := of_decide_eq_false hb
        refine q_asg (ev_op (ev_var rfl) ev_c (rv_I (Or.inr (by decide)))) fun H4 e4 => ?_
        refine s_asg (ev_op (ev_var rfl) ev_c rv_I0) fun H5 e5 => ?_
        refine ⟨_, by rw [Int.pow_succ]; rfl, ((e.trans e3).trans e4).trans e5, fun j hj2 => ?_⟩
        by_cases z : j < i
        · exact hj j z
        · have : j = i := by omega
          subst this
          omega
    · rintro σ' H' ⟨v, rfl, e, hj⟩
      have := hj 399 (by decide)
      unfold top2 at h2
      omega
theorem sv_lw {m : Int} {H : Hp} (h1 : 1 ≤ m) (h2 : m ≤ top2) : SpV spLW [.int m] H (.int (wd m : Nat)) := fun H1 e Q q _ => ⟨m, rfl, h1, h2, q⟩
end
end My

set_option Elab.async false
set_option linter.all false
set_option maxRecDepth 100000
set_option maxHeartbeats 4000000
namespace My
open PySem PySem.Spec PyProof.Rows L2 Evl
theorem rowW_one (i : Nat) : rowW 1 i = 1 := by
  have e : (i + 1) * (1 - 1) + 2 = 2 := by rw [Nat.sub_self, Nat.mul_zero]
  unfold rowW
  rw [e]
  exact Nat.le_antisymm (cl_le (by decide) (by decide)) (lt_cl (by decide) (by decide))
theorem rsum_one : ∀ n, rsum 1 n = n
  | 0 => rfl
  | n + 1 => by
    show rsum 1 n + rowW 1 n = n + 1
    rw [rsum_one n, rowW_one]
def capR (s b : Nat) : Nat := (2 ^ b - 2) / (s - 1)
theorem row_cap {s i b : Nat} (hs : 2 ≤ s) : rowW s i ≤ b ↔ i < capR s b := by
  have h1 : 0 < s - 1 := by omega
  have h2 : i < capR s b ↔ (i + 1) * (s - 1) ≤ 2 ^ b - 2 := by
    unfold capR
    rw [← Nat.le_div_iff_mul_le h1]
    omega
  rw [h2]
  have h3 : 0 < (i + 1) * (s - 1) := Nat.mul_pos (by omega) h1
  constructor
  · intro h
    have a := (cl_spec (n := (i + 1) * (s - 1) + 2) (by omega)).1
    have b2 := Nat.pow_le_pow_right (n := 2) (by decide) h
    have : rowW s i = cl ((i + 1) * (s - 1) + 2) := rfl
    rw [← this] at a
    omega
  · intro h
    exact cl_le (by omega) (by omega)
theorem rsum_flat {s b : Nat} : ∀ (k d : Nat), (∀ i, d ≤ i → i < d + k → rowW s i = b) → rsum s (d + k) = rsum s d + k * b
  | 0, d, _ => by rw [Nat.zero_mul]; rfl
  | k + 1, d, h => by
    have ih := rsum_flat k d fun i h1 h2 => h i h1 (by omega)
    show rsum s (d + k) + rowW s (d + k) = _
    rw [ih, h (d + k) (by omega) (by omega), Nat.add_mul, Nat.one_mul, Nat.add_assoc]
theorem capR_cast {s b : Nat} (hs : 2 ≤ s) (hb : 1 ≤ b) : ((1 : Int) * 2 ^ ((b : Int)).toNat - 2) / ((s : Int) - 1) = ((capR s b : Nat) : Int) := by
  have e1 : ((b : Int)).toNat = b := by omega
  have h2 : 2 ≤ 2 ^ b := by
    have := Nat.pow_le_pow_right (n := 2) (by decide) hb
    exact this
  have e2 : (1 : Int) * 2 ^ b - 2 = ((2 ^ b - 2 : Nat) : Int) := by
    rw [p2, Int.one_mul]
    omega
  have e3 : (s : Int) - 1 = ((s - 1 : Nat) : Int) := by omega
  rw [e1, e2, e3]
  unfold capR
  rw [Int.natCast_ediv]
theorem big_rows {s N b : Nat} (hs : 2 ≤ s) (h6 : s ≤ 6) (hN : N ≤ Big + 1) (h : capR s b < N) : b ≤ 250 := by
  by_cases c : b ≤ 250
  · exact c
  · have hp := Nat.pow_le_pow_right (n := 2) (by decide) (show 251 ≤ b by omega)
    have h1 : 2 ^ b - 2 < (capR s b + 1) * (s - 1) := by
      unfold capR
      have := Nat.lt_succ_of_le (Nat.le_refl ((2 ^ b - 2) / (s - 1)))
      exact (Nat.div_lt_iff_lt_mul (show 0 < s - 1 by omega)).mp this
    have h2 : (capR s b + 1) * (s - 1) ≤ (capR s b + 1) * 5 := Nat.mul_le_mul_left _ (by omega)
    have hB : Big * 100 < 2 ^ 251 := by unfold Big; decide +kernel
    have hB1 : 1 ≤ Big := by unfold Big; decide +kernel
    generalize 2 ^ b = X at hp h1
    generalize (2 : Nat) ^ 251 = Y at hp hB
    omega
/-- the law's own columns -/
def fitF (s N b : Nat) : Nat := if 1 < s then capR s b else if 1 < 2 ^ b then N else 0
theorem fit_rows {s N : Nat} (hs : 1 ≤ s) (i b : Nat) (hi : i < N) : fitF s N b ≤ i ↔ b < rowW s i := by
  unfold fitF
  by_cases c : 1 < s
  · rw [if_pos c]
    have := row_cap (s := s) (i := i) (b := b) (by omega)
    omega
  · have e : s = 1 := by omega
    subst e
    rw [if_neg c, rowW_one]
    by_cases d : 1 < 2 ^ b
    · rw [if_pos d]
      have : b ≠ 0 := fun z => by subst z; exact absurd d (by decide)
      omega
    · rw [if_neg d]
      have : b = 0 := by
        by_cases z : b = 0
        · exact z
        · exfalso
          have := Nat.pow_le_pow_right (n := 2) (by decide) (show 1 ≤ b by omega)
          have h2 : (2 : Nat) ^ 1 = 2 := rfl
          omega
      omega
theorem fit_end {s N k : Nat} (hs : 1 ≤ s) (h : N ≤ fitF s N k) : colS (fitF s N) N k = rsum s N := colS_rows (N := N) (fun i b hi => fit_rows hs i b hi) (fun i hi => by
  have := (fit_rows (N := N) hs i k hi)
  omega) N (Nat.le_refl _)
theorem fit_far {s N : Nat} (hs : 1 ≤ s) (h6 : s ≤ 6) (hN : N ≤ Big + 1) : N ≤ fitF s N 400 := by
  unfold fitF
  by_cases c : 1 < s
  · rw [if_pos c]
    by_cases d : N ≤ capR s 400
    · exact d
    · have := big_rows (s := s) (N := N) (b := 400) (by omega) h6 hN (by omega)
      omega
  · rw [if_neg c, if_pos (by decide +kernel)]
    exact Nat.le_refl _
section
variable {P : Program} {w : World} {K : PySem.W.Frag} {mg : Str → Option Value} {base : Heap}
abbrev s_whole_log : Stmt := top 3
abbrev N_whole_log : List Str := ["number"]
theorem sc_whole_log : FnScope N_whole_log ["number"] (defScope s_whole_log) := ⟨rfl, rfl, rfl, by decide +kernel, rfl, by decide +kernel, by decide +kernel⟩
def spWL : Sp := fun vs H Q _ => ∃ n : Nat, vs = [.int (n : Int)] ∧ 1 ≤ n ∧ RetV (.int ((cl (n + 1) - 1 : Nat) : Int)) H Q
theorem wl_cast {n : Nat} (h : 1 ≤ n) : ((wd ((n : Int) + 1) : Nat) : Int) - 1 = ((cl (n + 1) - 1 : Nat) : Int) := by
  have h1 : 0 < cl (n + 1) := lt_cl (by omega) (by show 1 < _; omega)
  have h2 : wd ((n : Int) + 1) = cl (n + 1) := rfl
  rw [h2]
  omega
theorem sv_wl {n : Nat} {H : Hp} (h : 1 ≤ n) : SpV spWL [.int (n : Int)] H (.int ((cl (n + 1) - 1 : Nat) : Int)) := fun _ _ _ q _ => ⟨n, rfl, h, q⟩
theorem ok_whole_log (F : At K mg "whole_log" s_whole_log) : Dn P w K mg base 1 "whole_log" s_whole_log ["number"] spWL := by
  refine dn_ok F sc_whole_log (fun _ _ _ _ _ _ us hl => match us, hl with | [_], _ => rfl) (fun vs H Q E h => ?_) (fun f cdv A outer t H vs Q E hr h => ?_)
  · obtain ⟨n, rfl, _⟩ := h; rfl
  · obtain ⟨n, rfl, h1, q⟩ := h
    refine ⟨_, (pss_one (ps_ret (pe_op op_sub (pe_bits (pv 0)) pe_int))), ?_⟩
    have e : Builtin.Int.intBits (n : Int) = wd ((n : Int) + 1) := by
      unfold wd
      congr 1
      omega
    exact s_ret (ev_is (ev_op (ev_bits (ev_var rfl)) ev_c rv_I0) (congrArg V.int (by rw [e]; exact wl_cast h1))) fun H1 e1 => q H1 e1
abbrev s_pressed_length : Stmt := top 5
abbrev N_pressed_length : List Str := ["size", "count", "numbers", "total", "done", "bits", "upto"]
theorem sc_pressed_length : FnScope N_pressed_length ["size", "count"] (defScope s_pressed_length) := ⟨rfl, rfl, rfl, by decide +kernel, rfl, by decide +kernel, by decide +kernel⟩
def spPL : Sp := fun vs H Q _ => ∃ s c : Nat, vs = [.int (s : Int), .int (c : Int)] ∧ 1 ≤ s ∧ s ≤ 6 ∧ c ≤ Big ∧ RetV (.int ((plF s c : Nat) : Int)) H Q
theorem sv_pl {s c : Nat} {H : Hp} (h1 : 1 ≤ s) (h6 : s ≤ 6) (hc : c ≤ Big) : SpV spPL [.int (s : Int), .int (c : Int)] H (.int ((plF s c : Nat) : Int)) := fun _ _ _ q _ => ⟨s, c, rfl, h1, h6, hc, q⟩
theorem ok_pressed_length (D_width : Dn P w K mg base 1 "width" s_width ["options"] spWidth) (T : TT mg) (F : At K mg "pressed_length" s_pressed_length) : Dn P w K mg base 2 "pressed_length" s_pressed_length ["size", "count"] spPL := by
  refine dn_ok F sc_pressed_length (fun _ _ _ _ _ _ us hl => match us, hl with | [_, _], _ => rfl) (fun vs H Q E h => ?_) (fun f cdv A outer t H vs Q E hr h => ?_)
  · obtain ⟨s, c, rfl, _⟩ := h; rfl
  · obtain ⟨s, c, rfl, h1, h6, hc, q⟩ := h
    refine ⟨_, (pss_cons (ps_set (i := 2) sc_pressed_length.nd rfl (Or.inl rfl) (pe_op op_add (pv 1) pe_int))
      (pss_cons (ps_set (i := 3) sc_pressed_length.nd rfl (Or.inl rfl) (pe_dn D_width hr (by decide) rfl (pa_cons (pe_op op_add (pv 1) pe_int) pa_nil)))
      (pss_cons (ps_if (pt_cmpR op_eq (pv 0) pe_int (nomark _)) (pss_one (ps_ret (pe_op op_add (pv 3) (pv 2)))) pss_nil)
      (pss_cons (ps_set (i := 4) sc_pressed_length.nd rfl (Or.inl rfl) pe_int)
      (pss_cons (ps_set (i := 5) sc_pressed_length.nd rfl (Or.inl rfl) pe_int)
      (pss_cons (ps_while PassesOwn.never (pt_cmpR op_lt (pv 4) (pv 2) (nomark _))
        (pss_cons (ps_set (i := 6) sc_pressed_length.nd rfl (Or.inl rfl) (pe_callB (call_min2 rfl) (by rfl) T.min (by decide +kernel) (pa_cons (pv 2) (pa_cons (pe_op op_fdiv (pe_op op_sub (pe_op op_shl pe_int (pv 5)) pe_int) (pe_op op_sub (pv 0) pe_int)) pa_nil))))
          (pss_cons (ps_aug (i := 3) sc_pressed_length.nd rfl (Or.inl rfl) (pe_op op_mul (pe_op op_sub (pv 6) (pv 4)) (pv 5)) (pip_of iop_add))
          (pss_cons (ps_set (i := 4) sc_pressed_length.nd rfl (Or.inl rfl) (pv 6))
          (pss_one (ps_aug (i := 5) sc_pressed_length.nd rfl (Or.inl rfl) pe_int (pip_of iop_add)))))))
      (pss_one (ps_ret (pv 3))))))))), ?_⟩
    have ec : (c : Int) + 1 = ((c + 1 : Nat) : Int) := by omega
    refine q_asg (v := .int ((c + 1 : Nat) : Int)) (ev_is (ev_op (ev_var rfl) ev_c rv_I0) (congrArg V.int ec)) fun H1 e1 => ?_
    refine q_asg (v := .int ((cl (c + 1) : Nat) : Int)) (ev_call (ea_cons (ev_is (ev_op (ev_var rfl) ev_c rv_I0) (congrArg V.int ec)) ea_nil) sv_width) fun H2 e2 => ?_
    have e12 := e1.trans e2
    refine q_when (et_test (ev_op (ev_var rfl) ev_c (rv_eq rfl))) (fun hb H3 e3 => ?_) (fun hb H3 e3 => ?_)
    · have hs : s = 1 := by
        have := of_decide_eq_true hb
        injection this
        omega
      subst hs
      refine s_ret (v := .int ((plF 1 c : Nat) : Int)) (ev_is (ev_op (ev_var rfl) (ev_var rfl) rv_I0) (congrArg V.int ?_)) fun H4 e4 => q H4 ((e12.trans e3).trans e4)
      unfold plF
      rw [rsum_one]
      omega
    · have hs : 2 ≤ s := by
        have := of_decide_eq_false hb
        by_cases z : s = 1
        · subst z; exact absurd rfl this
        · omega
      refine q_asg (v := .int ((0 : Nat) : Int)) (ev_is ev_c rfl) fun H4 e4 => ?_
      refine q_asg (v := .int ((1 : Nat) : Int)) (ev_is ev_c rfl) fun H5 e5 => ?_
      refine q_while (fun m σ H' => ∃ (d b : Nat) (v : Option V), m = 300 - b ∧ 1 ≤ b ∧ d = min (c + 1) (capR s (b - 1)) ∧ σ = [some (.int (s : Int)), some (.int (c : Int)), some (.int ((c + 1 : Nat) : Int)), some (.int ((cl (c + 1) + rsum s d : Nat) : Int)), some (.int (d : Int)), some (.int (b : Int)), v] ∧ Ex H H')
        299 ⟨0, 1, none, rfl, Nat.le_refl _, by unfold capR; rw [Nat.sub_self, show (2 : Nat) ^ 0 - 2 = 0 from rfl, Nat.zero_div, Nat.min_zero], rfl, ((e12.trans e3).trans e4).trans e5⟩ ?_
      rintro m σ' H' ⟨d, b, v, rfl, hb1, hd, rfl, e⟩
      refine ⟨_, et_test (ev_op (ev_var rfl) (ev_var rfl) rv_I0), fun hb H6 e6 => ?_, fun hb H6 e6 => ?_⟩
      · have hdN : d < c + 1 := by have := of_decide_eq_true hb; omega
        have hcap : d = capR s (b - 1) := by omega
        have hbb := big_rows hs h6 (N := c + 1) (b := b - 1) (by omega) (by omega)
        have hmin : (if ((capR s b : Nat) : Int) < ((c + 1 : Nat) : Int) then ((capR s b : Nat) : Int) else ((c + 1 : Nat) : Int)) = ((min (c + 1) (capR s b) : Nat) : Int) := min2_nat (c + 1) (capR s b)
        have hmono : capR s (b - 1) ≤ capR s b := Nat.div_le_div_right (Nat.sub_le_sub_right (Nat.pow_le_pow_right (by decide) (Nat.sub_le _ _)) 2)
        have hfl := rsum_flat (s := s) (b := b) (min (c + 1) (capR s b) - d) d fun i hi1 hi2 => by
          have r1 := row_cap (s := s) (i := i) (b := b) hs
          have r2 := row_cap (s := s) (i := i) (b := b - 1) hs
          omega
        have hdu : d + (min (c + 1) (capR s b) - d) = min (c + 1) (capR s b) := by omega
        rw [hdu] at hfl
        refine ⟨fun σ2 H2 => ∃ (d b' : Nat) (v : Option V), b' = b + 1 ∧ d = min (c + 1) (capR s (b' - 1)) ∧ σ2 = [some (.int (s : Int)), some (.int (c : Int)), some (.int ((c + 1 : Nat) : Int)), some (.int ((cl (c + 1) + rsum s d : Nat) : Int)), some (.int (d : Int)), some (.int (b' : Int)), v] ∧ Ex H H2, ?_, ?_⟩
        · rintro σ2 H2 ⟨d2, b2, v2, rfl, hd2, rfl, e9⟩
          exact ⟨300 - (b + 1), by omega, d2, b + 1, v2, rfl, by omega, hd2, rfl, e9⟩
        · refine q_asg (v := .int ((min (c + 1) (capR s b) : Nat) : Int)) (ev_is (ev_min2 (ev_var rfl) (ev_is (ev_op (ev_op (ev_op ev_c (ev_var rfl) (rv_I (show CPow 1 (b : Int) by unfold CPow; exact ⟨by omega, by omega, by decide⟩))) ev_c rv_I0) (ev_op (ev_var rfl) ev_c rv_I0) (rv_I (show CDiv _ _ by unfold CDiv; omega))) (congrArg V.int (capR_cast hs hb1)))) (congrArg V.int hmin)) fun H7 e7 => ?_
          refine q_augR rfl (ev_op (ev_op (ev_var rfl) (ev_var rfl) rv_I0) (ev_var rfl) (rv_I (Or.inr (by omega)))) rv_I0 fun H8 e8 => ?_
          refine q_asg (ev_var rfl) fun H9 e9 => ?_
          refine s_augR rfl ev_c rv_I0 fun H10 e10 => ⟨min (c + 1) (capR s b), b + 1, some (.int ((min (c + 1) (capR s b) : Nat) : Int)), rfl, rfl, ?_, (((((e.trans e6).trans e7).trans e8).trans e9).trans e10)⟩
          have f1 : ((cl (c + 1) + rsum s d : Nat) : Int) + (((min (c + 1) (capR s b) : Nat) : Int) - (d : Int)) * (b : Int) = ((cl (c + 1) + rsum s (min (c + 1) (capR s b)) : Nat) : Int) := by
            have : ((min (c + 1) (capR s b) : Nat) : Int) - (d : Int) = ((min (c + 1) (capR s b) - d : Nat) : Int) := by omega
            rw [this, hfl, ← Int.natCast_mul]
            omega
          rw [← f1]
          rfl
      · have hdN : d = c + 1 := by have := of_decide_eq_false hb; omega
        refine s_ret (ev_var rfl) fun H7 e7 => ?_
        rw [hdN]
        exact q H7 ((e.trans e6).trans e7)
end
end My

set_option Elab.async false
set_option linter.all false
set_option maxRecDepth 100000
set_option maxHeartbeats 4000000
namespace My
open PySem PySem.Spec PyProof.Rows L2 Evl
theorem t_w {t : Nat} (h : t ≤ 10000) : ((t : Nat) : Int).natAbs < 2 ^ 1000 := by
  have : (10000 : Nat) < 2 ^ 1000 := by decide +kernel
  rw [Int.natAbs_natCast]
  omega
theorem t_w1 {t : Nat} (h : t ≤ 10000) : ((t : Int) - 1).natAbs < 2 ^ 1000 := by
  have : (10001 : Nat) < 2 ^ 1000 := by decide +kernel
  omega
theorem cl_s {s : Nat} (h1 : 1 ≤ s) (h6 : s ≤ 6) : cl s ≤ 3 := cl_le h1 (by have : (2 : Nat) ^ 3 = 8 := rfl; omega)
theorem cl_t {t : Nat} (h1 : 1 ≤ t) (h : t ≤ 10000) : cl t ≤ 14 := cl_le h1 (by have : (2 : Nat) ^ 14 = 16384 := rfl; omega)
theorem each_cast (s t : Nat) : ((cl s : Nat) : Int) + 1 + 2 * ((cl t : Nat) : Int) = ((eachF s t : Nat) : Int) := by
  unfold eachF
  omega
theorem told_cast (s t c : Nat) : (c : Int) * ((eachF s t : Nat) : Int) + ((cl s : Nat) : Int) + 2 + 2 * ((cl (c + 2) - 1 : Nat) : Int) = ((toldF s t c : Nat) : Int) := by
  unfold toldF
  rw [← Int.natCast_mul]
  omega
theorem Big_top {n : Nat} (h : n ≤ Big + 3) : ((n : Nat) : Int) ≤ top2 := by
  have h1 : Big + 3 ≤ 2 ^ 399 := by unfold Big; decide +kernel
  have h2 : top2 = ((2 ^ 399 : Nat) : Int) := by unfold top2; rw [p2]
  rw [h2]
  exact Int.ofNat_le.mpr (Nat.le_trans h h1)
theorem cap_Big : cap ≤ Big := by unfold cap Big; decide +kernel
theorem colS_step (f : Nat → Nat) (n k : Nat) : colS f n (k + 1) = colS f n k + (n - f k) := rfl
section
variable {P : Program} {w : World} {K : PySem.W.Frag} {mg : Str → Option Value} {base : Heap}
abbrev s_excess : Stmt := top 12
abbrev N_excess : List Str := ["size", "standings", "count"]
theorem sc_excess : FnScope N_excess ["size", "standings", "count"] (defScope s_excess) := ⟨rfl, rfl, rfl, by decide +kernel, rfl, by decide +kernel, by decide +kernel⟩
def spEx : Sp := fun vs H Q _ => ∃ s t c : Nat, vs = [.int (s : Int), .int (t : Int), .int (c : Int)] ∧ (1 ≤ s ∧ s ≤ 6) ∧ (1 ≤ t ∧ t ≤ 10000) ∧ c ≤ Big ∧ RetV (.int (gapF s t c)) H Q
theorem sv_ex {s t c : Nat} {H : Hp} (hs : 1 ≤ s ∧ s ≤ 6) (ht : 1 ≤ t ∧ t ≤ 10000) (hc : c ≤ Big) : SpV spEx [.int (s : Int), .int (t : Int), .int (c : Int)] H (.int (gapF s t c)) := fun _ _ _ q _ => ⟨s, t, c, rfl, hs, ht, hc, q⟩
theorem ok_excess (D_pressed_length : Dn P w K mg base 2 "pressed_length" s_pressed_length ["size", "count"] spPL) (D_floor_bits : Dn P w K mg base 2 "floor_bits" s_floor_bits ["standings", "count"] spTot) (F : At K mg "excess" s_excess) : Dn P w K mg base 3 "excess" s_excess ["size", "standings", "count"] spEx := by
  refine dn_ok F sc_excess (fun _ _ _ _ _ _ us hl => match us, hl with | [_, _, _], _ => rfl) (fun vs H Q E h => ?_) (fun f cdv A outer t H vs Q E hr h => ?_)
  · obtain ⟨s, t, c, rfl, _⟩ := h; rfl
  · obtain ⟨s, t, c, rfl, hs, ht, hc, q⟩ := h
    refine ⟨_, (pss_one (ps_ret (pe_op op_sub (pe_dn D_pressed_length hr (by decide) rfl (pa_cons (pv 0) (pa_cons (pv 2) pa_nil))) (pe_dn D_floor_bits hr (by decide) rfl (pa_cons (pv 1) (pa_cons (pv 2) pa_nil)))))), ?_⟩
    exact s_ret (v := .int (gapF s t c)) (ev_is (ev_op (ev_call (ea_cons (ev_var rfl) (ea_cons (ev_var rfl) ea_nil)) (sv_pl hs.1 hs.2 hc)) (ev_call (ea_cons (ev_var rfl) (ea_cons (ev_var rfl) ea_nil)) (sv_tot ht.1 ht.2 hc)) rv_I0) rfl) fun H1 e1 => q H1 e1
theorem kd_ex (D : Dn P w K mg base 3 "excess" s_excess ["size", "standings", "count"] spEx) : Kd P w K mg base 3 "excess" 0 ["count", "standings", "size"] (fun _ zs => zs.reverse) spEx :=
  kd_of D 0 ["count", "standings", "size"] (fun _ ws => ws.reverse) (fun _ zs => zs.reverse) (fun _ _ _ _ _ _ us ws h1 h2 => match us, ws, h1, h2 with | [], [_, _, _], _, _ => rfl) (fun _ r => vals_rev r)
abbrev s_told_excess : Stmt := top 13
abbrev N_told_excess : List Str := ["size", "standings", "count", "each"]
theorem sc_told_excess : FnScope N_told_excess ["size", "standings", "count"] (defScope s_told_excess) := ⟨rfl, rfl, rfl, by decide +kernel, rfl, by decide +kernel, by decide +kernel⟩
def spTE : Sp := fun vs H Q _ => ∃ s t c : Nat, vs = [.int (s : Int), .int (t : Int), .int (c : Int)] ∧ (1 ≤ s ∧ s ≤ 6) ∧ (1 ≤ t ∧ t ≤ 10000) ∧ c ≤ Big ∧ RetV (.int ((toldF s t c : Nat) : Int)) H Q
theorem sv_te {s t c : Nat} {H : Hp} (hs : 1 ≤ s ∧ s ≤ 6) (ht : 1 ≤ t ∧ t ≤ 10000) (hc : c ≤ Big) : SpV spTE [.int (s : Int), .int (t : Int), .int (c : Int)] H (.int ((toldF s t c : Nat) : Int)) := fun _ _ _ q _ => ⟨s, t, c, rfl, hs, ht, hc, q⟩
theorem ok_told_excess (D_width : Dn P w K mg base 1 "width" s_width ["options"] spWidth) (D_whole_log : Dn P w K mg base 1 "whole_log" s_whole_log ["number"] spWL) (F : At K mg "told_excess" s_told_excess) : Dn P w K mg base 2 "told_excess" s_told_excess ["size", "standings", "count"] spTE := by
  refine dn_ok F sc_told_excess (fun _ _ _ _ _ _ us hl => match us, hl with | [_, _, _], _ => rfl) (fun vs H Q E h => ?_) (fun f cdv A outer t H vs Q E hr h => ?_)
  · obtain ⟨s, t, c, rfl, _⟩ := h; rfl
  · obtain ⟨s, t, c, rfl, hs, ht, hc, q⟩ := h
    refine ⟨_, (pss_cons (ps_set (i := 3) sc_told_excess.nd rfl (Or.inl rfl) (pe_op op_add (pe_op op_add (pe_dn D_width hr (by decide) rfl (pa_cons (pv 0) pa_nil)) pe_int) (pe_op op_mul pe_int (pe_dn D_width hr (by decide) rfl (pa_cons (pv 1) pa_nil)))))
      (pss_one (ps_ret (pe_op op_add (pe_op op_add (pe_op op_add (pe_op op_mul (pv 2) (pv 3)) (pe_dn D_width hr (by decide) rfl (pa_cons (pv 0) pa_nil))) pe_int) (pe_op op_mul pe_int (pe_dn D_whole_log hr (by decide) rfl (pa_cons (pe_op op_add (pv 2) pe_int) pa_nil))))))), ?_⟩
    have h3 := cl_s hs.1 hs.2
    have h14 := cl_t ht.1 ht.2
    have he : eachF s t ≤ 40 := by unfold eachF; omega
    have ec : (c : Int) + 1 = ((c + 1 : Nat) : Int) := by omega
    refine q_asg (v := .int ((eachF s t : Nat) : Int)) (ev_is (ev_op (ev_op (ev_call (ea_cons (ev_var rfl) ea_nil) sv_width) ev_c rv_I0) (ev_op ev_c (ev_call (ea_cons (ev_var rfl) ea_nil) sv_width) (rv_I (Or.inl (by decide)))) rv_I0) (congrArg V.int (each_cast s t))) fun H1 e1 => ?_
    refine s_ret (v := .int ((toldF s t c : Nat) : Int)) (ev_is (ev_op (ev_op (ev_op (ev_op (ev_var rfl) (ev_var rfl) (rv_I (Or.inr (by omega)))) (ev_call (ea_cons (ev_var rfl) ea_nil) sv_width) rv_I0) ev_c rv_I0) (ev_op ev_c (ev_call (ea_cons (ev_is (ev_op (ev_var rfl) ev_c rv_I0) (congrArg V.int ec)) ea_nil) (sv_wl (by omega))) (rv_I (Or.inl (by decide)))) rv_I0) (congrArg V.int (told_cast s t c))) fun H2 e2 => q H2 (e1.trans e2)
abbrev s_worst_excess : Stmt := top 14
abbrev N_worst_excess : List Str := ["size", "standings", "length"]
theorem sc_worst_excess : FnScope N_worst_excess ["size", "standings", "length"] (defScope s_worst_excess) := ⟨rfl, rfl, rfl, by decide +kernel, rfl, by decide +kernel, by decide +kernel⟩
def spWE : Sp := fun vs H Q _ => ∃ s t L : Nat, vs = [.int (s : Int), .int (t : Int), .int (L : Int)] ∧ (1 ≤ s ∧ s ≤ 6) ∧ (1 ≤ t ∧ t ≤ 10000) ∧ L ≤ cap ∧ RetV (.int (gapF s t (grF s L))) H Q
theorem sv_we {s t L : Nat} {H : Hp} (hs : 1 ≤ s ∧ s ≤ 6) (ht : 1 ≤ t ∧ t ≤ 10000) (hc : L ≤ cap) : SpV spWE [.int (s : Int), .int (t : Int), .int (L : Int)] H (.int (gapF s t (grF s L))) := fun _ _ _ q _ => ⟨s, t, L, rfl, hs, ht, hc, q⟩
theorem gr_Big {s L : Nat} (hs : 1 ≤ s) (h : L ≤ cap) : grF s L ≤ Big := Nat.le_trans (grF_le hs) (Nat.le_trans h cap_Big)
theorem ok_worst_excess (D_excess : Dn P w K mg base 3 "excess" s_excess ["size", "standings", "count"] spEx) (D_greatest_count : Dn P w K mg base 1 "greatest_count" s_greatest_count ["size", "length"] spGC) (F : At K mg "worst_excess" s_worst_excess) : Dn P w K mg base 4 "worst_excess" s_worst_excess ["size", "standings", "length"] spWE := by
  refine dn_ok F sc_worst_excess (fun _ _ _ _ _ _ us hl => match us, hl with | [_, _, _], _ => rfl) (fun vs H Q E h => ?_) (fun f cdv A outer t H vs Q E hr h => ?_)
  · obtain ⟨s, t, L, rfl, _⟩ := h; rfl
  · obtain ⟨s, t, L, rfl, hs, ht, hL, q⟩ := h
    refine ⟨_, (pss_one (ps_ret (pe_dn D_excess hr (by decide) rfl (pa_cons (pv 0) (pa_cons (pv 1) (pa_cons (pe_dn D_greatest_count hr (by decide) rfl (pa_cons (pv 0) (pa_cons (pv 2) pa_nil))) pa_nil)))))), ?_⟩
    exact s_ret (ev_call (ea_cons (ev_var rfl) (ea_cons (ev_var rfl) (ea_cons (ev_call (ea_cons (ev_var rfl) (ea_cons (ev_var rfl) ea_nil)) (sv_gc hs.1 hs.2 hL)) ea_nil))) (sv_ex hs ht (gr_Big hs.1 hL))) fun H1 e1 => q H1 e1
abbrev s_law_log : Stmt := top 20
abbrev N_law_log : List Str := ["n"]
theorem sc_law_log : FnScope N_law_log ["n"] (defScope s_law_log) := ⟨rfl, rfl, rfl, by decide +kernel, rfl, by decide +kernel, by decide +kernel⟩
theorem sv_lw' {n : Nat} {H : Hp} (h1 : 1 ≤ n) (h : n ≤ Big + 3) : SpV spLW [.int (n : Int)] H (.int ((cl n : Nat) : Int)) := sv_lw (by omega) (Big_top h)
def spLLg : Sp := fun vs H Q _ => ∃ n : Nat, vs = [.int (n : Int)] ∧ 1 ≤ n ∧ n ≤ Big + 2 ∧ RetV (.int ((cl (n + 1) - 1 : Nat) : Int)) H Q
theorem sv_ll {n : Nat} {H : Hp} (h : 1 ≤ n) (h2 : n ≤ Big + 2) : SpV spLLg [.int (n : Int)] H (.int ((cl (n + 1) - 1 : Nat) : Int)) := fun _ _ _ q _ => ⟨n, rfl, h, h2, q⟩
theorem ok_law_log (D_law_width : Dn P w K mg base 1 "_law_width" s_law_width ["options"] spLW) (F : At K mg "_law_log" s_law_log) : Dn P w K mg base 2 "_law_log" s_law_log ["n"] spLLg := by
  refine dn_ok F sc_law_log (fun _ _ _ _ _ _ us hl => match us, hl with | [_], _ => rfl) (fun vs H Q E h => ?_) (fun f cdv A outer t H vs Q E hr h => ?_)
  · obtain ⟨n, rfl, _⟩ := h; rfl
  · obtain ⟨n, rfl, h1, h2, q⟩ := h
    refine ⟨_, (pss_one (ps_ret (pe_op op_sub (pe_dn D_law_width hr (by decide) rfl (pa_cons (pe_op op_add (pv 0) pe_int) pa_nil)) pe_int))), ?_⟩
    exact s_ret (ev_is (ev_op (ev_call (ea_cons (ev_is (ev_op (ev_var rfl) ev_c rv_I0) (congrArg V.int (show (n : Int) + 1 = ((n + 1 : Nat) : Int) by omega))) ea_nil) (sv_lw' (by omega) (by omega))) ev_c rv_I0) (congrArg V.int (wl_cast h1))) fun H1 e1 => q H1 e1
abbrev s_law_filled : Stmt := top 22
abbrev N_law_filled : List Str := ["states", "many", "total", "left", "here", "wide"]
theorem sc_law_filled : FnScope N_law_filled ["states", "many"] (defScope s_law_filled) := ⟨rfl, rfl, rfl, by decide +kernel, rfl, by decide +kernel, by decide +kernel⟩
def spFd : Sp := fun vs H Q _ => ∃ t c : Nat, vs = [.int (t : Int), .int (c : Int)] ∧ (1 ≤ t ∧ t ≤ 10000) ∧ c ≤ Big ∧ RetV (.int ((flT t c : Nat) : Int)) H Q
theorem sv_fd {t c : Nat} {H : Hp} (ht : 1 ≤ t ∧ t ≤ 10000) (hc : c ≤ Big) : SpV spFd [.int (t : Int), .int (c : Int)] H (.int ((flT t c : Nat) : Int)) := fun _ _ _ q _ => ⟨t, c, rfl, ht, hc, q⟩
theorem ok_law_filled (T : TT mg) (F : At K mg "_law_filled" s_law_filled) : Dn P w K mg base 1 "_law_filled" s_law_filled ["states", "many"] spFd := by
  refine dn_ok F sc_law_filled (fun _ _ _ _ _ _ us hl => match us, hl with | [_, _], _ => rfl) (fun vs H Q E h => ?_) (fun f cdv A outer t' H vs Q E hr h => ?_)
  · obtain ⟨t, c, rfl, _⟩ := h; rfl
  · obtain ⟨t, c, rfl, ht, hc, q⟩ := h
    refine ⟨_, (pss_cons (ps_set (i := 2) sc_law_filled.nd rfl (Or.inl rfl) pe_int)
      (pss_cons (ps_set (i := 3) sc_law_filled.nd rfl (Or.inl rfl) (pe_op op_sub (pv 1) (pe_op op_fdiv (pe_op op_mulW (pv 0) (pe_op op_sub (pv 0) pe_int)) pe_int)))
      (pss_cons (ps_set (i := 4) sc_law_filled.nd rfl (Or.inl rfl) (pe_op op_mulW (pv 0) (pv 0)))
      (pss_cons (ps_for PassesOwn.never rfl (pi_range2 (by rfl) T.range (pa_cons pe_int (pa_cons pe_int pa_nil))) (pg_name (i := 5) sc_law_filled.nd rfl (Or.inl rfl))
        (pss_cons (ps_if (pt_cmpR op_le (pv 3) pe_int (nomark _)) (pss_one ps_break) pss_nil)
          (pss_cons (ps_set (i := 4) sc_law_filled.nd rfl (Or.inl rfl) (pe_op op_mul (pv 4) pe_int))
          (pss_cons (ps_set (i := 2) sc_law_filled.nd rfl (Or.inl rfl) (pe_op op_add (pv 2) (pe_op op_mul (pv 5) (pe_callB (call_min2 rfl) (by rfl) T.min (by decide +kernel) (pa_cons (pv 3) (pa_cons (pv 4) pa_nil))))))
          (pss_one (ps_set (i := 3) sc_law_filled.nd rfl (Or.inl rfl) (pe_op op_sub (pv 3) (pv 4))))))))
      (pss_one (ps_ret (pv 2))))))), ?_⟩
    have hs := sT_pos ht.1
    have q' : ∀ H', Ex H H' → Q (.int ((totE (eT t) (sT t) c : Nat) : Int)) H' := q
    generalize hee : eT t = e at q'
    generalize hss : sT t = s at q' hs
    refine q_asg (v := .int ((0 : Nat) : Int)) (ev_is ev_c rfl) fun H1 e1 => ?_
    refine q_asg (v := .int ((c : Int) - ((Cm e s 1 : Nat) : Int))) (ev_is (ev_op (ev_var rfl) (ev_op (ev_op (ev_var rfl) (ev_op (ev_var rfl) ev_c rv_I0) (rv_I (wmul (t_w ht.2) (t_w1 ht.2)))) ev_c (rv_I (by unfold CDiv; decide))) rv_I0) (congrArg V.int (by
      rw [eT_cast ht.1, hee]
      show _ = (c : Int) - ((0 + e : Nat) : Int)
      rw [Nat.zero_add]))) fun H2 e2 => ?_
    refine q_asg (v := .int ((s * 2 ^ 0 : Nat) : Int)) (ev_is (ev_op (ev_var rfl) (ev_var rfl) (rv_I (wmul (t_w ht.2) (t_w ht.2)))) (congrArg V.int (by
      rw [sT_cast, hss, Nat.pow_zero, Nat.mul_one]))) fun H3 e3 => ?_
    have e13 := (e1.trans e2).trans e3
    refine q_forR2 (ea_cons ev_c (ea_cons ev_c ea_nil)) ⟨by decide, by decide, by decide, by decide⟩ (fun b σ' H' => ∃ (tt : Nat) (x : Option V), σ' = [some (.int (t : Int)), some (.int (c : Int)), some (.int (tt : Int)), some (.int ((c : Int) - ((Cm e s (b + 1) : Nat) : Int))), some (.int ((s * 2 ^ b : Nat) : Int)), x] ∧ Ex H H' ∧ tt + (b + 1) * (c - Cm e s (b + 1)) = Tm e s c (b + 1))
      (fun H4 e4 => ⟨0, none, rfl, e13.trans e4, by show 0 + (0 + 1) * (c - Cm e s (0 + 1)) = 0 + (c - Cm e s (0 + 1)); omega⟩) ?_ ?_
    · rintro b σ' H' hb ⟨tt, x, rfl, ex, hinv⟩
      show tSeq _ _ _ [some (V.int (t : Int)), some (V.int (c : Int)), some (V.int (tt : Int)), some (V.int ((c : Int) - ((Cm e s (b + 1) : Nat) : Int))), some (V.int ((s * 2 ^ b : Nat) : Int)), some (V.int ((1 : Int) + (b : Int)))] H'
      have fin : ∀ (tt : Nat), c ≤ Cm e s (b + 1) → tt + (b + 1) * (c - Cm e s (b + 1)) = Tm e s c (b + 1) → tt = totE e s c := fun tt hge hinv => by
        rw [← tot_is hs hge, ← hinv, Nat.sub_eq_zero_of_le hge]
        omega
      refine q_when (et_test (ev_op (ev_var rfl) ev_c rv_I0)) (fun hb2 H4 e4 => ?_) (fun hb2 H4 e4 => ?_)
      · have hge : c ≤ Cm e s (b + 1) := by have := of_decide_eq_true hb2; omega
        have ht' := fin tt hge hinv
        subst ht'
        show tRet (tVar 2) { nx := fun _ H' => Q .non H', rt := Q } _ _
        exact s_ret (ev_var rfl) fun H5 e5 => q' H5 ((ex.trans e4).trans e5)
      · have hlt : Cm e s (b + 1) < c := by have := of_decide_eq_false hb2; omega
        have hturn := tot_turn hinv
        have hC : Cm e s (b + 1 + 1) = Cm e s (b + 1) + Rm e s (b + 1) := rfl
        have hR : Rm e s (b + 1) = s * 2 ^ (b + 1) := rfl
        refine q_asg (v := .int ((Rm e s (b + 1) : Nat) : Int)) (ev_is (ev_op (ev_var rfl) ev_c (rv_I (Or.inr (by decide)))) (congrArg V.int (by
          rw [hR, Nat.pow_succ, ← Nat.mul_assoc, Int.natCast_mul _ 2]
          rfl))) fun H5 e5 => ?_
        have hmin : (if ((Rm e s (b + 1) : Nat) : Int) < (c : Int) - ((Cm e s (b + 1) : Nat) : Int) then ((Rm e s (b + 1) : Nat) : Int) else (c : Int) - ((Cm e s (b + 1) : Nat) : Int)) = ((min (c - Cm e s (b + 1)) (Rm e s (b + 1)) : Nat) : Int) := by split <;> omega
        refine q_asg (v := .int ((tt + (b + 1) * min (c - Cm e s (b + 1)) (Rm e s (b + 1)) : Nat) : Int)) (ev_is (ev_op (ev_var rfl) (ev_op (ev_var rfl) (ev_is (ev_min2 (ev_var rfl) (ev_var rfl)) (congrArg V.int hmin)) (rv_I (Or.inl (by omega)))) rv_I0) (congrArg V.int (by
          rw [Int.natCast_add tt, Int.natCast_mul, show (1 : Int) + (b : Int) = ((b + 1 : Nat) : Int) by omega]))) fun H6 e6 => ?_
        refine s_asg (v := .int ((c : Int) - ((Cm e s (b + 1 + 1) : Nat) : Int))) (ev_is (ev_op (ev_var rfl) (ev_var rfl) rv_I0) (congrArg V.int (by rw [hC]; omega))) fun H7 e7 => ⟨tt + (b + 1) * min (c - Cm e s (b + 1)) (Rm e s (b + 1)), some (.int ((1 : Int) + (b : Int))), rfl, ((((ex.trans e4).trans e5).trans e6).trans e7), hturn⟩
    · rintro σ' H' ⟨tt, x, rfl, ex, hinv⟩
      have h9 : ((600 : Int) - 1).toNat = 599 := by decide
      rw [h9] at hinv ⊢
      have hge : c ≤ Cm e s (599 + 1) := by
        by_cases z : c ≤ Cm e s (599 + 1)
        · exact z
        · have := big_steps (e := e) (c := c) (k := 599 + 1) hs hc (by omega)
          omega
      have ht' : tt = totE e s c := by
        rw [← tot_is hs hge, ← hinv, Nat.sub_eq_zero_of_le hge]
        omega
      subst ht'
      exact s_ret (ev_var rfl) fun H5 e5 => q' H5 (ex.trans e5)
end
end My

set_option Elab.async false
set_option linter.all false
set_option maxRecDepth 100000
set_option maxHeartbeats 4000000
namespace My
open PySem PySem.Spec PyProof.Rows L2 Evl
def tri (n : Nat) : Nat := n * (n + 1) / 2
theorem tri_tot (n : Nat) : totF 1 n = tri n := totF_is (by decide) (tot_one n)
def pw (i : Nat) : Nat := if i ≤ 60 then 2 ^ (60 - i) else 0
def ub (i : Nat) : Nat := 2 ^ (61 - i)
theorem pw_half {i : Nat} (h : i < 61) : pw i / 2 = pw (i + 1) := by
  unfold pw
  rw [if_pos (by omega)]
  by_cases c : i + 1 ≤ 60
  · rw [if_pos c, show 60 - i = (60 - (i + 1)) + 1 by omega, Nat.pow_succ, Nat.mul_div_cancel _ (by decide)]
  · rw [if_neg c, show 60 - i = 0 by omega]
theorem ub_pw {i : Nat} (h : i < 61) : ub i = pw i + pw i ∧ ub (i + 1) = pw i := by
  unfold ub pw
  rw [if_pos (by omega)]
  refine ⟨?_, by congr 1; omega⟩
  rw [show 61 - i = (60 - i) + 1 by omega, Nat.pow_succ]
  omega
section
variable {P : Program} {w : World} {K : PySem.W.Frag} {mg : Str → Option Value} {base : Heap}
abbrev s_law_told : Stmt := top 23
abbrev N_law_told : List Str := ["letters", "states", "many", "letter", "state"]
theorem sc_law_told : FnScope N_law_told ["letters", "states", "many"] (defScope s_law_told) := ⟨rfl, rfl, rfl, by decide +kernel, rfl, by decide +kernel, by decide +kernel⟩
theorem ok_law_told (D_law_width : Dn P w K mg base 1 "_law_width" s_law_width ["options"] spLW) (D_law_log : Dn P w K mg base 2 "_law_log" s_law_log ["n"] spLLg) (F : At K mg "_law_told" s_law_told) : Dn P w K mg base 3 "_law_told" s_law_told ["letters", "states", "many"] spTE := by
  refine dn_ok F sc_law_told (fun _ _ _ _ _ _ us hl => match us, hl with | [_, _, _], _ => rfl) (fun vs H Q E h => ?_) (fun f cdv A outer t H vs Q E hr h => ?_)
  · obtain ⟨s, t, c, rfl, _⟩ := h; rfl
  · obtain ⟨s, t, c, rfl, hs, ht, hc, q⟩ := h
    refine ⟨_, (pss_cons (ps_set (i := 3) sc_law_told.nd rfl (Or.inl rfl) (pe_dn D_law_width hr (by decide) rfl (pa_cons (pv 0) pa_nil)))
      (pss_cons (ps_set (i := 4) sc_law_told.nd rfl (Or.inl rfl) (pe_dn D_law_width hr (by decide) rfl (pa_cons (pv 1) pa_nil)))
      (pss_one (ps_ret (pe_op op_add (pe_op op_add (pe_op op_add (pe_op op_mul (pv 2) (pe_op op_add (pe_op op_add (pv 3) pe_int) (pe_op op_mul pe_int (pv 4)))) (pv 3)) pe_int) (pe_op op_mul pe_int (pe_dn D_law_log hr (by decide) rfl (pa_cons (pe_op op_add (pv 2) pe_int) pa_nil)))))))), ?_⟩
    have h3 := cl_s hs.1 hs.2
    have h14 := cl_t ht.1 ht.2
    have he : eachF s t ≤ 40 := by unfold eachF; omega
    have hBg : 100000 ≤ Big := by unfold Big; decide +kernel
    have ec : (c : Int) + 1 = ((c + 1 : Nat) : Int) := by omega
    refine q_asg (ev_call (ea_cons (ev_var rfl) ea_nil) (sv_lw' hs.1 (by omega))) fun H1 e1 => ?_
    refine q_asg (ev_call (ea_cons (ev_var rfl) ea_nil) (sv_lw' ht.1 (by omega))) fun H2 e2 => ?_
    refine s_ret (v := .int ((toldF s t c : Nat) : Int)) (ev_is (ev_op (ev_op (ev_op (ev_op (ev_var rfl) (ev_is (ev_op (ev_op (ev_var rfl) ev_c rv_I0) (ev_op ev_c (ev_var rfl) (rv_I (Or.inl (by decide)))) rv_I0) (congrArg V.int (each_cast s t))) (rv_I (Or.inr (by omega)))) (ev_var rfl) rv_I0) ev_c rv_I0) (ev_op ev_c (ev_call (ea_cons (ev_is (ev_op (ev_var rfl) ev_c rv_I0) (congrArg V.int ec)) ea_nil) (sv_ll (by omega) (by omega))) (rv_I (Or.inl (by decide)))) rv_I0) (congrArg V.int (told_cast s t c))) fun H3 e3 => q H3 ((e1.trans e2).trans e3)
abbrev s_law_long_block : Stmt := top 24
abbrev N_law_long_block : List Str := ["letters", "many", "total", "top", "wide", "fits"]
theorem sc_law_long_block : FnScope N_law_long_block ["letters", "many"] (defScope s_law_long_block) := ⟨rfl, rfl, rfl, by decide +kernel, rfl, by decide +kernel, by decide +kernel⟩
theorem ok_law_long_block (D_law_width : Dn P w K mg base 1 "_law_width" s_law_width ["options"] spLW) (T : TT mg) (F : At K mg "_law_long_block" s_law_long_block) : Dn P w K mg base 2 "_law_long_block" s_law_long_block ["letters", "many"] spPL := by
  refine dn_ok F sc_law_long_block (fun _ _ _ _ _ _ us hl => match us, hl with | [_, _], _ => rfl) (fun vs H Q E h => ?_) (fun f cdv A outer t H vs Q E hr h => ?_)
  · obtain ⟨s, c, rfl, _⟩ := h; rfl
  · obtain ⟨s, c, rfl, h1, h6, hc, q⟩ := h
    refine ⟨_, (pss_cons (ps_set (i := 2) sc_law_long_block.nd rfl (Or.inl rfl) (pe_dn D_law_width hr (by decide) rfl (pa_cons (pe_op op_add (pv 1) pe_int) pa_nil)))
      (pss_cons (ps_set (i := 3) sc_law_long_block.nd rfl (Or.inl rfl) pe_int)
      (pss_cons (ps_for PassesOwn.never rfl (pi_range1 (by rfl) T.range (pa_cons pe_int pa_nil)) (pg_name (i := 4) sc_law_long_block.nd rfl (Or.inl rfl))
        (pss_cons (ps_set (i := 5) sc_law_long_block.nd rfl (Or.inl rfl) pe_int)
          (pss_cons (ps_if (pt_cmpR op_gt (pv 0) pe_int (nomark _)) (pss_one (ps_set (i := 5) sc_law_long_block.nd rfl (Or.inl rfl) (pe_op op_fdiv (pe_callB (call_max2 rfl) (by rfl) T.max (by decide +kernel) (pa_cons pe_int (pa_cons (pe_op op_sub (pv 3) pe_int) pa_nil))) (pe_op op_sub (pv 0) pe_int)))) (pss_one (ps_if (pt_cmpR op_gt (pv 3) pe_int (nomark _)) (pss_one (ps_set (i := 5) sc_law_long_block.nd rfl (Or.inl rfl) (pe_op op_add (pv 1) pe_int))) pss_nil)))
          (pss_cons (ps_if (pt_cmpR op_gt (pv 5) (pv 1) (nomark _)) (pss_one ps_break) pss_nil)
          (pss_cons (ps_set (i := 2) sc_law_long_block.nd rfl (Or.inl rfl) (pe_op op_sub (pe_op op_add (pe_op op_add (pv 2) (pv 1)) pe_int) (pv 5)))
          (pss_one (ps_set (i := 3) sc_law_long_block.nd rfl (Or.inl rfl) (pe_op op_mul (pv 3) pe_int))))))))
      (pss_one (ps_ret (pv 2)))))), ?_⟩
    have ec : (c : Int) + 1 = ((c + 1 : Nat) : Int) := by omega
    refine q_asg (v := .int ((cl (c + 1) + colS (fitF s (c + 1)) (c + 1) 0 : Nat) : Int)) (ev_call (ea_cons (ev_is (ev_op (ev_var rfl) ev_c rv_I0) (congrArg V.int ec)) ea_nil) (sv_lw' (by omega) (by omega))) fun H1 e1 => ?_
    refine q_asg (v := .int ((2 ^ 0 : Nat) : Int)) (ev_is ev_c rfl) fun H2 e2 => ?_
    have fin : ∀ (k : Nat) H', c + 1 ≤ fitF s (c + 1) k → Ex H H' → Q (.int ((cl (c + 1) + colS (fitF s (c + 1)) (c + 1) k : Nat) : Int)) H' := fun k H' hk e => by
      rw [fit_end h1 hk]
      exact q H' e
    refine q_forR1 (ea_cons ev_c ea_nil) ⟨by decide, by decide⟩ (fun k σ' H' => ∃ (x y : Option V), σ' = [some (.int (s : Int)), some (.int (c : Int)), some (.int ((cl (c + 1) + colS (fitF s (c + 1)) (c + 1) k : Nat) : Int)), some (.int ((2 ^ k : Nat) : Int)), x, y] ∧ Ex H H')
      (fun H3 e3 => ⟨none, none, rfl, (e1.trans e2).trans e3⟩) ?_ ?_
    · rintro k σ' H' hk ⟨x, y, rfl, e⟩
      refine q_asg (v := .int ((0 : Nat) : Int)) (ev_is ev_c rfl) fun H3 e3 => ?_
      show tSeq _ _ _ [some (V.int (s : Int)), some (V.int (c : Int)), some (V.int ((cl (c + 1) + colS (fitF s (c + 1)) (c + 1) k : Nat) : Int)), some (V.int ((2 ^ k : Nat) : Int)), some (V.int (k : Int)), some (V.int ((0 : Nat) : Int))] H3
      have rest : ∀ H4, Ex H H4 → tSeq (tIfS (tTest (tOp (rI0 fun i j => .bl (decide (j < i))) (tVar 5) (tVar 1))) tBreak tNext) (tSeq (tAsg (tOp (rI0 fun i j => .int (i - j)) (tOp (rI0 fun i j => .int (i + j)) (tOp (rI0 fun i j => .int (i + j)) (tVar 2) (tVar 1)) (tC (.int 1))) (tVar 5)) (gName 2)) (tAsg (tOp (rI CMul fun i j => .int (i * j)) (tVar 3) (tC (.int 2))) (gName 3)))
          { nx := fun σ' H' => ∃ (x y : Option V), σ' = [some (.int (s : Int)), some (.int (c : Int)), some (.int ((cl (c + 1) + colS (fitF s (c + 1)) (c + 1) (k + 1) : Nat) : Int)), some (.int ((2 ^ (k + 1) : Nat) : Int)), x, y] ∧ Ex H H', rt := Q, bk := tRet (tVar 2) { nx := fun _ H' => Q .non H', rt := Q }, ct := fun σ' H' => ∃ (x y : Option V), σ' = [some (.int (s : Int)), some (.int (c : Int)), some (.int ((cl (c + 1) + colS (fitF s (c + 1)) (c + 1) (k + 1) : Nat) : Int)), some (.int ((2 ^ (k + 1) : Nat) : Int)), x, y] ∧ Ex H H' }
          [some (V.int (s : Int)), some (V.int (c : Int)), some (V.int ((cl (c + 1) + colS (fitF s (c + 1)) (c + 1) k : Nat) : Int)), some (V.int ((2 ^ k : Nat) : Int)), some (V.int (k : Int)), some (V.int ((fitF s (c + 1) k : Nat) : Int))] H4 := fun H4 e4 => by
        refine q_when (et_test (ev_op (ev_var rfl) (ev_var rfl) rv_I0)) (fun hb H5 e5 => ?_) (fun hb H5 e5 => ?_)
        · have hge : c + 1 ≤ fitF s (c + 1) k := by have := of_decide_eq_true hb; omega
          show tRet (tVar 2) { nx := fun _ H' => Q .non H', rt := Q } _ _
          exact s_ret (ev_var rfl) fun H6 e6 => fin k H6 hge ((e4.trans e5).trans e6)
        · have hlt : fitF s (c + 1) k ≤ c := by have := of_decide_eq_false hb; omega
          refine q_asg (v := .int ((cl (c + 1) + colS (fitF s (c + 1)) (c + 1) (k + 1) : Nat) : Int)) (ev_is (ev_op (ev_op (ev_op (ev_var rfl) (ev_var rfl) rv_I0) ev_c rv_I0) (ev_var rfl) rv_I0) (congrArg V.int (by rw [colS_step]; omega))) fun H6 e6 => ?_
          exact s_asg (v := .int ((2 ^ (k + 1) : Nat) : Int)) (ev_is (ev_op (ev_var rfl) ev_c (rv_I (Or.inr (by decide)))) (congrArg V.int (by rw [Nat.pow_succ, Int.natCast_mul]; rfl))) fun H7 e7 => ⟨_, _, rfl, ((e4.trans e5).trans e6).trans e7⟩
      by_cases hs : 1 < s
      · refine q_if (et_test (ev_op (ev_var rfl) ev_c rv_I0)) (fun _ H4 e4 => ?_) (fun hb H4 e4 => by have := of_decide_eq_false hb; omega)
        have hfit : (if ((2 ^ k : Nat) : Int) - 2 > 0 then ((2 ^ k : Nat) : Int) - 2 else 0) / ((s : Int) - 1) = ((fitF s (c + 1) k : Nat) : Int) := by
          have a1 : (if ((2 ^ k : Nat) : Int) - 2 > 0 then ((2 ^ k : Nat) : Int) - 2 else 0) = ((2 ^ k - 2 : Nat) : Int) := by
            generalize 2 ^ k = X
            split <;> omega
          have a2 : (s : Int) - 1 = ((s - 1 : Nat) : Int) := by omega
          rw [a1, a2, ← Int.natCast_ediv]
          unfold fitF capR
          rw [if_pos hs]
        exact s_asg (v := .int ((fitF s (c + 1) k : Nat) : Int)) (ev_is (ev_op (ev_max2 ev_c (ev_op (ev_var rfl) ev_c rv_I0)) (ev_op (ev_var rfl) ev_c rv_I0) (rv_I (show CDiv _ _ by unfold CDiv; omega))) (congrArg V.int hfit)) fun H5 e5 => rest H5 (((e.trans e3).trans e4).trans e5)
      · refine q_if (et_test (ev_op (ev_var rfl) ev_c rv_I0)) (fun hb H4 e4 => by have := of_decide_eq_true hb; omega) (fun hb H4 e4 => ?_)
        by_cases hk2 : 1 < 2 ^ k
        · have hfit : ((c + 1 : Nat) : Int) = ((fitF s (c + 1) k : Nat) : Int) := by
            unfold fitF
            rw [if_neg hs, if_pos hk2]
          refine s_when (et_test (ev_op (ev_var rfl) ev_c rv_I0)) (fun _ H5 e5 => ?_) (fun hb H5 e5 => by have := of_decide_eq_false hb; exfalso; generalize 2 ^ k = X at hk2 this; omega)
          exact s_asg (v := .int ((fitF s (c + 1) k : Nat) : Int)) (ev_is (ev_op (ev_var rfl) ev_c rv_I0) (congrArg V.int (by rw [← hfit]; omega))) fun H6 e6 => rest H6 ((((e.trans e3).trans e4).trans e5).trans e6)
        · have hfit : fitF s (c + 1) k = 0 := by
            unfold fitF
            rw [if_neg hs, if_neg hk2]
          refine s_when (et_test (ev_op (ev_var rfl) ev_c rv_I0)) (fun hb H5 e5 => by have := of_decide_eq_true hb; exfalso; generalize 2 ^ k = X at hk2 this; omega) (fun hb H5 e5 => ?_)
          have := rest H5 (((e.trans e3).trans e4).trans e5)
          rw [hfit] at this
          exact this
    · rintro σ' H' ⟨x, y, rfl, e⟩
      exact s_ret (ev_var rfl) fun H6 e6 => fin 400 H6 (fit_far h1 h6 (by omega)) (e.trans e6)
abbrev s_law_gap : Stmt := top 25
abbrev N_law_gap : List Str := ["letters", "states", "many"]
theorem sc_law_gap : FnScope N_law_gap ["letters", "states", "many"] (defScope s_law_gap) := ⟨rfl, rfl, rfl, by decide +kernel, rfl, by decide +kernel, by decide +kernel⟩
theorem ok_law_gap (D_law_long_block : Dn P w K mg base 2 "_law_long_block" s_law_long_block ["letters", "many"] spPL) (D_law_filled : Dn P w K mg base 1 "_law_filled" s_law_filled ["states", "many"] spFd) (F : At K mg "_law_gap" s_law_gap) : Dn P w K mg base 3 "_law_gap" s_law_gap ["letters", "states", "many"] spEx := by
  refine dn_ok F sc_law_gap (fun _ _ _ _ _ _ us hl => match us, hl with | [_, _, _], _ => rfl) (fun vs H Q E h => ?_) (fun f cdv A outer t H vs Q E hr h => ?_)
  · obtain ⟨s, t, c, rfl, _⟩ := h; rfl
  · obtain ⟨s, t, c, rfl, hs, ht, hc, q⟩ := h
    refine ⟨_, (pss_one (ps_ret (pe_op op_sub (pe_dn D_law_long_block hr (by decide) rfl (pa_cons (pv 0) (pa_cons (pv 2) pa_nil))) (pe_dn D_law_filled hr (by decide) rfl (pa_cons (pv 1) (pa_cons (pv 2) pa_nil)))))), ?_⟩
    exact s_ret (v := .int (gapF s t c)) (ev_is (ev_op (ev_call (ea_cons (ev_var rfl) (ea_cons (ev_var rfl) ea_nil)) (sv_pl hs.1 hs.2 hc)) (ev_call (ea_cons (ev_var rfl) (ea_cons (ev_var rfl) ea_nil)) (sv_fd ht hc)) rv_I0) rfl) fun H1 e1 => q H1 e1
abbrev s_law_least : Stmt := top 28
abbrev N_law_least : List Str := ["letters", "many"]
theorem sc_law_least : FnScope N_law_least ["letters"] (defScope s_law_least) := ⟨rfl, rfl, rfl, by decide +kernel, rfl, by decide +kernel, by decide +kernel⟩
def spLs : Sp := fun vs H Q _ => ∃ L : Nat, vs = [.int (L : Int)] ∧ L ≤ 400 ∧ RetV (.int ((grF 1 L : Nat) : Int)) H Q
theorem sv_ls {L : Nat} {H : Hp} (h : L ≤ 400) : SpV spLs [.int (L : Int)] H (.int ((grF 1 L : Nat) : Int)) := fun _ _ _ q _ => ⟨L, rfl, h, q⟩
theorem w_small {n : Nat} (h : n ≤ 1000) : ((n : Nat) : Int).natAbs < 2 ^ 1000 := t_w (by omega)
theorem ok_law_least (T : TT mg) (F : At K mg "_law_least" s_law_least) : Dn P w K mg base 1 "_law_least" s_law_least ["letters"] spLs := by
  refine dn_ok F sc_law_least (fun _ _ _ _ _ _ us hl => match us, hl with | [_], _ => rfl) (fun vs H Q E h => ?_) (fun f cdv A outer t H vs Q E hr h => ?_)
  · obtain ⟨L, rfl, _⟩ := h; rfl
  · obtain ⟨L, rfl, hL, q⟩ := h
    refine ⟨_, (pss_cons (ps_for PassesOwn.never rfl (pi_range1 (by rfl) T.range (pa_cons pe_int pa_nil)) (pg_name (i := 1) sc_law_least.nd rfl (Or.inl rfl))
        (pss_one (ps_if (pt_cmpR op_ge (pe_op op_mulW (pv 1) (pe_op op_add (pv 1) pe_int)) (pe_op op_mul pe_int (pv 0)) (nomark _)) (pss_one (ps_ret (pv 1))) pss_nil)))
      (pss_one (ps_ret pe_int))), ?_⟩
    refine q_forR1 (ea_cons ev_c ea_nil) ⟨by decide, by decide⟩ (fun i σ' H' => ∃ x : Option V, σ' = [some (.int (L : Int)), x] ∧ Ex H H' ∧ ∀ j, j < i → j * (j + 3) < 2 * L) (fun H1 e1 => ⟨none, rfl, e1, fun j hj => absurd hj (Nat.not_lt_zero j)⟩) ?_ ?_
    · rintro i σ' H' hi ⟨x, rfl, e, hj⟩
      have hi4 : i < 402 := by omega
      have ei : (i : Int) * ((i : Int) + 3) = ((i * (i + 3) : Nat) : Int) := by rw [Int.natCast_mul, Int.natCast_add]; rfl
      refine s_when (et_test (ev_op (ev_is (ev_op (ev_var rfl) (ev_is (ev_op (ev_var rfl) ev_c rv_I0) (show V.int ((i : Int) + 3) = V.int ((i + 3 : Nat) : Int) by rw [Int.natCast_add]; rfl)) (rv_I (wmul (w_small (by omega)) (w_small (by omega))))) (congrArg V.int (Int.natCast_mul i (i + 3)).symm)) (ev_op ev_c (ev_var rfl) (rv_I (Or.inl (by decide)))) rv_I0)) (fun hb H2 e2 => ?_) (fun hb H2 e2 => ⟨some (.int (i : Int)), rfl, e.trans e2, fun j hj2 => ?_⟩)
      · have hge : 2 * L ≤ i * (i + 3) := by have := of_decide_eq_true hb; omega
        have hLe : Le L i := ⟨hge, by
          by_cases z : i = 0
          · exact Or.inl z
          · have := hj (i - 1) (by omega)
            rw [show i - 1 + 3 = i + 2 by omega] at this
            exact Or.inr this⟩
        have hu := le_uniq hLe (gr_le (grF_spec (s := 1) (L := L) (by decide)))
        rw [← hu] at q
        exact s_ret (ev_var rfl) fun H3 e3 => q H3 ((e.trans e2).trans e3)
      · have hlt : i * (i + 3) < 2 * L := by have := of_decide_eq_false hb; omega
        by_cases z : j < i
        · exact hj j z
        · have : j = i := by omega
          subst this
          exact hlt
    · rintro σ' H' ⟨x, rfl, e, hj⟩
      have := hj 400 (by decide)
      omega
abbrev s_law_greatest : Stmt := top 26
abbrev N_law_greatest : List Str := ["letters", "most", "many", "left", "here", "wide", "step", "turn"]
theorem sc_law_greatest : FnScope N_law_greatest ["letters", "most"] (defScope s_law_greatest) := ⟨rfl, rfl, rfl, by decide +kernel, rfl, by decide +kernel, by decide +kernel⟩
theorem ok_law_greatest (T : TT mg) (F : At K mg "_law_greatest" s_law_greatest) : Dn P w K mg base 1 "_law_greatest" s_law_greatest ["letters", "most"] spGC := by
  refine dn_ok F sc_law_greatest (fun _ _ _ _ _ _ us hl => match us, hl with | [_, _], _ => rfl) (fun vs H Q E h => ?_) (fun f cdv A outer t H vs Q E hr h => ?_)
  · obtain ⟨s, L, rfl, _⟩ := h; rfl
  · obtain ⟨s, L, rfl, h1, h6, hL, q⟩ := h
    refine ⟨_, (pss_cons (ps_set (i := 2) sc_law_greatest.nd rfl (Or.inl rfl) pe_int)
      (pss_cons (ps_if (pt_cmpR op_eq (pv 0) pe_int (nomark _)) (pss_cons (ps_set (i := 6) sc_law_greatest.nd rfl (Or.inl rfl) (pe_op op_pow pe_int pe_int))
        (pss_cons (ps_for PassesOwn.never rfl (pi_range1 (by rfl) T.range (pa_cons pe_int pa_nil)) (pg_name (i := 7) sc_law_greatest.nd rfl (Or.inl rfl))
          (pss_cons (ps_if (pt_cmpR op_le (pe_op op_fdiv (pe_op op_mulW (pe_op op_add (pv 2) (pv 6)) (pe_op op_add (pe_op op_add (pv 2) (pv 6)) pe_int)) pe_int) (pv 1) (nomark _)) (pss_one (ps_set (i := 2) sc_law_greatest.nd rfl (Or.inl rfl) (pe_op op_add (pv 2) (pv 6)))) pss_nil)
            (pss_one (ps_set (i := 6) sc_law_greatest.nd rfl (Or.inl rfl) (pe_op op_fdiv (pv 6) pe_int)))))
        (pss_one (ps_ret (pv 2))))) pss_nil)
      (pss_cons (ps_set (i := 3) sc_law_greatest.nd rfl (Or.inl rfl) (pv 1))
      (pss_cons (ps_set (i := 4) sc_law_greatest.nd rfl (Or.inl rfl) pe_int)
      (pss_cons (ps_for PassesOwn.never rfl (pi_range2 (by rfl) T.range (pa_cons pe_int (pa_cons pe_int pa_nil))) (pg_name (i := 5) sc_law_greatest.nd rfl (Or.inl rfl))
        (pss_cons (ps_set (i := 4) sc_law_greatest.nd rfl (Or.inl rfl) (pe_op op_mul (pv 4) (pv 0)))
          (pss_cons (ps_if (pt_cmpR op_gt (pe_op op_mul (pv 4) (pv 5)) (pv 3) (nomark _)) (pss_one (ps_ret (pe_op op_add (pv 2) (pe_op op_fdiv (pv 3) (pv 5))))) pss_nil)
          (pss_cons (ps_set (i := 2) sc_law_greatest.nd rfl (Or.inl rfl) (pe_op op_add (pv 2) (pv 4)))
          (pss_one (ps_set (i := 3) sc_law_greatest.nd rfl (Or.inl rfl) (pe_op op_sub (pv 3) (pe_op op_mul (pv 4) (pv 5)))))))))
      (pss_one (ps_ret (pv 2)))))))), ?_⟩
    have hcap := cap_lt
    refine q_asg (v := .int ((0 : Nat) : Int)) (ev_is ev_c rfl) fun H1 e1 => ?_
    refine q_when (et_test (ev_op (ev_var rfl) ev_c (rv_eq rfl))) (fun hb H2 e2 => ?_) (fun hb H2 e2 => ?_)
    · have hs : s = 1 := by
        have := of_decide_eq_true hb
        injection this
        omega
      subst hs
      refine q_asg (v := .int ((pw 0 : Nat) : Int)) (ev_is (ev_op ev_c ev_c (rv_I (show CPow 2 60 by unfold CPow; decide))) (congrArg V.int (by decide +kernel))) fun H3 e3 => ?_
      have e13 := (e1.trans e2).trans e3
      have hbig : L < tri (0 + ub 0) := by
        have : cap < tri (0 + ub 0) := by decide +kernel
        omega
      refine q_forR1 (ea_cons ev_c ea_nil) ⟨by decide, by decide⟩ (fun i σ' H' => ∃ (m : Nat) (x : Option V), σ' = [some (.int ((1 : Nat) : Int)), some (.int (L : Int)), some (.int (m : Int)), none, none, none, some (.int ((pw i : Nat) : Int)), x] ∧ Ex H H' ∧ tri m ≤ L ∧ L < tri (m + ub i))
        (fun H4 e4 => ⟨0, none, rfl, e13.trans e4, Nat.zero_le _, hbig⟩) ?_ ?_
      · rintro i σ' H' hi ⟨m, x, rfl, e, hm1, hm2⟩
        have hi6 : i < 61 := by omega
        obtain ⟨u1, u2⟩ := ub_pw hi6
        have hh := pw_half hi6
        have hpw : pw i ≤ 2 ^ 60 := by
          unfold pw
          rw [if_pos (by omega)]
          exact Nat.pow_le_pow_right (by decide) (by omega)
        have hmm : m ≤ L := by
          unfold tri at hm1
          have : m * 2 ≤ m * (m + 1) ∨ m = 0 := by
            by_cases z : m = 0
            · exact Or.inr z
            · exact Or.inl (Nat.mul_le_mul_left m (by omega))
          omega
        have hw0 : m + pw i + 1 < 2 ^ 1000 := by
          have : (2 : Nat) ^ 101 + 2 ^ 60 + 1 < 2 ^ 1000 := by decide +kernel
          generalize (2 : Nat) ^ 1000 = Z at this ⊢
          omega
        have hw : ((m : Int) + ((pw i : Nat) : Int)).natAbs < 2 ^ 1000 ∧ ((m : Int) + ((pw i : Nat) : Int) + 1).natAbs < 2 ^ 1000 := by
          generalize (2 : Nat) ^ 1000 = Z at hw0 ⊢
          constructor <;> omega
        have et : ((m : Int) + ((pw i : Nat) : Int)) * ((m : Int) + ((pw i : Nat) : Int) + 1) / 2 = ((tri (m + pw i) : Nat) : Int) := by
          unfold tri
          rw [Int.natCast_ediv, Int.natCast_mul, Int.natCast_add, Int.natCast_add]
          rfl
        refine q_ifAsg (b := decide (((tri (m + pw i) : Nat) : Int) ≤ (L : Int))) (v := .int ((if tri (m + pw i) ≤ L then m + pw i else m : Nat) : Int)) (et_test (ev_op (ev_is (ev_op (ev_op (ev_op (ev_var rfl) (ev_var rfl) rv_I0) (ev_op (ev_op (ev_var rfl) (ev_var rfl) rv_I0) ev_c rv_I0) (rv_I (wmul hw.1 hw.2))) ev_c (rv_I (by unfold CDiv; decide))) (congrArg V.int et)) (ev_var rfl) rv_I0)) (fun hb => ?_) (fun hb => ?_) fun H4 e4 => ?_
        · have hle : tri (m + pw i) ≤ L := by have := of_decide_eq_true hb; omega
          rw [if_pos hle]
          exact ev_is (ev_op (ev_var rfl) (ev_var rfl) rv_I0) (congrArg V.int (by omega))
        · have hle : ¬ tri (m + pw i) ≤ L := by have := of_decide_eq_false hb; omega
          rw [if_neg hle]
          rfl
        · refine s_asg (v := .int ((pw (i + 1) : Nat) : Int)) (ev_is (ev_op (ev_var rfl) ev_c (rv_I (by unfold CDiv; decide))) (congrArg V.int (by rw [← hh, Int.natCast_ediv]; rfl))) fun H5 e5 => ⟨if tri (m + pw i) ≤ L then m + pw i else m, some (.int (i : Int)), rfl, (e.trans e4).trans e5, ?_, ?_⟩
          · split
            · assumption
            · exact hm1
          · rw [u2]
            split
            · rw [u1, ← Nat.add_assoc] at hm2
              exact hm2
            · omega
      · rintro σ' H' ⟨m, x, rfl, e, hm1, hm2⟩
        have hub : ub 61 = 1 := rfl
        have h61 : (61 : Int).toNat = 61 := rfl
        rw [h61, hub] at hm2
        have hg : Gr 1 L m := ⟨by rw [tri_tot]; exact hm1, by rw [tri_tot]; exact hm2⟩
        rw [grF_is (by decide) hg] at q
        exact s_ret (ev_var rfl) fun H4 e4 => q H4 (e.trans e4)
    · have hs : 2 ≤ s := by
        have := of_decide_eq_false hb
        by_cases z : s = 1
        · subst z; exact absurd rfl this
        · omega
      refine q_asg (ev_var rfl) fun H3 e3 => ?_
      refine q_asg (v := .int ((s ^ 0 : Nat) : Int)) (ev_is ev_c rfl) fun H4 e4 => ?_
      have e14 := ((e1.trans e2).trans e3).trans e4
      refine q_forR2 (ea_cons ev_c (ea_cons ev_c ea_nil)) ⟨by decide, by decide, by decide, by decide⟩ (fun wd σ' H' => ∃ (left : Nat) (x : Option V), σ' = [some (.int (s : Int)), some (.int (L : Int)), some (.int ((Sn s wd : Nat) : Int)), some (.int (left : Int)), some (.int ((s ^ wd : Nat) : Int)), x, none, none] ∧ Ex H H' ∧ L = Bn s wd + left)
        (fun H5 e5 => ⟨L, none, rfl, e14.trans e5, (Nat.zero_add L).symm⟩) ?_ ?_
      · rintro wd σ' H' hw ⟨left, x, rfl, e, hLB⟩
        have hw2 : wd < 199 := by omega
        have ew : (1 : Int) + (wd : Int) = ((wd + 1 : Nat) : Int) := by omega
        rw [ew]
        show tSeq _ _ _ [some (V.int (s : Int)), some (V.int (L : Int)), some (V.int ((Sn s wd : Nat) : Int)), some (V.int (left : Int)), some (V.int ((s ^ wd : Nat) : Int)), some (V.int ((wd + 1 : Nat) : Int)), none, none] H'
        refine q_asg (v := .int ((s ^ (wd + 1) : Nat) : Int)) (ev_is (ev_op (ev_var rfl) (ev_var rfl) (rv_I (Or.inr (by omega)))) (congrArg V.int (by rw [Nat.pow_succ, Int.natCast_mul]))) fun H5 e5 => ?_
        have em : ((s ^ (wd + 1) : Nat) : Int) * ((wd + 1 : Nat) : Int) = ((s ^ (wd + 1) * (wd + 1) : Nat) : Int) := (Int.natCast_mul _ _).symm
        refine q_when (et_test (ev_op (ev_is (ev_op (ev_var rfl) (ev_var rfl) (rv_I (Or.inr (by omega)))) (congrArg V.int em)) (ev_var rfl) rv_I0)) (fun hb2 H6 e6 => ?_) (fun hb2 H6 e6 => ?_)
        · have hlt : left < s ^ (wd + 1) * (wd + 1) := by have := of_decide_eq_true hb2; omega
          have hg := gr_loop (s := s) (by omega) hLB (Nat.le_of_lt hlt)
          rw [grF_is (by omega) hg] at q
          exact s_ret (v := .int ((Sn s wd + left / (wd + 1) : Nat) : Int)) (ev_is (ev_op (ev_var rfl) (ev_op (ev_var rfl) (ev_var rfl) (rv_I (show CDiv _ _ by unfold CDiv; omega))) rv_I0) (congrArg V.int (by rw [Int.natCast_add (Sn s wd), Int.natCast_ediv]))) fun H7 e7 => q H7 (((e.trans e5).trans e6).trans e7)
        · have hge : s ^ (wd + 1) * (wd + 1) ≤ left := by have := of_decide_eq_false hb2; omega
          have cb := cB s wd
          have cs := cS s wd
          refine q_asg (v := .int ((Sn s (wd + 1) : Nat) : Int)) (ev_is (ev_op (ev_var rfl) (ev_var rfl) rv_I0) (congrArg V.int cs)) fun H7 e7 => ?_
          refine s_asg (v := .int ((left - s ^ (wd + 1) * (wd + 1) : Nat) : Int)) (ev_is (ev_op (ev_var rfl) (ev_is (ev_op (ev_var rfl) (ev_var rfl) (rv_I (Or.inr (by omega)))) (congrArg V.int em)) rv_I0) (congrArg V.int (by omega))) fun H8 e8 => ⟨left - s ^ (wd + 1) * (wd + 1), some (.int ((wd + 1 : Nat) : Int)), rfl, (((e.trans e5).trans e6).trans e7).trans e8, ?_⟩
          rw [em] at cb
          omega
      · rintro σ' H' ⟨left, x, rfl, e, hLB⟩
        exfalso
        have h9 : ((200 : Int) - 1).toNat = 199 := by decide
        rw [h9] at hLB
        have cb := cB s 198
        have hp : s ^ 199 ≤ 6 * cap := by
          have em : ((s ^ (198 + 1) : Nat) : Int) * ((198 + 1 : Nat) : Int) = ((s ^ (198 + 1) * (198 + 1) : Nat) : Int) := (Int.natCast_mul _ _).symm
          rw [em] at cb
          have e199 : s ^ (198 + 1) = s ^ 199 := rfl
          have eB : Bn s (198 + 1) = Bn s 199 := rfl
          rw [e199, eB] at cb
          generalize s ^ 199 = Z at cb ⊢
          omega
        have := level_small hs hp
        omega
end
end My

set_option Elab.async false
set_option linter.all false
set_option maxRecDepth 100000
set_option maxHeartbeats 4000000
namespace My
open PySem PySem.Spec PyProof.Rows L2 Evl
def p213 {α : Type} : List α → List α
  | [a, b, c] => [b, a, c]
  | z => z
def p231 {α : Type} : List α → List α
  | [a, b, c] => [b, c, a]
  | z => z
theorem vals_p213 {zs : List V} {ws : List Value} (r : Vals zs ws) : Vals (p213 zs) (p213 ws) := by
  cases r with
  | nil => exact .nil
  | cons h1 r => cases r with
    | nil => exact .cons h1 .nil
    | cons h2 r => cases r with
      | nil => exact .cons h1 (.cons h2 .nil)
      | cons h3 r => cases r with
        | nil => exact .cons h2 (.cons h1 (.cons h3 .nil))
        | cons h4 r => exact .cons h1 (.cons h2 (.cons h3 (.cons h4 r)))
theorem vals_p231 {zs : List V} {ws : List Value} (r : Vals zs ws) : Vals (p231 zs) (p231 ws) := by
  cases r with
  | nil => exact .nil
  | cons h1 r => cases r with
    | nil => exact .cons h1 .nil
    | cons h2 r => cases r with
      | nil => exact .cons h1 (.cons h2 .nil)
      | cons h3 r => cases r with
        | nil => exact .cons h2 (.cons h3 (.cons h1 .nil))
        | cons h4 r => exact .cons h1 (.cons h2 (.cons h3 (.cons h4 r)))
/-- some number below a bound -/
def EvAny (te : TE) (σ : L2.St) (H : Hp) (N : Nat) : Prop := ∀ H1, Ex H H1 → ∀ Q : VK, (∀ z : Nat, z ≤ N → ∀ H2, Ex H1 H2 → Q (.int (z : Int)) H2) → te σ H1 Q
section
variable {K : PySem.W.Frag} {σ : L2.St} {H : Hp} {ta tb tc te tl : TE} {x y z v : V} {D : Ends} {tu tz : TS}
theorem q_asgAny {i N : Nat} (h : EvAny te σ H N) (k : ∀ (z : Nat) H1, z ≤ N → Ex H H1 → tz D (σ.set i (some (.int (z : Int)))) H1) : tSeq (tAsg te (gName i)) tz D σ H := h H (Ex.refl H) _ fun z hz H2 e2 => k z H2 hz e2
theorem s_retAny {N : Nat} (h : EvAny te σ H N) (k : ∀ (z : Nat) H1, z ≤ N → Ex H H1 → D.rt (.int (z : Int)) H1) : tRet te D σ H := h H (Ex.refl H) _ fun z hz H2 e2 => k z H2 hz e2
theorem any_call3 {sp : Sp} {E : XK} {xs : List V} {N : Nat} (ha : EvL ta σ H xs) (hb : Ev tb σ H y) (hc : Ev tc σ H z) (hs : ∀ p H1, H1 p = some (.lst xs) → ∀ Q : VK, (∀ z : Nat, z ≤ N → ∀ H2, Ex H1 H2 → Q (.int (z : Int)) H2) → sp [.ref p, y, z] H1 Q E) : EvAny (tCall sp [] E (tCons ta (tCons tb (tCons tc tNil)))) σ H N := fun H0 e0 Q q =>
  ha H0 e0 _ fun p H1 np e1 hp => hb H1 (e0.trans e1) _ fun H2 e2 => hc H2 ((e0.trans e1).trans e2) _ fun H3 e3 => hs p H3 ((e2.trans e3) _ _ hp) Q fun z hz H4 e4 => q z hz H4 (((e1.trans e2).trans e3).trans e4)
theorem any_call1L {sp : Sp} {E : XK} {xs : List V} {N : Nat} (ha : EvL ta σ H xs) (hs : ∀ p H1, H1 p = some (.lst xs) → ∀ Q : VK, (∀ z : Nat, z ≤ N → ∀ H2, Ex H1 H2 → Q (.int (z : Int)) H2) → sp [.ref p] H1 Q E) : EvAny (tCall sp [] E (tCons ta tNil)) σ H N := fun H0 e0 Q q =>
  ha H0 e0 _ fun p H1 np e1 hp => hs p H1 hp Q fun z hz H4 e4 => q z hz H4 (e1.trans e4)
end
section
variable {P : Program} {w : World} {K : PySem.W.Frag} {mg : Str → Option Value} {base : Heap}
theorem kd_te (D : Dn P w K mg base 2 "told_excess" s_told_excess ["size", "standings", "count"] spTE) : Kd P w K mg base 2 "told_excess" 0 ["standings", "size", "count"] (fun _ zs => p213 zs) spTE :=
  kd_of D 0 ["standings", "size", "count"] (fun _ ws => p213 ws) (fun _ zs => p213 zs) (fun _ _ _ _ _ _ us ws h1 h2 => match us, ws, h1, h2 with | [], [_, _, _], _, _ => rfl) (fun _ r => vals_p213 r)
theorem kd_we (D : Dn P w K mg base 4 "worst_excess" s_worst_excess ["size", "standings", "length"] spWE) : Kd P w K mg base 4 "worst_excess" 0 ["length", "size", "standings"] (fun _ zs => p231 zs) spWE :=
  kd_of D 0 ["length", "size", "standings"] (fun _ ws => p231 ws) (fun _ zs => p231 zs) (fun _ _ _ _ _ _ us ws h1 h2 => match us, ws, h1, h2 with | [], [_, _, _], _, _ => rfl) (fun _ r => vals_p231 r)
abbrev s_law_numbers_hold : Stmt := top 32
abbrev N_law_numbers_hold : List Str := ["letters", "states", "many", "gap", "told"]
theorem sc_law_numbers_hold : FnScope N_law_numbers_hold ["letters", "states", "many"] (defScope s_law_numbers_hold) := ⟨rfl, rfl, rfl, by decide +kernel, rfl, by decide +kernel, by decide +kernel⟩
def spNH : Sp := fun vs H Q _ => ∃ s t c : Nat, vs = [.int (s : Int), .int (t : Int), .int (c : Int)] ∧ (1 ≤ s ∧ s ≤ 6) ∧ (1 ≤ t ∧ t ≤ 10000) ∧ c ≤ Big ∧ RetV (.bl true) H Q
theorem sv_nh {s t c : Nat} {H : Hp} (hs : 1 ≤ s ∧ s ≤ 6) (ht : 1 ≤ t ∧ t ≤ 10000) (hc : c ≤ Big) : SpV spNH [.int (s : Int), .int (t : Int), .int (c : Int)] H (.bl true) := fun _ _ _ q _ => ⟨s, t, c, rfl, hs, ht, hc, q⟩
theorem ok_law_numbers_hold (D_excess : Dn P w K mg base 3 "excess" s_excess ["size", "standings", "count"] spEx) (D_told_excess : Dn P w K mg base 2 "told_excess" s_told_excess ["size", "standings", "count"] spTE) (D_excess_count_standings_size : Kd P w K mg base 3 "excess" 0 ["count", "standings", "size"] (fun _ zs => zs.reverse) spEx)
    (D_told_excess_standings_size_count : Kd P w K mg base 2 "told_excess" 0 ["standings", "size", "count"] (fun _ zs => p213 zs) spTE) (D_law_whole : Dn P w K mg base 1 "_law_whole" s_law_whole ["value"] spWhole) (D_law_gap : Dn P w K mg base 3 "_law_gap" s_law_gap ["letters", "states", "many"] spEx) (D_law_told : Dn P w K mg base 3 "_law_told" s_law_told ["letters", "states", "many"] spTE)
    (F : At K mg "_law_numbers_hold" s_law_numbers_hold) : Dn P w K mg base 4 "_law_numbers_hold" s_law_numbers_hold ["letters", "states", "many"] spNH := by
  refine dn_ok F sc_law_numbers_hold (fun _ _ _ _ _ _ us hl => match us, hl with | [_, _, _], _ => rfl) (fun vs H Q E h => ?_) (fun f cdv A outer t H vs Q E hr h => ?_)
  · obtain ⟨s, t, c, rfl, _⟩ := h; rfl
  · obtain ⟨s, t, c, rfl, hs, ht, hc, q⟩ := h
    refine ⟨_, (pss_cons (ps_set (i := 3) sc_law_numbers_hold.nd rfl (Or.inl rfl) (pe_dn D_excess hr (by decide) rfl (pa_cons (pv 0) (pa_cons (pv 1) (pa_cons (pv 2) pa_nil)))))
      (pss_cons (ps_set (i := 4) sc_law_numbers_hold.nd rfl (Or.inl rfl) (pe_dn D_told_excess hr (by decide) rfl (pa_cons (pv 0) (pa_cons (pv 1) (pa_cons (pv 2) pa_nil)))))
      (pss_cons (ps_if (PW.pt (pw_or (pt_not (pt_val (pe_dn D_law_whole hr (by decide) rfl (pa_cons (pv 3) pa_nil)))) (pw_or1 (pt_cmpR op_ne (pv 3) (pe_dn D_law_gap hr (by decide) rfl (pa_cons (pv 0) (pa_cons (pv 1) (pa_cons (pv 2) pa_nil)))) (nomark _))))) (pss_one (ps_ret pe_bl)) pss_nil)
      (pss_cons (ps_if (pt_cmpR op_ne (pe_kd D_excess_count_standings_size hr (by decide) rfl (pk_cons (pv 2) (pk_cons (pv 1) (pk_cons (pv 0) pk_nil)))) (pv 3) (nomark _)) (pss_one (ps_ret pe_bl)) pss_nil)
      (pss_cons (ps_if (pt_cmpR op_ne (pe_kd D_told_excess_standings_size_count hr (by decide) rfl (pk_cons (pv 1) (pk_cons (pv 0) (pk_cons (pv 2) pk_nil)))) (pv 4) (nomark _)) (pss_one (ps_ret pe_bl)) pss_nil)
      (pss_one (ps_ret (pe_and (pe_dn D_law_whole hr (by decide) rfl (pa_cons (pv 4) pa_nil)) (pe_and (pe_cmpR op_eq (pv 4) (pe_dn D_law_told hr (by decide) rfl (pa_cons (pv 0) (pa_cons (pv 1) (pa_cons (pv 2) pa_nil)))) (nomark _)) (pe_one (pe_cmpR op_le (pv 3) (pv 4) (nomark _)))))))))))), ?_⟩
    refine q_asg (ev_call (ea_cons (ev_var rfl) (ea_cons (ev_var rfl) (ea_cons (ev_var rfl) ea_nil))) (sv_ex hs ht hc)) fun H1 e1 => ?_
    refine q_asg (ev_call (ea_cons (ev_var rfl) (ea_cons (ev_var rfl) (ea_cons (ev_var rfl) ea_nil))) (sv_te hs ht hc)) fun H2 e2 => ?_
    refine q_when (b := false) (et_is (et_or (et_not (et_B (ev_call (ea_cons (ev_var rfl) ea_nil) sv_whole))) fun _ => et_test (ev_op (ev_var rfl) (ev_call (ea_cons (ev_var rfl) (ea_cons (ev_var rfl) (ea_cons (ev_var rfl) ea_nil))) (sv_ex hs ht hc)) (rv_ne rfl))) (by rw [decide_eq_true rfl]; rfl)) (fun hb => absurd hb (by decide)) fun _ H3 e3 => ?_
    refine q_when (b := false) (et_is (et_test (ev_op (ev_callN (vs := []) (zs := [.int (c : Int), .int (t : Int), .int (s : Int)]) ea_nil (ea_cons (ev_var rfl) (ea_cons (ev_var rfl) (ea_cons (ev_var rfl) ea_nil))) rfl rfl (sv_ex hs ht hc)) (ev_var rfl) (rv_ne rfl))) (by rw [decide_eq_true rfl]; rfl)) (fun hb => absurd hb (by decide)) fun _ H4 e4 => ?_
    refine q_when (b := false) (et_is (et_test (ev_op (ev_callN (vs := []) (zs := [.int (t : Int), .int (s : Int), .int (c : Int)]) ea_nil (ea_cons (ev_var rfl) (ea_cons (ev_var rfl) (ea_cons (ev_var rfl) ea_nil))) rfl rfl (sv_te hs ht hc)) (ev_var rfl) (rv_ne rfl))) (by rw [decide_eq_true rfl]; rfl)) (fun hb => absurd hb (by decide)) fun _ H5 e5 => ?_
    refine s_ret (v := .bl (true && (decide (V.int ((toldF s t c : Nat) : Int) = V.int ((toldF s t c : Nat) : Int)) && decide (gapF s t c ≤ ((toldF s t c : Nat) : Int))))) (ev_andV (ev_call (ea_cons (ev_var rfl) ea_nil) sv_whole) fun _ => ev_andV (ev_op (ev_var rfl) (ev_call (ea_cons (ev_var rfl) (ea_cons (ev_var rfl) (ea_cons (ev_var rfl) ea_nil))) (sv_te hs ht hc)) (rv_eq rfl)) fun _ => ev_op (ev_var rfl) (ev_var rfl) rv_I0) fun H6 e6 => ?_
    rw [decide_eq_true rfl, decide_eq_true (gap_told' hs.1 ht.1 c)]
    exact q H6 (((((e1.trans e2).trans e3).trans e4).trans e5).trans e6)
abbrev s_law_worst_holds : Stmt := top 33
abbrev N_law_worst_holds : List Str := ["letters", "states", "long", "due", "actual"]
theorem sc_law_worst_holds : FnScope N_law_worst_holds ["letters", "states", "long", "due"] (defScope s_law_worst_holds) := ⟨rfl, rfl, rfl, by decide +kernel, rfl, by decide +kernel, by decide +kernel⟩
def spWH : Sp := fun vs H Q _ => ∃ s t L : Nat, vs = [.int (s : Int), .int (t : Int), .int (L : Int), .int (gapF s t (grF s L))] ∧ (1 ≤ s ∧ s ≤ 6) ∧ (1 ≤ t ∧ t ≤ 10000) ∧ L ≤ cap ∧ RetV (.bl true) H Q
theorem sv_wh {s t L : Nat} {H : Hp} (hs : 1 ≤ s ∧ s ≤ 6) (ht : 1 ≤ t ∧ t ≤ 10000) (hc : L ≤ cap) : SpV spWH [.int (s : Int), .int (t : Int), .int (L : Int), .int (gapF s t (grF s L))] H (.bl true) := fun _ _ _ q _ => ⟨s, t, L, rfl, hs, ht, hc, q⟩
theorem ok_law_worst_holds (D_worst_excess : Dn P w K mg base 4 "worst_excess" s_worst_excess ["size", "standings", "length"] spWE) (D_worst_excess_length_size_standings : Kd P w K mg base 4 "worst_excess" 0 ["length", "size", "standings"] (fun _ zs => p231 zs) spWE) (D_law_whole : Dn P w K mg base 1 "_law_whole" s_law_whole ["value"] spWhole)
    (F : At K mg "_law_worst_holds" s_law_worst_holds) : Dn P w K mg base 5 "_law_worst_holds" s_law_worst_holds ["letters", "states", "long", "due"] spWH := by
  refine dn_ok F sc_law_worst_holds (fun _ _ _ _ _ _ us hl => match us, hl with | [_, _, _, _], _ => rfl) (fun vs H Q E h => ?_) (fun f cdv A outer t H vs Q E hr h => ?_)
  · obtain ⟨s, t, L, rfl, _⟩ := h; rfl
  · obtain ⟨s, t, L, rfl, hs, ht, hc, q⟩ := h
    refine ⟨_, (pss_cons (ps_set (i := 4) sc_law_worst_holds.nd rfl (Or.inl rfl) (pe_dn D_worst_excess hr (by decide) rfl (pa_cons (pv 0) (pa_cons (pv 1) (pa_cons (pv 2) pa_nil)))))
      (pss_one (ps_ret (pe_and (pe_dn D_law_whole hr (by decide) rfl (pa_cons (pv 4) pa_nil)) (pe_and (pe_cmpR op_eq (pv 4) (pv 3) (nomark _)) (pe_one (pe_cmpR op_eq (pe_kd D_worst_excess_length_size_standings hr (by decide) rfl (pk_cons (pv 2) (pk_cons (pv 0) (pk_cons (pv 1) pk_nil)))) (pv 3) (nomark _)))))))), ?_⟩
    refine q_asg (ev_call (ea_cons (ev_var rfl) (ea_cons (ev_var rfl) (ea_cons (ev_var rfl) ea_nil))) (sv_we hs ht hc)) fun H1 e1 => ?_
    refine s_ret (v := .bl (true && (decide (V.int (gapF s t (grF s L)) = V.int (gapF s t (grF s L))) && decide (V.int (gapF s t (grF s L)) = V.int (gapF s t (grF s L)))))) (ev_andV (ev_call (ea_cons (ev_var rfl) ea_nil) sv_whole) fun _ => ev_andV (ev_op (ev_var rfl) (ev_var rfl) (rv_eq rfl)) fun _ => ev_op (ev_callN (vs := []) (zs := [.int (L : Int), .int (s : Int), .int (t : Int)]) ea_nil (ea_cons (ev_var rfl) (ea_cons (ev_var rfl) (ea_cons (ev_var rfl) ea_nil))) rfl rfl (sv_we hs ht hc)) (ev_var rfl) (rv_eq rfl)) fun H2 e2 => ?_
    rw [decide_eq_true rfl]
    exact q H2 (e1.trans e2)
abbrev s_law_big : Stmt := top 30
abbrev N_law_big : List Str := ["parts", "many", "top", "number", "part"]
theorem sc_law_big : FnScope N_law_big ["parts", "many", "top"] (defScope s_law_big) := ⟨rfl, rfl, rfl, by decide +kernel, rfl, by decide +kernel, by decide +kernel⟩
def spBg (K : PySem.W.Frag) : Sp := fun vs H Q _ => ∃ (p : Addr) (ns : List Int) (m : Int) (N : Nat), vs = [.ref p, .int m, .int (N : Int)] ∧ SqL K H p (ns.map V.int) ∧ ∀ z : Nat, z ≤ N → ∀ H2, Ex H H2 → Q (.int (z : Int)) H2
theorem ok_law_big (T : TT mg) (F : At K mg "_law_big" s_law_big) : Dn P w K mg base 1 "_law_big" s_law_big ["parts", "many", "top"] (spBg K) := by
  refine dn_ok F sc_law_big (fun _ _ _ _ _ _ us hl => match us, hl with | [_, _, _], _ => rfl) (fun vs H Q E h => ?_) (fun f cdv A outer t H vs Q E hr h => ?_)
  · obtain ⟨p, ns, m, N, rfl, _⟩ := h; rfl
  · obtain ⟨p, ns, m, N, rfl, hS, q⟩ := h
    refine ⟨_, (pss_cons (ps_set (i := 3) sc_law_big.nd rfl (Or.inl rfl) pe_int)
      (pss_cons (ps_for PassesOwn.never rfl (pi_list (pe_slice sl_list (pv 0) po_none (po_some (pv 1)))) (pg_name (i := 4) sc_law_big.nd rfl (Or.inl rfl))
        (pss_one (ps_set (i := 3) sc_law_big.nd rfl (Or.inl rfl) (pe_op op_add (pe_op op_mul (pv 3) pe_int) (pv 4)))))
      (pss_one (ps_ret (pe_op op_mod (pe_callTy call_int1 (by rfl) T.int_ (by decide +kernel) (pa_cons (pv 3) pa_nil)) (pe_op op_add (pv 2) pe_int)))))), ?_⟩
    refine q_asg ev_c fun H1 e1 => ?_
    refine q_forNLn (K := K) (xs := (cutL ns none (some m)).map V.int) (by rw [← cutL_map, ← cutV_L]; exact el_sl (ev_var rfl) eo_none (eo_some (ev_var rfl)) (ex_l e1 hS)) (fun sp i σ' H' => ∃ (n : Int) (x : Option V), σ' = [some (.ref p), some (.int m), some (.int (N : Int)), some (.int n), x] ∧ Ex H H' ∧ H' sp = some (.lst ((cutL ns none (some m)).map V.int)))
      (fun sp H2 nsp e2 hsp => ⟨0, none, rfl, e1.trans e2, hsp⟩) (fun sp i σ' H' _ ⟨_, _, _, _, h⟩ => sq_of h) ?_ ?_
    · rintro sp i x σ' H' hx ⟨n, x1, rfl, e, hsp⟩
      rw [List.getElem?_map] at hx
      obtain ⟨z, _, rfl⟩ := Option.map_eq_some_iff.mp hx
      exact s_asg (ev_op (ev_op (ev_var rfl) ev_c (rv_I (Or.inr (by decide)))) (ev_var rfl) rv_I0) fun H3 e3 => ⟨_, _, rfl, e.trans e3, e3 _ _ hsp⟩
    · rintro sp σ' H' ⟨n, x1, rfl, e, hsp⟩
      have h0 := Int.emod_nonneg n (show (N : Int) + 1 ≠ 0 by omega)
      have h1 := Int.emod_lt_of_pos n (show 0 < (N : Int) + 1 by omega)
      obtain ⟨z, hz⟩ : ∃ z : Nat, n % ((N : Int) + 1) = (z : Int) := ⟨_, (Int.toNat_of_nonneg h0).symm⟩
      exact s_ret (v := .int (z : Int)) (ev_is (ev_op (ev_int (ev_var rfl)) (ev_op (ev_var rfl) ev_c rv_I0) (rv_I (show 0 < (N : Int) + 1 by omega))) (congrArg V.int hz)) fun H4 e4 => q z (by omega) H4 (e.trans e4)
abbrev s_law_shortest : Stmt := top 27
abbrev N_law_shortest : List Str := ["letters", "many", "total", "left", "here", "wide"]
theorem sc_law_shortest : FnScope N_law_shortest ["letters", "many"] (defScope s_law_shortest) := ⟨rfl, rfl, rfl, by decide +kernel, rfl, by decide +kernel, by decide +kernel⟩
def M14 : Nat := 10 ^ 14
def spSh : Sp := fun vs H Q _ => ∃ s c : Nat, vs = [.int (s : Int), .int (c : Int)] ∧ (1 ≤ s ∧ s ≤ 6) ∧ c ≤ M14 ∧ ∀ z : Nat, z ≤ cap - 1 → ∀ H2, Ex H H2 → Q (.int (z : Int)) H2
theorem ok_law_shortest (T : TT mg) (F : At K mg "_law_shortest" s_law_shortest) : Dn P w K mg base 1 "_law_shortest" s_law_shortest ["letters", "many"] spSh := by
  refine dn_ok F sc_law_shortest (fun _ _ _ _ _ _ us hl => match us, hl with | [_, _], _ => rfl) (fun vs H Q E h => ?_) (fun f cdv A outer t H vs Q E hr h => ?_)
  · obtain ⟨s, c, rfl, _⟩ := h; rfl
  · obtain ⟨s, c, rfl, ⟨h1, h6⟩, hc, q⟩ := h
    refine ⟨_, (pss_cons (ps_if (pt_cmpR op_eq (pv 0) pe_int (nomark _)) (pss_one (ps_ret (pe_op op_fdiv (pe_op op_mulW (pv 1) (pe_op op_add (pv 1) pe_int)) pe_int))) pss_nil)
      (pss_cons (ps_set (i := 2) sc_law_shortest.nd rfl (Or.inl rfl) pe_int)
      (pss_cons (ps_set (i := 3) sc_law_shortest.nd rfl (Or.inl rfl) (pv 1))
      (pss_cons (ps_set (i := 4) sc_law_shortest.nd rfl (Or.inl rfl) pe_int)
      (pss_cons (ps_for PassesOwn.never rfl (pi_range2 (by rfl) T.range (pa_cons pe_int (pa_cons pe_int pa_nil))) (pg_name (i := 5) sc_law_shortest.nd rfl (Or.inl rfl))
        (pss_cons (ps_set (i := 4) sc_law_shortest.nd rfl (Or.inl rfl) (pe_op op_mul (pv 4) (pv 0)))
          (pss_cons (ps_set (i := 2) sc_law_shortest.nd rfl (Or.inl rfl) (pe_op op_add (pv 2) (pe_op op_mul (pv 5) (pe_callB (call_min2 rfl) (by rfl) T.min (by decide +kernel) (pa_cons (pv 3) (pa_cons (pv 4) pa_nil))))))
          (pss_cons (ps_set (i := 3) sc_law_shortest.nd rfl (Or.inl rfl) (pe_op op_sub (pv 3) (pe_callB (call_min2 rfl) (by rfl) T.min (by decide +kernel) (pa_cons (pv 3) (pa_cons (pv 4) pa_nil)))))
          (pss_one (ps_if (pt_cmpR op_eq (pv 3) pe_int (nomark _)) (pss_one ps_break) pss_nil))))))
      (pss_one (ps_ret (pv 2)))))))), ?_⟩
    have hM : M14 = 100000000000000 := by decide
    have hcap : cap = 1000000000000000000000000000001 := by decide +kernel
    refine q_when (et_test (ev_op (ev_var rfl) ev_c (rv_eq rfl))) (fun hb H2 e2 => ?_) (fun hb H2 e2 => ?_)
    · have et : (c : Int) * ((c : Int) + 1) / 2 = ((tri c : Nat) : Int) := by
        unfold tri
        rw [Int.natCast_ediv, Int.natCast_mul, Int.natCast_add]
        rfl
      have htr : tri c ≤ cap - 1 := by
        unfold tri
        have : c * (c + 1) ≤ 100000000000000 * 100000000000001 := Nat.mul_le_mul (by omega) (by omega)
        omega
      have hw : ((c : Nat) : Int).natAbs < 2 ^ 1000 ∧ ((c : Int) + 1).natAbs < 2 ^ 1000 := by
        have : (100000000000002 : Nat) < 2 ^ 1000 := by decide +kernel
        generalize (2 : Nat) ^ 1000 = Z at this ⊢
        constructor <;> omega
      exact s_ret (v := .int ((tri c : Nat) : Int)) (ev_is (ev_op (ev_op (ev_var rfl) (ev_op (ev_var rfl) ev_c rv_I0) (rv_I (wmul hw.1 hw.2))) ev_c (rv_I (by unfold CDiv; decide))) (congrArg V.int et)) fun H3 e3 => q _ htr H3 (e2.trans e3)
    · refine q_asg (v := .int ((0 : Nat) : Int)) (ev_is ev_c rfl) fun H3 e3 => ?_
      refine q_asg (ev_var rfl) fun H4 e4 => ?_
      refine q_asg (v := .int ((1 : Nat) : Int)) (ev_is ev_c rfl) fun H5 e5 => ?_
      refine q_forR2 (ea_cons ev_c (ea_cons ev_c ea_nil)) ⟨by decide, by decide, by decide, by decide⟩ (fun wd σ' H' => ∃ (tt left here : Nat) (x : Option V), σ' = [some (.int (s : Int)), some (.int (c : Int)), some (.int (tt : Int)), some (.int (left : Int)), some (.int (here : Int)), x] ∧ Ex H H' ∧ tt + 199 * left ≤ 199 * c)
        (fun H6 e6 => ⟨0, c, 1, none, rfl, (((e2.trans e3).trans e4).trans e5).trans e6, by omega⟩) ?_ ?_
      · rintro wd σ' H' hw ⟨tt, left, here, x, rfl, e, hinv⟩
        have hw2 : wd + 1 ≤ 199 := by omega
        have ew : (1 : Int) + (wd : Int) = ((wd + 1 : Nat) : Int) := by omega
        rw [ew]
        show tSeq _ _ _ [some (V.int (s : Int)), some (V.int (c : Int)), some (V.int (tt : Int)), some (V.int (left : Int)), some (V.int (here : Int)), some (V.int ((wd + 1 : Nat) : Int))] H'
        refine q_asg (v := .int ((here * s : Nat) : Int)) (ev_is (ev_op (ev_var rfl) (ev_var rfl) (rv_I (Or.inr (by omega)))) (congrArg V.int (Int.natCast_mul _ _).symm)) fun H6 e6 => ?_
        generalize here * s = hs
        have hmin := min2_nat left hs
        have hml : min left hs ≤ left := Nat.min_le_left _ _
        refine q_asg (v := .int ((tt + (wd + 1) * min left hs : Nat) : Int)) (ev_is (ev_op (ev_var rfl) (ev_op (ev_var rfl) (ev_is (ev_min2 (ev_var rfl) (ev_var rfl)) (congrArg V.int hmin)) (rv_I (Or.inl (by omega)))) rv_I0) (congrArg V.int (by rw [Int.natCast_add tt, Int.natCast_mul]))) fun H7 e7 => ?_
        refine q_asg (v := .int ((left - min left hs : Nat) : Int)) (ev_is (ev_op (ev_var rfl) (ev_is (ev_min2 (ev_var rfl) (ev_var rfl)) (congrArg V.int hmin)) rv_I0) (congrArg V.int (by omega))) fun H8 e8 => ?_
        have hinv2 : (tt + (wd + 1) * min left hs) + 199 * (left - min left hs) ≤ 199 * c := by
          have := Nat.mul_le_mul_right (min left hs) hw2
          omega
        refine s_when (et_test (ev_op (ev_var rfl) ev_c (rv_eq rfl))) (fun _ H9 e9 => ?_) (fun _ H9 e9 => ⟨_, _, _, _, rfl, (((e.trans e6).trans e7).trans e8).trans e9, hinv2⟩)
        show tRet (tVar 2) { nx := fun _ H' => Q .non H', rt := Q } _ _
        exact s_ret (ev_var rfl) fun H10 e10 => q _ (by omega) H10 (((((e.trans e6).trans e7).trans e8).trans e9).trans e10)
      · rintro σ' H' ⟨tt, left, here, x, rfl, e, hinv⟩
        exact s_ret (ev_var rfl) fun H10 e10 => q _ (by omega) H10 (e.trans e10)
end
end My

set_option Elab.async false
set_option linter.all false
set_option maxRecDepth 100000
set_option maxHeartbeats 4000000
namespace My
open PySem PySem.Spec PyProof.Rows L2 Evl
/-! ### enumerate(tuple), enumerate(text) -/
theorem meets_enum1 {v : Value} {o : Obj} {H : Heap → Prop} (B : Begins v o H) :
    Meets (Builtin.«enumerate.__new__» ⟨[.type "enumerate", v], []⟩) (fun _ R s => H s.heap ∧
      R (.ok (.ret (.ref (s.heap.push o).objs.size))) { s with heap := (s.heap.push o).push { cls := .type "enumerate", data := .fields #[.none, .bool false, .ref s.heap.objs.size, rawInt 0, .none, .none] } }) :=
  .of_wp fun prog w A R s h => by
    obtain ⟨hp, g, d, tk, os⟩ := s; obtain ⟨h1, h⟩ := h
    have hsub := sub_enumerate
    have q1 : ∀ {A' : Around} {E : Value → Shared → Prop} {Q : Value → Shared → Prop}, Q (.ref hp.objs.size) ⟨hp.push o, g, d, tk, os⟩ → wpAny (model prog w) A' (pyIter v) Q E ⟨hp, g, d, tk, os⟩ :=
      fun q => B.iter prog w _ _ ⟨hp, g, d, tk, os⟩ _ h1 q
    wp_walk using q1
    refine wpAny_stack_any fun st => wpAny_pure ?_
    split
    · rename_i c _ _ _ _ _
      cases (c == Value.type "enumerate")
      · wp_walk using q1
        exact ⟨_, rfl, h⟩
      · wp_walk using q1
        exact ⟨_, rfl, h⟩
    · wp_walk using q1
      exact ⟨_, rfl, h⟩
theorem enum_one {prog : Program} {w : World} {A : Around} {E : Value → Shared → Prop} {s : Shared} {v : Value} {o : Obj} {H : Heap → Prop} {Q : Value → Shared → Prop} (B : Begins v o H) (h1 : H s.heap)
    (h : ∀ h', IsEnum h' (s.heap.objs.size + 1) s.heap.objs.size 0 .none → h'.get? s.heap.objs.size = some o → h'.objs.size = s.heap.objs.size + 2 →
      (∀ b o, s.heap.get? b = some o → h'.get? b = some o) → Q (.ref (s.heap.objs.size + 1)) { s with heap := h' }) :
    wpAny (model prog w) A (call (.type "enumerate") [v]) Q E s := by
  refine callType_new F.called_enumerate (by decide) (F.typeCall_enumerate_1 _) (F.newCall_enumerate_1 _) (fun obj => F.args_object_init_2 obj _) F.entry_enumerate_new
    (meets_enum1 B) ⟨h1, ?_⟩
  have hz : (s.heap.push o).objs.size = s.heap.objs.size + 1 := Heap.size_push ..
  show _ ∧ _
  rw [hz]
  have he : IsEnum ((s.heap.push o).push { cls := .type "enumerate", data := .fields #[.none, .bool false, .ref s.heap.objs.size, rawInt 0, .none, .none] }) (s.heap.objs.size + 1) s.heap.objs.size 0 .none := by
    have := Heap.get?_push_size (s.heap.push o) (o := { cls := .type "enumerate", data := .fields #[.none, .bool false, .ref s.heap.objs.size, rawInt 0, .none, .none] }) rfl
    rw [hz] at this; exact this
  refine ⟨⟨_, he, rfl⟩, h _ he (Heap.get?_push_of_some _ (Heap.get?_push_size _ B.free)) (by rw [Heap.size_push, hz]) fun b o x => Heap.get?_push_of_some _ (Heap.get?_push_of_some _ x)⟩
theorem enum_endT {prog : Program} {w : World} {A : Around} {E : Value → Shared → Prop} {s : Shared} {e it l : Addr} {i : Nat} {items : Array Value} {old : Value} {Q : Option Value → Shared → Prop} (hh : A.handled = none)
    (he : IsEnum s.heap e it i old) (hit : s.heap.IsTupleIter it l i) (hl : s.heap.IsTuple l items) (hx : items[i]? = none)
    (hQ : ∀ h', Heap.ExtBut it s.heap h' → Q none { s with heap := h' }) : wpAny (model prog w) A (pyNext (.ref e)) Q E s := by
  have hT : s.TypeIs (.ref e) "enumerate" := ⟨_, he, rfl⟩
  unfold pyNext
  refine wpAny_bind (wpAny_attempt (wpAny_callSpecial?_slot (name := Str.ofString "__next__") hT F.slot_enumerate_next
    (wpAny_call_entry F.slot_enumerate_next hT F.entry_enumerate_next ?_ (F.args_enumerate_next_1 _))))
  show wpAny _ _ (field (.ref e) 2 >>= _) _ _ _
  refine wpAny_bind (wpAny_field he rfl (x := .ref it) rfl ?_)
  refine wpAny_bind (wpAny_nextOf_tuple_end hh hit hl hx fun h' x he' hx' => ?_)
  obtain ⟨o, ho, hc⟩ := hx'
  refine wpAny_bind (wpAny_isInstance (T := "StopIteration") (b := true) ⟨o, ho, hc⟩ isSubtype_stop ?_)
  exact wpAny_pure (hQ _ he')
/-- the tuple at a -/
def IteT (K : PySem.W.Frag) (a : Addr) : It :=
  ⟨fun i H => ∃ (xs : List V) (x : V), SqT K H a xs ∧ xs[i]? = some x, fun i H v H' => ∃ T x, v = .ref T ∧ H T = none ∧ H' = upd H T (.tup [.int (i : Nat), x]) ∧ ∀ xs, SqT K H a xs → xs[i]? = some x, fun i H => ∃ xs : List V, SqT K H a xs ∧ xs.length ≤ i⟩
/-- the text x -/
def IteS (x : Str) : It :=
  ⟨fun i _ => i < x.cps.size, fun i H v H' => ∃ T c, v = .ref T ∧ H T = none ∧ H' = upd H T (.tup [.int (i : Nat), .str ⟨#[c]⟩]) ∧ x.cps[i]? = some c, fun i _ => x.cps.size ≤ i⟩
theorem turn_enumT {P : Program} {w : World} {K : PySem.W.Frag} {elts : List Expr} {kk : Nat} {tpos : Pos} (a e it : Addr) :
    Turn P w K (.Tuple elts kk tpos) (IteT K a) [e, it] e (fun i h => (∃ old, IsEnum h e it ((i : Nat) : Int) old) ∧ h.IsTupleIter it a i ∧ e ≠ it ∧ e ≠ a ∧ a ≠ it) where
  mem := by simp
  obj := fun i h st b hb => by
    obtain ⟨⟨old, he⟩, ⟨o, ho, hc, hd⟩, _⟩ := st
    have e' : b = e ∨ b = it := by simpa using hb
    rcases e' with z | z
    · rw [z]; exact ⟨_, he, fun v q => nomatch q⟩
    · rw [z]; exact ⟨o, ho, fun v q => by rw [hd] at q; cases q⟩
  keep := fun i h h' st k => let ⟨⟨old, he⟩, hi, hne⟩ := st; ⟨⟨old, k e (by simp) _ he⟩, hi.at fun o q => k it (by simp) o q, hne⟩
  item := by
    intro X hP hw hK hc i pins s σ H E I hf st hg
    subst hP hw hK
    obtain ⟨⟨old, he⟩, hit, hne, hea, hai⟩ := st
    obtain ⟨xs, x, hq, hx⟩ := hg
    obtain ⟨its, rv, p, hz⟩ := I.tuple hq
    obtain ⟨u, hu, ru⟩ := rv.get hx
    have hel : e < s.heap.objs.size := Heap.lt_size he
    have hil : it < s.heap.objs.size := by obtain ⟨_, q, _⟩ := hit; exact Heap.lt_size q
    refine wpAny_pyNext_enum_itemD (Draws.tuple (A := X.A.in1) (I.ok.hd hc) it a hai its.toArray) he ⟨hit, p⟩ (by
      have := (List.getElem?_eq_some_iff.mp hu).1
      simpa using this) hne (by simp [hne, hea]) fun u' h' tk hu' ho hst' hT hsz hk => ?_
    have hu2 : u' = u := by
      have h1 : its[i]? = some u' := by simpa using hu'
      rw [hu] at h1
      exact (Option.some.inj h1).symm
    subst hu2
    refine ⟨_, rfl, wpAny_letOwnedTupleGo_enum (s := { s with heap := h', toks := tk + 1 }) ho fun h'' he' sb => ?_⟩
    have hT2 : h''.get? s.heap.objs.size = some { cls := .type "tuple", data := .seq #[.int i tk, u'] } := (sb.2 _ (Nat.ne_of_gt hel)).trans hT
    have new : ObjOk X.prog X.w (upd H s.heap.objs.size (.tup [.int (i : Nat), x])) h'' s.heap.objs.size (.tup [.int (i : Nat), x]) :=
      ⟨by show 2 ≤ sizeLine; decide, [.int i tk, u'], .cons ⟨_, rfl⟩ (.cons ru .nil), ⟨_, hT2, rfl, _, rfl⟩⟩
    have I1 : Inv X pins σ (upd H s.heap.objs.size (.tup [.int (i : Nat), x])) { s with heap := h'', toks := tk + 1 } :=
      I.turnedNew (ch := [e, it]) (fun b ob hb q => (sb.2 b (fun z => hb (by simp [z]))).trans (hk b ob (fun z => hb (by simp [z])) (fun z => hb (by simp [z])) q)) hf (Nat.le_refl _) new
    refine ⟨.ref s.heap.objs.size, _, I1, rfl, ⟨_, x, rfl, I.hok.fresh (Nat.le_refl _), rfl, fun ys hy => by
      obtain ⟨its2, rv2, p2, _⟩ := I.tuple hy
      have hq2 : ys = xs := I.tuple_inj hy hq
      rw [hq2]; exact hx⟩, ⟨⟨u', ?_⟩, hst'.1.at fun o q => (sb.2 it (Ne.symm hne)).trans q, hne, hea, hai⟩, fun b hb => ?_⟩
    · have e1 : ((i + 1 : Nat) : Int) = (i : Int) + 1 := by omega
      rw [e1]; exact he'
    · have hb' : b < s.heap.objs.size := by
        have e' : b = e ∨ b = it := by simpa using hb
        rcases e' with z | z
        · rw [z]; exact hel
        · rw [z]; exact hil
      rw [upd_ne (Nat.ne_of_lt hb')]
      exact (hf b hb).1
  done := by
    intro X hP hw hK hc i pins s σ H E I hf st hg
    subst hP hw hK
    obtain ⟨⟨old, he⟩, hit, hne, hea, hai⟩ := st
    obtain ⟨xs, hq, hx⟩ := hg
    obtain ⟨its, rv, p, hz⟩ := I.tuple hq
    obtain ⟨f0, f1, f2, f3, f4, f5⟩ := hf it (by simp)
    have hl := rv.length
    exact enum_endT (I.ok.hd hc) he hit p (by simp; omega) fun h' eb => ⟨rfl, I.turned (t' := s.toks) (fun b o hb q => eb b o hb q) f0 f1 f3 f4 f5⟩
  self := fun A i s Q E st h => let ⟨⟨_, he⟩, _⟩ := st; wpAny_pyIter_enum he h
theorem turn_enumS {P : Program} {w : World} {K : PySem.W.Frag} {elts : List Expr} {kk : Nat} {tpos : Pos} (z : Str) (t : Tok) (e it : Addr) :
    Turn P w K (.Tuple elts kk tpos) (IteS z) [e, it] e (fun i h => i ≤ z.cps.size ∧ (∃ old, IsEnum h e it ((i : Nat) : Int) old) ∧ h.IsStrIter it (strIterType z) z t i ∧ e ≠ it) where
  mem := by simp
  obj := fun i h st b hb => by
    obtain ⟨_, ⟨old, he⟩, ⟨o, ho, hc, hd⟩, _⟩ := st
    have e' : b = e ∨ b = it := by simpa using hb
    rcases e' with z | z
    · rw [z]; exact ⟨_, he, fun v q => nomatch q⟩
    · rw [z]; exact ⟨o, ho, fun v q => by rw [hd] at q; cases q⟩
  keep := fun i h h' st k => let ⟨hi0, ⟨old, he⟩, ⟨o, ho, r⟩, hne⟩ := st; ⟨hi0, ⟨old, k e (by simp) _ he⟩, ⟨o, k it (by simp) o ho, r⟩, hne⟩
  item := by
    intro X hP hw hK hc i pins s σ H E I hf st hg
    subst hP hw hK
    obtain ⟨hi0, ⟨old, he⟩, hit, hne⟩ := st
    have hgi : i < z.cps.size := hg
    have hel : e < s.heap.objs.size := Heap.lt_size he
    have hil : it < s.heap.objs.size := by obtain ⟨_, q, _⟩ := hit; exact Heap.lt_size q
    refine wpAny_pyNext_enum_itemD (Draws.text (A := X.A.in1) (I.ok.hd hc) it z t) he hit hgi hne (by simp [hne]) fun u' h' tk hu' ho hst' hT hsz hk => ?_
    obtain ⟨c, u, hcu, rfl⟩ := hu'
    refine ⟨_, rfl, wpAny_letOwnedTupleGo_enum (s := { s with heap := h', toks := tk + 1 }) ho fun h'' he' sb => ?_⟩
    have hT2 : h''.get? s.heap.objs.size = some { cls := .type "tuple", data := .seq #[.int i tk, .str ⟨#[c]⟩ u] } := (sb.2 _ (Nat.ne_of_gt hel)).trans hT
    have new : ObjOk X.prog X.w (upd H s.heap.objs.size (.tup [.int (i : Nat), .str ⟨#[c]⟩])) h'' s.heap.objs.size (.tup [.int (i : Nat), .str ⟨#[c]⟩]) :=
      ⟨by show 2 ≤ sizeLine; decide, [.int i tk, .str ⟨#[c]⟩ u], .cons ⟨_, rfl⟩ (.cons ⟨_, rfl⟩ .nil), ⟨_, hT2, rfl, _, rfl⟩⟩
    have I1 : Inv X pins σ (upd H s.heap.objs.size (.tup [.int (i : Nat), .str ⟨#[c]⟩])) { s with heap := h'', toks := tk + 1 } :=
      I.turnedNew (ch := [e, it]) (fun b ob hb q => (sb.2 b (fun z => hb (by simp [z]))).trans (hk b ob (fun z => hb (by simp [z])) (fun z => hb (by simp [z])) q)) hf (Nat.le_refl _) new
    refine ⟨.ref s.heap.objs.size, _, I1, rfl, ⟨_, c, rfl, I.hok.fresh (Nat.le_refl _), rfl, hcu⟩, ⟨hgi, ⟨.str ⟨#[c]⟩ u, ?_⟩, ?_, hne⟩, fun b hb => ?_⟩
    · have e1 : ((i + 1 : Nat) : Int) = (i : Int) + 1 := by omega
      rw [e1]; exact he'
    · obtain ⟨o, ho2, r⟩ := hst'
      exact ⟨o, (sb.2 it (Ne.symm hne)).trans ho2, r⟩
    · have hb' : b < s.heap.objs.size := by
        have e' : b = e ∨ b = it := by simpa using hb
        rcases e' with z | z
        · rw [z]; exact hel
        · rw [z]; exact hil
      rw [upd_ne (Nat.ne_of_lt hb')]
      exact (hf b hb).1
  done := by
    intro X hP hw hK hc i pins s σ H E I hf st hg
    subst hP hw hK
    obtain ⟨hi0, ⟨old, he⟩, hit, hne⟩ := st
    have hgi : z.cps.size ≤ i := hg
    have hi : i = z.cps.size := by omega
    subst hi
    obtain ⟨f0, f1, f2, f3, f4, f5⟩ := hf it (by simp)
    exact wpAny_pyNext_enum_endD (Draws.text (A := X.A.in1) (I.ok.hd hc) it z t) he hit fun h' eb => ⟨rfl, I.turned (t' := s.toks) (fun b o hb q => eb b o hb q) f0 f1 f3 f4 f5⟩
  self := fun A i s Q E st h => let ⟨_, ⟨_, he⟩, _⟩ := st; wpAny_pyIter_enum he h
def iEnumT (K : PySem.W.Frag) (ta : TA) : TI := fun σ H R => ta σ H fun vs H1 => ∃ a xs, vs = [.ref a] ∧ SqT K H1 a xs ∧ R (IteT K a) H1
def iEnumS (ta : TA) : TI := fun σ H R => ta σ H fun vs H1 => ∃ x, vs = [.str x] ∧ R (IteS x) H1
theorem pi_enumT {X : Cx} {e : Expr} {ta : TA} {p pos tpos : Pos} {elts : List Expr} {kk : Nat} (hg : Gl X "enumerate") (hm : X.mg "enumerate" = none) (ha : PA X [e] ta) (hs : starEach [e] X.env = [(false, eval e X.env)] := by rfl) :
    PI X (.Tuple elts kk tpos) (.Call (.Name "enumerate" p) [e] [] pos) (iEnumT X.K ta) := by
  refine ⟨fun pins s σ H R I h => ?_⟩
  refine Call_ (ld_blt I hg hm boot_enumerate (PyProof.Rows.callWith_type1 (thn (ha.run pos pins s σ H _ I h) fun us s1 ⟨vs, H1, I1, r1, q1⟩ => ?_) hs rfl))
  obtain ⟨a, xs, ex, hq, q⟩ := q1
  subst ex
  cases r1 with
  | cons r rr =>
    cases rr
    cases r
    obtain ⟨its, rv, p', hz⟩ := I1.tuple hq
    have hal : a < s1.heap.objs.size := by obtain ⟨_, q, _⟩ := id p'; exact Heap.lt_size q
    refine enum_one (begins_tuple a its.toArray) p' fun h' he hit hsz hk => wpAny_pyIter_enum he ?_
    have I2 : Inv X pins σ H1 { s1 with heap := h' } := I1.kept (t' := s1.toks) hk
    refine ⟨s1.heap.objs.size + 1, [s1.heap.objs.size + 1, s1.heap.objs.size], _, _, H1, rfl, I2, turn_enumT a (s1.heap.objs.size + 1) s1.heap.objs.size, ⟨⟨.none, he⟩, ⟨_, hit, rfl, rfl⟩, Nat.succ_ne_self _, Nat.ne_of_gt (Nat.lt_succ_of_lt hal), Nat.ne_of_lt hal⟩, fun b hb => ?_, q⟩
    have e' : b = s1.heap.objs.size + 1 ∨ b = s1.heap.objs.size := by simpa using hb
    have hle : s1.heap.objs.size ≤ b := by
      rcases e' with z | z
      · rw [z]; exact Nat.le_add_right _ _
      · rw [z]; exact Nat.le_refl _
    exact I1.fpOk hle (I1.hok.fresh hle)
theorem pi_enumS {X : Cx} {e : Expr} {ta : TA} {p pos tpos : Pos} {elts : List Expr} {kk : Nat} (hg : Gl X "enumerate") (hm : X.mg "enumerate" = none) (ha : PA X [e] ta) (hs : starEach [e] X.env = [(false, eval e X.env)] := by rfl) :
    PI X (.Tuple elts kk tpos) (.Call (.Name "enumerate" p) [e] [] pos) (iEnumS ta) := by
  refine ⟨fun pins s σ H R I h => ?_⟩
  refine Call_ (ld_blt I hg hm boot_enumerate (PyProof.Rows.callWith_type1 (thn (ha.run pos pins s σ H _ I h) fun us s1 ⟨vs, H1, I1, r1, q1⟩ => ?_) hs rfl))
  obtain ⟨x, ex, q⟩ := q1
  subst ex
  cases r1 with
  | cons r rr =>
    cases rr
    obtain ⟨t, rfl⟩ := r
    refine enum_one (begins_text x t) trivial fun h' he hit hsz hk => wpAny_pyIter_enum he ?_
    have I2 : Inv X pins σ H1 { s1 with heap := h' } := I1.kept (t' := s1.toks) hk
    refine ⟨s1.heap.objs.size + 1, [s1.heap.objs.size + 1, s1.heap.objs.size], _, _, H1, rfl, I2, turn_enumS x t (s1.heap.objs.size + 1) s1.heap.objs.size, ⟨Nat.zero_le _, ⟨.none, he⟩, ⟨_, hit, rfl, rfl⟩, Nat.succ_ne_self _⟩, fun b hb => ?_, q⟩
    have e' : b = s1.heap.objs.size + 1 ∨ b = s1.heap.objs.size := by simpa using hb
    have hle : s1.heap.objs.size ≤ b := by
      rcases e' with z | z
      · rw [z]; exact Nat.le_add_right _ _
      · rw [z]; exact Nat.le_refl _
    exact I1.fpOk hle (I1.hok.fresh hle)
end My

set_option linter.all false
namespace My
/-! ### the cut of a text: rows (parent, letter), the place reached -/
def ixR : Nat → List (Nat × Nat) → Nat × Nat → Option Nat
  | _, [], _ => none
  | n, r :: rs, x => if r = x then some n else ixR (n + 1) rs x
def stepC (s : List (Nat × Nat) × Nat) (c : Nat) : List (Nat × Nat) × Nat :=
  match ixR 1 s.1 (s.2, c) with
  | some n => (s.1, n)
  | none => (s.1 ++ [(s.2, c)], 0)
def cutC (text : List Nat) : List (Nat × Nat) × Nat := text.foldl stepC ([], 0)
/-- the texts of the pieces, piece 0 first -/
def piF (rows : List (Nat × Nat)) : List (List Nat) := rows.foldl (fun ps r => ps ++ [ps.getD r.1 [] ++ [r.2]]) [[]]
theorem piF_snoc (rows : List (Nat × Nat)) (r : Nat × Nat) : piF (rows ++ [r]) = piF rows ++ [(piF rows).getD r.1 [] ++ [r.2]] := by
  unfold piF
  rw [List.foldl_append]
  rfl
theorem snoc_ind {α : Type} {P : List α → Prop} (h0 : P []) (hs : ∀ l a, P l → P (l ++ [a])) (l : List α) : P l := by
  have h : ∀ l : List α, P l.reverse := fun l => by
    induction l with
    | nil => exact h0
    | cons a l ih => rw [List.reverse_cons]; exact hs _ _ ih
  have := h l.reverse
  rwa [List.reverse_reverse] at this
theorem piF_len (rows : List (Nat × Nat)) : (piF rows).length = rows.length + 1 := by
  induction rows using snoc_ind with
  | h0 => rfl
  | hs l a ih => rw [piF_snoc, List.length_append, List.length_append, ih]; rfl
theorem piF_zero (rows : List (Nat × Nat)) : (piF rows).getD 0 [] = [] := by
  induction rows using snoc_ind with
  | h0 => rfl
  | hs l a ih =>
    have := piF_len l
    rw [piF_snoc, List.getD_eq_getElem?_getD, List.getElem?_append_left (by omega), ← List.getD_eq_getElem?_getD, ih]
theorem getD_left {α : Type} {a b : List α} {i : Nat} {d : α} (h : i < a.length) : (a ++ b).getD i d = a.getD i d := by
  rw [List.getD_eq_getElem?_getD, List.getElem?_append_left h, ← List.getD_eq_getElem?_getD]
theorem getD_last {α : Type} {a : List α} {x d : α} : (a ++ [x]).getD a.length d = x := by
  rw [List.getD_eq_getElem?_getD, List.getElem?_append_right (Nat.le_refl _), Nat.sub_self]
  rfl
/-- piece i + 1 is what its row says -/
theorem piF_row {rows : List (Nat × Nat)} (hp : ∀ (i : Nat) (r : Nat × Nat), rows[i]? = some r → r.1 ≤ i) : ∀ {i : Nat} {r : Nat × Nat}, rows[i]? = some r → (piF rows).getD (i + 1) [] = (piF rows).getD r.1 [] ++ [r.2] := by
  induction rows using snoc_ind with
  | h0 => intro i r h; cases h
  | hs l a ih =>
    have hl := piF_len l
    intro i r h
    have hpr := hp i r h
    have hi : i < l.length + 1 := by
      have := (List.getElem?_eq_some_iff.mp h).1
      rw [List.length_append] at this
      exact this
    rw [piF_snoc]
    by_cases e : i < l.length
    · rw [List.getElem?_append_left e] at h
      rw [getD_left (by omega), getD_left (by omega)]
      exact ih (fun j q hq => hp j q (by rw [List.getElem?_append_left (List.getElem?_eq_some_iff.mp hq).1]; exact hq)) h
    · have ei : i = l.length := by omega
      subst ei
      rw [List.getElem?_append_right (Nat.le_refl _), Nat.sub_self] at h
      cases Option.some.inj h
      rw [show l.length + 1 = (piF l).length by omega, getD_last, getD_left (by omega)]
theorem ixR_some : ∀ {n : Nat} {rs : List (Nat × Nat)} {x : Nat × Nat} {k : Nat}, ixR n rs x = some k → n ≤ k ∧ rs[k - n]? = some x
  | n, [], x, k, h => by cases h
  | n, r :: rs, x, k, h => by
    unfold ixR at h
    by_cases e : r = x
    · rw [if_pos e] at h
      cases Option.some.inj h
      rw [Nat.sub_self]
      exact ⟨Nat.le_refl _, congrArg some e⟩
    · rw [if_neg e] at h
      obtain ⟨a, b⟩ := ixR_some h
      refine ⟨by omega, ?_⟩
      rw [show k - n = (k - (n + 1)) + 1 by omega]
      exact b
theorem ixR_none : ∀ {n : Nat} {rs : List (Nat × Nat)} {x : Nat × Nat}, ixR n rs x = none → x ∉ rs
  | n, [], x, h => List.not_mem_nil
  | n, r :: rs, x, h => by
    unfold ixR at h
    by_cases e : r = x
    · rw [if_pos e] at h; cases h
    · rw [if_neg e] at h
      intro hm
      rcases List.mem_cons.mp hm with rfl | hm
      · exact e rfl
      · exact ixR_none h hm
/-- what holds of a cut of what was read -/
structure CutOk (text : List Nat) (rows : List (Nat × Nat)) (at_ : Nat) : Prop where
  nd : rows.Nodup
  par : ∀ (i : Nat) (r : Nat × Nat), rows[i]? = some r → r.1 ≤ i
  let_ : ∀ (i : Nat) (r : Nat × Nat), rows[i]? = some r → r.2 ∈ text
  at_le : at_ ≤ rows.length
  joined : ((piF rows).tail).flatten ++ (piF rows).getD at_ [] = text
theorem cutOk_nil : CutOk [] [] 0 := ⟨List.nodup_nil, fun _ _ h => by (cases h), fun _ _ h => by (cases h), Nat.le_refl _, rfl⟩
theorem nodup_snoc {α : Type} {l : List α} {a : α} (h : l.Nodup) (ha : a ∉ l) : (l ++ [a]).Nodup := by
  rw [List.nodup_append]
  refine ⟨h, by simp, fun x hx y hy => ?_⟩
  rw [List.mem_singleton.mp hy]
  exact fun e => ha (e ▸ hx)
theorem tail_snoc {α : Type} {l : List α} {a : α} (h : 0 < l.length) : (l ++ [a]).tail = l.tail ++ [a] := by
  cases l with
  | nil => exact absurd h (Nat.lt_irrefl _)
  | cons b l => rfl
theorem cutOk_step {text : List Nat} {rows : List (Nat × Nat)} {at_ c : Nat} (h : CutOk text rows at_) : CutOk (text ++ [c]) (stepC (rows, at_) c).1 (stepC (rows, at_) c).2 := by
  have hl := piF_len rows
  unfold stepC
  cases e : ixR 1 rows (at_, c) with
  | some k =>
    obtain ⟨a, b⟩ := ixR_some e
    have hk := (List.getElem?_eq_some_iff.mp b).1
    have hrow := piF_row h.par b
    rw [show k - 1 + 1 = k by omega] at hrow
    refine ⟨h.nd, h.par, fun i r hr => List.mem_append_left _ (h.let_ i r hr), by show k ≤ rows.length; omega, ?_⟩
    show _ ++ (piF rows).getD k [] = _
    rw [hrow, ← List.append_assoc, h.joined]
  | none =>
    have hn := ixR_none e
    have he := h.at_le
    refine ⟨nodup_snoc h.nd hn, fun i r hr => ?_, fun i r hr => ?_, Nat.zero_le _, ?_⟩
    · by_cases hi : i < rows.length
      · rw [List.getElem?_append_left hi] at hr
        exact h.par i r hr
      · have := (List.getElem?_eq_some_iff.mp hr).1
        rw [List.length_append] at this
        have ei : i = rows.length := by simp at this; omega
        subst ei
        rw [List.getElem?_append_right (Nat.le_refl _), Nat.sub_self] at hr
        cases Option.some.inj hr
        exact he
    · by_cases hi : i < rows.length
      · rw [List.getElem?_append_left hi] at hr
        exact List.mem_append_left _ (h.let_ i r hr)
      · have := (List.getElem?_eq_some_iff.mp hr).1
        rw [List.length_append] at this
        have ei : i = rows.length := by simp at this; omega
        subst ei
        rw [List.getElem?_append_right (Nat.le_refl _), Nat.sub_self] at hr
        cases Option.some.inj hr
        exact List.mem_append_right _ (by simp)
    · show ((piF (rows ++ [(at_, c)])).tail).flatten ++ (piF (rows ++ [(at_, c)])).getD 0 [] = _
      rw [piF_zero, List.append_nil, piF_snoc, tail_snoc (by omega), List.flatten_append]
      simp only [List.flatten_cons, List.flatten_nil, List.append_nil]
      rw [← List.append_assoc, h.joined]
theorem cutC_snoc (text : List Nat) (c : Nat) : cutC (text ++ [c]) = stepC (cutC text) c := by
  unfold cutC
  rw [List.foldl_append]
  rfl
theorem cutOk (text : List Nat) : CutOk text (cutC text).1 (cutC text).2 := by
  induction text using snoc_ind with
  | h0 => exact cutOk_nil
  | hs l a ih => rw [cutC_snoc]; exact cutOk_step ih
/-- a piece is no longer than its number -/
theorem piF_short {rows : List (Nat × Nat)} (hp : ∀ (i : Nat) (r : Nat × Nat), rows[i]? = some r → r.1 ≤ i) : ∀ i, i ≤ rows.length → ((piF rows).getD i []).length ≤ i := by
  intro i
  induction i using Nat.strongRecOn with
  | ind i ih =>
    intro hi
    cases i with
    | zero => rw [piF_zero]; exact Nat.le_refl _
    | succ i =>
      obtain ⟨r, hr⟩ : ∃ r, rows[i]? = some r := ⟨_, List.getElem?_eq_getElem (by omega)⟩
      have h1 := hp i r hr
      have h2 := ih r.1 (by omega) (by omega)
      rw [piF_row hp hr, List.length_append]
      show _ + 1 ≤ _
      omega
theorem nodup_idx {α : Type} {l : List α} (nd : l.Nodup) {i j : Nat} (hi : i < l.length) (hj : j < l.length) (e : l[i] = l[j]) : i = j := by
  have h := List.pairwise_iff_getElem.mp nd
  rcases Nat.lt_trichotomy i j with z | z | z
  · exact absurd e (h i j hi hj z)
  · exact z
  · exact absurd e.symm (h j i hj hi z)
/-- pieces are told by their texts -/
theorem piF_inj {rows : List (Nat × Nat)} (nd : rows.Nodup) (hp : ∀ (i : Nat) (r : Nat × Nat), rows[i]? = some r → r.1 ≤ i) : ∀ i j, i ≤ rows.length → j ≤ rows.length → (piF rows).getD i [] = (piF rows).getD j [] → i = j := by
  intro i
  induction i using Nat.strongRecOn with
  | ind i ih =>
    intro j hi hj e
    cases i with
    | zero =>
      cases j with
      | zero => rfl
      | succ j =>
        obtain ⟨r, hr⟩ : ∃ r, rows[j]? = some r := ⟨_, List.getElem?_eq_getElem (by omega)⟩
        rw [piF_zero, piF_row hp hr] at e
        simp at e
    | succ i =>
      obtain ⟨q, hq⟩ : ∃ q, rows[i]? = some q := ⟨_, List.getElem?_eq_getElem (by omega)⟩
      rw [piF_row hp hq] at e
      cases j with
      | zero =>
        rw [piF_zero] at e
        simp at e
      | succ j =>
        obtain ⟨r, hr⟩ : ∃ r, rows[j]? = some r := ⟨_, List.getElem?_eq_getElem (by omega)⟩
        rw [piF_row hp hr] at e
        have h1 := hp i q hq
        have h2 := hp j r hr
        obtain ⟨e1, e2⟩ := List.append_inj' e rfl
        have e3 := ih q.1 (by omega) r.1 (by omega) (by omega) e1
        have e4 : q.2 = r.2 := by simpa using e2
        have e5 : q = r := Prod.ext e3 e4
        rw [e5] at hq
        have h5 := (List.getElem?_eq_some_iff.mp hq).1
        have : i = j := by
          have h6 := (List.getElem?_eq_some_iff.mp hr).1
          have a1 := (List.getElem?_eq_some_iff.mp hq).2
          have a2 := (List.getElem?_eq_some_iff.mp hr).2
          exact nodup_idx nd h5 h6 (a1.trans a2.symm)
        omega
end My

set_option Elab.async false
set_option linter.all false
set_option maxRecDepth 100000
set_option maxHeartbeats 4000000
namespace My
open PySem PySem.Spec PyProof.Rows L2 Evl
open SX (S S_len S_cat S_beq S_beq_eq S_inj S_tl)
/-! ### methods and classes at their names -/
structure AtM (K : PySem.W.Frag) (C : Addr) (m qual : Str) (st : Stmt) : Prop where
  ex : ∃ (f : Addr) (fd : FuncData), FunD K m qual (defArgs st) (defBody st) (defScope st) [] [] f fd ∧ Meth K C m f
structure AtI (K : PySem.W.Frag) (C : Addr) (qual : Str) (st : Stmt) : Prop where
  ex : ∃ (f : Addr) (fd : FuncData), FunD K "__init__" qual (defArgs st) (defBody st) (defScope st) [] [] f fd ∧ Mk K C f
structure DnM (P : Program) (w : World) (K : PySem.W.Frag) (mg : Str → Option Value) (base : Heap) (k : Nat) (C : Addr) (m : Str) (ps : List Str) (sp : Sp) : Prop where
  ex : ∃ (f : Addr) (fd : FuncData), FnOk P w K mg base CX0 k f fd ps sp ∧ Meth K C m f ∧ Binds K fd ps []
structure DnI (P : Program) (w : World) (K : PySem.W.Frag) (mg : Str → Option Value) (base : Heap) (k : Nat) (C : Addr) (ps : List Str) (sp : Sp) : Prop where
  ex : ∃ (f : Addr) (fd : FuncData), FnOk P w K mg base CX0 k f fd ps sp ∧ Mk K C f ∧ Binds K fd ps []
section
variable {P : Program} {w : World} {K : PySem.W.Frag} {mg : Str → Option Value} {base : Heap} {m qual : Str} {C : Addr} {st : Stmt} {N ps : List Str} {k : Nat} {sp : Sp}
theorem dnm_ok (F : AtM K C m qual st) (S : FnScope N ps (defScope st))
    (hb : ∀ (kV doc pm : Value) (an : Option Addr) (cdv ct : Value) (us : List Value), us.length = ps.length → bindArgs (PySem.W.fnOf m qual (defArgs st) (defBody st) (defScope st) .none kV doc pm an cdv ct) ⟨us, []⟩ = pure (ps.zip us))
    (len : ∀ vs H Q E, sp vs H Q E → vs.length = ps.length)
    (hbody : ∀ (f : Addr) (cdv : Value) (A : Around) (outer : List Env) (s : Shared) (H : Hp) (vs : List V) (Q : VK) (E : XK), Room k (A.deeper (envOfC qual (defScope st) s.heap.objs.size f cdv)) → sp vs H Q E →
      ∃ t, PSs (cxOf CX0 P w K mg base N qual (defScope st) f cdv A outer s H E).nox (defBody st) t ∧ t { nx := fun _ H' => Q .non H', rt := Q } (start N vs) H) : DnM P w K mg base (k + 1) C m ps sp := by
  obtain ⟨f, fd, F, g⟩ := F.ex
  refine ⟨f, fd, FunD.ok F S len (fun cdv A outer s H vs Q E hr h => ?_), g, F.bindsN hb⟩
  obtain ⟨t, h1, h2⟩ := hbody f cdv A outer s H vs Q E hr h
  exact ⟨t, PSs.nox h1, h2⟩
theorem dni_ok (F : AtI K C qual st) (S : FnScope N ps (defScope st))
    (hb : ∀ (kV doc pm : Value) (an : Option Addr) (cdv ct : Value) (us : List Value), us.length = ps.length → bindArgs (PySem.W.fnOf "__init__" qual (defArgs st) (defBody st) (defScope st) .none kV doc pm an cdv ct) ⟨us, []⟩ = pure (ps.zip us))
    (len : ∀ vs H Q E, sp vs H Q E → vs.length = ps.length)
    (hbody : ∀ (f : Addr) (cdv : Value) (A : Around) (outer : List Env) (s : Shared) (H : Hp) (vs : List V) (Q : VK) (E : XK), Room k (A.deeper (envOfC qual (defScope st) s.heap.objs.size f cdv)) → sp vs H Q E →
      ∃ t, PSs (cxOf CX0 P w K mg base N qual (defScope st) f cdv A outer s H E).nox (defBody st) t ∧ t { nx := fun _ H' => Q .non H', rt := Q } (start N vs) H) : DnI P w K mg base (k + 1) C ps sp := by
  obtain ⟨f, fd, F, g⟩ := F.ex
  refine ⟨f, fd, FunD.ok F S len (fun cdv A outer s H vs Q E hr h => ?_), g, F.bindsN hb⟩
  obtain ⟨t, h1, h2⟩ := hbody f cdv A outer s H vs Q E hr h
  exact ⟨t, PSs.nox h1, h2⟩
end
section
variable {X : Cx} {k j : Nat} {x m : Str} {p pos apos : Pos} {ps : List Str} {sp : Sp} {C : Addr} {e o : Expr} {es : List Expr} {to : TE} {t : TA}
theorem pe_dm {pl : Sem Bool} (D : DnM X.prog X.w X.K X.mg X.base k C m ps sp) (hr : Room j X.A) (hk : k ≤ j) (cl : Cls X.K C) (he : PE X o to) (ha : PA X (e :: es) t)
    (hst : starEach (e :: es) X.env = (false, eval e X.env) :: starEach es X.env := by rfl) (hpl : (backTo pos (starEach es X.env)).any (·.1) = false := by rfl)
    (ht : eval (.Call (.Attribute o m apos) (e :: es) [] pos) X.env = (do
      let ov ← eval o X.env
      standAt apos.atName
      let (f, first) ← holding [ov] (getMethod ov m pl)
      callWith pos f first (backTo pos (starEach (e :: es) X.env)) (backToKw pos (keywordEach [] X.env))) := by rfl) :
    PE X (.Call (.Attribute o m apos) (e :: es) [] pos) (tMeth C m sp [] E0 to t) := by
  obtain ⟨f, fd, F, hm, hb⟩ := D.ex
  exact pe_meth (pl := pl) he cl hm F (hr.mono hk) hb .nil pass0 ha hst hpl ht
theorem pe_di (D : DnI X.prog X.w X.K X.mg X.base k C ps sp) (hr : Room j X.A) (hk : k + 1 ≤ j) (hg : Gl X x) (hm : X.mg x = some (.ref C)) (ha : PA X (e :: es) t)
    (hdb : (x == ("__debug__" : Str)) = false := by decide) (he : starEach (e :: es) X.env = (false, eval e X.env) :: starEach es X.env := by rfl) (hpl : (backTo pos (starEach es X.env)).any (·.1) = false := by rfl) :
    PE X (.Call (.Name x p) (e :: es) [] pos) (tMake C sp [] E0 t) := by
  obtain ⟨f, fd, F, M, hb⟩ := D.ex
  exact pe_make M F (hr.mono hk) hg hm hb .nil pass0 ha (hdb := hdb) (he := he) (hpl := hpl)
theorem pe_di0 (D : DnI X.prog X.w X.K X.mg X.base k C ps sp) (hr : Room j X.A) (hk : k + 1 ≤ j) (hg : Gl X x) (hm : X.mg x = some (.ref C))
    (hdb : (x == ("__debug__" : Str)) = false := by decide) : PE X (.Call (.Name x p) [] [] pos) (tMake C sp [] E0 tNil) := by
  obtain ⟨f, fd, F, M, hb⟩ := D.ex
  exact pe_make0 M F (hr.mono hk) hg hm hb .nil pass0 (hdb := hdb)
end
/-! ### fields -/
theorem putF_len (f : Str) (v : V) : ∀ fs : List (Str × V), (putF f v fs).length ≤ fs.length + 1
  | [] => Nat.le_refl _
  | (g, x) :: r => by
    unfold putF
    split
    · exact Nat.le_succ _
    · have := putF_len f v r
      simp only [List.length_cons]
      omega
theorem putF_same {f : Str} {v x : V} : ∀ {fs : List (Str × V)}, fs.lookup f = some x → (putF f v fs).length = fs.length
  | [], h => by cases h
  | (g, y) :: r, h => by
    unfold putF
    by_cases e : g = f
    · rw [if_pos e]; rfl
    · rw [if_neg e]
      have hb : (f == g) = false := by
        rw [beq_eq_false_iff_ne]
        exact fun z => e z.symm
      rw [List.lookup_cons, hb] at h
      rw [List.length_cons, List.length_cons, putF_same h]
section
variable {K : PySem.W.Frag} {σ : L2.St} {H : Hp} {ta tb te : TE} {v : V} {D : Ends} {tu tz : TS}
theorem ev_fld {a C dx : Addr} {fs : List (Str × V)} {f : Str} (h : Ev te σ H (.ref a)) (ho : H a = some (.ins C dx fs)) (cl : Cls K C) (na : NoAttr K C f) (hl : fs.lookup f = some v) : Ev (tFld K te f) σ H v := fun H1 e Q q =>
  h H1 e _ fun H2 e2 => ⟨a, C, dx, fs, v, rfl, (e.trans e2) a _ ho, cl, na, hl, q H2 e2⟩
theorem s_fld {a C dx : Addr} {fs : List (Str × V)} {f : Str} (h : Ev te σ H v) (ho : Ev ta σ H (.ref a)) (hH : H a = some (.ins C dx fs)) (cl : Cls K C) (na : NoAttr K C f) (hl : fs.length < 1000) (k : ∀ H1, Ex H H1 → D.nx σ (upd H1 a (.ins C dx (putF f v fs)))) : sFld K ta te f D σ H :=
  h H (Ex.refl H) _ fun H1 e1 => ho H1 e1 _ fun H2 e2 => ⟨a, C, dx, fs, rfl, (e1.trans e2) a _ hH, cl, na, hl, k H2 (e1.trans e2)⟩
theorem q_fld {a C dx : Addr} {fs : List (Str × V)} {f : Str} (h : Ev te σ H v) (ho : Ev ta σ H (.ref a)) (hH : H a = some (.ins C dx fs)) (cl : Cls K C) (na : NoAttr K C f) (hl : fs.length < 1000) (k : ∀ H1, Ex H H1 → tz D σ (upd H1 a (.ins C dx (putF f v fs)))) : tSeq (sFld K ta te f) tz D σ H :=
  s_fld (D := { D with nx := tz D }) h ho hH cl na hl k
/-- a new object of any kind -/
def EvN (te : TE) (σ : L2.St) (H : Hp) (o : HO) : Prop := ∀ H1, Ex H H1 → ∀ Q : VK, (∀ p H2, H1 p = none → Ex H1 H2 → H2 p = some o → Q (.ref p) H2) → te σ H1 Q
theorem en_l {xs : List V} (h : EvL te σ H xs) : EvN te σ H (.lst xs) := h
theorem en_u {xs : List V} (h : EvU te σ H xs) : EvN te σ H (.tup xs) := h
theorem en_dT : EvN tDNewT σ H (.dT []) := fun H1 e Q q p hp => q p _ hp (Ex.new hp) upd_same
theorem s_fldN {a C dx : Addr} {fs : List (Str × V)} {f : Str} {o : HO} (h : EvN te σ H o) (ho : Ev ta σ H (.ref a)) (hH : H a = some (.ins C dx fs)) (cl : Cls K C) (na : NoAttr K C f) (hl : fs.length < 1000)
    (k : ∀ p H1, H p = none → Ex H H1 → H1 p = some o → D.nx σ (upd H1 a (.ins C dx (putF f (.ref p) fs)))) : sFld K ta te f D σ H :=
  h H (Ex.refl H) _ fun p H1 hp e1 h1 => ho H1 e1 _ fun H2 e2 => ⟨a, C, dx, fs, rfl, (e1.trans e2) a _ hH, cl, na, hl, k p H2 hp (e1.trans e2) (e2 _ _ h1)⟩
theorem q_fldN {a C dx : Addr} {fs : List (Str × V)} {f : Str} {o : HO} (h : EvN te σ H o) (ho : Ev ta σ H (.ref a)) (hH : H a = some (.ins C dx fs)) (cl : Cls K C) (na : NoAttr K C f) (hl : fs.length < 1000)
    (k : ∀ p H1, H p = none → Ex H H1 → H1 p = some o → tz D σ (upd H1 a (.ins C dx (putF f (.ref p) fs)))) : tSeq (sFld K ta te f) tz D σ H :=
  s_fldN (D := { D with nx := tz D }) h ho hH cl na hl k
theorem q_asgN {i : Nat} {o : HO} (h : EvN te σ H o) (k : ∀ p H1, H p = none → Ex H H1 → H1 p = some o → tz D (σ.set i (some (.ref p))) H1) : tSeq (tAsg te (gName i)) tz D σ H := h H (Ex.refl H) _ k
end
/-! ### dicts whose keys are pairs -/
abbrev kPair (r : Nat × Nat) : List Key := [Sum.inl (r.1 : Int), Sum.inr (S [r.2])]
abbrev rowV (r : Nat × Nat) : List V := [.int (r.1 : Int), .str (S [r.2])]
theorem kPair_V (r : Nat × Nat) : (kPair r).map kV = rowV r := rfl
theorem kPair_inj {r q : Nat × Nat} (h : kPair r = kPair q) : r = q := by
  injection h with h1 h2
  injection h1 with h1
  injection h2 with h2 _
  injection h2 with h2
  have h3 := S_inj h2
  have e1 : r.1 = q.1 := by omega
  have e2 : r.2 = q.2 := by simpa using h3
  exact Prod.ext e1 e2
def numKV : Nat → List (Nat × Nat) → List (List Key × V)
  | _, [] => []
  | n, r :: rs => (kPair r, .int (n : Int)) :: numKV (n + 1) rs
theorem numKV_at : ∀ (n : Nat) (rs : List (Nat × Nat)) (x : Nat × Nat), valV (numKV n rs) (kPair x) = (ixR n rs x).map fun (k : Nat) => V.int (k : Int)
  | _, [], _ => rfl
  | n, r :: rs, x => by
    show valV ((kPair r, V.int (n : Int)) :: numKV (n + 1) rs) (kPair x) = (ixR n (r :: rs) x).map _
    unfold ixR
    by_cases e : r = x
    · rw [if_pos e, valV_pos (congrArg kPair e)]; rfl
    · rw [if_neg e, valV_neg (fun z => e (kPair_inj z)), numKV_at (n + 1) rs x]
theorem numKV_snoc : ∀ (n : Nat) (rs : List (Nat × Nat)) (r : Nat × Nat), numKV n (rs ++ [r]) = numKV n rs ++ [(kPair r, .int ((n + rs.length : Nat) : Int))]
  | n, [], r => rfl
  | n, q :: rs, r => by
    show (kPair q, _) :: numKV (n + 1) (rs ++ [r]) = _
    rw [numKV_snoc (n + 1) rs r, List.length_cons, show n + 1 + rs.length = n + (rs.length + 1) by omega]
    rfl
theorem numKV_len : ∀ (n : Nat) (rs : List (Nat × Nat)), (numKV n rs).length = rs.length
  | _, [] => rfl
  | n, r :: rs => congrArg Nat.succ (numKV_len (n + 1) rs)
/-! ### rows as tuples -/
abbrev rV (as : List Addr) : List V := as.map V.ref
def RowsAt (H : Hp) : List Addr → List (Nat × Nat) → Prop
  | [], [] => True
  | a :: as, r :: rs => H a = some (.tup (rowV r)) ∧ RowsAt H as rs
  | _, _ => False
theorem RowsAt.ex {H H' : Hp} (e : Ex H H') : ∀ {as : List Addr} {rs : List (Nat × Nat)}, RowsAt H as rs → RowsAt H' as rs
  | [], [], _ => trivial
  | _ :: _, _ :: _, h => ⟨e _ _ h.1, h.2.ex e⟩
  | [], _ :: _, h => h.elim
  | _ :: _, [], h => h.elim
theorem RowsAt.len {H : Hp} : ∀ {as : List Addr} {rs : List (Nat × Nat)}, RowsAt H as rs → as.length = rs.length
  | [], [], _ => rfl
  | _ :: _, _ :: _, h => congrArg Nat.succ h.2.len
  | [], _ :: _, h => h.elim
  | _ :: _, [], h => h.elim
theorem RowsAt.get {H : Hp} : ∀ {as : List Addr} {rs : List (Nat × Nat)}, RowsAt H as rs → ∀ {i : Nat} {x : V}, (rV as)[i]? = some x → ∃ a r, x = .ref a ∧ rs[i]? = some r ∧ H a = some (.tup (rowV r))
  | [], [], _, i, x, h => by cases h
  | a :: as, r :: rs, h, 0, x, hx => ⟨a, r, (Option.some.inj hx).symm, rfl, h.1⟩
  | a :: as, r :: rs, h, i + 1, x, hx => h.2.get (i := i) hx
  | [], _ :: _, h, _, _, _ => h.elim
  | _ :: _, [], h, _, _, _ => h.elim
theorem RowsAt.snoc {H : Hp} {a : Addr} {r : Nat × Nat} (ha : H a = some (.tup (rowV r))) : ∀ {as : List Addr} {rs : List (Nat × Nat)}, RowsAt H as rs → RowsAt H (as ++ [a]) (rs ++ [r])
  | [], [], _ => ⟨ha, trivial⟩
  | _ :: _, _ :: _, h => ⟨h.1, h.2.snoc ha⟩
  | [], _ :: _, h => h.elim
  | _ :: _, [], h => h.elim
/-- all that stands in H stands in H', but for these three -/
def But3 (H H' : Hp) (p l d : Addr) : Prop := ∀ b o, H b = some o → b ≠ p → b ≠ l → b ≠ d → H' b = some o
theorem RowsAt.but {H H' : Hp} {p l d : Addr} (e : But3 H H' p l d) (hp : ∀ xs, H p ≠ some (.tup xs)) (hl : ∀ xs, H l ≠ some (.tup xs)) (hd : ∀ xs, H d ≠ some (.tup xs)) : ∀ {as : List Addr} {rs : List (Nat × Nat)}, RowsAt H as rs → RowsAt H' as rs
  | [], [], _ => trivial
  | a :: _, _ :: _, h => ⟨e _ _ h.1 (fun z => hp _ (z ▸ h.1)) (fun z => hl _ (z ▸ h.1)) (fun z => hd _ (z ▸ h.1)), h.2.but e hp hl hd⟩
  | [], _ :: _, h => h.elim
  | _ :: _, [], h => h.elim
end My
namespace My
open PySem PySem.Spec PyProof.Rows L2 Evl
open SX (S S_len S_cat S_beq S_beq_eq S_inj S_tl)
/-! ### for i, c in enumerate(text); for i, (a, b) in enumerate(rows); for a, b in rows -/
section
variable {K : PySem.W.Frag} {σ : L2.St} {H : Hp} {te : TE} {D : Ends} {tu tz : TS} {g : TG}
theorem g_two {i j : Nat} {T : Addr} {x y : V} {Q : L2.St → Hp → Prop} (h : H T = some (.tup [x, y])) (q : Q ((σ.set i (some x)).set j (some y)) H) : gTup K 2 (gCons (gName i) (gCons (gName j) gNil)) (.ref T) σ H Q :=
  ⟨T, [x, y], rfl, st_of h, rfl, x, [y], rfl, y, [], rfl, rfl, q⟩
theorem g_three {i j k : Nat} {T a : Addr} {x y z : V} {Q : L2.St → Hp → Prop} (h : H T = some (.tup [x, .ref a])) (h2 : H a = some (.tup [y, z])) (q : Q (((σ.set i (some x)).set j (some y)).set k (some z)) H) :
    gTup K 2 (gCons (gName i) (gCons (gTup K 2 (gCons (gName j) (gCons (gName k) gNil))) gNil)) (.ref T) σ H Q :=
  ⟨T, [x, .ref a], rfl, st_of h, rfl, x, [.ref a], rfl, .ref a, [], rfl, a, [y, z], rfl, st_of h2, rfl, y, [z], rfl, z, [], rfl, rfl, rfl, q⟩
theorem s_forES {l : List Nat} (h : Ev te σ H (.str (S l))) (Pv : Nat → L2.St → Hp → Prop) (h0 : ∀ H1, Ex H H1 → Pv 0 σ H1)
    (hs : ∀ n c σ' H', l[n]? = some c → Pv n σ' H' → ∀ T H1, Ex H' H1 → H1 T = some (.tup [.int (n : Nat), .str (S [c])]) → g (.ref T) σ' H1 fun σ2 H2 => tu { D with nx := Pv (n + 1), ct := Pv (n + 1), bk := D.nx } σ2 H2)
    (hd : ∀ σ' H', Pv l.length σ' H' → D.nx σ' H') : tFor (iEnumS (tCons te tNil)) g tu D σ H :=
  h H (Ex.refl H) _ fun H1 e => ⟨S l, rfl, fun n m σ H => m = l.length - n ∧ n ≤ l.length ∧ Pv n σ H, ⟨l.length, by simp, Nat.zero_le _, h0 H1 e⟩, by
    rintro n m σ' H' ⟨rfl, hn, p⟩
    by_cases hlt : n < l.length
    · refine .inr ⟨by show n < (S l).cps.size; rw [← Array.length_toList]; exact hlt, Pv (n + 1), fun σ2 H2 p2 => ⟨l.length - (n + 1), by omega, rfl, hlt, p2⟩, fun y H2 hy => ?_⟩
      obtain ⟨T, c, rfl, hT, rfl, hc⟩ := hy
      rw [← Array.getElem?_toList] at hc
      exact hs n c σ' H' hc p T _ (Ex.new hT) upd_same
    · have e1 : n = l.length := by omega
      subst e1
      exact .inl ⟨by show (S l).cps.size ≤ l.length; rw [← Array.length_toList]; exact Nat.le_refl _, hd σ' H' p⟩⟩
theorem s_forET {a : Addr} {xs : List V} (h : Ev te σ H (.ref a)) (hx : SqT K H a xs) (Pv : Nat → L2.St → Hp → Prop) (h0 : ∀ H1, Ex H H1 → Pv 0 σ H1) (hl : ∀ n σ' H', Pv n σ' H' → SqT K H' a xs)
    (hs : ∀ n x σ' H', xs[n]? = some x → Pv n σ' H' → ∀ T H1, Ex H' H1 → H1 T = some (.tup [.int (n : Nat), x]) → g (.ref T) σ' H1 fun σ2 H2 => tu { D with nx := Pv (n + 1), ct := Pv (n + 1), bk := D.nx } σ2 H2)
    (hd : ∀ σ' H', Pv xs.length σ' H' → D.nx σ' H') : tFor (iEnumT K (tCons te tNil)) g tu D σ H :=
  h H (Ex.refl H) _ fun H1 e => ⟨a, xs, rfl, ex_t e hx, fun n m σ H => m = xs.length - n ∧ n ≤ xs.length ∧ Pv n σ H, ⟨xs.length, by simp, Nat.zero_le _, h0 H1 e⟩, by
    rintro n m σ' H' ⟨rfl, hn, p⟩
    by_cases hlt : n < xs.length
    · refine .inr ⟨⟨xs, xs[n], hl n σ' H' p, List.getElem?_eq_getElem hlt⟩, Pv (n + 1), fun σ2 H2 p2 => ⟨xs.length - (n + 1), by omega, rfl, hlt, p2⟩, fun y H2 hy => ?_⟩
      obtain ⟨T, x, rfl, hT, rfl, hc⟩ := hy
      exact hs n x σ' H' (hc xs (hl n σ' H' p)) p T _ (Ex.new hT) upd_same
    · have e1 : n = xs.length := by omega
      subst e1
      exact .inl ⟨⟨xs, hl _ σ' H' p, Nat.le_refl _⟩, hd σ' H' p⟩⟩
theorem s_dputT {tv td ty : TE} {d b : Addr} {kvs : List (List Key × V)} {k : List Key} {v : V} (hv : Ev tv σ H v) (ho : Ev td σ H (.ref d)) (hi : Ev ty σ H (.ref b)) (hd : H d = some (.dT kvs)) (hb : H b = some (.tup (k.map kV))) (hl : kvs.length < sizeLine)
    (kk : ∀ H1, Ex H H1 → D.nx σ (upd H1 d (.dT (putK kvs k v)))) : sDPut td ty tv D σ H :=
  hv H (Ex.refl H) _ fun H1 e1 => ho H1 e1 _ fun H2 e2 => hi H2 (e1.trans e2) _ fun H3 e3 => ⟨d, _, rfl, DPut.t (((e1.trans e2).trans e3) _ _ hd) (((e1.trans e2).trans e3) _ _ hb) hl, kk H3 ((e1.trans e2).trans e3)⟩
theorem q_dputT {tv td ty : TE} {d b : Addr} {kvs : List (List Key × V)} {k : List Key} {v : V} (hv : Ev tv σ H v) (ho : Ev td σ H (.ref d)) (hi : Ev ty σ H (.ref b)) (hd : H d = some (.dT kvs)) (hb : H b = some (.tup (k.map kV))) (hl : kvs.length < sizeLine)
    (kk : ∀ H1, Ex H H1 → tz D σ (upd H1 d (.dT (putK kvs k v)))) : tSeq (sDPut td ty tv) tz D σ H := s_dputT (D := { D with nx := tz D }) hv ho hi hd hb hl kk
/-- d[a, b] = v, the pair a new tuple -/
theorem s_dputU {tv td ty : TE} {d : Addr} {kvs : List (List Key × V)} {k : List Key} {v : V} (hv : Ev tv σ H v) (ho : Ev td σ H (.ref d)) (hi : EvU ty σ H (k.map kV)) (hd : H d = some (.dT kvs)) (hl : kvs.length < sizeLine)
    (kk : ∀ H1, Ex H H1 → D.nx σ (upd H1 d (.dT (putK kvs k v)))) : sDPut td ty tv D σ H :=
  hv H (Ex.refl H) _ fun H1 e1 => ho H1 e1 _ fun H2 e2 => hi H2 (e1.trans e2) _ fun b H3 hb0 e3 hb => ⟨d, _, rfl, DPut.t (((e1.trans e2).trans e3) _ _ hd) hb hl, kk H3 ((e1.trans e2).trans e3)⟩
/-- (a, b) in d -/
theorem ev_dinU {ta tb : TE} {d : Addr} {kvs : List (List Key × V)} {k : List Key} (ha : EvU ta σ H (k.map kV)) (hb : Ev tb σ H (.ref d)) (hd : H d = some (.dT kvs)) : Ev (tDIn ta tb) σ H (.bl (valV kvs k).isSome) := fun H1 e Q q =>
  ha H1 e _ fun b H2 hb0 e2 h2 => hb H2 (e.trans e2) _ fun H3 e3 => ⟨d, _, rfl, DGet.t (((e.trans e2).trans e3) _ _ hd) (e3 _ _ h2), q H3 (e2.trans e3)⟩
theorem put_lt1 (f : Str) (v : V) : (putF f v []).length < 1000 := by
  have := putF_len f v []
  simp only [List.length_nil] at this
  omega
theorem put_lt2 (f g : Str) (v u : V) : (putF f v (putF g u [])).length < 1000 := by
  have := putF_len f v (putF g u [])
  have := putF_len g u []
  simp only [List.length_nil] at this
  omega
theorem s_retMake {C : Addr} {sp : Sp} {E : XK} {t : TA} {vs : List V} (h : EvA t σ H vs) (k : ∀ H1, Ex H H1 → ∀ x dx, H1 x = none → H1 dx = none → dx ≠ x → sp (.ref x :: (vs ++ [])) (upd (upd H1 dx (.own x)) x (.ins C dx [])) (fun v H2 => v = .non ∧ D.rt (.ref x) H2) E) : tRet (tMake C sp [] E t) D σ H :=
  h H (Ex.refl H) _ fun H1 e1 => k H1 e1
end
end My

set_option Elab.async false
set_option linter.all false
set_option maxRecDepth 100000
set_option maxHeartbeats 4000000
namespace My
open PySem PySem.Spec PyProof.Rows L2 Evl
open SX (S S_len S_cat S_beq S_beq_eq S_inj S_tl)
/-! ### rows of stretches -/
abbrev Parts := List (Int × Int)
def seg (line : List Nat) (p : Int × Int) : List Nat := cutL line (some p.1) (some p.2)
def stP (line : List Nat) (s : Option (Int × List (List Nat))) (p : Int × Int) : Option (Int × List (List Nat)) :=
  match s with
  | none => none
  | some (le, ws) => if (le ≤ p.1 ∧ p.1 < p.2 ∧ p.2 ≤ (line.length : Int)) ∧ seg line p ∉ ws then some (p.2, seg line p :: ws) else none
def stF (line : List Nat) (row : Parts) : Option (Int × List (List Nat)) := row.foldl (stP line) (some (0, []))
def goodF (line : List Nat) (row : Parts) : Bool := (stF line row).isSome
theorem st_none (line : List Nat) : ∀ row : Parts, row.foldl (stP line) none = none
  | [] => rfl
  | _ :: r => st_none line r
theorem stF_app (line : List Nat) (r1 r2 : Parts) : stF line (r1 ++ r2) = r2.foldl (stP line) (stF line r1) := List.foldl_append
theorem stF_take {line : List Nat} {row : Parts} {i : Nat} (h : i < row.length) : stF line (row.take (i + 1)) = stP line (stF line (row.take i)) (row.getD i (0, 0)) := by
  rw [List.take_succ_eq_append_getElem h, stF_app, List.getD_eq_getElem?_getD, List.getElem?_eq_getElem h]
  rfl
theorem bad_take {line : List Nat} {row : Parts} {i : Nat} (h : stF line (row.take i) = none) : goodF line row = false := by
  unfold goodF
  have e : stF line row = (row.drop i).foldl (stP line) (stF line (row.take i)) := by rw [← stF_app, List.take_append_drop]
  rw [e, h, st_none]
  rfl
theorem good_end {line : List Nat} {row : Parts} {s : Int × List (List Nat)} (h : stF line (row.take row.length) = some s) : goodF line row = true := by
  unfold goodF
  rw [List.take_length] at h
  rw [h]
  rfl
theorem stP_yes {line : List Nat} {le : Int} {ws : List (List Nat)} {p : Int × Int} (h : le ≤ p.1 ∧ p.1 < p.2 ∧ p.2 ≤ (line.length : Int)) (hw : seg line p ∉ ws) : stP line (some (le, ws)) p = some (p.2, seg line p :: ws) := if_pos ⟨h, hw⟩
theorem stP_no1 {line : List Nat} {le : Int} {ws : List (List Nat)} {p : Int × Int} (h : ¬ (le ≤ p.1 ∧ p.1 < p.2 ∧ p.2 ≤ (line.length : Int))) : stP line (some (le, ws)) p = none := if_neg fun c => h c.1
theorem stP_no2 {line : List Nat} {le : Int} {ws : List (List Nat)} {p : Int × Int} (h : seg line p ∈ ws) : stP line (some (le, ws)) p = none := if_neg fun c => c.2 h
/-! a row of objects -/
def pV (p : Int × Int) : List V := [.int p.1, .int p.2]
def Row (o i : List V → HO) (H : Hp) (p : Addr) (row : Parts) : Prop := ∃ ps : List Addr, H p = some (o (ps.map V.ref)) ∧ ps.length = row.length ∧ ∀ k, k < row.length → H (ps.getD k 0) = some (i (pV (row.getD k (0, 0))))
theorem Row.ex {o i : List V → HO} {H H' : Hp} {p : Addr} {row : Parts} (h : Row o i H p row) (e : Ex H H') : Row o i H' p row := by
  obtain ⟨ps, a, b, c⟩ := h
  exact ⟨ps, e _ _ a, b, fun k hk => e _ _ (c k hk)⟩
abbrev RowT := Row .lst .tup
abbrev RowL := Row .lst .lst
abbrev RowU := Row .tup .tup
theorem ref_at {ps : List Addr} {k : Nat} {x : V} (h : (ps.map V.ref)[k]? = some x) : x = .ref (ps.getD k 0) ∧ k < ps.length := by
  rw [List.getElem?_map] at h
  cases e : ps[k]? with
  | none => rw [e] at h; cases h
  | some a =>
    rw [e] at h
    refine ⟨?_, (List.getElem?_eq_some_iff.mp e).1⟩
    rw [List.getD_eq_getElem?_getD, e]
    exact (Option.some.inj h).symm
theorem atI_ref {ps : List Addr} {k : Nat} (h : k < ps.length) : atI (ps.map V.ref) (k : Int) = some (.ref (ps.getD k 0)) := atI_nat (by
  rw [List.getElem?_map, List.getElem?_eq_getElem h, List.getD_eq_getElem?_getD, List.getElem?_eq_getElem h]
  rfl)
theorem p0 (p : Int × Int) : atI (pV p) 0 = some (.int p.1) := rfl
theorem p1 (p : Int × Int) : atI (pV p) 1 = some (.int p.2) := rfl
end My

set_option Elab.async false
set_option linter.all false
set_option maxRecDepth 100000
set_option maxHeartbeats 4000000
namespace My
open PySem PySem.Spec PyProof.Rows L2 Evl
open SX (S S_len S_cat S_beq S_beq_eq S_inj S_tl)
/-- a row and its places -/
def RowX (H : Hp) (p : Addr) (row : Parts) (ps : List Addr) : Prop := H p = some (.lst (ps.map V.ref)) ∧ ps.length = row.length ∧ ∀ k, k < row.length → H (ps.getD k 0) = some (.tup (pV (row.getD k (0, 0))))
theorem RowX.row {H : Hp} {p : Addr} {row : Parts} {ps : List Addr} (h : RowX H p row ps) : RowT H p row := ⟨ps, h⟩
theorem RowX.ex {H H' : Hp} {p : Addr} {row : Parts} {ps : List Addr} (h : RowX H p row ps) (e : Ex H H') : RowX H' p row ps := ⟨e _ _ h.1, h.2.1, fun k hk => e _ _ (h.2.2 k hk)⟩
theorem RowX.upd {H : Hp} {p d : Addr} {row : Parts} {ps : List Addr} {o u : HO} (h : RowX H p row ps) (hd : H d = some u) (h1 : ∀ xs, u ≠ .lst xs) (h2 : ∀ xs, u ≠ .tup xs) : RowX (upd H d o) p row ps :=
  ⟨by rw [upd_ne (ne_of h.1 hd fun c => h1 _ c.symm)]; exact h.1, h.2.1, fun k hk => by rw [upd_ne (ne_of (h.2.2 k hk) hd fun c => h2 _ c.symm)]; exact h.2.2 k hk⟩
theorem getD_snoc {α : Type} (l : List α) (x d : α) (k : Nat) : (l ++ [x]).getD k d = if k < l.length then l.getD k d else if k = l.length then x else d := by
  rw [List.getD_eq_getElem?_getD, List.getD_eq_getElem?_getD]
  by_cases h : k < l.length
  · rw [if_pos h, List.getElem?_append_left h]
  · rw [if_neg h, List.getElem?_append_right (by omega)]
    by_cases e : k = l.length
    · subst e; simp
    · rw [if_neg e, List.getElem?_eq_none (by simp; omega)]; rfl
/-- one more part, at q -/
theorem RowX.app {H : Hp} {p q : Addr} {row : Parts} {ps : List Addr} {pt : Int × Int} (h : RowX H p row ps) (hq : H q = some (.tup (pV pt))) : RowX (L2.upd H p (.lst (ps.map V.ref ++ [.ref q]))) p (row ++ [pt]) (ps ++ [q]) := by
  refine ⟨?_, by rw [List.length_append, List.length_append, h.2.1]; rfl, fun k hk => ?_⟩
  · rw [List.map_append]
    exact upd_same
  · rw [getD_snoc, getD_snoc, h.2.1]
    by_cases c : k < row.length
    · rw [if_pos c, if_pos c, upd_ne (ne_of (h.2.2 k c) h.1 (by intro z; cases z))]
      exact h.2.2 k c
    · have e : k = row.length := by rw [List.length_append] at hk; simp at hk; omega
      rw [if_neg c, if_neg c, if_pos e, if_pos e, upd_ne (ne_of hq h.1 (by intro z; cases z))]
      exact hq
/-- the last part put anew, at q -/
theorem RowX.last {H : Hp} {p q : Addr} {row : Parts} {ps : List Addr} {pt : Int × Int} (h : RowX H p row ps) (hr : row ≠ []) (hq : H q = some (.tup (pV pt))) :
    RowX (L2.upd H p (.lst ((ps.map V.ref).set (row.length - 1) (.ref q)))) p (row.dropLast ++ [pt]) (ps.dropLast ++ [q]) := by
  have hl : 0 < row.length := List.length_pos_iff.mpr hr
  have e : (ps.map V.ref).set (row.length - 1) (.ref q) = (ps.dropLast.map V.ref) ++ [.ref q] := by
    have hp : ps ≠ [] := by intro c; rw [c] at h; have := h.2.1; simp at this; omega
    obtain ⟨qs, y, rfl⟩ : ∃ qs y, ps = qs ++ [y] := ⟨ps.dropLast, ps.getLast hp, (List.dropLast_concat_getLast hp).symm⟩
    have : row.length - 1 = (qs.map V.ref).length := by have := h.2.1; simp at this; rw [List.length_map]; omega
    rw [this, List.map_append, List.dropLast_concat, List.set_append_right _ _ (Nat.le_refl _), Nat.sub_self]
    rfl
  rw [e]
  have h2 : ps.dropLast.length = row.dropLast.length := by rw [List.length_dropLast, List.length_dropLast, h.2.1]
  refine ⟨?_, by rw [List.length_append, List.length_append, h2]; rfl, fun k hk => ?_⟩
  · rw [List.map_append]
    exact upd_same
  · rw [getD_snoc, getD_snoc, h2]
    by_cases c : k < row.dropLast.length
    · have ck : k < row.length := by rw [List.length_dropLast] at c; omega
      have g1 : ps.dropLast.getD k 0 = ps.getD k 0 := by
        rw [List.getD_eq_getElem?_getD, List.getD_eq_getElem?_getD, List.getElem?_dropLast, if_pos (by rw [List.length_dropLast] at c; rw [h.2.1]; omega)]
      have g2 : row.dropLast.getD k (0, 0) = row.getD k (0, 0) := by
        rw [List.getD_eq_getElem?_getD, List.getD_eq_getElem?_getD, List.getElem?_dropLast, if_pos (by rw [List.length_dropLast] at c; omega)]
      rw [if_pos c, if_pos c, g1, g2, upd_ne (ne_of (h.2.2 k ck) h.1 (by intro z; cases z))]
      exact h.2.2 k ck
    · have e : k = row.dropLast.length := by rw [List.length_append] at hk; simp at hk; simp at c; rw [List.length_dropLast]; omega
      rw [if_neg c, if_neg c, if_pos e, if_pos e, upd_ne (ne_of hq h.1 (by intro z; cases z))]
      exact hq
/-! parts in order -/
def InOrd (n : Int) : Int → Parts → Prop
  | _, [] => True
  | lo, p :: r => lo ≤ p.1 ∧ p.1 < p.2 ∧ p.2 ≤ n ∧ InOrd n p.2 r
def endF : Int → Parts → Int
  | lo, [] => lo
  | _, p :: r => endF p.2 r
theorem ord_snoc {n : Int} {pt : Int × Int} : ∀ {lo : Int} {row : Parts}, InOrd n lo (row ++ [pt]) ↔ InOrd n lo row ∧ endF lo row ≤ pt.1 ∧ pt.1 < pt.2 ∧ pt.2 ≤ n
  | lo, [] => by simp [InOrd, endF]
  | lo, p :: r => by
    have ih := @ord_snoc n pt p.2 r
    show (lo ≤ p.1 ∧ p.1 < p.2 ∧ p.2 ≤ n ∧ InOrd n p.2 (r ++ [pt])) ↔ (lo ≤ p.1 ∧ p.1 < p.2 ∧ p.2 ≤ n ∧ InOrd n p.2 r) ∧ endF p.2 r ≤ pt.1 ∧ pt.1 < pt.2 ∧ pt.2 ≤ n
    rw [ih]
    constructor
    · rintro ⟨a, b, c, d, e⟩; exact ⟨⟨a, b, c, d⟩, e⟩
    · rintro ⟨⟨a, b, c, d⟩, e⟩; exact ⟨a, b, c, d, e⟩
theorem end_snoc (pt : Int × Int) : ∀ (lo : Int) (row : Parts), endF lo (row ++ [pt]) = pt.2
  | _, [] => rfl
  | _, p :: r => end_snoc pt p.2 r
theorem ord_at {n : Int} : ∀ {lo : Int} {row : Parts} {i : Nat}, InOrd n lo row → i < row.length → endF lo (row.take i) ≤ (row.getD i (0, 0)).1 ∧ (row.getD i (0, 0)).1 < (row.getD i (0, 0)).2 ∧ (row.getD i (0, 0)).2 ≤ n := by
  intro lo row i h hi
  have e : row = row.take i ++ (row.getD i (0, 0) :: row.drop (i + 1)) := by
    rw [List.getD_eq_getElem?_getD, List.getElem?_eq_getElem hi]
    show row = row.take i ++ (row[i] :: row.drop (i + 1))
    rw [← List.drop_eq_getElem_cons hi, List.take_append_drop]
  have key : ∀ (lo : Int) (r1 r2 : Parts) (pt : Int × Int), InOrd n lo (r1 ++ (pt :: r2)) → endF lo r1 ≤ pt.1 ∧ pt.1 < pt.2 ∧ pt.2 ≤ n := by
    intro lo r1
    induction r1 generalizing lo with
    | nil => intro r2 pt h; exact ⟨h.1, h.2.1, h.2.2.1⟩
    | cons p r ih => intro r2 pt h; exact ih p.2 r2 pt h.2.2.2
  rw [e] at h
  exact key lo _ _ _ h
theorem end_take {row : Parts} {i : Nat} (h : i < row.length) (lo : Int) : endF lo (row.take (i + 1)) = (row.getD i (0, 0)).2 := by
  rw [List.take_succ_eq_append_getElem h, end_snoc, List.getD_eq_getElem?_getD, List.getElem?_eq_getElem h]
  rfl
theorem stF_snoc {line : List Nat} {row : Parts} {pt : Int × Int} {le : Int} {ws : List (List Nat)} (h : stF line row = some (le, ws)) (h1 : le ≤ pt.1) (h2 : pt.1 < pt.2) (h3 : pt.2 ≤ (line.length : Int)) (h4 : seg line pt ∉ ws) : stF line (row ++ [pt]) = some (pt.2, seg line pt :: ws) := by
  rw [stF_app, h]
  exact stP_yes ⟨h1, h2, h3⟩ h4
theorem good_of {line : List Nat} {row : Parts} {s : Int × List (List Nat)} (h : stF line row = some s) : goodF line row = true := by
  unfold goodF
  rw [h]
  rfl
/-- xs[i] = (.., ..) -/
theorem s_setLU {σ : L2.St} {H : Hp} {ta tb te : TE} {D : Ends} {l : Addr} {xs ys : List V} {i : Int} {j : Nat} (hl : H l = some (.lst xs)) (h : EvU te σ H ys) (ho : Ev ta σ H (.ref l)) (hi : Ev tb σ H (.int i)) (hj : ixN xs.length i = some j) (k : ∀ p H1, H p = none → Ex H H1 → H1 p = some (.tup ys) → D.nx σ (upd H1 l (.lst (xs.set j (.ref p))))) :
    tAsg te (gSub ta tb rSetL) D σ H := h H (Ex.refl H) _ fun p H1 hp e1 h1 => ho H1 e1 _ fun H2 e2 => hi H2 (e1.trans e2) _ fun H3 e3 =>
  ⟨l, xs, i, j, rfl, rfl, ((e1.trans e2).trans e3) l _ hl, hj, k p H3 hp ((e1.trans e2).trans e3) (e3 _ _ (e2 _ _ h1))⟩
end My

set_option Elab.async false
set_option linter.all false
set_option maxRecDepth 100000
set_option maxHeartbeats 4000000
namespace My
open PySem PySem.Spec PyProof.Rows L2 Evl
theorem fold_iff (line : List Nat) : ∀ (row : Parts) (le : Int) (ws : List (List Nat)), (row.foldl (stP line) (some (le, ws))).isSome = true ↔ InOrd (line.length : Int) le row ∧ (row.map (seg line)).Nodup ∧ ∀ s ∈ row.map (seg line), s ∉ ws
  | [], le, ws => by simp [InOrd]
  | p :: r, le, ws => by
    rw [List.foldl_cons]
    by_cases c : (le ≤ p.1 ∧ p.1 < p.2 ∧ p.2 ≤ (line.length : Int)) ∧ seg line p ∉ ws
    · have e : stP line (some (le, ws)) p = some (p.2, seg line p :: ws) := if_pos c
      rw [e, fold_iff line r]
      obtain ⟨⟨c1, c2, c3⟩, c4⟩ := c
      constructor
      · rintro ⟨h1, h2, h3⟩
        refine ⟨⟨c1, c2, c3, h1⟩, ?_, fun s hs => ?_⟩
        · rw [List.map_cons, List.nodup_cons]
          exact ⟨fun hm => h3 _ hm List.mem_cons_self, h2⟩
        · rw [List.map_cons] at hs
          rcases List.mem_cons.mp hs with rfl | hs
          · exact c4
          · exact fun hw => h3 s hs (List.mem_cons_of_mem _ hw)
      · rintro ⟨⟨_, _, _, h1⟩, h2, h3⟩
        rw [List.map_cons, List.nodup_cons] at h2
        refine ⟨h1, h2.2, fun s hs hw => ?_⟩
        rcases List.mem_cons.mp hw with rfl | hw
        · exact h2.1 hs
        · exact h3 s (by rw [List.map_cons]; exact List.mem_cons_of_mem _ hs) hw
    · have e : stP line (some (le, ws)) p = none := if_neg c
      rw [e, st_none]
      constructor
      · intro h; cases h
      · rintro ⟨⟨c1, c2, c3, _⟩, _, h3⟩
        exact absurd ⟨⟨c1, c2, c3⟩, h3 _ (by rw [List.map_cons]; exact List.mem_cons_self)⟩ c
theorem good_iff {line : List Nat} {row : Parts} : goodF line row = true ↔ InOrd (line.length : Int) 0 row ∧ (row.map (seg line)).Nodup := by
  unfold goodF stF
  rw [fold_iff]
  constructor
  · rintro ⟨a, b, _⟩; exact ⟨a, b⟩
  · rintro ⟨a, b⟩; exact ⟨a, b, fun _ _ h => absurd h List.not_mem_nil⟩
theorem ord_app {n : Int} : ∀ {lo : Int} {r1 r2 : Parts}, InOrd n lo (r1 ++ r2) ↔ InOrd n lo r1 ∧ InOrd n (endF lo r1) r2
  | lo, [], r2 => by simp [InOrd, endF]
  | lo, p :: r, r2 => by
    have ih := @ord_app n p.2 r r2
    show (lo ≤ p.1 ∧ p.1 < p.2 ∧ p.2 ≤ n ∧ InOrd n p.2 (r ++ r2)) ↔ (lo ≤ p.1 ∧ p.1 < p.2 ∧ p.2 ≤ n ∧ InOrd n p.2 r) ∧ InOrd n (endF p.2 r) r2
    rw [ih]
    constructor
    · rintro ⟨a, b, c, d, e⟩; exact ⟨⟨a, b, c, d⟩, e⟩
    · rintro ⟨⟨a, b, c, d⟩, e⟩; exact ⟨a, b, c, d, e⟩
theorem ord_mono {n m lo lo2 : Int} {r : Parts} (h : InOrd n lo r) (hn : n ≤ m) (hl : lo2 ≤ lo) : InOrd m lo2 r := by
  induction r generalizing lo lo2 with
  | nil => trivial
  | cons p r ih => exact ⟨Int.le_trans hl h.1, h.2.1, Int.le_trans h.2.2.1 hn, ih h.2.2.2 (Int.le_refl _)⟩
theorem ord_end {n lo : Int} {r : Parts} (h : InOrd n lo r) : lo ≤ endF lo r := by
  induction r generalizing lo with
  | nil => exact Int.le_refl _
  | cons p r ih => exact Int.le_trans (Int.le_trans h.1 (Int.le_of_lt h.2.1)) (ih h.2.2.2)
theorem ord_mem {n lo : Int} {r : Parts} (h : InOrd n lo r) : ∀ p ∈ r, lo ≤ p.1 ∧ p.1 < p.2 ∧ p.2 ≤ endF lo r ∧ p.2 ≤ n := by
  induction r generalizing lo with
  | nil => intro p hp; cases hp
  | cons q r ih =>
    intro p hp
    rcases List.mem_cons.mp hp with rfl | hp
    · exact ⟨h.1, h.2.1, ord_end h.2.2.2, h.2.2.1⟩
    · obtain ⟨a, b, c, d⟩ := ih h.2.2.2 p hp
      exact ⟨Int.le_trans (Int.le_trans h.1 (Int.le_of_lt h.2.1)) a, b, c, d⟩
def shiftP (w : Int) (p : Int × Int) : Int × Int := (p.1 + w, p.2 + w)
theorem ord_shift {n lo w : Int} {r : Parts} (h : InOrd n lo r) : InOrd (n + w) (lo + w) (r.map (shiftP w)) := by
  induction r generalizing lo with
  | nil => trivial
  | cons p r ih =>
    have h1 : lo ≤ p.1 := h.1
    have h2 : p.1 < p.2 := h.2.1
    have h3 : p.2 ≤ n := h.2.2.1
    exact ⟨by show lo + w ≤ p.1 + w; omega, by show p.1 + w < p.2 + w; omega, by show p.2 + w ≤ n + w; omega, ih h.2.2.2⟩
theorem cut_left {T X : List Nat} {p m : Nat} (h : p + m ≤ T.length) : ((T ++ X).drop p).take m = (T.drop p).take m := by
  rw [List.drop_append_of_le_length (by omega), List.take_append_of_le_length (by rw [List.length_drop]; omega)]
theorem cut_right {T Y : List Nat} {q m : Nat} (h : T.length ≤ q) : ((T ++ Y).drop q).take m = (Y.drop (q - T.length)).take m := by
  rw [List.drop_append, List.drop_eq_nil_of_le h, List.nil_append]
def grown (line : List Nat) (a : Nat) (word : List Nat) : List Nat := line.take a ++ word ++ line.drop a
section
variable {line word : List Nat} {a : Nat}
theorem seg_nat {L : List Nat} {p : Int × Int} (h1 : 0 ≤ p.1) (h2 : 0 ≤ p.2) : seg L p = (L.drop p.1.toNat).take (p.2.toNat - p.1.toNat) := cutL_mid h1 h2
theorem seg_ahead (ha : a ≤ line.length) {p : Int × Int} (h0 : 0 ≤ p.1) (h1 : p.1 < p.2) (h2 : p.2 ≤ (a : Int)) : seg (grown line a word) p = seg line p := by
  rw [seg_nat h0 (by omega), seg_nat h0 (by omega)]
  have hT : (line.take a).length = a := by rw [List.length_take]; omega
  unfold grown
  rw [List.append_assoc, cut_left (by omega)]
  conv => rhs; rw [← List.take_append_drop a line]
  rw [cut_left (by omega)]
theorem seg_behind (ha : a ≤ line.length) {p : Int × Int} (h0 : (a : Int) ≤ p.1) (h1 : p.1 < p.2) : seg (grown line a word) (shiftP (word.length : Int) p) = seg line p := by
  rw [seg_nat (by show 0 ≤ p.1 + _; omega) (by show 0 ≤ p.2 + _; omega), seg_nat (by omega) (by omega)]
  have hT : (line.take a).length = a := by rw [List.length_take]; omega
  have hU : (line.take a ++ word).length = a + word.length := by rw [List.length_append, hT]
  unfold grown
  show ((line.take a ++ word ++ line.drop a).drop (p.1 + (word.length : Int)).toNat).take ((p.2 + (word.length : Int)).toNat - (p.1 + (word.length : Int)).toNat) = _
  rw [cut_right (by omega), hU]
  conv => rhs; rw [← List.take_append_drop a line]
  rw [cut_right (by omega), hT]
  have e1 : (p.1 + (word.length : Int)).toNat - (a + word.length) = p.1.toNat - a := by omega
  have e2 : (p.2 + (word.length : Int)).toNat - (p.1 + (word.length : Int)).toNat = p.2.toNat - p.1.toNat := by omega
  rw [e1, e2]
theorem seg_word (ha : a ≤ line.length) : seg (grown line a word) ((a : Int), (a : Int) + (word.length : Int)) = word := by
  rw [seg_nat (by show (0 : Int) ≤ (a : Int); omega) (by show (0 : Int) ≤ (a : Int) + _; omega)]
  have hT : (line.take a).length = a := by rw [List.length_take]; omega
  unfold grown
  rw [List.append_assoc]
  show ((line.take a ++ (word ++ line.drop a)).drop (a : Int).toNat).take (((a : Int) + (word.length : Int)).toNat - (a : Int).toNat) = _
  have e1 : (a : Int).toNat = a := by omega
  have e2 : ((a : Int) + (word.length : Int)).toNat - (a : Int).toNat = word.length := by omega
  rw [e2, e1, cut_right (by omega), hT, Nat.sub_self, List.drop_zero, List.take_left]
theorem grown_len (ha : a ≤ line.length) : (grown line a word).length = line.length + word.length := by
  unfold grown
  rw [List.length_append, List.length_append, List.length_take, List.length_drop]
  omega
theorem twice_good {A B : Parts} (ha : a ≤ line.length) (hA : endF 0 A ≤ (a : Int)) (hB : InOrd (line.length : Int) (a : Int) B) (h : goodF line (A ++ B) = true) : goodF (grown line a word) (A ++ B.map (shiftP (word.length : Int))) = true := by
  obtain ⟨h1, h2⟩ := good_iff.mp h
  obtain ⟨oA, _⟩ := ord_app.mp h1
  have hseg : (A ++ B.map (shiftP (word.length : Int))).map (seg (grown line a word)) = (A ++ B).map (seg line) := by
    rw [List.map_append, List.map_append, List.map_map]
    congr 1
    · refine List.map_congr_left fun p hp => ?_
      obtain ⟨q1, q2, q3, _⟩ := ord_mem oA p hp
      exact seg_ahead ha q1 q2 (by omega)
    · refine List.map_congr_left fun p hp => ?_
      obtain ⟨q1, q2, _, _⟩ := ord_mem hB p hp
      exact seg_behind ha q1 q2
  refine good_iff.mpr ⟨?_, by rw [hseg]; exact h2⟩
  rw [grown_len ha]
  refine ord_app.mpr ⟨ord_mono oA (by omega) (Int.le_refl _), ?_⟩
  have := ord_shift (w := (word.length : Int)) hB
  refine ord_mono this (by omega) (by omega)
theorem twice_bad {A B : Parts} (ha : a ≤ line.length) (hA : endF 0 A ≤ (a : Int)) (hB : InOrd (line.length : Int) (a : Int) B) (h : goodF line (A ++ B) = true) (hw : word ∈ (A ++ B).map (seg line)) :
    goodF (grown line a word) (A ++ [((a : Int), (a : Int) + (word.length : Int))] ++ B.map (shiftP (word.length : Int))) = false := by
  cases hg : goodF (grown line a word) (A ++ [((a : Int), (a : Int) + (word.length : Int))] ++ B.map (shiftP (word.length : Int))) with
  | false => rfl
  | true =>
    exfalso
    obtain ⟨_, hn⟩ := good_iff.mp hg
    obtain ⟨oA, _⟩ := ord_app.mp (good_iff.mp h).1
    rw [List.map_append, List.map_append, List.map_map] at hn
    have hAs : A.map (seg (grown line a word)) = A.map (seg line) := List.map_congr_left fun p hp => by
      obtain ⟨q1, q2, q3, _⟩ := ord_mem oA p hp
      exact seg_ahead ha q1 q2 (by omega)
    have hBs : B.map (seg (grown line a word) ∘ shiftP (word.length : Int)) = B.map (seg line) := List.map_congr_left fun p hp => by
      obtain ⟨q1, q2, _, _⟩ := ord_mem hB p hp
      exact seg_behind ha q1 q2
    have hWs : [((a : Int), (a : Int) + (word.length : Int))].map (seg (grown line a word)) = [word] := by
      show [seg (grown line a word) ((a : Int), (a : Int) + (word.length : Int))] = [word]
      rw [seg_word ha]
    rw [hAs, hBs, hWs] at hn
    rw [List.map_append] at hw
    rcases List.mem_append.mp hw with h1 | h1
    · rw [List.append_assoc, List.nodup_append] at hn
      exact hn.2.2 word h1 word (List.mem_append_left _ (List.mem_singleton.mpr rfl)) rfl
    · rw [List.nodup_append] at hn
      exact hn.2.2 word (List.mem_append_right _ (List.mem_singleton.mpr rfl)) word h1 rfl
end
end My

set_option Elab.async false
set_option linter.all false
set_option maxRecDepth 100000
set_option maxHeartbeats 4000000
namespace My
/-! ### all words over a list of letters -/
def wordsOf (abc : List Nat) : Nat → List (List Nat)
  | 0 => [[]]
  | k + 1 => abc.flatMap fun c => (wordsOf abc k).map (c :: ·)
def uptoW (abc : List Nat) : Nat → List (List Nat)
  | 0 => []
  | m + 1 => uptoW abc m ++ wordsOf abc (m + 1)
theorem sum_const {α : Type} (l : List α) (n : Nat) : (l.map fun _ => n).sum = l.length * n := by
  induction l with
  | nil => simp
  | cons a l ih => rw [List.map_cons, List.sum_cons, ih, List.length_cons, Nat.add_mul]; omega
theorem wordsOf_len (abc : List Nat) : ∀ k, (wordsOf abc k).length = abc.length ^ k
  | 0 => rfl
  | k + 1 => by
    show (abc.flatMap fun c => (wordsOf abc k).map (c :: ·)).length = _
    rw [List.length_flatMap]
    have : (abc.map fun c => ((wordsOf abc k).map (c :: ·)).length) = abc.map fun _ => abc.length ^ k := by
      apply List.map_congr_left
      intro c _
      rw [List.length_map, wordsOf_len abc k]
    rw [this, sum_const, Nat.pow_succ, Nat.mul_comm]
theorem mem_wordsOf {abc : List Nat} : ∀ {k : Nat} {u : List Nat}, u.length = k → (∀ c ∈ u, c ∈ abc) → u ∈ wordsOf abc k
  | 0, u, h, _ => by
    have : u = [] := List.length_eq_zero_iff.mp h
    subst this
    exact List.mem_singleton.mpr rfl
  | k + 1, [], h, _ => by cases h
  | k + 1, c :: u, h, hc => by
    refine List.mem_flatMap.mpr ⟨c, hc c (List.mem_cons_self ..), List.mem_map.mpr ⟨u, ?_, rfl⟩⟩
    exact mem_wordsOf (by simpa using h) fun d hd => hc d (List.mem_cons_of_mem _ hd)
theorem uptoW_len (abc : List Nat) : ∀ m, (uptoW abc m).length = Sn abc.length m
  | 0 => rfl
  | m + 1 => by
    show (uptoW abc m ++ wordsOf abc (m + 1)).length = Sn abc.length m + abc.length ^ (m + 1)
    rw [List.length_append, uptoW_len abc m, wordsOf_len]
theorem mem_uptoW {abc u : List Nat} (h0 : u ≠ []) (hc : ∀ c ∈ u, c ∈ abc) : ∀ {m : Nat}, u.length ≤ m → u ∈ uptoW abc m
  | 0, h => absurd (List.length_eq_zero_iff.mp (Nat.le_zero.mp h)) h0
  | m + 1, h => by
    refine List.mem_append.mpr ?_
    by_cases e : u.length = m + 1
    · exact Or.inr (mem_wordsOf e hc)
    · exact Or.inl (mem_uptoW h0 hc (by omega))
/-! ### different words have many letters -/
def Words (abc : List Nat) (ws : List (List Nat)) : Prop := ws.Nodup ∧ ∀ u ∈ ws, u ≠ [] ∧ ∀ c ∈ u, c ∈ abc
def cntW (m : Nat) (ws : List (List Nat)) : Nat := (ws.filter fun u => decide (u.length ≤ m)).length
def slack (w : Nat) (ws : List (List Nat)) : Nat := (ws.map fun u => w + 1 - u.length).sum
theorem cntW_le {abc : List Nat} {ws : List (List Nat)} (h : Words abc ws) (m : Nat) : cntW m ws ≤ Sn abc.length m := by
  rw [← uptoW_len]
  refine List.Nodup.length_le_of_subset (List.Pairwise.filter _ h.1) ?_
  intro u hu
  obtain ⟨h1, h2⟩ := List.mem_filter.mp hu
  obtain ⟨h3, h4⟩ := h.2 u h1
  exact mem_uptoW h3 h4 (of_decide_eq_true h2)
theorem slack_succ (w : Nat) (ws : List (List Nat)) : slack (w + 1) ws = slack w ws + cntW (w + 1) ws := by
  unfold slack cntW
  induction ws with
  | nil => rfl
  | cons u ws ih =>
    rw [List.map_cons, List.sum_cons, List.map_cons, List.sum_cons, ih]
    by_cases c : u.length ≤ w + 1
    · rw [List.filter_cons_of_pos (by simpa using c), List.length_cons]
      omega
    · rw [List.filter_cons_of_neg (by simpa using c)]
      omega
theorem slack_zero {abc : List Nat} {ws : List (List Nat)} (h : Words abc ws) : slack 0 ws = 0 := by
  unfold slack
  have : (ws.map fun u => 0 + 1 - u.length) = ws.map fun _ => 0 := by
    apply List.map_congr_left
    intro u hu
    have := (h.2 u hu).1
    have : 0 < u.length := List.length_pos_iff.mpr this
    omega
  rw [this, sum_const, Nat.mul_zero]
theorem slack_le {abc : List Nat} {ws : List (List Nat)} (h : Words abc ws) : ∀ w, slack w ws + Bn abc.length w ≤ (w + 1) * Sn abc.length w
  | 0 => by rw [slack_zero h]; exact Nat.le_refl _
  | w + 1 => by
    have ih := slack_le h w
    have hc := cntW_le h (w + 1)
    rw [slack_succ]
    have e1 : Sn abc.length (w + 1) = Sn abc.length w + abc.length ^ (w + 1) := rfl
    have e2 : Bn abc.length (w + 1) = Bn abc.length w + (w + 1) * abc.length ^ (w + 1) := rfl
    have e3 : (w + 1 + 1) * Sn abc.length (w + 1) = (w + 1) * Sn abc.length w + (w + 1) * abc.length ^ (w + 1) + Sn abc.length (w + 1) := by
      rw [Nat.add_mul (w + 1) 1, Nat.one_mul]
      congr 1
      rw [e1, Nat.mul_add]
    rw [e3, e2]
    omega
theorem len_slack (w : Nat) (ws : List (List Nat)) : (w + 1) * ws.length ≤ (ws.map List.length).sum + slack w ws := by
  unfold slack
  induction ws with
  | nil => simp
  | cons u ws ih =>
    rw [List.length_cons, Nat.mul_add, List.map_cons, List.sum_cons, List.map_cons, List.sum_cons]
    omega
theorem words_tot {abc : List Nat} {ws : List (List Nat)} (hs : 1 ≤ abc.length) (h : Words abc ws) : totF abc.length ws.length ≤ (ws.map List.length).sum := by
  obtain ⟨w, j, hc, hj, ht⟩ := totF_spec (s := abc.length) (c := ws.length) hs
  rw [ht]
  have h1 := len_slack w ws
  have h2 := slack_le h w
  rw [hc, Nat.mul_add] at h1
  omega
theorem words_most {abc : List Nat} {ws : List (List Nat)} {L : Nat} (hs : 1 ≤ abc.length) (h : Words abc ws) (hL : (ws.map List.length).sum ≤ L) : ws.length ≤ grF abc.length L := by
  have h1 := words_tot hs h
  have h2 := (grF_spec (s := abc.length) (L := L) hs).2
  by_cases c : ws.length ≤ grF abc.length L
  · exact c
  · have := totF_le (s := abc.length) (c := grF abc.length L + 1) (d := ws.length) hs (by omega)
    omega
/-! ### unlike rows have no more parts -/
theorem seg_nn {l : List Nat} {a b : Nat} : seg l ((a : Int), (b : Int)) = (l.drop a).take (b - a) := by
  show cutL l (some (a : Int)) (some (b : Int)) = _
  rw [cutL_mid (by omega) (by omega)]
  rfl
theorem ord_lens {l : List Nat} : ∀ {lo : Int} {row : Parts}, 0 ≤ lo → lo ≤ (l.length : Int) → InOrd (l.length : Int) lo row → ((((row.map (seg l)).map List.length).sum : Nat) : Int) ≤ (l.length : Int) - lo
  | lo, [], _, h1, _ => by simp; omega
  | lo, p :: r, h0, h1, h => by
    obtain ⟨a, b, c, d⟩ := h
    obtain ⟨a', ha⟩ : ∃ a' : Nat, p.1 = (a' : Int) := ⟨p.1.toNat, by omega⟩
    obtain ⟨b', hb⟩ : ∃ b' : Nat, p.2 = (b' : Int) := ⟨p.2.toNat, by omega⟩
    have ih := ord_lens (lo := p.2) (row := r) (by omega) c d
    have hp : p = ((a' : Int), (b' : Int)) := Prod.ext ha hb
    rw [List.map_cons, List.map_cons, List.sum_cons, hp, seg_nn, List.length_take, List.length_drop]
    rw [hb] at ih b c
    rw [ha] at a b
    omega
theorem row_words {l abc : List Nat} {row : Parts} (h : goodF l row = true) (hl : ∀ c ∈ l, c ∈ abc) : Words abc (row.map (seg l)) := by
  obtain ⟨h1, h2⟩ := good_iff.mp h
  refine ⟨h2, fun u hu => ?_⟩
  obtain ⟨p, hp, rfl⟩ := List.mem_map.mp hu
  obtain ⟨a, b, _, c⟩ := ord_mem h1 p hp
  obtain ⟨a', ha⟩ : ∃ a' : Nat, p.1 = (a' : Int) := ⟨p.1.toNat, by omega⟩
  obtain ⟨b', hb⟩ : ∃ b' : Nat, p.2 = (b' : Int) := ⟨p.2.toNat, by omega⟩
  have hp2 : p = ((a' : Int), (b' : Int)) := Prod.ext ha hb
  rw [hp2, seg_nn]
  refine ⟨fun z => ?_, fun c hc => hl c (List.mem_of_mem_drop (List.mem_of_mem_take hc))⟩
  have := congrArg List.length z
  rw [List.length_take, List.length_drop] at this
  simp at this
  omega
theorem good_most {l abc : List Nat} {row : Parts} (hs : 1 ≤ abc.length) (h : goodF l row = true) (hl : ∀ c ∈ l, c ∈ abc) : row.length ≤ grF abc.length l.length := by
  have h1 := ord_lens (l := l) (Int.le_refl 0) (by omega) (good_iff.mp h).1
  have h2 := words_most (L := l.length) hs (row_words h hl) (by omega)
  rw [List.length_map] at h2
  exact h2
theorem good_len {l : List Nat} {row : Parts} (h : goodF l row = true) : row.length ≤ l.length := by
  have h1 := ord_lens (l := l) (Int.le_refl 0) (by omega) (good_iff.mp h).1
  have h2 := row_words h (abc := l) fun _ h => h
  have : ∀ ws : List (List Nat), (∀ u ∈ ws, u ≠ []) → ws.length ≤ (ws.map List.length).sum := by
    intro ws
    induction ws with
    | nil => intro _; exact Nat.zero_le _
    | cons u ws ih =>
      intro hh
      have := ih fun v hv => hh v (List.mem_cons_of_mem _ hv)
      have h3 : 0 < u.length := List.length_pos_iff.mpr (hh u (List.mem_cons_self ..))
      rw [List.length_cons, List.map_cons, List.sum_cons]
      omega
  have h4 := this (row.map (seg l)) fun u hu => (h2.2 u hu).1
  rw [List.length_map] at h4
  omega
/-! ### a row of the text turned about -/
def turnP (n : Int) (p : Int × Int) : Int × Int := (n - p.2, n - p.1)
theorem turn_ord {n : Int} : ∀ {lo : Int} {row : Parts}, 0 ≤ lo → lo ≤ n → InOrd n lo row → InOrd n 0 (row.reverse.map (turnP n)) ∧ endF 0 (row.reverse.map (turnP n)) ≤ n - lo
  | lo, [], _, h1, _ => ⟨trivial, by show (0 : Int) ≤ n - lo; omega⟩
  | lo, p :: r, h0, h1, h => by
    obtain ⟨a, b, c, d⟩ := h
    obtain ⟨i1, i2⟩ := turn_ord (lo := p.2) (row := r) (by omega) c d
    rw [List.reverse_cons, List.map_append]
    show InOrd n 0 (r.reverse.map (turnP n) ++ [turnP n p]) ∧ endF 0 (r.reverse.map (turnP n) ++ [turnP n p]) ≤ n - lo
    rw [end_snoc]
    refine ⟨ord_snoc.mpr ⟨i1, i2, ?_, ?_⟩, ?_⟩
    · show n - p.2 < n - p.1
      omega
    · show n - p.1 ≤ n
      omega
    · show n - p.1 ≤ n - lo
      omega
theorem turn_seg {l : List Nat} {p : Int × Int} (h0 : 0 ≤ p.1) (h1 : p.1 < p.2) (h2 : p.2 ≤ (l.length : Int)) : seg l (turnP (l.length : Int) p) = (seg l.reverse p).reverse := by
  obtain ⟨a', ha⟩ : ∃ a' : Nat, p.1 = (a' : Int) := ⟨p.1.toNat, by omega⟩
  obtain ⟨b', hb⟩ : ∃ b' : Nat, p.2 = (b' : Int) := ⟨p.2.toNat, by omega⟩
  have hp : p = ((a' : Int), (b' : Int)) := Prod.ext ha hb
  have ht : turnP (l.length : Int) p = (((l.length - b' : Nat) : Int), ((l.length - a' : Nat) : Int)) := by
    rw [hp]
    exact Prod.ext (by show (l.length : Int) - (b' : Int) = _; omega) (by show (l.length : Int) - (a' : Int) = _; omega)
  rw [ht, hp, seg_nn, seg_nn, List.drop_reverse, List.take_reverse, List.reverse_reverse, List.length_take, List.drop_take]
  have e1 : min (l.length - a') l.length - (b' - a') = l.length - b' := by omega
  rw [e1]
theorem turn_good {l : List Nat} {row : Parts} (h : goodF l.reverse row = true) : goodF l (row.reverse.map (turnP (l.length : Int))) = true := by
  obtain ⟨h1, h2⟩ := good_iff.mp h
  rw [List.length_reverse] at h1
  refine good_iff.mpr ⟨(turn_ord (Int.le_refl 0) (by omega) h1).1, ?_⟩
  rw [List.map_map]
  have e : row.reverse.map (seg l ∘ turnP (l.length : Int)) = (row.map (seg l.reverse)).reverse.map List.reverse := by
    rw [← List.map_reverse, List.map_map]
    apply List.map_congr_left
    intro p hp
    obtain ⟨a, b, _, c⟩ := ord_mem h1 p (List.mem_reverse.mp hp)
    exact turn_seg a b c
  rw [e]
  refine List.pairwise_map.mpr (List.pairwise_reverse.mpr (List.Pairwise.imp ?_ h2))
  intro u v huv z
  exact huv (by have := congrArg List.reverse z; rw [List.reverse_reverse, List.reverse_reverse] at this; exact this.symm)
/-! ### the pieces of a cut -/
theorem tail_get {α : Type} (l : List α) (i : Nat) : l.tail[i]? = l[i + 1]? := by
  cases l with
  | nil => rfl
  | cons a l => rfl
theorem cut_words {text abc : List Nat} (hl : ∀ c ∈ text, c ∈ abc) : Words abc (piF (cutC text).1).tail ∧ (((piF (cutC text).1).tail).map List.length).sum ≤ text.length := by
  have C := cutOk text
  generalize (cutC text).1 = rows at C
  generalize (cutC text).2 = at_ at C
  have hj := C.joined
  refine ⟨⟨?_, fun u hu => ?_⟩, ?_⟩
  · refine List.pairwise_iff_getElem.mpr fun i j hi hj2 hij e => ?_
    rw [List.length_tail, piF_len] at hi hj2
    have e1 : (piF rows).getD (i + 1) [] = (piF rows).getD (j + 1) [] := by
      rw [List.getElem_tail, List.getElem_tail] at e
      rw [List.getD_eq_getElem?_getD, List.getD_eq_getElem?_getD, List.getElem?_eq_getElem (by rw [piF_len]; omega), List.getElem?_eq_getElem (by rw [piF_len]; omega), e]
    have := piF_inj C.nd C.par (i + 1) (j + 1) (by omega) (by omega) e1
    omega
  · refine ⟨fun z => ?_, fun c hc => hl c ?_⟩
    · obtain ⟨i, hi, hiu⟩ := List.getElem_of_mem hu
      rw [List.length_tail, piF_len] at hi
      rw [List.getElem_tail] at hiu
      obtain ⟨r, hr⟩ : ∃ r, rows[i]? = some r := ⟨_, List.getElem?_eq_getElem (by omega)⟩
      have := piF_row C.par hr
      rw [List.getD_eq_getElem?_getD, List.getElem?_eq_getElem (by rw [piF_len]; omega)] at this
      have h2 : (piF rows)[i + 1]'(by rw [piF_len]; omega) = (piF rows).getD r.1 [] ++ [r.2] := this
      rw [hiu, z] at h2
      simp at h2
    · rw [← hj]
      exact List.mem_append_left _ (List.mem_flatten.mpr ⟨u, hu, hc⟩)
  · have := congrArg List.length hj
    rw [List.length_append, List.length_flatten] at this
    omega
theorem cut_most {text abc : List Nat} (hs : 1 ≤ abc.length) (hl : ∀ c ∈ text, c ∈ abc) : (cutC text).1.length ≤ grF abc.length text.length := by
  obtain ⟨h1, h2⟩ := cut_words hl
  have := words_most hs h1 h2
  rw [List.length_tail, piF_len] at this
  omega
theorem sum_upto (f : Nat → Nat) (hf : ∀ i, f i ≤ i + 1) : ∀ n, 2 * ((List.range n).map f).sum ≤ n * (n + 1)
  | 0 => by simp
  | n + 1 => by
    have ih := sum_upto f hf n
    have := hf n
    rw [List.range_succ, List.map_append, List.sum_append]
    simp only [List.map_cons, List.map_nil, List.sum_cons, List.sum_nil]
    have e : (n + 1) * (n + 1 + 1) = n * (n + 1) + 2 * (n + 1) := by
      rw [Nat.mul_add (n + 1), Nat.mul_one, Nat.add_mul n 1 (n + 1)]
      omega
    omega
theorem cut_least (text : List Nat) : grF 1 text.length ≤ (cutC text).1.length := by
  have C := cutOk text
  generalize (cutC text).1 = rows at C
  generalize (cutC text).2 = at_ at C
  have hj := congrArg List.length C.joined
  rw [List.length_append, List.length_flatten] at hj
  have h1 := piF_short C.par at_ C.at_le
  have h2 := C.at_le
  have e : ((piF rows).tail).map List.length = (List.range rows.length).map fun i => ((piF rows).getD (i + 1) []).length := by
    apply List.ext_getElem?
    intro i
    rw [List.getElem?_map, List.getElem?_map, tail_get]
    by_cases c : i < rows.length
    · rw [List.getElem?_range c, List.getElem?_eq_getElem (by rw [piF_len]; omega)]
      show some _ = some ((piF rows).getD (i + 1) []).length
      rw [List.getD_eq_getElem?_getD, List.getElem?_eq_getElem (by rw [piF_len]; omega)]
      rfl
    · rw [List.getElem?_eq_none (by rw [piF_len]; omega), List.getElem?_eq_none (by rw [List.length_range]; omega)]
      rfl
  rw [e] at hj
  have key : 2 * ((List.range rows.length).map fun i => ((piF rows).getD (i + 1) []).length).sum ≤ rows.length * (rows.length + 1) := by
    have := sum_upto (fun i => min (((piF rows).getD (i + 1) []).length) (i + 1)) (fun i => Nat.min_le_right _ _) rows.length
    have e2 : ((List.range rows.length).map fun i => min (((piF rows).getD (i + 1) []).length) (i + 1)) = (List.range rows.length).map fun i => ((piF rows).getD (i + 1) []).length := by
      apply List.map_congr_left
      intro i hi
      have := piF_short C.par (i + 1) (by have := List.mem_range.mp hi; omega)
      show min _ _ = _
      omega
    rw [e2] at this
    exact this
  have hle := gr_le (grF_spec (s := 1) (L := text.length) (by decide))
  rcases hle.2 with z | z
  · omega
  · by_cases c : grF 1 text.length ≤ rows.length
    · exact c
    · have m := Nat.mul_le_mul (show rows.length ≤ grF 1 text.length - 1 by omega) (show rows.length + 3 ≤ grF 1 text.length + 2 by omega)
      have e3 : rows.length * (rows.length + 3) = rows.length * (rows.length + 1) + 2 * rows.length := by
        rw [Nat.mul_add, Nat.mul_add]
        omega
      omega
/-- the bounds at every depth -/
theorem bound_most {s L many most : Nat} (hs : 1 ≤ s) (h1 : most = grF s L) (h2 : many ≤ most) (d : Nat) : most ≤ L / (d + 1) + Sn s d ∧ (d + 1) * many ≤ L + (d + 1) * Sn s d := by
  have h := gr_depth hs (grF_spec (s := s) (L := L) hs) d
  rw [← h1] at h
  refine ⟨h, ?_⟩
  have a := Nat.mul_le_mul_left (d + 1) (Nat.le_trans h2 h)
  rw [Nat.mul_add] at a
  have b := Nat.mul_div_le L (d + 1)
  omega
end My

set_option Elab.async false
set_option linter.all false
set_option maxRecDepth 100000
set_option maxHeartbeats 4000000
namespace My
open PySem PySem.Spec PyProof.Rows L2 Evl
open SX (S S_len S_cat S_beq S_beq_eq S_inj S_tl)

abbrev ParOk (rows : List (Nat × Nat)) : Prop := ∀ (i : Nat) (r : Nat × Nat), rows[i]? = some r → r.1 ≤ i
theorem S_get (l : List Nat) (i : Nat) : (S l).cps[i]? = l[i]? := by
  rw [← Array.getElem?_toList]

theorem S_size (l : List Nat) : (S l).cps.size = l.length := by
  rw [← Array.length_toList]

theorem upd_Ne {H : Hp} {a b : Addr} {o u : HO} (h : H b = some u) (n : b ≠ a) : (upd H a o) b = some u := by rw [upd_ne n]; exact h

theorem stepC_len (s : List (Nat × Nat) × Nat) (c : Nat) : (stepC s c).1.length ≤ s.1.length + 1 := by
  unfold stepC
  cases ixR 1 s.1 (s.2, c) with
  | some k => exact Nat.le_succ _
  | none => show (s.1 ++ [_]).length ≤ _; rw [List.length_append]; exact Nat.le_refl _

theorem take_snoc {α : Type} {l : List α} {i : Nat} {x : α} (h : l[i]? = some x) : l.take (i + 1) = l.take i ++ [x] := by
  obtain ⟨hi, e⟩ := List.getElem?_eq_some_iff.mp h
  rw [List.take_succ_eq_append_getElem hi, e]

theorem cutC_len (text : List Nat) : (cutC text).1.length ≤ text.length := by
  induction text using snoc_ind with
  | h0 => exact Nat.le_refl _
  | hs l a ih =>
    have := stepC_len (cutC l) a
    rw [cutC_snoc, List.length_append]
    show _ ≤ l.length + 1
    omega
section
variable {K : PySem.W.Frag} {σ : L2.St} {H : Hp} {ta tb te : TE} {tl th : TO} {v : V} {D : Ends} {tu tz : TS} {g : TG}
def rTupOf (K : PySem.W.Frag) : List V → Hp → VK → Prop := fun xs H Q => ∃ p ys, xs = [.ref p] ∧ ((SqL K H p ys ∧ ∀ l, H l = none → Q (.ref l) (upd H l (.tup ys))) ∨ (SqT K H p ys ∧ Q (.ref p) H))
theorem eu_tupOf {p : Addr} {xs : List V} (h : Ev te σ H (.ref p)) (hS : SqL K H p xs) : EvU (tCB (rTupOf K) (tCons te tNil)) σ H xs := fun H1 e Q q => h H1 e _ fun H2 e2 =>
  ⟨p, xs, rfl, Or.inl ⟨ex_l (e.trans e2) hS, fun l hl => q l _ (fresh_back e2 hl) (e2.trans (Ex.new hl)) upd_same⟩⟩
end
/-! ### dicts with words as keys -/
def idxW : Nat → List (List Nat) → List Nat → Option Nat
  | _, [], _ => none
  | n, p :: ps, w => if p = w then some n else idxW (n + 1) ps w
theorem idxW_some : ∀ {n : Nat} {ps : List (List Nat)} {w : List Nat} {k : Nat}, idxW n ps w = some k → n ≤ k ∧ ps[k - n]? = some w
  | n, [], w, k, h => by cases h
  | n, p :: ps, w, k, h => by
    unfold idxW at h
    by_cases e : p = w
    · rw [if_pos e] at h
      cases Option.some.inj h
      rw [Nat.sub_self]
      exact ⟨Nat.le_refl _, congrArg some e⟩
    · rw [if_neg e] at h
      obtain ⟨a, b⟩ := idxW_some h
      refine ⟨by omega, ?_⟩
      rw [show k - n = (k - (n + 1)) + 1 by omega]
      exact b
theorem idxW_none : ∀ {n : Nat} {ps : List (List Nat)} {w : List Nat}, idxW n ps w = none → w ∉ ps
  | n, [], w, h => List.not_mem_nil
  | n, p :: ps, w, h => by
    unfold idxW at h
    by_cases e : p = w
    · rw [if_pos e] at h; cases h
    · rw [if_neg e] at h
      intro hm
      rcases List.mem_cons.mp hm with rfl | hm
      · exact e rfl
      · exact idxW_none h hm
def wKV : Nat → List (List Nat) → List (Key × V)
  | _, [] => []
  | n, p :: ps => (Sum.inr (S p), .int (n : Int)) :: wKV (n + 1) ps
theorem inr_S {p w : List Nat} (h : (Sum.inr (S p) : Key) = Sum.inr (S w)) : p = w := S_inj (Sum.inr.inj h)
theorem wKV_at : ∀ (n : Nat) (ps : List (List Nat)) (w : List Nat), valV (wKV n ps) (Sum.inr (S w) : Key) = (idxW n ps w).map fun (k : Nat) => V.int (k : Int)
  | _, [], _ => rfl
  | n, p :: ps, w => by
    show valV (((Sum.inr (S p) : Key), V.int (n : Int)) :: wKV (n + 1) ps) (Sum.inr (S w)) = (idxW n (p :: ps) w).map fun (k : Nat) => V.int (k : Int)
    unfold idxW
    by_cases e : p = w
    · rw [if_pos e, valV_pos (by rw [e])]; rfl
    · rw [if_neg e, valV_neg (fun z => e (inr_S z)), wKV_at (n + 1) ps w]
theorem wKV_snoc : ∀ (n : Nat) (ps : List (List Nat)) (p : List Nat), wKV n (ps ++ [p]) = wKV n ps ++ [(Sum.inr (S p), .int ((n + ps.length : Nat) : Int))]
  | n, [], p => rfl
  | n, q :: ps, p => by
    show (Sum.inr (S q), _) :: wKV (n + 1) (ps ++ [p]) = _
    rw [wKV_snoc (n + 1) ps p, List.length_cons, show n + 1 + ps.length = n + (ps.length + 1) by omega]
    rfl
theorem wKV_len : ∀ (n : Nat) (ps : List (List Nat)), (wKV n ps).length = ps.length
  | _, [] => rfl
  | n, p :: ps => congrArg Nat.succ (wKV_len (n + 1) ps)
/-- a piece's text has its number -/
theorem idxW_piece {rows : List (Nat × Nat)} (nd : rows.Nodup) (hp : ParOk rows) {i : Nat} (hi : i ≤ rows.length) : idxW 0 (piF rows) ((piF rows).getD i []) = some i := by
  have hl := piF_len rows
  cases e : idxW 0 (piF rows) ((piF rows).getD i []) with
  | none =>
    have := idxW_none e
    rw [List.getD_eq_getElem?_getD, List.getElem?_eq_getElem (by omega)] at this
    exact absurd (List.getElem_mem (by omega)) this
  | some k =>
    obtain ⟨_, b⟩ := idxW_some e
    rw [Nat.sub_zero] at b
    have hk := (List.getElem?_eq_some_iff.mp b).1
    have hkd : (piF rows).getD k [] = (piF rows).getD i [] := by
      have h1 : (piF rows).getD k [] = ((piF rows)[k]?).getD [] := List.getD_eq_getElem?_getD
      rw [h1, b]
      rfl
    rw [piF_inj nd hp k i (by omega) hi hkd]
/-- a longer word is a piece where its row is there -/
theorem idxW_step {rows : List (Nat × Nat)} (nd : rows.Nodup) (hp : ParOk rows) {at_ c : Nat} (ha : at_ ≤ rows.length) : idxW 0 (piF rows) ((piF rows).getD at_ [] ++ [c]) = ixR 1 rows (at_, c) := by
  have hl := piF_len rows
  cases e : ixR 1 rows (at_, c) with
  | some k =>
    obtain ⟨a, b⟩ := ixR_some e
    have hk := (List.getElem?_eq_some_iff.mp b).1
    have hrow := piF_row hp b
    rw [show k - 1 + 1 = k by omega] at hrow
    have : (piF rows).getD k [] = (piF rows).getD at_ [] ++ [c] := hrow
    rw [← this]
    exact idxW_piece nd hp (by omega)
  | none =>
    have hn := ixR_none e
    cases e2 : idxW 0 (piF rows) ((piF rows).getD at_ [] ++ [c]) with
    | none => rfl
    | some k =>
      exfalso
      obtain ⟨_, b⟩ := idxW_some e2
      rw [Nat.sub_zero] at b
      have hk := (List.getElem?_eq_some_iff.mp b).1
      have hkd : (piF rows).getD k [] = (piF rows).getD at_ [] ++ [c] := by
        have h1 : (piF rows).getD k [] = ((piF rows)[k]?).getD [] := List.getD_eq_getElem?_getD
        rw [h1, b]
        rfl
      cases k with
      | zero =>
        rw [piF_zero] at hkd
        simp at hkd
      | succ k =>
        obtain ⟨r, hr⟩ : ∃ r, rows[k]? = some r := ⟨_, List.getElem?_eq_getElem (by omega)⟩
        have h1 := hp k r hr
        rw [piF_row hp hr] at hkd
        obtain ⟨e3, e4⟩ := List.append_inj' hkd rfl
        have e5 := piF_inj nd hp r.1 at_ (by omega) ha e3
        have e6 : r.2 = c := by simpa using e4
        exact hn (by rw [← e5, ← e6]; exact List.mem_of_getElem? hr)
section
variable {K : PySem.W.Frag} {σ : L2.St} {H : Hp} {ta tb te tv td ty : TE} {v : V} {D : Ends} {tu tz : TS}
theorem ev_dinK {d : Addr} {kvs : List (Key × V)} {w : List Nat} (ha : Ev ta σ H (.str (S w))) (hb : Ev tb σ H (.ref d)) (hd : H d = some (.dK kvs)) : Ev (tDIn ta tb) σ H (.bl (valV kvs (Sum.inr (S w) : Key)).isSome) := fun H1 e Q q =>
  ha H1 e _ fun H2 e2 => hb H2 (e.trans e2) _ fun H3 e3 => ⟨d, _, rfl, DGet.k (k := Sum.inr (S w)) (((e.trans e2).trans e3) _ _ hd), q H3 (e2.trans e3)⟩
theorem ev_dgetK {d : Addr} {kvs : List (Key × V)} {w : List Nat} (ho : Ev td σ H (.ref d)) (hi : Ev ty σ H (.str (S w))) (hd : H d = some (.dK kvs)) (hv : valV kvs (Sum.inr (S w) : Key) = some v) : Ev (tDGet td ty) σ H v := fun H1 e Q q =>
  ho H1 e _ fun H2 e2 => hi H2 (e.trans e2) _ fun H3 e3 => ⟨d, v, rfl, by rw [← hv]; exact DGet.k (k := Sum.inr (S w)) (((e.trans e2).trans e3) _ _ hd), q H3 (e2.trans e3)⟩
theorem q_dputK {d : Addr} {kvs : List (Key × V)} {w : List Nat} (hv : Ev tv σ H v) (ho : Ev td σ H (.ref d)) (hi : Ev ty σ H (.str (S w))) (hd : H d = some (.dK kvs)) (hl : kvs.length < sizeLine) (kk : ∀ H1, Ex H H1 → tz D σ (upd H1 d (.dK (putK kvs (Sum.inr (S w)) v)))) : tSeq (sDPut td ty tv) tz D σ H :=
  hv H (Ex.refl H) _ fun H1 e1 => ho H1 e1 _ fun H2 e2 => hi H2 (e1.trans e2) _ fun H3 e3 => ⟨d, _, rfl, DPut.k (k := Sum.inr (S w)) (((e1.trans e2).trans e3) _ _ hd) hl, kk H3 ((e1.trans e2).trans e3)⟩
theorem en_disp0 : EvN (tDisp [(tC (.str (S [])), tC (.int 0))]) σ H (.dK (wKV 0 [[]])) := fun H1 e Q q p hp => by
  refine ⟨upd_same, [(Sum.inr (S []), .int 0)], rfl, by decide, ?_⟩
  exact q p _ hp (fun b o hb => by
    have n : b ≠ p := fun z => by rw [z, hp] at hb; cases hb
    exact upd_Ne (upd_Ne hb n) n) upd_same
theorem s_retUVV {xs : List V} {u : V} (h : EvU te σ H xs) (ha : Ev ta σ H v) (hb : Ev tb σ H u) (k : ∀ kk p H2, H kk = none → H p = none → Ex H H2 → H2 kk = some (.tup xs) → H2 p = some (.lst [.ref kk, v, u]) → D.rt (.ref p) H2) : tRet (tLst (tCons te (tCons ta (tCons tb tNil)))) D σ H :=
  h H (Ex.refl H) _ fun kk H1 nk e1 hk => ha H1 e1 _ fun H2 e2 => hb H2 (e1.trans e2) _ fun H3 e3 => ⟨sz_of (n := 3) (by decide), fun p hp => by
    have e13 := e2.trans e3
    have np : H p = none := fresh_back (e1.trans e13) hp
    refine k kk p _ nk np ((e1.trans e13).trans (Ex.new hp)) ?_ upd_same
    have n : kk ≠ p := fun z => by rw [← z, e13 _ _ hk] at hp; cases hp
    exact upd_Ne (e13 _ _ hk) n⟩
end
section
variable {P : Program} {w : World} {K : PySem.W.Frag} {mg : Str → Option Value} {base : Heap}

abbrev s_law_cut : Stmt := top 18
abbrev N_law_cut : List Str := ["text", "pieces", "number", "rows", "word", "letter"]
theorem sc_law_cut : FnScope N_law_cut ["text"] (defScope s_law_cut) := ⟨rfl, rfl, rfl, by decide +kernel, rfl, by decide +kernel, by decide +kernel⟩
def spLC : Sp := fun vs H Q _ => ∃ text : List Nat, vs = [.str (S text)] ∧ text.length ≤ 4000 ∧ ∀ (p k pl : Addr) (rs : List Addr) (H' : Hp), H p = none → Ex H H' → H' p = some (.lst [.ref k, .int ((cutC text).2 : Int), .ref pl]) → H' k = some (.tup (rV rs)) → RowsAt H' rs (cutC text).1 → H' pl = some (.lst (sV (piF (cutC text).1))) → Q (.ref p) H'
theorem ok_law_cut (T : TT mg) (F : At K mg "_law_cut" s_law_cut) : Dn P w K mg base 1 "_law_cut" s_law_cut ["text"] spLC := by
  refine dn_ok F sc_law_cut (fun _ _ _ _ _ _ us hl => match us, hl with | [_], _ => rfl) (fun vs H Q E h => ?_) (fun f cdv A outer t H vs Q E hr h => ?_)
  · obtain ⟨text, rfl, _⟩ := h; rfl
  · obtain ⟨text, rfl, hlen, q⟩ := h
    refine ⟨_, (pss_cons (ps_set (i := 1) sc_law_cut.nd rfl (Or.inl rfl) (pe_lst (pa_cons pe_str pa_nil)))
      (pss_cons (ps_set (i := 2) sc_law_cut.nd rfl (Or.inl rfl) (pe_disp (pps_cons pe_str pe_int pps_nil) (by rfl) (by rfl) (by simp) (by decide)))
      (pss_cons (ps_set (i := 3) sc_law_cut.nd rfl (Or.inl rfl) (pe_lst pa_nil))
      (pss_cons (ps_set (i := 4) sc_law_cut.nd rfl (Or.inl rfl) pe_str)
      (pss_cons (ps_for PassesOwn.never rfl (pi_str (pv 0)) (pg_name (i := 5) sc_law_cut.nd rfl (Or.inl rfl))
        (pss_one (ps_if (pt_cmp (pc_din (hu_of hr) (pe_op op_add_str (pv 4) (pv 5)) (pv 2))) (pss_one (ps_set (i := 4) sc_law_cut.nd rfl (Or.inl rfl) (pe_op op_add_str (pv 4) (pv 5)))) (pss_cons (ps_expr (pe_bm PySem.F.plainAttrs_list PySem.F.slot_list_append PySem.F.type_list_append mt_append (pv 3) (pa_cons (pe_tup (pa_cons (pe_dget (hu_of hr) (pv 2) (pv 4) (fun _ _ => rfl)) (pa_cons (pv 5) pa_nil))) pa_nil)))
            (pss_cons (ps_dput (hu_of hr) (pv 2) (pe_op op_add_str (pv 4) (pv 5)) (pe_callB call_len_seq (by rfl) T.len boot_len (pa_cons (pv 1) pa_nil)) rfl)
            (pss_cons (ps_expr (pe_bm PySem.F.plainAttrs_list PySem.F.slot_list_append PySem.F.type_list_append mt_append (pv 1) (pa_cons (pe_op op_add_str (pv 4) (pv 5)) pa_nil)))
            (pss_one (ps_set (i := 4) sc_law_cut.nd rfl (Or.inl rfl) pe_str))))))))
      (pss_one (ps_ret (pe_lst (pa_cons (pe_callTy call_tuple_of (by rfl) T.tuple_ (by decide +kernel) (pa_cons (pv 3) pa_nil)) (pa_cons (pe_dget (hu_of hr) (pv 2) (pv 4) (fun _ _ => rfl)) (pa_cons (pv 1) pa_nil))))))))))), ?_⟩
    refine q_asgL (xs := sV (piF [])) (el_lst (ea_cons ev_c ea_nil) (by show 1 ≤ 100000; decide)) fun pl H1 npl e1 hpl => ?_
    refine q_asgN en_disp0 fun d H2 nd e2 hd => ?_
    refine q_asgL (el_lst ea_nil (by decide)) fun rl H3 nrl e3 hrl => ?_
    refine q_asg (v := .str (S [])) (ev_is ev_c rfl) fun H4 e4 => ?_
    have e14 := ((e1.trans e2).trans e3).trans e4
    have npd : pl ≠ d := fun z => by rw [← z, hpl] at nd; cases nd
    have npr : pl ≠ rl := fun z => by rw [← z, e2 _ _ hpl] at nrl; cases nrl
    have ndr : d ≠ rl := fun z => by rw [← z, hd] at nrl; cases nrl
    have nd0 : H d = none := fresh_back e1 nd
    have nrl0 : H rl = none := fresh_back (e1.trans e2) nrl
    refine q_forS (ev_var rfl) (fun i σ' H' => ∃ (rs : List Addr) (x : Option V), σ' = [some (.str (S text)), some (.ref pl), some (.ref d), some (.ref rl), some (.str (S ((piF (cutC (text.take i)).1).getD (cutC (text.take i)).2 []))), x] ∧ Ex H H' ∧ H' pl = some (.lst (sV (piF (cutC (text.take i)).1))) ∧ H' d = some (.dK (wKV 0 (piF (cutC (text.take i)).1))) ∧ H' rl = some (.lst (rV rs)) ∧ RowsAt H' rs (cutC (text.take i)).1)
      (fun H5 e5 => ⟨[], none, rfl, e14.trans e5, e5 _ _ (e4 _ _ (e3 _ _ (e2 _ _ hpl))), e5 _ _ (e4 _ _ (e3 _ _ hd)), e5 _ _ (e4 _ _ hrl), trivial⟩) ?_ ?_
    · rintro i c σ' H' hc ⟨rs, x, rfl, e, h1, h2, h3, R⟩
      rw [S_get] at hc
      have hi := (List.getElem?_eq_some_iff.mp hc).1
      have htk := take_snoc hc
      have hst : cutC (text.take (i + 1)) = stepC (cutC (text.take i)) c := by rw [htk, cutC_snoc]
      have C := cutOk (text.take i)
      have hcl := cutC_len (text.take i)
      rw [List.length_take] at hcl
      rw [hst]
      generalize cutC (text.take i) = cc at C hcl h1 h2 h3 R ⊢
      obtain ⟨rows, at_⟩ := cc
      show tIfS _ _ _ _ [some (V.str (S text)), some (V.ref pl), some (V.ref d), some (V.ref rl), some (V.str (S ((piF rows).getD at_ []))), some (V.str (S [c]))] H'
      have hat : at_ ≤ rows.length := C.at_le
      have hsh : ((piF rows).getD at_ []).length ≤ at_ := piF_short C.par at_ hat
      have hlen5 : rows.length ≤ 4000 := by have : rows.length ≤ min i text.length := hcl; omega
      have hpl1 := piF_len rows
      have hidx := idxW_step C.nd C.par (c := c) hat
      have hself := idxW_piece C.nd C.par hat
      have hw : ∀ {H5 : Hp}, Ev (tOp rAddS (tVar 4) (tVar 5)) [some (V.str (S text)), some (V.ref pl), some (V.ref d), some (V.ref rl), some (V.str (S ((piF rows).getD at_ []))), some (V.str (S [c]))] H5 (.str (S ((piF rows).getD at_ [] ++ [c]))) := ev_op (ev_var rfl) (ev_var rfl) (rv_addS (by show _ + 1 ≤ 1000000; omega))
      refine s_if (et_B (ev_dinK hw (ev_var rfl) h2)) (fun hb H5 e5 => ?_) (fun hb H5 e5 => ?_)
      · rw [wKV_at, hidx] at hb
        cases hk : ixR 1 rows (at_, c) with
        | none => rw [hk] at hb; cases hb
        | some k =>
          have hs : stepC (rows, at_) c = (rows, k) := by unfold stepC; simp only [hk]
          obtain ⟨a, b⟩ := ixR_some hk
          have hrow := piF_row C.par b
          rw [show k - 1 + 1 = k by omega] at hrow
          have hrow' : (piF rows).getD k [] = (piF rows).getD at_ [] ++ [c] := hrow
          refine s_asg hw fun H6 e6 => ⟨rs, some (V.str (S [c])), ?_, e.trans (e5.trans e6), ?_, ?_, (e5.trans e6) _ _ h3, ?_⟩
          · rw [hs, hrow']; rfl
          · rw [hs]; exact (e5.trans e6) _ _ h1
          · rw [hs]; exact (e5.trans e6) _ _ h2
          · rw [hs]; exact R.ex (e5.trans e6)
      · rw [wKV_at, hidx] at hb
        have hk : ixR 1 rows (at_, c) = none := by
          cases z : ixR 1 rows (at_, c) with
          | none => rfl
          | some k => rw [z] at hb; cases hb
        have hs : stepC (rows, at_) c = (rows ++ [(at_, c)], 0) := by unfold stepC; simp only [hk]
        have h2' := e5 _ _ h2
        refine q_appU (ys := rowV (at_, c)) (e5 _ _ h3) (ev_var rfl) (eu_tup (ea_cons (ev_dgetK (ev_var rfl) (ev_var rfl) h2' (by rw [wKV_at, hself]; rfl)) (ea_cons (ev_var rfl) ea_nil)) (by show 2 ≤ 100000; decide)) (by rw [List.length_map, R.len]; omega) fun r H6 nr e6 hr6 => ?_
        have nrr : r ≠ rl := fun z => by rw [z, e5 _ _ h3] at nr; cases nr
        have nrd : r ≠ d := fun z => by rw [z, h2'] at nr; cases nr
        have nrp : r ≠ pl := fun z => by rw [z, e5 _ _ h1] at nr; cases nr
        have e56 := e5.trans e6
        have g1 : (upd H6 rl (.lst (rV rs ++ [.ref r]))) pl = some (.lst (sV (piF rows))) := upd_Ne (e56 _ _ h1) npr
        have g2 : (upd H6 rl (.lst (rV rs ++ [.ref r]))) d = some (.dK (wKV 0 (piF rows))) := upd_Ne (e56 _ _ h2) ndr
        have g3 : (upd H6 rl (.lst (rV rs ++ [.ref r]))) rl = some (.lst (rV (rs ++ [r]))) := by rw [upd_same]; simp [rV]
        have hnrl : ∀ {H7 : Hp} {xs : List V}, H7 rl = some (.lst xs) → ∀ ys, H7 rl ≠ some (.tup ys) := fun h ys z => by rw [h] at z; cases Option.some.inj z
        have g4 : RowsAt (upd H6 rl (.lst (rV rs ++ [.ref r]))) (rs ++ [r]) (rows ++ [(at_, c)]) := by
          refine RowsAt.snoc (upd_Ne hr6 nrr) ?_
          exact (R.ex e56).but (p := rl) (l := rl) (d := rl) (fun b o hb h1 _ _ => upd_Ne hb h1) (hnrl (e56 _ _ h3)) (hnrl (e56 _ _ h3)) (hnrl (e56 _ _ h3))
        have g5 : Ex H (upd H6 rl (.lst (rV rs ++ [.ref r]))) := Ex.mut (e.trans e56) nrl0
        generalize upd H6 rl (.lst (rV rs ++ [.ref r])) = H7 at g1 g2 g3 g4 g5 ⊢
        have elen : ((sV (piF rows)).length : Int) = ((0 + (piF rows).length : Nat) : Int) := by rw [List.length_map, Nat.zero_add]
        refine q_dputK (ev_is (ev_len (K := K) (ev_var rfl) (sq_of g1)) (congrArg V.int elen)) (ev_var rfl) hw g2 (by rw [wKV_len]; show _ < 16777216; omega) fun H8 e8 => ?_
        have hnone : valV (wKV 0 (piF rows)) (Sum.inr (S ((piF rows).getD at_ [] ++ [c])) : Key) = none := by rw [wKV_at, hidx, hk]; rfl
        rw [putK_new _ hnone, ← wKV_snoc]
        have hps : piF (rows ++ [(at_, c)]) = piF rows ++ [(piF rows).getD at_ [] ++ [c]] := piF_snoc rows (at_, c)
        rw [← hps]
        have k1 : (upd H8 d (.dK (wKV 0 (piF (rows ++ [(at_, c)]))))) pl = some (.lst (sV (piF rows))) := upd_Ne (e8 _ _ g1) npd
        have k2 : (upd H8 d (.dK (wKV 0 (piF (rows ++ [(at_, c)]))))) d = some (.dK (wKV 0 (piF (rows ++ [(at_, c)])))) := upd_same
        have k3 : (upd H8 d (.dK (wKV 0 (piF (rows ++ [(at_, c)]))))) rl = some (.lst (rV (rs ++ [r]))) := upd_Ne (e8 _ _ g3) ndr.symm
        have hnd : ∀ ys, H8 d ≠ some (.tup ys) := fun ys z => by rw [e8 _ _ g2] at z; cases Option.some.inj z
        have k4 : RowsAt (upd H8 d (.dK (wKV 0 (piF (rows ++ [(at_, c)]))))) (rs ++ [r]) (rows ++ [(at_, c)]) := (g4.ex e8).but (p := d) (l := d) (d := d) (fun b o hb h1 _ _ => upd_Ne hb h1) hnd hnd hnd
        have k5 : Ex H (upd H8 d (.dK (wKV 0 (piF (rows ++ [(at_, c)]))))) := Ex.mut (g5.trans e8) nd0
        generalize upd H8 d (.dK (wKV 0 (piF (rows ++ [(at_, c)])))) = H9 at k1 k2 k3 k4 k5 ⊢
        refine q_app k1 (ev_var rfl) hw (by rw [List.length_map]; omega) fun H10 e10 => ?_
        have m1 : (upd H10 pl (.lst (sV (piF rows) ++ [.str (S ((piF rows).getD at_ [] ++ [c]))]))) pl = some (.lst (sV (piF (rows ++ [(at_, c)])))) := by rw [upd_same, hps]; simp [sV]
        have m2 : (upd H10 pl (.lst (sV (piF rows) ++ [.str (S ((piF rows).getD at_ [] ++ [c]))]))) d = some (.dK (wKV 0 (piF (rows ++ [(at_, c)])))) := upd_Ne (e10 _ _ k2) npd.symm
        have m3 : (upd H10 pl (.lst (sV (piF rows) ++ [.str (S ((piF rows).getD at_ [] ++ [c]))]))) rl = some (.lst (rV (rs ++ [r]))) := upd_Ne (e10 _ _ k3) npr.symm
        have hnp : ∀ ys, H10 pl ≠ some (.tup ys) := fun ys z => by rw [e10 _ _ k1] at z; cases Option.some.inj z
        have m4 : RowsAt (upd H10 pl (.lst (sV (piF rows) ++ [.str (S ((piF rows).getD at_ [] ++ [c]))]))) (rs ++ [r]) (rows ++ [(at_, c)]) := (k4.ex e10).but (p := pl) (l := pl) (d := pl) (fun b o hb h1 _ _ => upd_Ne hb h1) hnp hnp hnp
        have m5 : Ex H (upd H10 pl (.lst (sV (piF rows) ++ [.str (S ((piF rows).getD at_ [] ++ [c]))]))) := Ex.mut (k5.trans e10) npl
        generalize upd H10 pl (.lst (sV (piF rows) ++ [.str (S ((piF rows).getD at_ [] ++ [c]))])) = H11 at m1 m2 m3 m4 m5 ⊢
        refine s_asg (v := .str (S [])) (ev_is ev_c rfl) fun H12 e12 => ⟨rs ++ [r], some (V.str (S [c])), ?_, m5.trans e12, ?_, ?_, e12 _ _ m3, ?_⟩
        · rw [hs]
          show _ = [some (V.str (S text)), some (V.ref pl), some (V.ref d), some (V.ref rl), some (V.str (S ((piF (rows ++ [(at_, c)])).getD 0 []))), some (V.str (S [c]))]
          rw [piF_zero]
          rfl
        · rw [hs]; exact e12 _ _ m1
        · rw [hs]; exact e12 _ _ m2
        · rw [hs]; exact m4.ex e12
    · rintro σ' H' ⟨rs, x, rfl, e, h1, h2, h3, R⟩
      rw [S_size, List.take_length] at h1 h2 R
      rw [S_size, List.take_length]
      have C := cutOk text
      have hself := idxW_piece C.nd C.par C.at_le
      exact s_retUVV (eu_tupOf (ev_var rfl) (sq_of h3)) (ev_dgetK (ev_var rfl) (ev_var rfl) h2 (by rw [wKV_at, hself]; rfl)) (ev_var rfl) fun kk p H2 nk np e2 hk hp => q p kk pl rs H2 (fresh_back e np) (e.trans e2) hp hk (R.ex e2) (e2 _ _ h1)
end
end My

set_option Elab.async false
set_option linter.all false
set_option maxRecDepth 100000
set_option maxHeartbeats 4000000
namespace My
open PySem PySem.Spec PyProof.Rows L2 Evl
open SX (S S_len S_cat S_beq S_beq_eq S_inj S_tl)
theorem c30 : CPow 10 30 := by unfold CPow; decide
theorem c14 : CPow 10 14 := by unfold CPow; decide
theorem e30 : (10 : Int) ^ (Int.toNat 30) = ((cap - 1 : Nat) : Int) := by decide +kernel
theorem e14 : (10 : Int) ^ (Int.toNat 14) = ((M14 : Nat) : Int) := by decide +kernel
theorem given_all' (n : Nat) (v : Nat → V) : given n (fun _ => true) v = (List.range n).map v := by
  unfold given
  rw [List.filter_eq_self.mpr (fun _ _ => rfl)]
def allT (abc : List Nat) : Nat → List (List Nat)
  | 0 => [[]]
  | n + 1 => (allT abc n).flatMap fun t => abc.map fun c => t ++ [c]
theorem allT_len {abc : List Nat} : ∀ {n : Nat} {t : List Nat}, t ∈ allT abc n → t.length = n
  | 0, t, h => by rw [List.mem_singleton.mp h]; rfl
  | n + 1, t, h => by
    obtain ⟨u, hu, ht⟩ := List.mem_flatMap.mp h
    obtain ⟨c, _, rfl⟩ := List.mem_map.mp ht
    rw [List.length_append, allT_len hu]
    rfl
theorem add_given (abc t : List Nat) : given abc.length (fun _ => true) (fun i => V.str (S (t ++ [abc.getD i 0]))) = sV (abc.map fun c => t ++ [c]) := by
  rw [given_all']
  apply List.ext_getElem?
  intro i
  unfold sV
  rw [List.map_map, List.getElem?_map, List.getElem?_map]
  by_cases c : i < abc.length
  · rw [List.getElem?_range c, List.getElem?_eq_getElem c]
    show some (V.str (S (t ++ [abc.getD i 0]))) = some (V.str (S (t ++ [abc[i]])))
    rw [List.getD_eq_getElem?_getD, List.getElem?_eq_getElem c]
    rfl
  · rw [List.getElem?_eq_none (by rw [List.length_range]; omega), List.getElem?_eq_none (by omega)]
    rfl
theorem flat_next {α β : Type} (g : α → List β) (T : List α) {i : Nat} (h : i < T.length) : (T.take (i + 1)).flatMap g = (T.take i).flatMap g ++ g T[i] := by
  rw [List.take_succ_eq_append_getElem h, List.flatMap_append]
  simp
theorem flat_len {α β : Type} (g : α → List β) : ∀ (T : List α) (i : Nat), ((T.take i).flatMap g).length ≤ (T.flatMap g).length := fun T i => by
  have : T.flatMap g = (T.take i).flatMap g ++ (T.drop i).flatMap g := by rw [← List.flatMap_append, List.take_append_drop]
  rw [this, List.length_append]
  omega
section
variable {K : PySem.W.Frag} {σ : L2.St} {H : Hp} {ta tb tc te tl : TE} {x y z v : V} {D : Ends} {tu tz : TS}
theorem s_ext {l : Addr} {xs ys : List V} (hl : H l = some (.lst xs)) (ha : Ev ta σ H (.ref l)) (h : EvL te σ H ys) (hz : xs.length + ys.length ≤ 100000) (k : ∀ p H1, H p = none → Ex H H1 → D.nx σ (upd H1 l (.lst (xs ++ ys)))) : tDrop (tBM K "list" rExtend ta (tCons te tNil)) D σ H := ha H (Ex.refl H) _ fun H1 e1 =>
  ⟨Or.inl ⟨rfl, xs, sq_of (e1 l _ hl)⟩, h H1 e1 _ fun p H2 hp e2 h2 => ⟨l, p, xs, ys, rfl, rfl, e2 l _ (e1 l _ hl), h2, Nat.le_trans hz (by decide), k p H2 (fresh_back e1 hp) (e1.trans e2)⟩⟩
abbrev rListO (K : PySem.W.Frag) : List V → Hp → VK → Prop := fun xs H Q => ∃ p ys, xs = [.ref p] ∧ (SqL K H p ys ∨ SqT K H p ys) ∧ ∀ l, H l = none → Q (.ref l) (upd H l (.lst ys))
theorem el_listO {p : Addr} {xs : List V} (h : Ev te σ H (.ref p)) (hS : SqL K H p xs) : EvL (tCB (rListO K) (tCons te tNil)) σ H xs := fun H1 e Q q => h H1 e _ fun H2 e2 =>
  ⟨p, xs, rfl, .inl (ex_l (e.trans e2) hS), fun l hl => q l _ (fresh_back e2 hl) (e2.trans (Ex.new hl)) upd_same⟩
theorem ev_maxR {p : Addr} {ns : List Int} {v : Int} (h : Ev te σ H (.ref p)) (hS : SqL K H p (ns.map V.int)) (hne : 0 < ns.length) (hv : ∀ m, m ∈ ns → (∀ y, y ∈ ns → y ≤ m) → m = v) : Ev (tCB (rMax K) (tCons te tNil)) σ H (.int v) := fun H1 e Q q => h H1 e _ fun H2 e2 =>
  ⟨p, ns, rfl, ex_l (e.trans e2) hS, hne, fun m hm hy => by rw [hv m hm hy]; exact q H2 e2⟩
theorem ev_cutlen {E : XK} {text : List Nat} (h : Ev te σ H (.str (S text))) (hl : text.length ≤ 4000) : Ev (tCB (rLenS K) (tCons (tOp (rIxL K) (tCall spLC [] E (tCons te tNil)) (tC (.int 0))) tNil)) σ H (.int (((cutC text).1.length : Nat) : Int)) := fun H0 e0 Q q =>
  h H0 e0 _ fun H1 e1 => ⟨text, rfl, hl, fun p k pl rs H2 np e2 hp hk R hpl => ⟨p, _, 0, .ref k, rfl, rfl, sq_of hp, rfl, k, rV rs, rfl, Or.inr (st_of hk), by
    have e : ((rV rs).length : Int) = (((cutC text).1.length : Nat) : Int) := by rw [List.length_map, R.len]
    rw [e]
    exact q H2 (e1.trans e2)⟩⟩
theorem el_listRg2 {a b : Nat} (ha : Ev ta σ H (.int (a : Int))) (hb : Ev tb σ H (.int (b : Int))) (h1 : a ≤ 40000) (h2 : b ≤ 40000) : EvL (tLstRg (tRg2 ta tb)) σ H (rgV (a : Int) (b : Int)) := fun H1 e Q q =>
  ha H1 e _ fun H2 e2 => hb H2 (e.trans e2) _ fun H3 e3 => ⟨(a : Int), (b : Int), rfl, rfl, by unfold RgOk; omega, fun l hl => q l _ (fresh_back (e2.trans e3) hl) ((e2.trans e3).trans (Ex.new hl)) upd_same⟩
theorem any_call2 {sp : Sp} {E : XK} {N : Nat} (ha : Ev ta σ H x) (hb : Ev tb σ H y) (hs : ∀ H1, ∀ Q : VK, (∀ z : Nat, z ≤ N → ∀ H2, Ex H1 H2 → Q (.int (z : Int)) H2) → sp [x, y] H1 Q E) : EvAny (tCall sp [] E (tCons ta (tCons tb tNil))) σ H N := fun H0 e0 Q q =>
  ha H0 e0 _ fun H1 e1 => hb H1 (e0.trans e1) _ fun H2 e2 => hs H2 Q fun z hz H4 e4 => q z hz H4 ((e1.trans e2).trans e4)
end
/-! ### all texts of a small length -/
def abcN (s : Nat) : List Nat := (List.range s).map (97 + ·)
def bnd (s : Nat) : Nat := [0, 40, 7, 4, 3, 3, 2].getD s 0
def gC (s L : Nat) : Nat := if s = 1 then ((List.range 50).filter fun m => decide (tri (m + 1) ≤ L)).length else if L ≤ s then L else s + (L - s) / 2
def chk (s L : Nat) : Bool := (allT (abcN s) L).all (fun t => decide ((cutC t).1.length ≤ gC s L)) && (allT (abcN s) L).any (fun t => decide ((cutC t).1.length = gC s L)) && decide ((allT (abcN s) L).length ≤ 200) && (decide (s ≠ 1) || (allT (abcN s) L).all (fun t => decide ((cutC t).1.length = gC s L)))
theorem chk_all : (List.range 7).all (fun s => decide (s = 0) || (List.range (bnd s + 1)).all fun L => chk s L) = true := by decide +kernel
theorem chk_at {s L : Nat} (h1 : 1 ≤ s) (h6 : s ≤ 6) (hL : L ≤ bnd s) : chk s L = true := by
  have h := List.all_eq_true.mp chk_all s (List.mem_range.mpr (by omega))
  rw [Bool.or_eq_true] at h
  rcases h with h | h
  · have := of_decide_eq_true h; omega
  · exact List.all_eq_true.mp h L (List.mem_range.mpr (by omega))
theorem g1_all : (List.range 41).all (fun L => decide (tri (gC 1 L) ≤ L) && decide (L < tri (gC 1 L + 1))) = true := by decide +kernel
theorem gC_is {s L : Nat} (h1 : 1 ≤ s) (h6 : s ≤ 6) (hL : L ≤ bnd s) : grF s L = gC s L := by
  by_cases c : s = 1
  · subst c
    have h := List.all_eq_true.mp g1_all L (List.mem_range.mpr (by have : bnd 1 = 40 := rfl; omega))
    rw [Bool.and_eq_true, decide_eq_true_eq, decide_eq_true_eq] at h
    exact grF_is (by decide) ⟨by rw [tri_tot]; exact h.1, by rw [tri_tot]; exact h.2⟩
  · have hb : bnd s ≤ s + s * s * 2 := by
      have : ∀ s, s < 7 → 2 ≤ s → bnd s ≤ s + s * s * 2 := by decide
      exact this s (by omega) (by omega)
    unfold gC
    rw [if_neg c]
    by_cases d : L ≤ s
    · rw [if_pos d]
      have hg := gr_loop (s := s) (w := 0) (rest := L) (far := L) h1 (Nat.zero_add L).symm (by rw [Nat.pow_one]; omega)
      have e : Sn s 0 + L / (0 + 1) = L := by
        show 0 + L / 1 = L
        rw [Nat.div_one, Nat.zero_add]
      rw [e] at hg
      exact grF_is h1 hg
    · rw [if_neg d]
      have hB : Bn s 1 = s := by
        have := cB s 0
        have e0 : Bn s 0 = 0 := rfl
        have e1 : Bn s (0 + 1) = Bn s 1 := rfl
        rw [e0, e1, Nat.pow_one] at this
        omega
      have hS : Sn s 1 = s := by
        have := cS s 0
        have e0 : Sn s 0 = 0 := rfl
        have e1 : Sn s (0 + 1) = Sn s 1 := rfl
        rw [e0, e1, Nat.pow_one] at this
        omega
      have hp : s ^ (1 + 1) = s * s := by rw [Nat.pow_succ, Nat.pow_one]
      have hg := gr_loop (s := s) (w := 1) (rest := L - s) (far := L) h1 (by rw [hB]; omega) (by rw [hp]; omega)
      rw [hS] at hg
      exact grF_is h1 hg
theorem small_ok {s L : Nat} (h1 : 1 ≤ s) (h6 : s ≤ 6) (hL : L ≤ bnd s) : (∀ t ∈ allT (abcN s) L, (cutC t).1.length ≤ grF s L) ∧ (∃ t ∈ allT (abcN s) L, (cutC t).1.length = grF s L) ∧ (allT (abcN s) L).length ≤ 200 ∧ (s = 1 → ∀ t ∈ allT (abcN s) L, (cutC t).1.length = grF s L) := by
  have h := chk_at h1 h6 hL
  rw [gC_is h1 h6 hL]
  unfold chk at h
  rw [Bool.and_eq_true, Bool.and_eq_true, Bool.and_eq_true] at h
  obtain ⟨⟨⟨a, b⟩, c⟩, d⟩ := h
  refine ⟨fun t ht => of_decide_eq_true (List.all_eq_true.mp a t ht), ?_, of_decide_eq_true c, fun e t ht => ?_⟩
  · obtain ⟨t, ht, hh⟩ := List.any_eq_true.mp b
    exact ⟨t, ht, of_decide_eq_true hh⟩
  · rw [Bool.or_eq_true] at d
    rcases d with d | d
    · exact absurd e (of_decide_eq_true d)
    · exact of_decide_eq_true (List.all_eq_true.mp d t ht)
theorem small_len {s L k : Nat} (h1 : 1 ≤ s) (h6 : s ≤ 6) (hL : L ≤ bnd s) (hk : k ≤ L) : (allT (abcN s) k).length ≤ 200 := (small_ok h1 h6 (Nat.le_trans hk hL)).2.2.1
/-- the greatest excess is that of the most pieces -/
theorem max_gap {s t g : Nat} (hs : 1 ≤ s) (ht : 1 ≤ t) {cs : List Nat} (h1 : ∀ c ∈ cs, c ≤ g) (h2 : g ∈ cs) (h3 : s = 1 → ∀ c ∈ cs, c = g) : ∀ m, m ∈ cs.map (gapF s t) → (∀ y, y ∈ cs.map (gapF s t) → y ≤ m) → m = gapF s t g := fun m hm hy => by
  obtain ⟨c, hc, rfl⟩ := List.mem_map.mp hm
  by_cases e : s = 1
  · rw [h3 e c hc]
  · have a := hy _ (List.mem_map.mpr ⟨g, h2, rfl⟩)
    have b := gap_le (s := s) (t := t) (by omega) ht (h1 c hc)
    omega
section
variable {P : Program} {w : World} {K : PySem.W.Frag} {mg : Str → Option Value} {base : Heap}
abbrev s_law_all_texts : Stmt := top 29
abbrev N_law_all_texts : List Str := ["alphabet", "letters", "texts", "turn", "longer", "text", "letter"]
theorem sc_law_all_texts : FnScope N_law_all_texts ["alphabet", "letters"] (defScope s_law_all_texts) := ⟨rfl, rfl, rfl, by decide +kernel, rfl, by decide +kernel, by decide +kernel⟩
def spAT : Sp := fun vs H Q _ => ∃ (abc : List Nat) (n : Nat), vs = [.str (S abc), .int (n : Int)] ∧ abc.length ≤ 10 ∧ n ≤ 1000 ∧ (∀ k, k ≤ n → (allT abc k).length ≤ 200) ∧ RetL (sV (allT abc n)) H Q
theorem ok_law_all_texts (T : TT mg) (F : At K mg "_law_all_texts" s_law_all_texts) : Dn P w K mg base 1 "_law_all_texts" s_law_all_texts ["alphabet", "letters"] spAT := by
  refine dn_ok F sc_law_all_texts (fun _ _ _ _ _ _ us hl => match us, hl with | [_, _], _ => rfl) (fun vs H Q E h => ?_) (fun f cdv A outer t H vs Q E hr h => ?_)
  · obtain ⟨abc, n, rfl, _⟩ := h; rfl
  · obtain ⟨abc, n, rfl, ha, hn, hsz, q⟩ := h
    refine ⟨_, (pss_cons (ps_set (i := 2) sc_law_all_texts.nd rfl (Or.inl rfl) (pe_lst (pa_cons pe_str pa_nil)))
      (pss_cons (ps_for PassesOwn.never rfl (pi_range1 (by rfl) T.range (pa_cons (pv 1) pa_nil)) (pg_name (i := 3) sc_law_all_texts.nd rfl (Or.inl rfl))
        (pss_cons (ps_set (i := 4) sc_law_all_texts.nd rfl (Or.inl rfl) (pe_lst pa_nil))
          (pss_cons (ps_for PassesOwn.never rfl (pi_list (pv 2)) (pg_name (i := 5) sc_law_all_texts.nd rfl (Or.inr rfl))
            (pss_one (ps_expr (pe_bm PySem.F.plainAttrs_list PySem.F.slot_list_extend PySem.F.type_list_extend mt_extend (pv 4) (pa_cons (pe_lc (te := tOp rAddS (tVar 5) (tVar 6)) (own := [("letter", 6)]) (g := gName 6) (tt := tYes) rfl sc_law_all_texts.nd (pi_str (pv 0)) (blkOk_by (own := [("letter", 6)]) (N := N_law_all_texts) (sc := defScope s_law_all_texts) (by decide +kernel)) (fun _ _ _ _ _ => pg_name (i := 6) sc_law_all_texts.nd rfl (Or.inl rfl)) (fun _ _ _ _ _ => pts_nil) (fun _ _ _ _ _ => pe_op op_add_str (pv 5) (pv 6))) pa_nil)))))
          (pss_one (ps_set (i := 2) sc_law_all_texts.nd rfl (Or.inl rfl) (pe_callTy call_list_of (by rfl) T.list_ (by decide +kernel) (pa_cons (pv 4) pa_nil)))))))
      (pss_one (ps_ret (pv 2))))), ?_⟩
    refine q_asgL (xs := sV (allT abc 0)) (el_lst (ea_cons ev_c ea_nil) (by show 1 ≤ 100000; decide)) fun tp H1 ntp e1 htp => ?_
    refine q_forR1 (n := (n : Int)) (ea_cons (ev_var rfl) ea_nil) ⟨by omega, by omega⟩ (fun k σ' H' => ∃ (tp : Addr) (x3 x4 x5 : Option V), σ' = [some (.str (S abc)), some (.int (n : Int)), some (.ref tp), x3, x4, x5, none] ∧ Ex H H' ∧ H' tp = some (.lst (sV (allT abc k))) ∧ H tp = none)
      (fun H2 e2 => ⟨tp, none, none, none, rfl, e1.trans e2, e2 _ _ htp, ntp⟩) ?_ ?_
    · rintro k σ' H' hk ⟨tp, x3, x4, x5, rfl, e, htp, ntp⟩
      have hk1 := hsz k (by omega)
      have hk2 := hsz (k + 1) (by omega)
      refine q_asgL (xs := sV []) (el_lst ea_nil (by show 0 ≤ 100000; decide)) fun lp H2 nlp e2 hlp => ?_
      have hne : tp ≠ lp := fun z => by rw [← z, htp] at nlp; cases nlp
      show tSeq _ _ _ [some (V.str (S abc)), some (V.int (n : Int)), some (V.ref tp), some (V.int (k : Int)), some (V.ref lp), x5, none] H2
      have hlen : (sV (allT abc k)).length = (allT abc k).length := List.length_map _
      refine q_forLn (K := K) (ev_var rfl) (sq_of (e2 _ _ htp)) (fun i σ2 H3 => ∃ (x5 : Option V), σ2 = [some (.str (S abc)), some (.int (n : Int)), some (.ref tp), some (.int (k : Int)), some (.ref lp), x5, none] ∧ Ex H' H3 ∧ H3 tp = some (.lst (sV (allT abc k))) ∧ H3 lp = some (.lst (sV (((allT abc k).take i).flatMap fun t => abc.map fun c => t ++ [c]))))
        (fun H3 e3 => ⟨x5, rfl, e2.trans e3, (e2.trans e3) _ _ htp, e3 _ _ hlp⟩) (fun i σ2 H3 _ ⟨_, _, _, h, _⟩ => sq_of h) ?_ ?_
      · rintro i x σ2 H3 hx ⟨y5, rfl, e3, htp3, hlp3⟩
        have hi : i < (allT abc k).length := by have := (List.getElem?_eq_some_iff.mp hx).1; omega
        rw [List.getElem?_map, List.getElem?_eq_getElem hi] at hx
        have hxe := Option.some.inj hx
        subst hxe
        have hl40 := allT_len (List.getElem_mem hi)
        have hfl := flat_next (fun t => abc.map fun c => t ++ [c]) (allT abc k) hi
        have hfn := flat_len (fun t => abc.map fun c => t ++ [c]) (allT abc k) (i + 1)
        have hfe : (allT abc k).flatMap (fun t => abc.map fun c => t ++ [c]) = allT abc (k + 1) := rfl
        rw [hfe] at hfn
        refine s_ext (K := K) (ys := sV (abc.map fun c => (allT abc k)[i] ++ [c])) hlp3 (ev_var rfl) (by
          rw [← add_given]
          refine el_lcS (fun _ => true) _ (ev_var rfl) (by omega) (fun _ => rfl) (fun _ _ _ _ _ => et_yes) (fun j c H4 e4 hc _ => ?_)
          have hcj : abc.getD j 0 = c := by rw [List.getD_eq_getElem?_getD, hc]; rfl
          rw [hcj]
          exact ev_op (ev_var rfl) (ev_var rfl) (rv_addS (by show _ + 1 ≤ 1000000; omega))) (by
          rw [hfl, List.length_append] at hfn
          show (List.map _ _).length + (List.map _ _).length ≤ 100000
          rw [List.length_map, List.length_map]
          omega) fun p H4 np e4 => ⟨some (.str (S (allT abc k)[i])), rfl, Ex.mut (e3.trans e4) nlp, ?_, ?_⟩
        · rw [upd_Ne (e4 _ _ htp3) hne]
        · rw [upd_same, hfl]
          unfold sV
          rw [List.map_append]
      · rintro σ2 H3 ⟨y5, rfl, e3, htp3, hlp3⟩
        rw [hlen, List.take_length] at hlp3
        exact s_asgL (el_listO (K := K) (ev_var rfl) (sq_of hlp3)) fun np H4 nn e4 hnp => ⟨np, some (.int (k : Int)), some (.ref lp), y5, rfl, (e.trans e3).trans e4, hnp, fresh_back (e.trans e3) nn⟩
    · rintro σ' H' ⟨tp, x3, x4, x5, rfl, e, htp, ntp⟩
      have h9 : ((n : Int)).toNat = n := by omega
      rw [h9] at htp
      exact s_ret (ev_var rfl) fun H3 e3 => q tp H3 ntp (e.trans e3) (e3 _ _ htp)
end
end My

set_option Elab.async false
set_option linter.all false
set_option maxRecDepth 100000
set_option maxHeartbeats 4000000
namespace My
open PySem PySem.Spec PyProof.Rows L2 Evl
open SX (S S_len S_cat S_beq S_beq_eq S_inj S_tl)
def SAs : List Int := [8, 100, 4, 4, 100000000, 100000000, 100000000, 100000000]
theorem abc_cut {s : Nat} (h6 : s ≤ 6) : cutL [97, 98, 99, 100, 101, 102] none (some (s : Int)) = abcN s := by
  have : ∀ s, s < 7 → ([97, 98, 99, 100, 101, 102] : List Nat).take s = abcN s := by decide
  rw [cutL_to (by omega)]
  exact this s (by omega)
theorem bnd_at {s : Nat} (h1 : 1 ≤ s) (h6 : s ≤ 6) : atI ([40, 7, 4, 3, 3, 2].map V.int) ((s : Int) - 1) = some (.int ((bnd s : Nat) : Int)) := by
  match s, h1, h6 with
  | 1, _, _ => rfl
  | 2, _, _ => rfl
  | 3, _, _ => rfl
  | 4, _, _ => rfl
  | 5, _, _ => rfl
  | 6, _, _ => rfl
theorem rg_nat (a b : Nat) : rgV (a : Int) (b : Int) = nV ((List.range (b - a)).map fun i => a + i) := by
  unfold rgV nV
  rw [List.map_map]
  have e : ((b : Int) - (a : Int)).toNat = b - a := by omega
  rw [e]
  refine List.map_congr_left fun i _ => ?_
  show V.int ((a : Int) + (i : Int)) = V.int ((a + i : Nat) : Int)
  rw [Int.natCast_add]
theorem given_gap (cs : List Nat) (f : Nat → Int) : given cs.length (fun _ => true) (fun i => V.int (f (cs.getD i 0))) = (cs.map f).map V.int := by
  rw [given_all']
  apply List.ext_getElem?
  intro i
  rw [List.map_map, List.getElem?_map, List.getElem?_map]
  by_cases c : i < cs.length
  · rw [List.getElem?_range c, List.getElem?_eq_getElem c]
    show some (V.int (f (cs.getD i 0))) = some (V.int (f cs[i]))
    rw [List.getD_eq_getElem?_getD, List.getElem?_eq_getElem c]
    rfl
  · rw [List.getElem?_eq_none (by rw [List.length_range]; omega), List.getElem?_eq_none (by omega)]
    rfl
section
variable {P : Program} {w : World} {K : PySem.W.Frag} {mg : Str → Option Value} {base : Heap}
abbrev s_law_asked : Stmt := top 31
abbrev N_law_asked : List Str := ["row", "top", "turn"]
theorem sc_law_asked : FnScope N_law_asked ["row"] (defScope s_law_asked) := ⟨rfl, rfl, rfl, by decide +kernel, rfl, by decide +kernel, by decide +kernel⟩
def spAs (K : PySem.W.Frag) : Sp := fun vs H Q _ => ∃ (p : Addr) (ds : List Int), vs = [.ref p] ∧ SqL K H p (ds.map V.int) ∧ Within ds SAs ∧ ∀ z : Nat, z ≤ cap - 1 → ∀ H2, Ex H H2 → Q (.int (z : Int)) H2
theorem ok_law_asked (D_law_big : Dn P w K mg base 1 "_law_big" s_law_big ["parts", "many", "top"] (spBg K)) (T : TT mg) (F : At K mg "_law_asked" s_law_asked) : Dn P w K mg base 2 "_law_asked" s_law_asked ["row"] (spAs K) := by
  refine dn_ok F sc_law_asked (fun _ _ _ _ _ _ us hl => match us, hl with | [_], _ => rfl) (fun vs H Q E h => ?_) (fun f cdv A outer t H vs Q E hr h => ?_)
  · obtain ⟨p, ds, rfl, _⟩ := h; rfl
  · obtain ⟨p, ds, rfl, hS, W, q⟩ := h
    refine ⟨_, (pss_cons (ps_if (pt_cmpR op_lt (pe_ix ix_list (pv 0) pe_int (fun _ _ => rfl)) pe_int (nomark _)) (pss_one (ps_ret (pe_op op_mod (pe_callTy call_int1 (by rfl) T.int_ (by decide +kernel) (pa_cons (pe_ix ix_list (pv 0) pe_int (fun _ _ => rfl)) pa_nil)) pe_int))) pss_nil)
      (pss_cons (ps_if (pt_cmpR op_lt (pe_ix ix_list (pv 0) pe_int (fun _ _ => rfl)) pe_int (nomark _)) (pss_cons (ps_set (i := 1) sc_law_asked.nd rfl (Or.inl rfl) pe_int)
        (pss_cons (ps_for PassesOwn.never rfl (pi_range1 (by rfl) T.range (pa_cons (pe_ix ix_list (pv 0) pe_int (fun _ _ => rfl)) pa_nil)) (pg_name (i := 2) sc_law_asked.nd rfl (Or.inl rfl))
          (pss_one (ps_set (i := 1) sc_law_asked.nd rfl (Or.inl rfl) (pe_op op_mul (pv 1) pe_int))))
        (pss_one (ps_ret (pe_callB (call_max2 rfl) (by rfl) T.max (by decide +kernel) (pa_cons pe_int (pa_cons (pe_op op_sub (pe_op op_add (pv 1) (pe_ix ix_list (pv 0) pe_int (fun _ _ => rfl))) pe_int) pa_nil))))))) pss_nil)
      (pss_one (ps_ret (pe_dn D_law_big hr (by decide) rfl (pa_cons (pe_slice sl_list (pv 0) (po_some pe_int) (po_some pe_int)) (pa_cons (pe_op op_add pe_int (pe_ix ix_list (pv 0) pe_int (fun _ _ => rfl))) (pa_cons (pe_op op_pow pe_int pe_int) pa_nil)))))))), ?_⟩
    have ld : ds.length = 8 := W.len
    obtain ⟨b0, b1⟩ := W.get 1 (by decide)
    obtain ⟨c0, c1⟩ := W.get 2 (by decide)
    have b1' : ds.getD 1 0 < 100 := b1
    have c1' : ds.getD 2 0 < 4 := c1
    have hcap : cap = 1000000000000000000000000000001 := by decide +kernel
    refine q_when (et_test (ev_op (ev_op (ev_var rfl) ev_c (rv_ixL (K := K) hS (at_d (i := 0) (by omega)))) ev_c rv_I0)) (fun _ H1 e1 => ?_) (fun _ H1 e1 => ?_)
    · have h0 := Int.emod_nonneg (ds.getD 4 0) (show (201 : Int) ≠ 0 by decide)
      have h1 := Int.emod_lt_of_pos (ds.getD 4 0) (show (0 : Int) < 201 by decide)
      obtain ⟨z, hz⟩ : ∃ z : Nat, ds.getD 4 0 % 201 = (z : Int) := ⟨_, (Int.toNat_of_nonneg h0).symm⟩
      exact s_ret (v := .int (z : Int)) (ev_is (ev_op (ev_int (ev_op (ev_var rfl) ev_c (rv_ixL (K := K) (ex_l e1 hS) (at_d (i := 4) (by omega))))) ev_c (rv_I (by decide))) (congrArg V.int hz)) fun H2 e2 => q z (by omega) H2 (e1.trans e2)
    refine q_when (et_test (ev_op (ev_op (ev_var rfl) ev_c (rv_ixL (K := K) (ex_l e1 hS) (at_d (i := 0) (by omega)))) ev_c rv_I0)) (fun _ H2 e2 => ?_) (fun _ H2 e2 => ?_)
    · have e12 := e1.trans e2
      refine q_asg (v := .int ((2 ^ 0 : Nat) : Int)) (ev_is ev_c rfl) fun H3 e3 => ?_
      refine q_forR1 (n := ds.getD 1 0) (ea_cons (ev_op (ev_var rfl) ev_c (rv_ixL (K := K) (ex_l (e12.trans e3) hS) (at_d (i := 1) (by omega)))) ea_nil) ⟨by omega, by omega⟩ (fun i σ' H' => ∃ x : Option V, σ' = [some (.ref p), some (.int ((2 ^ i : Nat) : Int)), x] ∧ Ex H H') (fun H4 e4 => ⟨none, rfl, (e12.trans e3).trans e4⟩) ?_ ?_
      · rintro i σ' H' hi ⟨x, rfl, e⟩
        exact s_asg (v := .int ((2 ^ (i + 1) : Nat) : Int)) (ev_is (ev_op (ev_var rfl) ev_c (rv_I (Or.inr (by decide)))) (congrArg V.int (by rw [Nat.pow_succ, Int.natCast_mul]; rfl))) fun H5 e5 => ⟨_, rfl, e.trans e5⟩
      · rintro σ' H' ⟨x, rfl, e⟩
        have hp : 2 ^ (ds.getD 1 0).toNat ≤ 2 ^ 99 := Nat.pow_le_pow_right (by decide) (by omega)
        have h99 : (2 : Nat) ^ 99 = 633825300114114700748351602688 := by decide +kernel
        rw [h99] at hp
        generalize 2 ^ (ds.getD 1 0).toNat = X at hp
        have hz0 : 0 ≤ (if (X : Int) + ds.getD 2 0 - 2 > 0 then (X : Int) + ds.getD 2 0 - 2 else 0) := by split <;> omega
        have hz1 : (if (X : Int) + ds.getD 2 0 - 2 > 0 then (X : Int) + ds.getD 2 0 - 2 else 0) ≤ 633825300114114700748351602690 := by split <;> omega
        obtain ⟨z, hz⟩ : ∃ z : Nat, (if (X : Int) + ds.getD 2 0 - 2 > 0 then (X : Int) + ds.getD 2 0 - 2 else 0) = (z : Int) := ⟨_, (Int.toNat_of_nonneg hz0).symm⟩
        exact s_ret (v := .int (z : Int)) (ev_is (ev_max2 ev_c (ev_op (ev_op (ev_var rfl) (ev_op (ev_var rfl) ev_c (rv_ixL (K := K) (ex_l e hS) (at_d (i := 2) (by omega)))) rv_I0) ev_c rv_I0)) (congrArg V.int hz)) fun H5 e5 => q z (by omega) H5 (e.trans e5)
    · have e12 := e1.trans e2
      exact s_retAny (any_call3 (N := cap - 1) (xs := (cutL ds (some 4) (some 8)).map V.int) (by rw [← cutL_map, ← cutV_L]; exact el_sl (ev_var rfl) (eo_some ev_c) (eo_some ev_c) (ex_l e12 hS)) (ev_op ev_c (ev_op (ev_var rfl) ev_c (rv_ixL (K := K) (ex_l e12 hS) (at_d (i := 3) (by omega)))) rv_I0) (ev_is (ev_op ev_c ev_c (rv_I c30)) (congrArg V.int e30)) (fun p H1 hp Q1 q1 => ⟨p, _, _, cap - 1, rfl, sq_of hp, q1⟩)) fun z H3 hz e3 => q z hz H3 (e12.trans e3)
abbrev s_law_great_hold : Stmt := top 35
abbrev N_law_great_hold : List Str := ["letters", "states", "row", "kind", "many", "total", "long", "near"]
theorem sc_law_great_hold : FnScope N_law_great_hold ["letters", "states", "row", "kind"] (defScope s_law_great_hold) := ⟨rfl, rfl, rfl, by decide +kernel, rfl, by decide +kernel, by decide +kernel⟩
def spGH (K : PySem.W.Frag) : Sp := fun vs H Q _ => ∃ (s t : Nat) (p : Addr) (ds : List Int) (kd : Int), vs = [.int (s : Int), .int (t : Int), .ref p, .int kd] ∧ (1 ≤ s ∧ s ≤ 6) ∧ (1 ≤ t ∧ t ≤ 10000) ∧ SqL K H p (ds.map V.int) ∧ RetV (.bl true) H Q
theorem ok_law_great_hold (D_law_big : Dn P w K mg base 1 "_law_big" s_law_big ["parts", "many", "top"] (spBg K)) (D_law_shortest : Dn P w K mg base 1 "_law_shortest" s_law_shortest ["letters", "many"] spSh) (D_law_worst_holds : Dn P w K mg base 5 "_law_worst_holds" s_law_worst_holds ["letters", "states", "long", "due"] spWH)
    (D_law_gap : Dn P w K mg base 3 "_law_gap" s_law_gap ["letters", "states", "many"] spEx) (D_law_greatest : Dn P w K mg base 1 "_law_greatest" s_law_greatest ["letters", "most"] spGC) (T : TT mg) (F : At K mg "_law_great_hold" s_law_great_hold) : Dn P w K mg base 6 "_law_great_hold" s_law_great_hold ["letters", "states", "row", "kind"] (spGH K) := by
  refine dn_ok F sc_law_great_hold (fun _ _ _ _ _ _ us hl => match us, hl with | [_, _, _, _], _ => rfl) (fun vs H Q E h => ?_) (fun f cdv A outer t' H vs Q E hr h => ?_)
  · obtain ⟨s, t, p, ds, kd, rfl, _⟩ := h; rfl
  · obtain ⟨s, t, p, ds, kd, rfl, hs, ht, hS, q⟩ := h
    refine ⟨_, (pss_cons (ps_set (i := 4) sc_law_great_hold.nd rfl (Or.inl rfl) (pe_dn D_law_big hr (by decide) rfl (pa_cons (pe_slice sl_list (pv 2) po_none (po_some pe_int)) (pa_cons (pe_op op_add pe_int (pe_op op_mod (pe_callTy call_int1 (by rfl) T.int_ (by decide +kernel) (pa_cons (pv 3) pa_nil)) pe_int)) (pa_cons (pe_op op_pow pe_int pe_int) pa_nil)))))
      (pss_cons (ps_set (i := 5) sc_law_great_hold.nd rfl (Or.inl rfl) (pe_dn D_law_shortest hr (by decide) rfl (pa_cons (pv 0) (pa_cons (pv 4) pa_nil))))
      (pss_cons (ps_set (i := 6) sc_law_great_hold.nd rfl (Or.inl rfl) (pe_dn D_law_big hr (by decide) rfl (pa_cons (pe_slice sl_list (pv 2) (po_some pe_int) (po_some pe_int)) (pa_cons (pe_op op_add pe_int (pe_op op_mod (pe_callTy call_int1 (by rfl) T.int_ (by decide +kernel) (pa_cons (pv 3) pa_nil)) pe_int)) (pa_cons (pe_op op_pow pe_int pe_int) pa_nil)))))
      (pss_cons (ps_for PassesOwn.never rfl (pi_list (pe_lst (pa_cons (pe_op op_sub (pv 5) pe_int) (pa_cons (pv 5) (pa_cons (pe_op op_add (pv 5) pe_int) (pa_cons (pv 6) pa_nil)))))) (pg_name (i := 7) sc_law_great_hold.nd rfl (Or.inl rfl))
        (pss_one (ps_if (PW.pt (pw_and (pt_cmpR op_ge (pv 7) pe_int (nomark _)) (pw_and1 (pt_not (pt_val (pe_dn D_law_worst_holds hr (by decide) rfl (pa_cons (pv 0) (pa_cons (pv 1) (pa_cons (pv 7) (pa_cons (pe_dn D_law_gap hr (by decide) rfl (pa_cons (pv 0) (pa_cons (pv 1) (pa_cons (pe_dn D_law_greatest hr (by decide) rfl (pa_cons (pv 0) (pa_cons (pv 7) pa_nil))) pa_nil)))) pa_nil)))))))))) (pss_one (ps_ret pe_bl)) pss_nil)))
      (pss_one (ps_ret pe_bl)))))), ?_⟩
    have hcap : cap = 1000000000000000000000000000001 := by decide +kernel
    refine q_asgAny (any_call3 (N := M14) (xs := (cutL ds none (some 2)).map V.int) (by rw [← cutL_map, ← cutV_L]; exact el_sl (ev_var rfl) eo_none (eo_some ev_c) hS) (ev_op ev_c (ev_op (ev_int (ev_var rfl)) ev_c (rv_I (by decide))) rv_I0) (ev_is (ev_op ev_c ev_c (rv_I c14)) (congrArg V.int e14)) (fun p H1 hp Q1 q1 => ⟨p, _, _, M14, rfl, sq_of hp, q1⟩)) fun c H1 hc e1 => ?_
    refine q_asgAny (N := cap - 1) (any_call2 (ev_var rfl) (ev_var rfl) (fun H1 Q1 q1 => ⟨s, c, rfl, hs, hc, q1⟩)) fun z H2 hz e2 => ?_
    have e12 := e1.trans e2
    refine q_asgAny (any_call3 (N := cap - 1) (xs := (cutL ds (some 2) (some 6)).map V.int) (by rw [← cutL_map, ← cutV_L]; exact el_sl (ev_var rfl) (eo_some ev_c) (eo_some ev_c) (ex_l e12 hS)) (ev_op ev_c (ev_op (ev_int (ev_var rfl)) ev_c (rv_I (by decide))) rv_I0) (ev_is (ev_op ev_c ev_c (rv_I c30)) (congrArg V.int e30)) (fun p H1 hp Q1 q1 => ⟨p, _, _, cap - 1, rfl, sq_of hp, q1⟩)) fun l H3 hl e3 => ?_
    have e13 := e12.trans e3
    refine q_forNLn (K := K) (xs := [(z : Int) - 1, (z : Int), (z : Int) + 1, (l : Int)].map V.int) (el_lst (ea_cons (ev_op (ev_var rfl) ev_c rv_I0) (ea_cons (ev_var rfl) (ea_cons (ev_op (ev_var rfl) ev_c rv_I0) (ea_cons (ev_var rfl) ea_nil)))) (by show 4 ≤ 100000; decide)) (fun sp i σ' H' => ∃ x : Option V, σ' = [some (.int (s : Int)), some (.int (t : Int)), some (.ref p), some (.int kd), some (.int (c : Int)), some (.int (z : Int)), some (.int (l : Int)), x] ∧ Ex H H' ∧ H' sp = some (.lst ([(z : Int) - 1, (z : Int), (z : Int) + 1, (l : Int)].map V.int)))
      (fun sp H4 nsp e4 hsp => ⟨none, rfl, e13.trans e4, hsp⟩) (fun sp i σ' H' _ ⟨_, _, _, h⟩ => sq_of h) ?_ ?_
    · rintro sp i x σ' H' hx ⟨x1, rfl, e, hsp⟩
      rw [List.getElem?_map] at hx
      obtain ⟨n, hn, rfl⟩ := Option.map_eq_some_iff.mp hx
      have hnm := List.mem_of_getElem? hn
      simp only [List.mem_cons, List.not_mem_nil, or_false] at hnm
      have hnc : n ≤ (cap : Int) := by omega
      show tIfS _ _ _ _ [some (V.int (s : Int)), some (V.int (t : Int)), some (V.ref p), some (V.int kd), some (V.int (c : Int)), some (V.int (z : Int)), some (V.int (l : Int)), some (V.int n)] H'
      by_cases h0 : 0 ≤ n
      · obtain ⟨L, rfl⟩ := Int.eq_ofNat_of_zero_le h0
        have hL : L ≤ cap := by omega
        exact s_when (b := decide (((L : Nat) : Int) ≥ 0) && !true) (et_and (et_test (ev_op (ev_var rfl) ev_c rv_I0)) fun _ => et_not (et_B (ev_call (ea_cons (ev_var rfl) (ea_cons (ev_var rfl) (ea_cons (ev_var rfl) (ea_cons (ev_call (ea_cons (ev_var rfl) (ea_cons (ev_var rfl) (ea_cons (ev_call (ea_cons (ev_var rfl) (ea_cons (ev_var rfl) ea_nil)) (sv_gc hs.1 hs.2 hL)) ea_nil))) (sv_ex hs ht (gr_Big hs.1 hL))) ea_nil)))) (sv_wh hs ht hL)))) (fun hb => by rw [Bool.and_eq_true] at hb; exact absurd hb.2 (by decide)) fun _ H5 e5 => ⟨some (.int ((L : Nat) : Int)), rfl, e.trans e5, e5 _ _ hsp⟩
      · refine s_when (b := decide (n ≥ 0) && false) (et_and (et_test (ev_op (ev_var rfl) ev_c rv_I0)) fun hb => absurd (of_decide_eq_true hb) h0) (fun hb => by rw [Bool.and_eq_true] at hb; exact absurd hb.2 (by decide)) fun _ H5 e5 => ⟨some (.int n), rfl, e.trans e5, e5 _ _ hsp⟩
    · rintro sp σ' H' ⟨x1, rfl, e, hsp⟩
      exact s_ret ev_c fun H5 e5 => q H5 (e.trans e5)
abbrev s_law_small_hold : Stmt := top 34
abbrev N_law_small_hold : List Str := ["letters", "states", "row", "short", "gaps", "pieces", "text", "many"]
theorem sc_law_small_hold : FnScope N_law_small_hold ["letters", "states", "row"] (defScope s_law_small_hold) := ⟨rfl, rfl, rfl, by decide +kernel, rfl, by decide +kernel, by decide +kernel⟩
def spSm (K : PySem.W.Frag) : Sp := fun vs H Q _ => ∃ (s t : Nat) (p : Addr) (ds : List Int), vs = [.int (s : Int), .int (t : Int), .ref p] ∧ (1 ≤ s ∧ s ≤ 6) ∧ (1 ≤ t ∧ t ≤ 10000) ∧ SqL K H p (ds.map V.int) ∧ ds.length = 2 ∧ 0 ≤ ds.getD 1 0 ∧ ds.getD 1 0 ≤ 400 ∧ RetV (.bl true) H Q
theorem ok_law_small_hold (D_law_all_texts : Dn P w K mg base 1 "_law_all_texts" s_law_all_texts ["alphabet", "letters"] spAT) (D_law_gap : Dn P w K mg base 3 "_law_gap" s_law_gap ["letters", "states", "many"] spEx) (D_law_cut : Dn P w K mg base 1 "_law_cut" s_law_cut ["text"] spLC) (D_law_worst_holds : Dn P w K mg base 5 "_law_worst_holds" s_law_worst_holds ["letters", "states", "long", "due"] spWH)
    (D_law_least : Dn P w K mg base 1 "_law_least" s_law_least ["letters"] spLs) (D_law_greatest : Dn P w K mg base 1 "_law_greatest" s_law_greatest ["letters", "most"] spGC) (T : TT mg) (F : At K mg "_law_small_hold" s_law_small_hold) : Dn P w K mg base 6 "_law_small_hold" s_law_small_hold ["letters", "states", "row"] (spSm K) := by
  refine dn_ok F sc_law_small_hold (fun _ _ _ _ _ _ us hl => match us, hl with | [_, _, _], _ => rfl) (fun vs H Q E h => ?_) (fun f cdv A outer t' H vs Q E hr h => ?_)
  · obtain ⟨s, t, p, ds, rfl, _⟩ := h; rfl
  · obtain ⟨s, t, p, ds, rfl, hs, ht, hS, ld, d10, d14, q⟩ := h
    refine ⟨_, (pss_cons (ps_set (i := 3) sc_law_small_hold.nd rfl (Or.inl rfl) (pe_op op_mod (pe_callTy call_int1 (by rfl) T.int_ (by decide +kernel) (pa_cons (pe_ix ix_list (pv 2) pe_int (fun _ _ => rfl)) pa_nil)) (pe_op op_add pe_int (pe_ix ix_list (pe_lst (pa_cons pe_int (pa_cons pe_int (pa_cons pe_int (pa_cons pe_int (pa_cons pe_int (pa_cons pe_int pa_nil))))))) (pe_op op_sub (pv 0) pe_int) (fun _ _ => rfl)))))
      (pss_cons (ps_setLc (te := tCall spEx [] E0 (tCons (tVar 0) (tCons (tVar 1) (tCons (tCB (rLenS K) (tCons (tOp (rIxL K) (tCall spLC [] E0 (tCons (tVar 6) tNil)) (tC (.int 0))) tNil)) tNil)))) (i := 4) (own := [("text", 6)]) (g := gName 6) (tt := tYes) rfl sc_law_small_hold.nd rfl rfl (sw_true rfl rfl rfl (by decide +kernel)) (pi_list (pe_dn D_law_all_texts hr (by decide) rfl (pa_cons (pe_slice sl_str pe_str po_none (po_some (pv 0))) (pa_cons (pv 3) pa_nil)))) (blkOk_by (own := [("text", 6)]) (N := N_law_small_hold) (sc := defScope s_law_small_hold) (by decide +kernel)) (fun _ _ _ _ _ => pg_name (i := 6) sc_law_small_hold.nd rfl (Or.inl rfl)) (fun _ _ _ _ _ => pts_nil) (fun _ _ _ _ _ => (pe_dn D_law_gap hr (by decide) rfl (pa_cons (pv 0) (pa_cons (pv 1) (pa_cons (pe_callB call_len_seq (by rfl) T.len boot_len (pa_cons (pe_ix ix_list (pe_dn D_law_cut hr (by decide) rfl (pa_cons (pv 6) pa_nil)) pe_int (fun _ _ => rfl)) pa_nil)) pa_nil))))))
      (pss_cons (ps_if (pt_not (pt_val (pe_dn D_law_worst_holds hr (by decide) rfl (pa_cons (pv 0) (pa_cons (pv 1) (pa_cons (pv 3) (pa_cons (pe_callB (cr_max rfl) (by rfl) T.max (by decide +kernel) (pa_cons (pv 4) pa_nil)) pa_nil))))))) (pss_one (ps_ret pe_bl)) pss_nil)
      (pss_cons (ps_set (i := 5) sc_law_small_hold.nd rfl (Or.inl rfl) (pe_listRg rfl rfl T.list_ (prg_2 rfl T.range (pe_dn D_law_least hr (by decide) rfl (pa_cons (pe_ix ix_list (pv 2) pe_int (fun _ _ => rfl)) pa_nil)) (pe_op op_add (pe_dn D_law_greatest hr (by decide) rfl (pa_cons (pv 0) (pa_cons (pe_ix ix_list (pv 2) pe_int (fun _ _ => rfl)) pa_nil))) pe_int))))
      (pss_one (ps_ret (pe_dn D_law_worst_holds hr (by decide) rfl (pa_cons (pv 0) (pa_cons (pv 1) (pa_cons (pe_ix ix_list (pv 2) pe_int (fun _ _ => rfl)) (pa_cons (pe_callB (cr_max rfl) (by rfl) T.max (by decide +kernel) (pa_cons (pe_lc (own := [("many", 7)]) (g := gName 7) (tt := tYes) rfl sc_law_small_hold.nd (pi_list (pv 5)) (blkOk_by (own := [("many", 7)]) (N := N_law_small_hold) (sc := defScope s_law_small_hold) (by decide +kernel)) (fun _ _ _ _ _ => pg_name (i := 7) sc_law_small_hold.nd rfl (Or.inl rfl)) (fun _ _ _ _ _ => pts_nil) (fun _ _ _ _ _ => (pe_dn D_law_gap hr (by decide) rfl (pa_cons (pv 0) (pa_cons (pv 1) (pa_cons (pv 7) pa_nil)))))) pa_nil)) pa_nil))))))))))), ?_⟩
    have hb0 : bnd s ≤ 40 := by
      have : ∀ s, s < 7 → bnd s ≤ 40 := by decide
      exact this s (by omega)
    have h0 := Int.emod_nonneg (ds.getD 0 0) (show (1 : Int) + ((bnd s : Nat) : Int) ≠ 0 by omega)
    have h1 := Int.emod_lt_of_pos (ds.getD 0 0) (show (0 : Int) < 1 + ((bnd s : Nat) : Int) by omega)
    obtain ⟨sh, hsh⟩ : ∃ sh : Nat, ds.getD 0 0 % (1 + ((bnd s : Nat) : Int)) = (sh : Int) := ⟨_, (Int.toNat_of_nonneg h0).symm⟩
    have hshb : sh ≤ bnd s := by omega
    obtain ⟨o1, o2, o3, o4⟩ := small_ok hs.1 hs.2 hshb
    have hcB := cap_Big
    have hcap : cap = 1000000000000000000000000000001 := by decide +kernel
    refine q_asg (v := .int (sh : Int)) (ev_is (ev_op (ev_int (ev_op (ev_var rfl) ev_c (rv_ixL (K := K) hS (at_d (i := 0) (by omega))))) (ev_op ev_c (ev_ixNew (K := K) (xs := [40, 7, 4, 3, 3, 2].map V.int) (el_lst (ea_cons ev_c (ea_cons ev_c (ea_cons ev_c (ea_cons ev_c (ea_cons ev_c (ea_cons ev_c ea_nil)))))) (by show 6 ≤ 100000; decide)) (fun H1 e1 => ev_op (ev_var rfl) ev_c rv_I0) (bnd_at hs.1 hs.2)) rv_I0) (rv_I (show (0 : Int) < 1 + ((bnd s : Nat) : Int) by omega))) (congrArg V.int hsh)) fun H1 e1 => ?_
    have hlen : (sV (allT (abcN s) sh)).length = (allT (abcN s) sh).length := List.length_map _
    have hal : (abcN s).length ≤ 10 := by unfold abcN; rw [List.length_map, List.length_range]; omega
    have hcl : ((allT (abcN s) sh).map fun x => (cutC x).1.length).length = (allT (abcN s) sh).length := List.length_map _
    refine q_asgL (xs := (((allT (abcN s) sh).map fun x => (cutC x).1.length).map (gapF s t)).map V.int) (by
      rw [← given_gap, hcl, ← hlen]
      refine el_lcNL (K := K) (fun _ => true) _ (el_call (xs := sV (allT (abcN s) sh)) (ea_cons (ev_is (ev_slS (l := [97, 98, 99, 100, 101, 102]) (lo := none) (hi := some (s : Int)) (ev_is ev_c rfl) eo_none (eo_some (ev_var rfl)) (by decide)) (by rw [abc_cut hs.2])) (ea_cons (ev_var rfl) ea_nil)) (fun H2 e2 Q1 q1 _ => ⟨abcN s, sh, rfl, hal, by omega, fun k hk => small_len hs.1 hs.2 hshb hk, q1⟩)) (by omega) (fun _ => rfl) (fun _ _ _ _ _ => et_yes) (fun i x H2 e2 hx _ => ?_)
      have hi : i < (allT (abcN s) sh).length := by have := (List.getElem?_eq_some_iff.mp hx).1; omega
      rw [List.getElem?_map, List.getElem?_eq_getElem hi] at hx
      have hxe := Option.some.inj hx
      subst hxe
      have hg : ((allT (abcN s) sh).map fun x => (cutC x).1.length).getD i 0 = (cutC (allT (abcN s) sh)[i]).1.length := by
        rw [List.getD_eq_getElem?_getD, List.getElem?_map, List.getElem?_eq_getElem hi]
        rfl
      rw [hg]
      have hl1 := allT_len (List.getElem_mem hi)
      have hcc := cutC_len (allT (abcN s) sh)[i]
      exact ev_call (ea_cons (ev_var rfl) (ea_cons (ev_var rfl) (ea_cons (ev_cutlen (ev_var rfl) (by omega)) ea_nil))) (sv_ex hs ht (by omega))) fun gp H2 ngp e2 hgp => ?_
    have e12 := e1.trans e2
    obtain ⟨tm, htm, htg⟩ := o2
    have hmax := max_gap (s := s) (t := t) (g := grF s sh) hs.1 ht.1 (cs := (allT (abcN s) sh).map fun x => (cutC x).1.length) (fun c hc => by
      obtain ⟨x, hx, rfl⟩ := List.mem_map.mp hc
      exact o1 x hx) (List.mem_map.mpr ⟨tm, htm, htg⟩) (fun e c hc => by
      obtain ⟨x, hx, rfl⟩ := List.mem_map.mp hc
      exact o4 e x hx)
    have hpos : 0 < (((allT (abcN s) sh).map fun x => (cutC x).1.length).map (gapF s t)).length := by
      rw [List.length_map, List.length_map]
      exact List.length_pos_of_mem htm
    refine q_when (b := !true) (et_not (et_B (ev_call (ea_cons (ev_var rfl) (ea_cons (ev_var rfl) (ea_cons (ev_var rfl) (ea_cons (ev_maxR (K := K) (v := gapF s t (grF s sh)) (ev_var rfl) (sq_of hgp) hpos hmax) ea_nil)))) (sv_wh hs ht (by omega))))) (fun hb => absurd hb (by decide)) fun _ H3 e3 => ?_
    have e13 := e12.trans e3
    obtain ⟨L, hL⟩ : ∃ L : Nat, ds.getD 1 0 = (L : Int) := ⟨_, (Int.toNat_of_nonneg d10).symm⟩
    have hL4 : L ≤ 400 := by omega
    have at1 : atI (ds.map V.int) 1 = some (.int (L : Int)) := by rw [← hL]; exact at_d (i := 1) (by omega)
    have d1 : ∀ {σ : L2.St} {H3 : Hp}, Ex H H3 → σ[2]? = some (some (.ref p)) → Ev (tOp (rIxL K) (tVar 2) (tC (.int 1))) σ H3 (.int (L : Int)) := fun e hv => ev_op (ev_var hv) ev_c (rv_ixL (K := K) (ex_l e hS) at1)
    have hg1 := grF_le (s := 1) (L := L) (by decide)
    have hgs := grF_le (s := s) (L := L) hs.1
    have hbase := gr_base hs.1 (grF_spec (s := 1) (L := L) (by decide)) (grF_spec (s := s) (L := L) hs.1)
    refine q_asgL (xs := rgV ((grF 1 L : Nat) : Int) ((grF s L + 1 : Nat) : Int)) (el_listRg2 (ev_call (ea_cons (d1 e13 rfl) ea_nil) (sv_ls hL4)) (ev_is (ev_op (ev_call (ea_cons (ev_var rfl) (ea_cons (d1 e13 rfl) ea_nil)) (sv_gc hs.1 hs.2 (by omega))) ev_c rv_I0) (by rw [Int.natCast_add]; rfl)) (by omega) (by omega)) fun rp H4 nrp e4 hrp => ?_
    have e14 := e13.trans e4
    rw [rg_nat] at hrp
    have hcs : ∀ c ∈ (List.range (grF s L + 1 - grF 1 L)).map (fun i => grF 1 L + i), grF 1 L ≤ c ∧ c ≤ grF s L := fun c hc => by
      obtain ⟨i, hi, rfl⟩ := List.mem_map.mp hc
      have := List.mem_range.mp hi
      omega
    have hmem : grF s L ∈ (List.range (grF s L + 1 - grF 1 L)).map (fun i => grF 1 L + i) := List.mem_map.mpr ⟨grF s L - grF 1 L, List.mem_range.mpr (by omega), by omega⟩
    have hcl2 : ((List.range (grF s L + 1 - grF 1 L)).map (fun i => grF 1 L + i)).length ≤ 401 := by rw [List.length_map, List.length_range]; omega
    generalize hcse : (List.range (grF s L + 1 - grF 1 L)).map (fun i => grF 1 L + i) = cs at hrp hcs hmem hcl2
    have hmax2 := max_gap (s := s) (t := t) (g := grF s L) hs.1 ht.1 (cs := cs) (fun c hc => (hcs c hc).2) hmem (fun e c hc => by
      have := hcs c hc
      subst e
      omega)
    have hpos2 : 0 < (cs.map (gapF s t)).length := by
      rw [List.length_map]
      exact List.length_pos_of_mem hmem
    have hln : (nV cs).length = cs.length := List.length_map _
    refine s_ret (ev_call (ea_cons (ev_var rfl) (ea_cons (ev_var rfl) (ea_cons (d1 e14 rfl) (ea_cons (ev_maxL (K := K) (ns := cs.map (gapF s t)) (v := gapF s t (grF s L)) (by
      rw [← given_gap, ← hln]
      refine el_lcL (K := K) (fun _ => true) _ (ev_var rfl) (sq_of hrp) (by omega) (fun _ => rfl) (fun _ _ _ _ _ => et_yes) (fun i x H5 e5 hx _ => ?_)
      have hi : i < cs.length := by have := (List.getElem?_eq_some_iff.mp hx).1; omega
      rw [List.getElem?_map, List.getElem?_eq_getElem hi] at hx
      have hxe := Option.some.inj hx
      subst hxe
      have hg : cs.getD i 0 = cs[i] := by
        rw [List.getD_eq_getElem?_getD, List.getElem?_eq_getElem hi]
        rfl
      rw [hg]
      have := hcs _ (List.getElem_mem hi)
      exact ev_call (ea_cons (ev_var rfl) (ea_cons (ev_var rfl) (ea_cons (ev_var rfl) ea_nil))) (sv_ex hs ht (by omega))) hpos2 hmax2) ea_nil)))) (sv_wh hs ht (by omega))) fun H5 e5 => q H5 (e14.trans e5)
end
end My

set_option Elab.async false
set_option linter.all false
set_option maxRecDepth 100000
set_option maxHeartbeats 4000000
namespace My
open PySem PySem.Spec PyProof.Rows L2 Evl
open SX (S S_len S_cat S_beq S_beq_eq S_inj S_tl)
theorem repr_len {ns : List Int} (hb : ∀ n ∈ ns, n.natAbs.log2 < 1920) (hl : ns.length ≤ 1000) : (reprInts ns).length ≤ sizeLine := by
  have h : (listText (PyData.shownAll (ns.map PyData.int))).length ≤ ((PyData.shownAll (ns.map PyData.int)).map (·.length)).sum + 2 * (PyData.shownAll (ns.map PyData.int)).length + 3 := listText_len_le _
  have e : PyData.shownAll (ns.map PyData.int) = ns.map fun n => Str.ofString (toString n) := by
    rw [shownAll_eq_map, List.map_map]
    rfl
  have hs : ∀ ms : List Int, (∀ n ∈ ms, n.natAbs.log2 < 1920) → (((ms.map fun n => Str.ofString (toString n)).map (·.length)).sum) ≤ 1921 * ms.length := by
    intro ms
    induction ms with
    | nil => intro _; simp
    | cons n ms ih =>
      intro hm
      have a := ih fun m hmm => hm m (List.mem_cons_of_mem _ hmm)
      have b := int_text_len_1921 (hm n List.mem_cons_self)
      simp only [List.map_cons, List.sum_cons, List.length_cons] at a ⊢
      omega
  have hs2 := hs ns hb
  rw [e, List.length_map] at h
  have e2 : (reprInts ns).length = (listText (PyData.shownAll (ns.map PyData.int))).length := by
    unfold reprInts
    simp only [PyData.shown]
  rw [e2, e]
  have : sizeLine = 16777216 := rfl
  omega
theorem log2_int {z : Int} (h : z.natAbs < 2 ^ 1000) : z.natAbs.log2 < 1920 := by
  by_cases e : z.natAbs = 0
  · rw [e]; decide
  · have := (Nat.log2_lt e).mpr h
    omega
theorem rsum_small {s : Nat} (h1 : 1 ≤ s) (h6 : s ≤ 6) : ∀ n, n ≤ Big + 1 → rsum s n ≤ n * 260
  | 0, _ => Nat.le_refl _
  | n + 1, h => by
    have ih := rsum_small h1 h6 n (by omega)
    have hw : rowW s n ≤ 260 := by
      refine cl_le (by omega) ?_
      have a : (n + 1) * (s - 1) ≤ (Big + 1) * 5 := Nat.mul_le_mul h (by omega)
      have b : (Big + 1) * 5 + 2 ≤ 2 ^ 260 := by unfold Big; decide +kernel
      omega
    show rsum s n + rowW s n ≤ (n + 1) * 260
    omega
theorem pl_small {s c : Nat} (h1 : 1 ≤ s) (h6 : s ≤ 6) (hc : c ≤ cap) : plF s c ≤ (cap + 2) * 520 := by
  have hB := cap_Big
  have h := rsum_small h1 h6 (c + 1) (by omega)
  have hw : cl (c + 1) ≤ 260 := by
    refine cl_le (by omega) ?_
    have b : cap + 1 ≤ 2 ^ 260 := by unfold cap; decide +kernel
    omega
  unfold plF
  omega
theorem fl_small {t : Nat} (ht : 1 ≤ t) : ∀ c, flT t c ≤ c * (c + 2)
  | 0 => by
    have : flT t 0 = 0 := totE_zero _ _
    omega
  | c + 1 => by
    have ih := fl_small ht c
    have h2 : flT t (c + 1) = flT t c + flF (t * (t - 1) / 2) (t * t) c := totE_succ (Nat.mul_pos ht ht) c
    have h3 := cntS_le (CmS (t * (t - 1) / 2) (t * t)) c (c + 2)
    have h4 : flF (t * (t - 1) / 2) (t * t) c ≤ c + 2 := h3
    rw [h2, Nat.add_mul, Nat.one_mul]
    have h5 : c * (c + 1 + 2) = c * (c + 2) + c := by rw [show c + 1 + 2 = (c + 2) + 1 by omega, Nat.mul_add, Nat.mul_one]
    omega
theorem two_small {s t c : Nat} (hs : 1 ≤ s ∧ s ≤ 6) (ht : 1 ≤ t ∧ t ≤ 10000) (hc : c ≤ cap) : ∀ n ∈ [gapF s t c, ((toldF s t c : Nat) : Int)], n.natAbs.log2 < 1920 := by
  have h1 := pl_small hs.1 hs.2 hc
  have h2 := fl_small ht.1 c
  have h3 : c * (c + 2) ≤ cap * (cap + 2) := Nat.mul_le_mul hc (by omega)
  have k1 : (cap + 2) * 520 + cap * (cap + 2) < 2 ^ 1000 := by unfold cap; decide +kernel
  have he : eachF s t ≤ 40 := by
    have := cl_s hs.1 hs.2
    have := cl_t ht.1 ht.2
    unfold eachF
    omega
  have h4 : c * eachF s t ≤ cap * 40 := Nat.mul_le_mul hc he
  have hw : cl (c + 2) ≤ 260 := by
    refine cl_le (by omega) ?_
    have b : cap + 2 ≤ 2 ^ 260 := by unfold cap; decide +kernel
    omega
  have hw2 := cl_s hs.1 hs.2
  have k2 : cap * 40 + 1000 < 2 ^ 1000 := by unfold cap; decide +kernel
  intro n hn
  simp only [List.mem_cons, List.not_mem_nil, or_false] at hn
  generalize (2 : Nat) ^ 1000 = Z at k1 k2
  rcases hn with rfl | rfl
  · refine log2_int ?_
    generalize hZ : (2 : Nat) ^ 1000 = Z2
    have e : Z2 = Z2 := rfl
    have k1' : (cap + 2) * 520 + cap * (cap + 2) < Z2 := by rw [← hZ]; unfold cap; decide +kernel
    unfold gapF
    omega
  · refine log2_int ?_
    generalize hZ : (2 : Nat) ^ 1000 = Z2
    have k2' : cap * 40 + 1000 < Z2 := by rw [← hZ]; unfold cap; decide +kernel
    unfold toldF
    rw [Int.natAbs_natCast]
    omega
def SL0 : List Int := [6, 6, 3600, 2, 8, 100, 4, 4, 100000000, 100000000, 100000000, 100000000, 100000000, 100000000, 100000000, 100000000]
def SL1 : List Int := [41, 401, 4, 100000000, 100000000, 100000000, 100000000, 100000000, 100000000]
theorem okL0 : OkSizes SL0 := by unfold OkSizes; decide
theorem okL1 : OkSizes SL1 := by unfold OkSizes; decide
theorem e_l0 : [V.int 6, V.int 6, V.int 3600, V.int 2, V.int 8, V.int 100, V.int 4, V.int 4] ++ (List.replicate (Int.toNat 8) [V.int 100000000]).flatten = SL0.map V.int := by decide +kernel
theorem e_l1 : [V.int 41, V.int 401, V.int 4] ++ (List.replicate (Int.toNat 6) [V.int 100000000]).flatten = SL1.map V.int := by decide +kernel
theorem within_drop : ∀ {ds ss : List Int} (n : Nat), Within ds ss → Within (ds.drop n) (ss.drop n)
  | _, _, 0, h => h
  | [], [], n + 1, h => h
  | d :: ds, s :: ss, n + 1, h => within_drop n h.2
  | [], _ :: _, _ + 1, h => h.elim
  | _ :: _, [], _ + 1, h => h.elim
theorem within_take : ∀ (n : Nat) {xs ys : List Int}, Within xs ys → Within (xs.take n) (ys.take n)
  | 0, _, _, _ => (trivial : Within [] [])
  | n + 1, xs, [], h => by
    match xs, h with
    | [], _ => exact (trivial : Within [] [])
  | n + 1, xs, y :: ys, h => by
    obtain ⟨d, rest, rfl, hd, hr⟩ := within_cons h
    exact ⟨hd, within_take n hr⟩
theorem q_cutIf2 {σ : L2.St} {H : Hp} {t : L2.TT} {tu tz : TS} {D : Ends} {b : Bool} (M : L2.St → Hp → Prop) (h : EvT t σ H b) (h1 : b = true → ∀ H1, Ex H H1 → tu { D with nx := M } σ H1) (h2 : b = false → ∀ H1, Ex H H1 → M σ H1) (k : ∀ σ' H', M σ' H' → tz D σ' H') : tCut (tIfS t tu tNext) tz D σ H :=
  q_cut (M := M) (s_when (D := { D with nx := M }) h h1 h2) k
section
variable {K : PySem.W.Frag} {σ : L2.St} {H : Hp} {ta tb tc td te tl : TE} {x y z u v : V} {D : Ends} {tu tz : TS}
theorem ev_callVVL {sp : Sp} {E : XK} {xs : List V} (ha : Ev ta σ H x) (hb : Ev tb σ H y) (hc : EvL tc σ H xs) (hs : ∀ p H1, H1 p = some (.lst xs) → SpV sp [x, y, .ref p] H1 z) : Ev (tCall sp [] E (tCons ta (tCons tb (tCons tc tNil)))) σ H z := fun H0 e0 Q q =>
  ha H0 e0 _ fun H1 e1 => hb H1 (e0.trans e1) _ fun H2 e2 => hc H2 ((e0.trans e1).trans e2) _ fun p H3 np e3 hp => hs p H3 hp H3 (Ex.refl H3) Q (fun H4 e4 => q H4 (((e1.trans e2).trans e3).trans e4)) E
theorem ev_callVVLV {sp : Sp} {E : XK} {xs : List V} (ha : Ev ta σ H x) (hb : Ev tb σ H y) (hc : EvL tc σ H xs) (hd : Ev td σ H u) (hs : ∀ p H1, H1 p = some (.lst xs) → SpV sp [x, y, .ref p, u] H1 z) : Ev (tCall sp [] E (tCons ta (tCons tb (tCons tc (tCons td tNil))))) σ H z := fun H0 e0 Q q =>
  ha H0 e0 _ fun H1 e1 => hb H1 (e0.trans e1) _ fun H2 e2 => hc H2 ((e0.trans e1).trans e2) _ fun p H3 np e3 hp => hd H3 (((e0.trans e1).trans e2).trans e3) _ fun H4 e4 => hs p H4 (e4 _ _ hp) H4 (Ex.refl H4) Q (fun H5 e5 => q H5 ((((e1.trans e2).trans e3).trans e4).trans e5)) E
theorem any_minB {a N : Nat} {th ty to : TE} (h1 : Ev th σ H (.int (N : Int))) (h2 : Ev ty σ H (.int (a : Int))) (h3 : Ev to σ H (.int 1)) (hb : EvAny te σ H N) : EvAny (tCB rMin2 (tCons th (tCons (tOp (rI0 fun i j => .int (i + j)) (tOp (rI0 fun i j => .int (i + j)) ty to) te) tNil))) σ H N := fun H0 e0 Q q =>
  h1 H0 e0 _ fun H1 e1 => h2 H1 (e0.trans e1) _ fun H2 e2 => h3 H2 ((e0.trans e1).trans e2) _ fun H3 e3 => ⟨(a : Int), 1, rfl, rfl, hb H3 (((e0.trans e1).trans e2).trans e3) _ fun w hw H4 e4 => ⟨(a : Int) + 1, (w : Int), rfl, rfl, (N : Int), (a : Int) + 1 + (w : Int), rfl, by
    have ex := (((e1.trans e2).trans e3).trans e4)
    have e : (if (a : Int) + 1 + (w : Int) < (N : Int) then (a : Int) + 1 + (w : Int) else (N : Int)) = ((min N (a + 1 + w) : Nat) : Int) := by split <;> omega
    rw [e]
    exact q _ (Nat.min_le_left _ _) H4 ex⟩⟩
end
section
variable {P : Program} {w : World} {K : PySem.W.Frag} {mg : Str → Option Value} {base : Heap}
abbrev s_law : Stmt := top 36
abbrev N_law : List Str := ["script", "row", "letters", "states", "many", "more", "kept", "far"]
theorem sc_law : FnScope N_law ["script"] (defScope s_law) := ⟨rfl, rfl, rfl, by decide +kernel, rfl, by decide +kernel, by decide +kernel⟩
def spLaw (K : PySem.W.Frag) : Sp := fun vs H Q _ => ∃ (a : Addr) (ns : List Int), vs = [.ref a] ∧ SqL K H a (ns.map V.int) ∧ ∀ H', Q (.bl true) H'
theorem fnG_law (D_law_cell : Dn P w K mg base 1 "_law_cell" s_law_cell ["script", "k"] (spCellF K)) (D_law_digits : Dn P w K mg base 1 "_law_digits" s_law_digits ["cell", "tops"] (spDigits K)) (D_law_asked : Dn P w K mg base 2 "_law_asked" s_law_asked ["row"] (spAs K)) (D_law_big : Dn P w K mg base 1 "_law_big" s_law_big ["parts", "many", "top"] (spBg K))
    (D_excess : Dn P w K mg base 3 "excess" s_excess ["size", "standings", "count"] spEx) (D_told_excess : Dn P w K mg base 2 "told_excess" s_told_excess ["size", "standings", "count"] spTE) (D_law_numbers_hold : Dn P w K mg base 4 "_law_numbers_hold" s_law_numbers_hold ["letters", "states", "many"] spNH)
    (D_law_small_hold : Dn P w K mg base 6 "_law_small_hold" s_law_small_hold ["letters", "states", "row"] (spSm K)) (D_law_great_hold : Dn P w K mg base 6 "_law_great_hold" s_law_great_hold ["letters", "states", "row", "kind"] (spGH K)) (T : TT mg) {f0 : Addr} {fd : FuncData} (F : FnP K "law" s_law f0 fd) : FnG P w K mg base CX0 7 f0 fd ["script"] (spLaw K) := by
  refine fnG_of F sc_law (fun vs H Q E h => ?_) (fun cdv A outer s' H vs Q E hr hG h => ?_)
  · obtain ⟨a, ns, rfl, _⟩ := h; rfl
  · obtain ⟨a, ns, rfl, hS, q⟩ := h
    refine ⟨_, (pss_cons (ps_set (i := 1) sc_law.nd rfl (Or.inl rfl) (pe_dn D_law_digits hr (by decide) rfl (pa_cons (pe_dn D_law_cell hr (by decide) rfl (pa_cons (pv 0) (pa_cons pe_int pa_nil))) (pa_cons (pe_op op_cat (pe_lst (pa_cons pe_int (pa_cons pe_int (pa_cons pe_int (pa_cons pe_int (pa_cons pe_int (pa_cons pe_int (pa_cons pe_int (pa_cons pe_int pa_nil))))))))) (pe_op op_rep (pe_lst (pa_cons pe_int pa_nil)) pe_int)) pa_nil))))
      (pss_cons (ps_set (i := 2) sc_law.nd rfl (Or.inl rfl) (pe_op op_add pe_int (pe_ix ix_list (pv 1) pe_int (fun _ _ => rfl))))
      (pss_cons (ps_set (i := 3) sc_law.nd rfl (Or.inl rfl) (pe_op op_add pe_int (pe_ix ix_list (pv 1) pe_int (fun _ _ => rfl))))
      (pss_cons (ps_if (pt_cmpR op_lt (pe_ix ix_list (pv 1) pe_int (fun _ _ => rfl)) pe_int (nomark _)) (pss_one (ps_set (i := 3) sc_law.nd rfl (Or.inl rfl) (pe_op op_add pe_int (pe_op op_mod (pe_callTy call_int1 (by rfl) T.int_ (by decide +kernel) (pa_cons (pe_ix ix_list (pv 1) pe_int (fun _ _ => rfl)) pa_nil)) pe_int)))) pss_nil)
      (pss_cons (ps_set (i := 4) sc_law.nd rfl (Or.inl rfl) (pe_dn D_law_asked hr (by decide) rfl (pa_cons (pe_slice sl_list (pv 1) (po_some pe_int) (po_some pe_int)) pa_nil)))
      (pss_cons (ps_set (i := 5) sc_law.nd rfl (Or.inl rfl) (pe_op op_add (pv 4) pe_int))
      (pss_cut (ps_if (pt_cmpR op_eq (pe_ix ix_list (pv 1) pe_int (fun _ _ => rfl)) pe_int (nomark _)) (pss_one (ps_set (i := 5) sc_law.nd rfl (Or.inl rfl) (pe_callB (call_min2 rfl) (by rfl) T.min (by decide +kernel) (pa_cons (pe_op op_pow pe_int pe_int) (pa_cons (pe_op op_add (pe_op op_add (pv 4) pe_int) (pe_dn D_law_big hr (by decide) rfl (pa_cons (pe_slice sl_list (pv 1) (po_some pe_int) (po_some pe_int)) (pa_cons (pe_op op_add pe_int (pe_ix ix_list (pv 1) pe_int (fun _ _ => rfl))) (pa_cons (pe_op op_pow pe_int pe_int) pa_nil))))) pa_nil))))) pss_nil)
      (pss_cons (ps_set (i := 6) sc_law.nd rfl (Or.inl rfl) (pe_callB (cr_reprL hG hr) (by rfl) T.repr (by decide +kernel) (pa_cons (pe_lst (pa_cons (pe_dn D_excess hr (by decide) rfl (pa_cons (pv 2) (pa_cons (pv 3) (pa_cons (pv 4) pa_nil)))) (pa_cons (pe_dn D_told_excess hr (by decide) rfl (pa_cons (pv 2) (pa_cons (pv 3) (pa_cons (pv 4) pa_nil)))) pa_nil))) pa_nil)))
      (pss_cons (ps_if (pt_not (pt_val (pe_dn D_law_numbers_hold hr (by decide) rfl (pa_cons (pv 2) (pa_cons (pv 3) (pa_cons (pv 4) pa_nil)))))) (pss_one (ps_ret pe_bl)) pss_nil)
      (pss_cut (ps_if (pt_chain op_lt op_le (pv 4) (pv 5) (pe_op op_pow pe_int pe_int)) (pss_cons (ps_if (pt_not (pt_val (pe_dn D_law_numbers_hold hr (by decide) rfl (pa_cons (pv 2) (pa_cons (pv 3) (pa_cons (pv 5) pa_nil)))))) (pss_one (ps_ret pe_bl)) pss_nil)
        (pss_one (ps_if (PW.pt (pw_and (pt_cmpR op_gt (pv 2) pe_int (nomark _)) (pw_and1 (pt_cmpR op_le (pe_dn D_excess hr (by decide) rfl (pa_cons (pv 2) (pa_cons (pv 3) (pa_cons (pv 5) pa_nil)))) (pe_dn D_excess hr (by decide) rfl (pa_cons (pv 2) (pa_cons (pv 3) (pa_cons (pv 4) pa_nil)))) (nomark _))))) (pss_one (ps_ret pe_bl)) pss_nil))) pss_nil)
      (pss_cons (ps_set (i := 7) sc_law.nd rfl (Or.inl rfl) (pe_dn D_law_digits hr (by decide) rfl (pa_cons (pe_dn D_law_cell hr (by decide) rfl (pa_cons (pv 0) (pa_cons pe_int pa_nil))) (pa_cons (pe_op op_cat (pe_lst (pa_cons pe_int (pa_cons pe_int (pa_cons pe_int pa_nil)))) (pe_op op_rep (pe_lst (pa_cons pe_int pa_nil)) pe_int)) pa_nil))))
      (pss_cons (ps_if (pt_not (pt_val (pe_dn D_law_small_hold hr (by decide) rfl (pa_cons (pv 2) (pa_cons (pv 3) (pa_cons (pe_slice sl_list (pv 7) po_none (po_some pe_int)) pa_nil)))))) (pss_one (ps_ret pe_bl)) pss_nil)
      (pss_cons (ps_if (pt_not (pt_val (pe_dn D_law_great_hold hr (by decide) rfl (pa_cons (pv 2) (pa_cons (pv 3) (pa_cons (pe_slice sl_list (pv 7) (po_some pe_int) (po_some pe_int)) (pa_cons (pe_ix ix_list (pv 7) pe_int (fun _ _ => rfl)) pa_nil))))))) (pss_one (ps_ret pe_bl)) pss_nil)
      (pss_one (ps_ret (pe_cmpR op_eq (pe_callB (cr_reprL hG hr) (by rfl) T.repr (by decide +kernel) (pa_cons (pe_lst (pa_cons (pe_dn D_excess hr (by decide) rfl (pa_cons (pv 2) (pa_cons (pv 3) (pa_cons (pv 4) pa_nil)))) (pa_cons (pe_dn D_told_excess hr (by decide) rfl (pa_cons (pv 2) (pa_cons (pv 3) (pa_cons (pv 4) pa_nil)))) pa_nil))) pa_nil)) (pv 6) (nomark _))))))))))))))))), ?_⟩
    have hcB := cap_Big
    have hcap : cap = 1000000000000000000000000000001 := by decide +kernel
    have w0 : Within (digitsF (cellF ns 0) SL0) SL0 := digits_in _ _ (pos_of okL0)
    have w1 : Within (digitsF (cellF ns 1) SL1) SL1 := digits_in _ _ (pos_of okL1)
    refine q_call2L (xs := SL0.map V.int) (ev_call (ea_cons (ev_var rfl) (ea_cons ev_c ea_nil)) (sv_cell (K := K) (ex_l (Ex.refl H) hS) (by decide) (by decide))) (by
      rw [← e_l0]
      exact el_cat (el_lst (ea_cons ev_c (ea_cons ev_c (ea_cons ev_c (ea_cons ev_c (ea_cons ev_c (ea_cons ev_c (ea_cons ev_c (ea_cons ev_c ea_nil)))))))) (by show 8 ≤ 100000; decide)) (el_rep (el_lst (ea_cons ev_c ea_nil) (by show 1 ≤ 100000; decide)) (fun _ _ => ev_c) (by decide) (by decide) (by decide)) (by decide)) (fun p H1 hp e => sl_digits (ss := SL0) (sq_of hp) okL0) fun rp H1 _ e1 hrp => ?_
    revert w0 hrp
    generalize digitsF (cellF ns 0) SL0 = ds
    intro w0 hrp
    have ld : ds.length = 16 := w0.len
    obtain ⟨a0, a1⟩ := w0.get 0 (by decide)
    obtain ⟨c0, c1⟩ := w0.get 2 (by decide)
    have a1' : ds.getD 0 0 < 6 := a1
    have c1' : ds.getD 2 0 < 3600 := c1
    have rat : ∀ {σ : L2.St} {H3 : Hp} (j : Nat), j < 16 → Ex H1 H3 → σ[1]? = some (some (.ref rp)) → Ev (tOp (rIxL K) (tVar 1) (tC (.int (j : Int)))) σ H3 (.int (ds.getD j 0)) := fun j hj e hv => ev_op (ev_var hv) ev_c (rv_ixL (K := K) (sq_of (e _ _ hrp)) (at_d (i := j) (by omega)))
    obtain ⟨sz, hsz⟩ : ∃ sz : Nat, (1 : Int) + ds.getD 0 0 = (sz : Int) := ⟨(1 + ds.getD 0 0).toNat, by omega⟩
    obtain ⟨t0, ht0⟩ : ∃ t0 : Nat, (1 : Int) + ds.getD 2 0 = (t0 : Int) := ⟨(1 + ds.getD 2 0).toNat, by omega⟩
    have hs : 1 ≤ sz ∧ sz ≤ 6 := by omega
    refine q_asg (v := .int (sz : Int)) (ev_is (ev_op ev_c (rat 0 (by decide) (Ex.refl _) rfl) rv_I0) (congrArg V.int hsz)) fun H2 e2 => ?_
    refine q_asg (v := .int (t0 : Int)) (ev_is (ev_op ev_c (rat 2 (by decide) e2 rfl) rv_I0) (congrArg V.int ht0)) fun H3 e3 => ?_
    have hm0 := Int.emod_nonneg (ds.getD 2 0) (show (7 : Int) ≠ 0 by decide)
    have hm1 := Int.emod_lt_of_pos (ds.getD 2 0) (show (0 : Int) < 7 by decide)
    obtain ⟨t, htt⟩ : ∃ t : Nat, (if ds.getD 1 0 < 4 then 1 + ds.getD 2 0 % 7 else (t0 : Int)) = (t : Int) := by
      by_cases c : ds.getD 1 0 < 4
      · rw [if_pos c]
        exact ⟨(1 + ds.getD 2 0 % 7).toNat, by omega⟩
      · rw [if_neg c]
        exact ⟨t0, rfl⟩
    have ht : 1 ≤ t ∧ t ≤ 10000 := by
      by_cases c : ds.getD 1 0 < 4
      · rw [if_pos c] at htt; omega
      · rw [if_neg c] at htt; omega
    refine q_ifAsg (b := decide (ds.getD 1 0 < 4)) (v := .int (t : Int)) (et_test (ev_op (rat 1 (by decide) (e2.trans e3) rfl) ev_c rv_I0)) (fun hb => ?_) (fun hb => ?_) fun H4 e4 => ?_
    · rw [if_pos (of_decide_eq_true hb)] at htt
      exact ev_is (ev_op ev_c (ev_op (ev_int (rat 2 (by decide) (e2.trans e3) rfl)) ev_c (rv_I (by decide))) rv_I0) (congrArg V.int htt)
    · rw [if_neg (of_decide_eq_false hb)] at htt
      have : t0 = t := by omega
      rw [this]
      rfl
    have e14 := (e2.trans e3).trans e4
    show tSeq _ _ _ [some (.ref a), some (.ref rp), some (.int (sz : Int)), some (.int (t : Int)), none, none, none, none] H4
    -- many
    have was : Within ((ds.drop 4).take 8) SAs := within_take 8 (ys := SL0.drop 4) (within_drop 4 w0)
    refine q_asgAny (N := cap - 1) (any_call1L (xs := ((ds.drop 4).take 8).map V.int) (by
      have hcut : cutV (ds.map V.int) (some 4) (some 12) = ((ds.drop 4).take 8).map V.int := by
        rw [cutV_L, cutL_map, cutL_mid (by decide) (by decide)]
        rfl
      rw [← hcut]
      exact el_sl (ev_var rfl) (eo_some ev_c) (eo_some ev_c) (sq_of (e14 _ _ hrp))) (fun p H1 hp Q1 q1 => ⟨p, _, rfl, sq_of hp, was, q1⟩)) fun many H5 hmany e5 => ?_
    have e15 := e14.trans e5
    refine q_asg (v := .int ((many + 1 : Nat) : Int)) (ev_is (ev_op (ev_var rfl) ev_c rv_I0) (by rw [Int.natCast_add]; rfl)) fun H6 e6 => ?_
    have e16 := e15.trans e6
    refine q_cutIf2 (fun σ' H' => ∃ more : Nat, σ' = [some (.ref a), some (.ref rp), some (.int (sz : Int)), some (.int (t : Int)), some (.int (many : Int)), some (.int (more : Int)), none, none] ∧ Ex H1 H') (et_test (ev_op (rat 3 (by decide) e16 rfl) ev_c (rv_eq rfl))) (fun _ H7 e7 => ?_) (fun _ H7 e7 => ⟨many + 1, rfl, e16.trans e7⟩) ?_
    · exact any_minB (N := cap - 1) (a := many) (ev_is (ev_op ev_c ev_c (rv_I c30)) (congrArg V.int e30)) (ev_var rfl) ev_c (any_call3 (N := cap - 1) (xs := (cutL ds (some 12) (some 16)).map V.int) (by rw [← cutL_map, ← cutV_L]; exact el_sl (ev_var rfl) (eo_some ev_c) (eo_some ev_c) (sq_of ((e16.trans e7) _ _ hrp))) (ev_op ev_c (rat 7 (by decide) (e16.trans e7) rfl) rv_I0) (ev_is (ev_op ev_c ev_c (rv_I c30)) (congrArg V.int e30)) (fun p H1 hp Q1 q1 => ⟨p, _, _, cap - 1, rfl, sq_of hp, q1⟩)) H7 (Ex.refl H7) _ fun z hz H8 e8 => ⟨z, rfl, (e16.trans e7).trans e8⟩
    rintro σ' H8 ⟨more, rfl, e18⟩
    have hcm : many ≤ Big := by omega
    have hts := two_small (s := sz) (t := t) (c := many) hs ht (by omega)
    refine q_asg (ev_reprL (ns := [gapF sz t many, ((toldF sz t many : Nat) : Int)]) (el_lst (ea_cons (ev_call (ea_cons (ev_var rfl) (ea_cons (ev_var rfl) (ea_cons (ev_var rfl) ea_nil))) (sv_ex hs ht hcm)) (ea_cons (ev_call (ea_cons (ev_var rfl) (ea_cons (ev_var rfl) (ea_cons (ev_var rfl) ea_nil))) (sv_te hs ht hcm)) ea_nil)) (by show 2 ≤ 100000; decide)) hts (repr_len hts (by show 2 ≤ 1000; decide))) fun H9 e9 => ?_
    have e19 := e18.trans e9
    refine q_when (b := !true) (et_not (et_B (ev_call (ea_cons (ev_var rfl) (ea_cons (ev_var rfl) (ea_cons (ev_var rfl) ea_nil))) (sv_nh hs ht hcm)))) (fun hb => absurd hb (by decide)) fun _ H10 e10 => ?_
    have e110 := e19.trans e10
    refine q_cutIf2 (fun σ' H' => σ' = [some (.ref a), some (.ref rp), some (.int (sz : Int)), some (.int (t : Int)), some (.int (many : Int)), some (.int (more : Int)), some (.str (reprInts [gapF sz t many, ((toldF sz t many : Nat) : Int)])), none] ∧ Ex H1 H') (et_chain (ev_var rfl) (ev_var rfl) (ev_is (ev_op ev_c ev_c (rv_I c30)) (congrArg V.int e30)) rv_I0 rv_I0) (fun hb H11 e11 => ?_) (fun _ H11 e11 => ⟨rfl, e110.trans e11⟩) ?_
    · rw [Bool.and_eq_true, decide_eq_true_eq, decide_eq_true_eq] at hb
      have hlt : many < more := by omega
      have hmore : more ≤ Big := by omega
      refine q_when (b := !true) (et_not (et_B (ev_call (ea_cons (ev_var rfl) (ea_cons (ev_var rfl) (ea_cons (ev_var rfl) ea_nil))) (sv_nh hs ht hmore)))) (fun hb => absurd hb (by decide)) fun _ H12 e12 => ?_
      refine s_when (b := false) (et_is (et_and (et_test (ev_op (ev_var rfl) ev_c rv_I0)) fun _ => et_test (ev_op (ev_call (ea_cons (ev_var rfl) (ea_cons (ev_var rfl) (ea_cons (ev_var rfl) ea_nil))) (sv_ex hs ht hmore)) (ev_call (ea_cons (ev_var rfl) (ea_cons (ev_var rfl) (ea_cons (ev_var rfl) ea_nil))) (sv_ex hs ht hcm)) rv_I0)) (by
        by_cases c : 1 < (sz : Int)
        · have := gap_lt (s := sz) (t := t) (by omega) ht.1 hlt
          rw [decide_eq_false (show ¬ gapF sz t more ≤ gapF sz t many by omega), Bool.and_false]
        · rw [decide_eq_false c, Bool.false_and])) (fun hb => absurd hb (by decide)) fun _ H13 e13 => ⟨rfl, ((e110.trans e11).trans e12).trans e13⟩
    rintro σ' H14 ⟨rfl, e114⟩
    -- far
    refine q_call2L (xs := SL1.map V.int) (ev_call (ea_cons (ev_var rfl) (ea_cons ev_c ea_nil)) (sv_cell (K := K) (ex_l (e1.trans e114) hS) (by decide) (by decide))) (by
      rw [← e_l1]
      exact el_cat (el_lst (ea_cons ev_c (ea_cons ev_c (ea_cons ev_c ea_nil))) (by show 3 ≤ 100000; decide)) (el_rep (el_lst (ea_cons ev_c ea_nil) (by show 1 ≤ 100000; decide)) (fun _ _ => ev_c) (by decide) (by decide) (by decide)) (by decide)) (fun p H1 hp e => sl_digits (ss := SL1) (sq_of hp) okL1) fun fp H15 _ e15' hfp => ?_
    revert w1 hfp
    generalize digitsF (cellF ns 1) SL1 = df
    intro w1 hfp
    have lf : df.length = 9 := w1.len
    obtain ⟨f0', f1'⟩ := w1.get 1 (by decide)
    have f1'' : df.getD 1 0 < 401 := f1'
    have hcut2 : cutV (df.map V.int) none (some 2) = (df.take 2).map V.int := by
      rw [cutV_L, cutL_map, cutL_to (by decide)]
      rfl
    have hd2 : (df.take 2).length = 2 ∧ (df.take 2).getD 1 0 = df.getD 1 0 := by
      refine ⟨by rw [List.length_take]; omega, ?_⟩
      rw [List.getD_eq_getElem?_getD, List.getD_eq_getElem?_getD, List.getElem?_take_of_lt (by decide)]
    refine q_when (b := !true) (et_not (et_B (ev_callVVL (xs := (df.take 2).map V.int) (ev_var rfl) (ev_var rfl) (by rw [← hcut2]; exact el_sl (ev_var rfl) eo_none (eo_some ev_c) (sq_of hfp)) (fun p H1 hp => fun H2 e2 Q1 q1 _ => ⟨sz, t, p, df.take 2, rfl, hs, ht, sq_of (e2 _ _ hp), hd2.1, by rw [hd2.2]; exact f0', by rw [hd2.2]; omega, q1⟩)))) (fun hb => absurd hb (by decide)) fun _ H16 e16' => ?_
    have hfp16 := e16' _ _ hfp
    refine q_when (b := !true) (et_not (et_B (ev_callVVLV (xs := (cutL df (some 3) (some 9)).map V.int) (ev_var rfl) (ev_var rfl) (by rw [← cutL_map, ← cutV_L]; exact el_sl (ev_var rfl) (eo_some ev_c) (eo_some ev_c) (sq_of hfp16)) (ev_op (ev_var rfl) ev_c (rv_ixL (K := K) (sq_of hfp16) (at_d (i := 2) (by omega)))) (fun p H1 hp => fun H2 e2 Q1 q1 _ => ⟨sz, t, p, _, _, rfl, hs, ht, sq_of (e2 _ _ hp), q1⟩)))) (fun hb => absurd hb (by decide)) fun _ H17 e17 => ?_
    refine s_ret (v := .bl (decide (V.str (reprInts [gapF sz t many, ((toldF sz t many : Nat) : Int)]) = V.str (reprInts [gapF sz t many, ((toldF sz t many : Nat) : Int)])))) (ev_op (ev_reprL (ns := [gapF sz t many, ((toldF sz t many : Nat) : Int)]) (el_lst (ea_cons (ev_call (ea_cons (ev_var rfl) (ea_cons (ev_var rfl) (ea_cons (ev_var rfl) ea_nil))) (sv_ex hs ht hcm)) (ea_cons (ev_call (ea_cons (ev_var rfl) (ea_cons (ev_var rfl) (ea_cons (ev_var rfl) ea_nil))) (sv_te hs ht hcm)) ea_nil)) (by show 2 ≤ 100000; decide)) hts (repr_len hts (by show 2 ≤ 1000; decide))) (ev_var rfl) (rv_eq rfl)) fun H18 e18' => ?_
    rw [decide_eq_true rfl]
    exact q H18
end
end My

set_option Elab.async false
set_option linter.all false
set_option maxRecDepth 100000
set_option maxHeartbeats 0
namespace My
open PySem PySem.Spec PyProof.Rows L2 Evl
def d_width : He.DefD := ⟨("width", none), "width", "width", defArgs s_width, defBody s_width, defScope s_width, [], []⟩
def d_whole_log : He.DefD := ⟨("whole_log", none), "whole_log", "whole_log", defArgs s_whole_log, defBody s_whole_log, defScope s_whole_log, [], []⟩
def d_pressed_length : He.DefD := ⟨("pressed_length", none), "pressed_length", "pressed_length", defArgs s_pressed_length, defBody s_pressed_length, defScope s_pressed_length, [], []⟩
def d_greatest_count : He.DefD := ⟨("greatest_count", none), "greatest_count", "greatest_count", defArgs s_greatest_count, defBody s_greatest_count, defScope s_greatest_count, [], []⟩
def d_floor_bits : He.DefD := ⟨("floor_bits", none), "floor_bits", "floor_bits", defArgs s_floor_bits, defBody s_floor_bits, defScope s_floor_bits, [], []⟩
def d_least_bits : He.DefD := ⟨("_least_bits", none), "_least_bits", "_least_bits", defArgs s_least_bits, defBody s_least_bits, defScope s_least_bits, [], []⟩
def d_excess : He.DefD := ⟨("excess", none), "excess", "excess", defArgs s_excess, defBody s_excess, defScope s_excess, [], []⟩
def d_told_excess : He.DefD := ⟨("told_excess", none), "told_excess", "told_excess", defArgs s_told_excess, defBody s_told_excess, defScope s_told_excess, [], []⟩
def d_worst_excess : He.DefD := ⟨("worst_excess", none), "worst_excess", "worst_excess", defArgs s_worst_excess, defBody s_worst_excess, defScope s_worst_excess, [], []⟩
def d_law_whole : He.DefD := ⟨("_law_whole", none), "_law_whole", "_law_whole", defArgs s_law_whole, defBody s_law_whole, defScope s_law_whole, [], []⟩
def d_law_cell : He.DefD := ⟨("_law_cell", none), "_law_cell", "_law_cell", defArgs s_law_cell, defBody s_law_cell, defScope s_law_cell, [], []⟩
def d_law_cut : He.DefD := ⟨("_law_cut", none), "_law_cut", "_law_cut", defArgs s_law_cut, defBody s_law_cut, defScope s_law_cut, [], []⟩
def d_law_width : He.DefD := ⟨("_law_width", none), "_law_width", "_law_width", defArgs s_law_width, defBody s_law_width, defScope s_law_width, [], []⟩
def d_law_log : He.DefD := ⟨("_law_log", none), "_law_log", "_law_log", defArgs s_law_log, defBody s_law_log, defScope s_law_log, [], []⟩
def d_law_digits : He.DefD := ⟨("_law_digits", none), "_law_digits", "_law_digits", defArgs s_law_digits, defBody s_law_digits, defScope s_law_digits, [], []⟩
def d_law_filled : He.DefD := ⟨("_law_filled", none), "_law_filled", "_law_filled", defArgs s_law_filled, defBody s_law_filled, defScope s_law_filled, [], []⟩
def d_law_told : He.DefD := ⟨("_law_told", none), "_law_told", "_law_told", defArgs s_law_told, defBody s_law_told, defScope s_law_told, [], []⟩
def d_law_long_block : He.DefD := ⟨("_law_long_block", none), "_law_long_block", "_law_long_block", defArgs s_law_long_block, defBody s_law_long_block, defScope s_law_long_block, [], []⟩
def d_law_gap : He.DefD := ⟨("_law_gap", none), "_law_gap", "_law_gap", defArgs s_law_gap, defBody s_law_gap, defScope s_law_gap, [], []⟩
def d_law_greatest : He.DefD := ⟨("_law_greatest", none), "_law_greatest", "_law_greatest", defArgs s_law_greatest, defBody s_law_greatest, defScope s_law_greatest, [], []⟩
def d_law_shortest : He.DefD := ⟨("_law_shortest", none), "_law_shortest", "_law_shortest", defArgs s_law_shortest, defBody s_law_shortest, defScope s_law_shortest, [], []⟩
def d_law_least : He.DefD := ⟨("_law_least", none), "_law_least", "_law_least", defArgs s_law_least, defBody s_law_least, defScope s_law_least, [], []⟩
def d_law_all_texts : He.DefD := ⟨("_law_all_texts", none), "_law_all_texts", "_law_all_texts", defArgs s_law_all_texts, defBody s_law_all_texts, defScope s_law_all_texts, [], []⟩
def d_law_big : He.DefD := ⟨("_law_big", none), "_law_big", "_law_big", defArgs s_law_big, defBody s_law_big, defScope s_law_big, [], []⟩
def d_law_asked : He.DefD := ⟨("_law_asked", none), "_law_asked", "_law_asked", defArgs s_law_asked, defBody s_law_asked, defScope s_law_asked, [], []⟩
def d_law_numbers_hold : He.DefD := ⟨("_law_numbers_hold", none), "_law_numbers_hold", "_law_numbers_hold", defArgs s_law_numbers_hold, defBody s_law_numbers_hold, defScope s_law_numbers_hold, [], []⟩
def d_law_worst_holds : He.DefD := ⟨("_law_worst_holds", none), "_law_worst_holds", "_law_worst_holds", defArgs s_law_worst_holds, defBody s_law_worst_holds, defScope s_law_worst_holds, [], []⟩
def d_law_small_hold : He.DefD := ⟨("_law_small_hold", none), "_law_small_hold", "_law_small_hold", defArgs s_law_small_hold, defBody s_law_small_hold, defScope s_law_small_hold, [], []⟩
def d_law_great_hold : He.DefD := ⟨("_law_great_hold", none), "_law_great_hold", "_law_great_hold", defArgs s_law_great_hold, defBody s_law_great_hold, defScope s_law_great_hold, [], []⟩
def d_law : He.DefD := ⟨("law", none), "law", "law", defArgs s_law, defBody s_law, defScope s_law, [], []⟩
def fn : List He.DefD := [d_width, d_whole_log, d_pressed_length, d_greatest_count, d_floor_bits, d_least_bits, d_excess, d_told_excess, d_worst_excess, d_law_whole, d_law_cell, d_law_cut, d_law_width, d_law_log, d_law_digits, d_law_filled, d_law_told, d_law_long_block, d_law_gap, d_law_greatest, d_law_shortest, d_law_least, d_law_all_texts, d_law_big, d_law_asked, d_law_numbers_hold, d_law_worst_holds, d_law_small_hold, d_law_great_hold, d_law]
def fa : List He.Fa := [.glo "width", .glo "whole_log", .glo "pressed_length", .glo "greatest_count", .glo "floor_bits", .glo "_least_bits", .glo "excess", .glo "told_excess", .glo "worst_excess", .glo "_law_whole", .glo "_law_cell", .glo "_law_cut", .glo "_law_width", .glo "_law_log", .glo "_law_digits", .glo "_law_filled", .glo "_law_told", .glo "_law_long_block", .glo "_law_gap", .glo "_law_greatest", .glo "_law_shortest", .glo "_law_least", .glo "_law_all_texts", .glo "_law_big", .glo "_law_asked", .glo "_law_numbers_hold", .glo "_law_worst_holds", .glo "_law_small_hold", .glo "_law_great_hold", .glo "law", .free "len", .free "int", .free "bool", .free "str", .free "list", .free "tuple", .free "range", .free "max", .free "min", .free "sum", .free "isinstance", .free "sorted", .free "repr", .free "abs", .free "enumerate"]
abbrev R : PySem.W.OpenRow := PySem.W.OpenLaw.row PySem.Challenge.rw_unpressed_k60_told_excess
def exI (K : PySem.W.Frag) : Bool := He.eqO (PySem.W.nsIn K mainGlobals "isqrt") (some (some (.builtin "math.isqrt")))
abbrev hk : PySem.W.Hook := He.hookX 4 fa fn [] [] exI
def ob (s : PySem.W.SharedT) : He.AlX := He.obsX 4 fa fn [] [] exI (HandSHeadRun.getT s)
theorem ob_eq (s : PySem.W.SharedT) : ob s = hk.obs s.abs := He.obsX_eq (HandSHeadRun.getT_eq s)
abbrev loose : List Str := [("width" : Str), ("whole_log" : Str), ("pressed_length" : Str), ("greatest_count" : Str), ("floor_bits" : Str), ("_least_bits" : Str), ("excess" : Str), ("told_excess" : Str), ("worst_excess" : Str), ("_law_whole" : Str), ("_law_cell" : Str), ("_law_cut" : Str), ("_law_width" : Str), ("_law_log" : Str), ("_law_digits" : Str), ("_law_filled" : Str), ("_law_told" : Str), ("_law_long_block" : Str), ("_law_gap" : Str), ("_law_greatest" : Str), ("_law_shortest" : Str), ("_law_least" : Str), ("_law_all_texts" : Str), ("_law_big" : Str), ("_law_asked" : Str), ("_law_numbers_hold" : Str), ("_law_worst_holds" : Str), ("_law_small_hold" : Str), ("_law_great_hold" : Str)]
theorem run (w : World) : HandSHeadRun.RunEqI R (PySem.W.view R.prog [0, 36]) hk ob 3000 loose w := by
  unfold HandSHeadRun.RunEqI
  kernel_rfl
theorem at_of {K : PySem.W.Frag} {mg : Str → Option Value} {h : Heap} (X : K.In h) (G : h.Ns mainGlobals mg) (c : He.SaysD fa fn K) (i : Nat) {x : Str} {st : Stmt} (h1 : fn[i]? = some ⟨(x, none), x, x, defArgs st, defBody st, defScope st, [], []⟩) (h2 : fa[i]? = some (.glo x)) : At K mg x st := by
  obtain ⟨fd, F⟩ := c.def_ i h1
  exact ⟨_, fd, F, He.glo_ok X G (c.fact i h2)⟩
theorem tt_of {K : PySem.W.Frag} {mg : Str → Option Value} {h : Heap} (X : K.In h) (G : h.Ns mainGlobals mg) (c : He.SaysD fa fn K) : TT mg := ⟨He.free_ok X G (c.fact 30 (f := .free "len") rfl), He.free_ok X G (c.fact 31 (f := .free "int") rfl), He.free_ok X G (c.fact 32 (f := .free "bool") rfl), He.free_ok X G (c.fact 33 (f := .free "str") rfl), He.free_ok X G (c.fact 34 (f := .free "list") rfl), He.free_ok X G (c.fact 35 (f := .free "tuple") rfl), He.free_ok X G (c.fact 36 (f := .free "range") rfl), He.free_ok X G (c.fact 37 (f := .free "max") rfl), He.free_ok X G (c.fact 38 (f := .free "min") rfl), He.free_ok X G (c.fact 39 (f := .free "sum") rfl), He.free_ok X G (c.fact 40 (f := .free "isinstance") rfl), He.free_ok X G (c.fact 41 (f := .free "sorted") rfl), He.free_ok X G (c.fact 42 (f := .free "repr") rfl), He.free_ok X G (c.fact 43 (f := .free "abs") rfl), He.free_ok X G (c.fact 44 (f := .free "enumerate") rfl)⟩

theorem facts {P : Program} {w : World} {K : PySem.W.Frag} {h : Heap} {mg : Str → Option Value} {f : Addr} (X : K.In h) (G : h.Ns mainGlobals mg) (hfa : mg ("law" : Str) = some (.ref f)) (c : He.SaysX fa fn [] [] exI w h K) :
    ∃ fd : FuncData, (∀ (s : Shared) (v : Value), BindsTo s fd ⟨[v], []⟩ [("script", v)]) ∧ ∀ base : Heap, K.In base → base.Ns mainGlobals mg → FnG P w K mg base CX0 7 f fd ["script"] (spLaw K) := by
  have A_width : At K mg "width" s_width := at_of X G c.t.d 0 rfl rfl
  have A_whole_log : At K mg "whole_log" s_whole_log := at_of X G c.t.d 1 rfl rfl
  have A_pressed_length : At K mg "pressed_length" s_pressed_length := at_of X G c.t.d 2 rfl rfl
  have A_greatest_count : At K mg "greatest_count" s_greatest_count := at_of X G c.t.d 3 rfl rfl
  have A_floor_bits : At K mg "floor_bits" s_floor_bits := at_of X G c.t.d 4 rfl rfl
  have A_least_bits : At K mg "_least_bits" s_least_bits := at_of X G c.t.d 5 rfl rfl
  have A_excess : At K mg "excess" s_excess := at_of X G c.t.d 6 rfl rfl
  have A_told_excess : At K mg "told_excess" s_told_excess := at_of X G c.t.d 7 rfl rfl
  have A_worst_excess : At K mg "worst_excess" s_worst_excess := at_of X G c.t.d 8 rfl rfl
  have A_law_whole : At K mg "_law_whole" s_law_whole := at_of X G c.t.d 9 rfl rfl
  have A_law_cell : At K mg "_law_cell" s_law_cell := at_of X G c.t.d 10 rfl rfl
  have A_law_cut : At K mg "_law_cut" s_law_cut := at_of X G c.t.d 11 rfl rfl
  have A_law_width : At K mg "_law_width" s_law_width := at_of X G c.t.d 12 rfl rfl
  have A_law_log : At K mg "_law_log" s_law_log := at_of X G c.t.d 13 rfl rfl
  have A_law_digits : At K mg "_law_digits" s_law_digits := at_of X G c.t.d 14 rfl rfl
  have A_law_filled : At K mg "_law_filled" s_law_filled := at_of X G c.t.d 15 rfl rfl
  have A_law_told : At K mg "_law_told" s_law_told := at_of X G c.t.d 16 rfl rfl
  have A_law_long_block : At K mg "_law_long_block" s_law_long_block := at_of X G c.t.d 17 rfl rfl
  have A_law_gap : At K mg "_law_gap" s_law_gap := at_of X G c.t.d 18 rfl rfl
  have A_law_greatest : At K mg "_law_greatest" s_law_greatest := at_of X G c.t.d 19 rfl rfl
  have A_law_shortest : At K mg "_law_shortest" s_law_shortest := at_of X G c.t.d 20 rfl rfl
  have A_law_least : At K mg "_law_least" s_law_least := at_of X G c.t.d 21 rfl rfl
  have A_law_all_texts : At K mg "_law_all_texts" s_law_all_texts := at_of X G c.t.d 22 rfl rfl
  have A_law_big : At K mg "_law_big" s_law_big := at_of X G c.t.d 23 rfl rfl
  have A_law_asked : At K mg "_law_asked" s_law_asked := at_of X G c.t.d 24 rfl rfl
  have A_law_numbers_hold : At K mg "_law_numbers_hold" s_law_numbers_hold := at_of X G c.t.d 25 rfl rfl
  have A_law_worst_holds : At K mg "_law_worst_holds" s_law_worst_holds := at_of X G c.t.d 26 rfl rfl
  have A_law_small_hold : At K mg "_law_small_hold" s_law_small_hold := at_of X G c.t.d 27 rfl rfl
  have A_law_great_hold : At K mg "_law_great_hold" s_law_great_hold := at_of X G c.t.d 28 rfl rfl
  have A_law : At K mg "law" s_law := at_of X G c.t.d 29 rfl rfl
  have T : TT mg := tt_of X G c.t.d
  have TI : mg "isqrt" = some (.builtin "math.isqrt") := PySem.W.mg_of X G (He.eqO_ok c.more)
  obtain ⟨f0, fd, F, hm⟩ := A_law.ex
  have e := hfa.symm.trans hm
  cases e
  have b := FunD.bindsA (ps := ["script"]) F fun _ _ _ _ _ _ us hl => match us, hl with | [_], _ => rfl
  refine ⟨fd, fun s v => b s [v] rfl, fun base _ _ => ?_⟩
  have D1 := ok_width (P := P) (w := w) (base := base) A_width
  have D2 := ok_whole_log (P := P) (w := w) (base := base) A_whole_log
  have D3 := ok_pressed_length D1 T A_pressed_length
  have D4 := ok_greatest_count (P := P) (w := w) (base := base) TI A_greatest_count
  have D5 := ok_least_bits (P := P) (w := w) (base := base) T A_least_bits
  have D6 := ok_floor_bits D5 A_floor_bits
  have D7 := ok_excess D3 D6 A_excess
  have D8 := ok_told_excess D1 D2 A_told_excess
  have D9 := ok_worst_excess D7 D4 A_worst_excess
  have D10 := ok_law_whole (P := P) (w := w) (base := base) T A_law_whole
  have D11 := ok_law_cell (P := P) (w := w) (base := base) T A_law_cell
  have D12 := ok_law_cut (P := P) (w := w) (base := base) T A_law_cut
  have D13 := ok_law_width (P := P) (w := w) (base := base) T A_law_width
  have D14 := ok_law_log D13 A_law_log
  have D15 := ok_law_digits (P := P) (w := w) (base := base) T A_law_digits
  have D16 := ok_law_filled (P := P) (w := w) (base := base) T A_law_filled
  have D17 := ok_law_told D13 D14 A_law_told
  have D18 := ok_law_long_block D13 T A_law_long_block
  have D19 := ok_law_gap D18 D16 A_law_gap
  have D20 := ok_law_greatest (P := P) (w := w) (base := base) T A_law_greatest
  have D21 := ok_law_shortest (P := P) (w := w) (base := base) T A_law_shortest
  have D22 := ok_law_least (P := P) (w := w) (base := base) T A_law_least
  have D23 := ok_law_all_texts (P := P) (w := w) (base := base) T A_law_all_texts
  have D24 := ok_law_big (P := P) (w := w) (base := base) T A_law_big
  have D25 := ok_law_asked D24 T A_law_asked
  have D26 := ok_law_numbers_hold D7 D8 (kd_ex D7) (kd_te D8) D10 D19 D17 A_law_numbers_hold
  have D27 := ok_law_worst_holds D9 (kd_we D9) D10 A_law_worst_holds
  have D28 := ok_law_small_hold D23 D19 D12 D27 D22 D20 T A_law_small_hold
  have D29 := ok_law_great_hold D24 D21 D27 D19 D20 T A_law_great_hold
  exact fnG_law D11 D15 D25 D24 D7 D8 D26 D28 D29 T F
end My
open PySem PySem.W PySem.Calls PyProof.Rows
theorem PySem.Challenge.cw_unpressed_k60_told_excess_holds : PySem.Challenge.rw_unpressed_k60_told_excess.Holds := by
  w_on; o_law
  refine HandSHeadRun.head_imp (r := OpenLaw.row PySem.Challenge.rw_unpressed_k60_told_excess) (q := view (OpenLaw.row PySem.Challenge.rw_unpressed_k60_told_excess).prog [0, 36]) (H := My.hk) (ob := My.ob) (M := 3000) (loose := My.loose) (d := HandSHeadRun.topDef (OpenLaw.row PySem.Challenge.rw_unpressed_k60_told_excess).prog 36) (kwd := []) My.ob_eq
    My.run (by kernel_rfl) (by kernel_rfl) (by kernel_rfl) (by rfl) (by first | assumption | decide +kernel) (by decide +kernel) ⟨rfl, rfl, rfl, rfl, rfl, by decide +kernel⟩ ?hw ?hc
  case hw => w_witness2
  case hc =>
    refine My.walkG (l := PySem.Challenge.rw_unpressed_k60_told_excess) (n := 63) (k := 7) (x := "script") rfl (by decide) (by kernel_rfl) ⟨rfl, by decide, by decide⟩ ?F
    intro w mg fa h Y G hmg0
    obtain ⟨K, KX, c⟩ := Y
    have hmg : mg ("law" : PySem.Str) = some (.ref fa) := by
      have e : (HandSHeadRun.topDef (OpenLaw.row PySem.Challenge.rw_unpressed_k60_told_excess).prog 36).name = ("law" : PySem.Str) := by kernel_rfl
      rw [← e]
      exact hmg0
    obtain ⟨fd, hb, hF⟩ := My.facts (P := (PySem.Challenge.rw_unpressed_k60_told_excess).prog) (w := w) KX G hmg c
    exact ⟨K, fd, My.spLaw K, KX, hb, fun H a ns hl hS => ⟨a, ns, rfl, hS, fun _ => rfl⟩, hF⟩
