import PyProof.Rows.All
import Wide.All
import OpenK.AllK
import Wide.FinOn
import HandS.ForMost
import HandS.Evl
import KE.KStateDown
import HandS.Wide
import HandS.WideBits
import HandS.StrMore
import HandS.SortInts
import HandS.IsInst
import HandS.FStr
import HandS.Conv
import HandS.Defaults
import HandS.WordsExc
import HandS.Head0
import HandS.Head1
import HandS.Head2
import HandS.HeadEnd
import HandS.HeadHook1
import HandS.HeadHook2
import HandS.Gcd
import HandS.Head3
import Flt.RightSqrt
import PyProof.ReprLen
import PyProof.Rows.ReprItems
import PyProof.Rows.RegStrFacts
import HandS.HeadHook4
import PySem.Challenge.RW_unpressed_k06_greatest_and_least
set_option Elab.async false
set_option maxRecDepth 100000
set_option maxHeartbeats 4000000
namespace My
open PySem PySem.W PySem.Calls PyProof.Rows PySem.Builtin PySem.Builtin.Str PySem.Builtin.Int
/-- a number's digits to base two -/
def binT (n : Nat) : PySem.Str := ⟨((Nat.toDigits 2 n).map Char.toNat).toArray⟩
theorem fmt_b {a : Int} {t : Tok} (h0 : 0 ≤ a) (hL : (binT a.natAbs).length ≤ sizeLine) (u : Tok) : Meets («int.__format__» ⟨[.int a t, .str (⟨#[98]⟩ : PySem.Str) u], []⟩) (fun _ R s => ∀ t' k, R (.ok (.ret (.str (binT a.natAbs) t'))) { s with toks := k }) := by
  apply KPc.meets_of
  intro prog w A s Q E hq
  unfold Builtin.«int.__format__»
  refine wpAny_bind (wpAny_of_eq (a := (_, _)) rfl ?_)
  refine wpAny_bind (wpAny_of_eq (a := _) rfl ?_)
  kxf_if
  refine wpAny_bind (wpAny_typeNameOf (T := "str") (typeIs_str _ _ _) (by decide) fun _ => ?_)
  refine wpAny_bind (wpAny_of_eq (a := some _) rfl ?_)
  kxf_if
  kxf_if
  refine wpAny_bind (wpAny_typeNameOfCut_int ?_)
  (repeat kxf_if)
  refine (fun (e : _ = binT a.natAbs) => KXf.ret_text e (by rw [e]; exact hL) hq) ?e
  case e =>
    have hn : decide (a < 0) = false := decide_eq_false (by omega)
    have hD : Nat.toDigits 2 a.natAbs ≠ [] := Nat.toDigits_ne_nil
    rw [hn]
    unfold binT
    generalize Nat.toDigits 2 a.natAbs = D at hD ⊢
    conv => lhs; whnf
    have z : ∀ n : Nat, (-1 - (n : Int)).toNat = 0 := fun n => by omega
    simp [hD, Option.isNone, List.head?, z]
    trace_state
end My

set_option Elab.async false
set_option linter.all false
set_option maxRecDepth 100000
set_option maxHeartbeats 4000000
namespace My
open PySem PySem.Spec PyProof.Rows L2 Evl
/-! ### defs at their names -/
structure Dn (P : Program) (w : World) (K : PySem.W.Frag) (mg : Str → Option Value) (base : Heap) (k : Nat) (x : Str) (st : Stmt) (ps : List Str) (sp : Sp) : Prop where
  ex : ∃ (f : Addr) (fd : FuncData), FunD K x x (defArgs st) (defBody st) (defScope st) [] [] f fd ∧ FnOk P w K mg base CX0 k f fd ps sp ∧ mg x = some (.ref f) ∧ Binds K fd ps []
/-- the same for a call by keywords ks -/
structure Kd (P : Program) (w : World) (K : PySem.W.Frag) (mg : Str → Option Value) (base : Heap) (k : Nat) (x : Str) (n : Nat) (ks : List Str) (gV : List V → List V → List V) (sp : Sp) : Prop where
  ex : ∃ (f : Addr) (fd : FuncData) (ps : List Str) (g : List Value → List Value → List Value), FnOk P w K mg base CX0 k f fd ps sp ∧ mg x = some (.ref f) ∧ PySem.W.keepIn K (.ref f) = true ∧ KBn K fd ps n ks g gV
abbrev FnP (K : PySem.W.Frag) (x : Str) (st : Stmt) (f : Addr) (fd : FuncData) : Prop := FunD K x x (defArgs st) (defBody st) (defScope st) [] [] f fd
structure At (K : PySem.W.Frag) (mg : Str → Option Value) (x : Str) (st : Stmt) : Prop where
  ex : ∃ (f : Addr) (fd : FuncData), FnP K x st f fd ∧ mg x = some (.ref f)
section
variable {P : Program} {w : World} {K : PySem.W.Frag} {mg : Str → Option Value} {base : Heap} {x : Str} {st : Stmt} {N ps : List Str} {k : Nat} {sp : Sp}
theorem FunD.kbn {K : PySem.W.Frag} {x qual : Str} {params : Arguments} {body : List Stmt} {scope : Scope} {kws : List (Str × V)} {f : Addr} {fd : FuncData} {ps : List Str} (F : FunD K x qual params body scope [] kws f fd) (n : Nat) (ks : List Str) (g : List Value → List Value → List Value) (gV : List V → List V → List V)
    (h : ∀ (kV doc pm : Value) (an : Option Addr) (cdv ct : Value) (us ws : List Value), us.length = n → ws.length = ks.length → bindArgs (PySem.W.fnOf x qual params body scope .none kV doc pm an cdv ct) ⟨us, ks.zip ws⟩ = pure (ps.zip (g us ws)))
    (hr : ∀ {vs : List V} {us : List Value} {zs : List V} {ws : List Value}, Vals vs us → Vals zs ws → Vals (gV vs zs) (g us ws)) : KBn K fd ps n ks g gV := by
  obtain ⟨oc, od, dV, kV, doc, pm, an, cdv, ct, osl, rfl, lk, hcd, hD, hK⟩ := F.ex
  rcases hD with ⟨_, rfl⟩ | ⟨e, _⟩
  · exact ⟨fun s us ws _ l1 l2 => .of_eq (h kV doc pm an cdv ct us ws l1 l2), hr⟩
  · exact absurd rfl e
theorem dn_ok (F : At K mg x st) (S : FnScope N ps (defScope st))
    (hb : ∀ (kV doc pm : Value) (an : Option Addr) (cdv ct : Value) (us : List Value), us.length = ps.length → bindArgs (PySem.W.fnOf x x (defArgs st) (defBody st) (defScope st) .none kV doc pm an cdv ct) ⟨us, []⟩ = pure (ps.zip us))
    (len : ∀ vs H Q E, sp vs H Q E → vs.length = ps.length)
    (hbody : ∀ (f : Addr) (cdv : Value) (A : Around) (outer : List Env) (s : Shared) (H : Hp) (vs : List V) (Q : VK) (E : XK), Room k (A.deeper (envOfC x (defScope st) s.heap.objs.size f cdv)) → sp vs H Q E →
      ∃ t, PSs (cxOf CX0 P w K mg base N x (defScope st) f cdv A outer s H E).nox (defBody st) t ∧ t { nx := fun _ H' => Q .non H', rt := Q } (start N vs) H) : Dn P w K mg base (k + 1) x st ps sp := by
  obtain ⟨f, fd, F, g⟩ := F.ex
  refine ⟨f, fd, F, FunD.ok F S len (fun cdv A outer s H vs Q E hr h => ?_), g, F.bindsN hb⟩
  obtain ⟨t, h1, h2⟩ := hbody f cdv A outer s H vs Q E hr h
  exact ⟨t, PSs.nox h1, h2⟩
/-- one function object stands at one address -/
theorem fd_one {K : PySem.W.Frag} {x : Str} {st st' : Stmt} {f : Addr} {fd fd' : FuncData} (F : FnP K x st f fd) (F' : FnP K x st' f fd') : fd = fd' := by
  obtain ⟨oc, od, dV, kV, doc, pm, an, cdv, ct, osl, h1, lk, _⟩ := F.ex
  obtain ⟨oc2, od2, dV2, kV2, doc2, pm2, an2, cdv2, ct2, osl2, h2, lk2, _⟩ := F'.ex
  rw [lk] at lk2
  simp only [Option.some.injEq, Obj.mk.injEq, Data.func.injEq] at lk2
  exact lk2.2.2.1
/-- a call by keywords of a def that keeps its promise -/
theorem kd_of (D : Dn P w K mg base k x st ps sp) (n : Nat) (ks : List Str) (g : List Value → List Value → List Value) (gV : List V → List V → List V)
    (h : ∀ (kV doc pm : Value) (an : Option Addr) (cdv ct : Value) (us ws : List Value), us.length = n → ws.length = ks.length → bindArgs (PySem.W.fnOf x x (defArgs st) (defBody st) (defScope st) .none kV doc pm an cdv ct) ⟨us, ks.zip ws⟩ = pure (ps.zip (g us ws)))
    (hr : ∀ {vs : List V} {us : List Value} {zs : List V} {ws : List Value}, Vals vs us → Vals zs ws → Vals (gV vs zs) (g us ws)) : Kd P w K mg base k x n ks gV sp := by
  obtain ⟨f, fd, F, FO, g1, _⟩ := D.ex
  exact ⟨f, fd, ps, g, FO, g1, F.kp, FunD.kbn F n ks g gV h hr⟩
end
section
variable {X : Cx} {k j n : Nat} {x : Str} {p pos : Pos} {ps ks : List Str} {sp : Sp} {gV : List V → List V → List V} {e : Expr} {es : List Expr} {kws : List Keyword} {t tk : TA}
theorem pe_dn {st : Stmt} (D : Dn X.prog X.w X.K X.mg X.base k x st ps sp) (hr : Room j X.A) (hk : k ≤ j) (hg : Gl X x) (ha : PA X (e :: es) t) (hdb : (x == ("__debug__" : Str)) = false := by decide)
    (he : starEach (e :: es) X.env = (false, eval e X.env) :: starEach es X.env := by rfl) (hpl : (backTo pos (starEach es X.env)).any (·.1) = false := by rfl) : PE X (.Call (.Name x p) (e :: es) [] pos) (tCall sp [] E0 t) := by
  obtain ⟨f, fd, FD, F, hm, hb⟩ := D.ex
  exact pe_call F (hr.mono hk) hg hm FD.kp hb .nil pass0 ha (hdb := hdb) (he := he) (hpl := hpl)
theorem pe_kd (D : Kd X.prog X.w X.K X.mg X.base k x 0 ks gV sp) (hr : Room j X.A) (hk' : k ≤ j) (hg : Gl X x) (hkw : PK X kws tk)
    (hall : (backToKw pos (keywordEach kws X.env)).all (·.1.isSome) = true := by rfl) (hks : (backToKw pos (keywordEach kws X.env)).filterMap (·.1) = ks := by rfl)
    (hdb : (x == ("__debug__" : Str)) = false := by decide)
    (hpl : ((backTo pos (starEach [] X.env)).any (·.1) || (backToKw pos (keywordEach kws X.env)).any (·.1.isNone)) = false := by rfl) :
    PE X (.Call (.Name x p) [] kws pos) (tCallN 0 ks.length sp gV E0 tNil tk) := by
  obtain ⟨f, fd, ps, g, F, hm, hk, hb⟩ := D.ex
  refine ⟨fun pins s σ H Q I h => ?_⟩
  refine wpAny_Call_Name_kw (ld_glob I hg hm ?_ hdb)
  refine PySem.W.callWith_KW0 (h₀ := X.base) I.ok.mod.kin hk hall (thn (hkw.run pos pins s σ H _ I h) fun ws s2 ⟨zs, H2, I2, rz, l1, l2, q2⟩ => ⟨I2.kIn, ?_⟩) hpl
  rw [hks]
  exact run_fnN F (hr.mono hk') hb pass0 I2 .nil rz l1 l2 q2
/-- a built-in type by its name -/
theorem pe_tyn (T : String) {x : Str} {pos : Pos} (hg : Gl X x) (hm : X.mg x = none) (hv : bootBuiltins x = some (.type T)) (hn : x ≠ "__name__" := by decide) (hd : (x == ("__debug__" : Str)) = false := by decide) : PE X (.Name x pos) (tC (.ty T)) := pe_bltn hg hm hv (show RelV (.ty T) (.type T) from rfl) hn hd
/-- f'{x:b}' of a number not below 0 -/
def tFmtB (te : TE) : TE := fun σ H Q => te σ H fun x H1 => ∃ i : Int, x = .int i ∧ 0 ≤ i ∧ (binT i.natAbs).length ≤ sizeLine ∧ Q (.str (binT i.natAbs)) H1
theorem pe_fmtB {te : TE} {pos p1 p2 : Pos} {j : Nat} (he : PE X e te) : PE X (.FormattedValue e (-1) (some (.JoinedStr [.Constant (.str "b") j p1] p2)) pos) (tFmtB te) := by
  refine ⟨fun pins s σ H Q I h => ?_⟩
  refine wpAny_FormattedValue_spec (thn (he.run pins s σ H _ I h) fun v s1 hv => ?_)
  obtain ⟨x, H1, I1, r1, i, rfl, h0, hz, q⟩ := hv
  obtain ⟨t, rfl⟩ := r1
  have hs : PE X (.JoinedStr [.Constant (.str "b") j p1] p2) (tC (.str "b")) := pe_joined1 pe_str
  refine thn (hs.run pins s1 σ H1 (fun v H' => v = .str "b" ∧ H' = H1) I1 ⟨rfl, rfl⟩) fun v2 s2 hv2 => ?_
  obtain ⟨y, H2, I2, r2, rfl, rfl⟩ := hv2
  obtain ⟨t2, rfl⟩ := r2
  refine ⟨_, _, rfl, PySem.W.KXf.field_int (spec' := ⟨#[98]⟩) (by decide +kernel) rfl (by decide) (fun u => fmt_b h0 hz u) fun t' k => ?_⟩
  exact ⟨.str _, _, I2.tok _, ⟨_, rfl⟩, q⟩
end
/-! ### readings -/
section
variable {K : PySem.W.Frag} {σ : L2.St} {H : Hp} {ta tb te : TE} {x y z v : V} {D : Ends} {tu tz : TS}
def rInt1 : List V → Hp → VK → Prop := fun xs H Q => (∃ i, xs = [.int i] ∧ Q (.int i) H) ∨ ∃ k, xs = [.bl k] ∧ Q (.int (if k then 1 else 0)) H
theorem ev_int {i : Int} (h : Ev te σ H (.int i)) : Ev (tCB rInt1 (tCons te tNil)) σ H (.int i) := fun H1 e Q q => h H1 e _ fun H2 e2 => Or.inl ⟨i, rfl, q H2 e2⟩
theorem ev_intB {b : Bool} (h : Ev te σ H (.bl b)) : Ev (tCB rInt1 (tCons te tNil)) σ H (.int (if b then 1 else 0)) := fun H1 e Q q => h H1 e _ fun H2 e2 => Or.inr ⟨b, rfl, q H2 e2⟩
def rMin2 : List V → Hp → VK → Prop := fun xs H Q => ∃ i j, xs = [.int i, .int j] ∧ Q (.int (if j < i then j else i)) H
theorem ev_min2 {i j : Int} (ha : Ev ta σ H (.int i)) (hb : Ev tb σ H (.int j)) : Ev (tCB rMin2 (tCons ta (tCons tb tNil))) σ H (.int (if j < i then j else i)) := fun H1 e Q q =>
  ha H1 e _ fun H2 e2 => hb H2 (e.trans e2) _ fun H3 e3 => ⟨i, j, rfl, q H3 (e2.trans e3)⟩
theorem ev_isi {c : V} {t u : Value} {b : Bool} (ha : Ev ta σ H x) (hb : Ev tb σ H c) (k : ClsV c u) (ty : ∀ H1, Ex H H1 → TyX K H1 x t) (e : PySem.W.kitOne K t u = some b) : Ev (tCB (rIsi K) (tCons ta (tCons tb tNil))) σ H (.bl b) := fun H1 e1 Q q =>
  ha H1 e1 _ fun H2 e2 => hb H2 (e1.trans e2) _ fun H3 e3 => ⟨x, c, t, u, b, rfl, k, ty H3 ((e1.trans e2).trans e3), e, q H3 (e2.trans e3)⟩
theorem ev_lenStr {s : Str} (ha : Ev ta σ H (.str s)) (hs : s.length ≤ sizeLine) : Ev (tCB (fun xs H Q => ∃ z : Str, xs = [.str z] ∧ z.length ≤ sizeLine ∧ Q (.int z.length) H) (tCons ta tNil)) σ H (.int (s.length : Int)) := fun H1 e Q q =>
  ha H1 e _ fun H2 e2 => ⟨s, rfl, hs, q H2 e2⟩
theorem ev_bits {i : Int} (h : Ev te σ H (.int i)) : Ev (tBits te) σ H (.int (Builtin.Int.intBits i : Nat)) := fun H1 e Q q => h H1 e _ fun H2 e2 => ⟨i, rfl, q H2 e2⟩
theorem ev_fmtB {i : Int} (h : Ev te σ H (.int i)) (h0 : 0 ≤ i) (hz : (binT i.natAbs).length ≤ sizeLine) : Ev (tFmtB te) σ H (.str (binT i.natAbs)) := fun H1 e Q q => h H1 e _ fun H2 e2 => ⟨i, rfl, h0, hz, q H2 e2⟩
def rZfill : V → List V → Hp → VK → Prop := fun x xs H Q => ∃ (a : Str) (i : Int), x = .str a ∧ xs = [.int i] ∧ PadOk i = true ∧ Q (.str (Txt.zfill a i)) H
theorem ev_zfill {a : Str} {i : Int} (ha : Ev ta σ H (.str a)) (hb : Ev tb σ H (.int i)) (hp : PadOk i = true) : Ev (tBM K "str" rZfill ta (tCons tb tNil)) σ H (.str (Txt.zfill a i)) := fun H1 e Q q =>
  ha H1 e _ fun H2 e2 => ⟨rfl, hb H2 (e.trans e2) _ fun H3 e3 => ⟨a, i, rfl, rfl, hp, q H3 (e2.trans e3)⟩⟩
theorem ev_callN {n m : Nat} {sp : Sp} {gV : List V → List V → List V} {E : XK} {t tk : TA} {vs zs : List V} (h : EvA t σ H vs) (hk : EvA tk σ H zs) (h1 : vs.length = n) (h2 : zs.length = m) (hs : SpV sp (gV vs zs) H z) : Ev (tCallN n m sp gV E t tk) σ H z := fun H1 e Q q =>
  h H1 e _ fun H2 e2 => hk H2 (e.trans e2) _ fun H3 e3 => ⟨h1, h2, hs H3 ((e.trans e2).trans e3) Q (fun H4 e4 => q H4 ((e2.trans e3).trans e4)) E⟩
/-- two new lists one behind the other -/
theorem el_cat {xs ys : List V} (ha : EvL ta σ H xs) (hb : EvL tb σ H ys) (hz : xs.length + ys.length ≤ 100000) : EvL (tOp rCat ta tb) σ H (xs ++ ys) := fun H1 e Q q =>
  ha H1 e _ fun p H2 hp e2 h2 => hb H2 (e.trans e2) _ fun r H3 hr e3 h3 => ⟨p, r, xs, ys, rfl, rfl, e3 p _ h2, h3, sz_of hz, fun l hl => q l _ (fresh_back (e2.trans e3) hl) ((e2.trans e3).trans (Ex.new hl)) upd_same⟩
theorem el_catV {xs ys : List V} {b : Addr} (ha : EvL ta σ H xs) (hb : Ev tb σ H (.ref b)) (hy : H b = some (.lst ys)) (hz : xs.length + ys.length ≤ 100000) : EvL (tOp rCat ta tb) σ H (xs ++ ys) := fun H1 e Q q =>
  ha H1 e _ fun p H2 hp e2 h2 => hb H2 (e.trans e2) _ fun H3 e3 => ⟨p, b, xs, ys, rfl, rfl, e3 p _ h2, ((e.trans e2).trans e3) b _ hy, sz_of hz, fun l hl => q l _ (fresh_back (e2.trans e3) hl) ((e2.trans e3).trans (Ex.new hl)) upd_same⟩
end
end My

set_option Elab.async false
set_option linter.all false
set_option maxRecDepth 100000
set_option maxHeartbeats 4000000
namespace My
open PySem PySem.Spec PyProof.Rows L2 Evl
/-! ### a law's def, called where no text of an object is under way -/
structure FnG (P : Program) (w : World) (K : PySem.W.Frag) (mg : Str → Option Value) (base : Heap) (CX : CXT) (k : Nat) (f : Addr) (fd : FuncData) (ps : List Str) (sp : Sp) : Prop where
  run : ∀ (A : Around) (outer : List Env) (s : Shared) (H : Hp) (args : Args) (us : List Value) (vs : List V) (Q : VK) (E : XK), Room k A → A.guards = some [] → Env0 P w K mg base A outer s H → BindsTo s fd args (ps.zip us) → Vals vs us → sp vs H Q E →
    codeAny (model P w) A (.call (.ref f) args) (CR CX outer P w H s Q E) s
theorem guards_deeper (A : Around) (env : Env) : (A.deeper env).guards = A.guards := rfl
section
variable {P : Program} {w : World} {K : PySem.W.Frag} {mg : Str → Option Value} {base : Heap}
theorem fnG_of {k : Nat} {f : Addr} {fd : FuncData} {x : Str} {st : Stmt} {N ps : List Str} {sp : Sp} (F : FnP K x st f fd) (S : FnScope N ps (defScope st)) (len : ∀ vs H Q E, sp vs H Q E → vs.length = ps.length)
    (body : ∀ (cdv : Value) (A : Around) (outer : List Env) (s : Shared) (H : Hp) (vs : List V) (Q : VK) (E : XK), Room k (A.deeper (envOfC x (defScope st) s.heap.objs.size f cdv)) → A.guards = some [] → sp vs H Q E →
      ∃ t, PSs (cxOf CX0 P w K mg base N x (defScope st) f cdv A outer s H E).nox (defBody st) t ∧ t { nx := fun _ H' => Q .non H', rt := Q } (start N vs) H) : FnG P w K mg base CX0 (k + 1) f fd ps sp := by
  obtain ⟨oc, od, dV, kV, doc, pm, an, cdv, ct, osl, rfl, lk, hcd, _, _⟩ := F.ex
  constructor
  intro A outer t H args us vs Q E room gd env bind rel hsp
  have hlen := len vs H Q E hsp
  have inK : K.In t.heap := env.mod.kin.keeps fun b o z => (env.bs b o z).1
  have noLim : t.heap.NoLimit := env.mod.nolimit.keeps fun b o z => (env.bs b o z).1
  refine codeAny_call_function room.depth (inK _ _ lk) rfl S.co S.gen rfl (PySem.W.codeRec_of inK hcd) (bind _ _ _ _ ?_)
  refine wpAny_newFunctionEnv_cells S.kind (fun y hy => ?_) fun env' e1 t1 inCall => ?_
  · obtain ⟨n, v⟩ := y
    rcases S.par n (List.of_mem_zip hy).1 with z | z
    · exact Or.inl z
    · exact Or.inr ⟨z, PySem.W.cellsFrom_some _ _ _ (Or.inl z)⟩
  subst e1
  refine ⟨noLim.keeps inCall.toInCall.keep, codeAny_func ?_⟩
  obtain ⟨tt, ht0, hq⟩ := body cdv A outer t H vs Q E (room.deeper _) gd hsp
  have ht := PSs.nox ht0
  have J0 : Inv (cxOf CX0 P w K mg base N x (defScope st) f cdv A outer t H E) [] (start N vs) H t1 := inv_start S room.hd env hlen rel inCall
  refine wpAny_mono (ht.run [] t1 (start N vs) H _ J0 hq) (fun fl t2 hs => ?_) fun _ _ z => z
  cases fl with
  | ret u =>
    obtain ⟨v, σ', H', J, rv, q⟩ := hs
    exact ⟨v, H', J.os, J.bare, J.base, J.hok, rv, q⟩
  | next =>
    obtain ⟨σ', H', J, q⟩ := hs
    exact ⟨V.non, H', J.os, J.bare, J.base, J.hok, rfl, q⟩
  | brk =>
    obtain ⟨_, _, _, q⟩ := hs
    exact q.elim
  | cont =>
    obtain ⟨_, _, _, q⟩ := hs
    exact q.elim
/-- the law called on its script -/
theorem lawG_call {k : Nat} {fa a : Addr} {fd : FuncData} {x : Str} {mb : Str → Option Value} {sp : Sp} {t : Shared} {vs : List Value} {ns : List Int}
    (inK : K.In t.heap) (gN : t.heap.Ns mainGlobals mg) (bN : t.heap.Ns builtinsNs mb) (bI : ∀ y : Str, y ≠ "__name__" → mb y = bootBuiltins y) (noLim : t.heap.NoLimit) (gE : t.gens = #[])
    (hobj : t.heap.get? a = some { cls := .type "list", data := .seq vs.toArray }) (hi : IntsAre vs ns) (hl : ns.length ≤ sizeLine) (room : Room k callerA)
    (F : ∀ base : Heap, K.In base → base.Ns mainGlobals mg → FnG P w K mg base CX0 k fa fd [x] sp) (bind : ∀ (s : Shared) (u : Value), BindsTo s fd ⟨[u], []⟩ [(x, u)])
    (hsp : ∀ H : Hp, SqL K H a (ns.map V.int) → sp [.ref a] H (fun v _ => v = .bl true) fun _ _ _ => False) :
    codeAny (model P w) callerA (.call (.ref fa) ⟨[.ref a], []⟩) (fun r s' => r = .ok (.ret (.bool true)) ∧ OldK t.heap s'.heap ∧ s'.os = t.os ∧ AllBare s'.gens) t := by
  have go : ∀ H : Hp, (∀ b, H b ≠ none → b = a ∧ K.lookup a = none ∧ ∃ ob xs, H a = some (HO.frz ob (.lst xs))) → SqL K H a (ns.map V.int) → HOk P w H t.heap →
      codeAny (model P w) callerA (.call (.ref fa) ⟨[.ref a], []⟩) (fun r s' => r = .ok (.ret (.bool true)) ∧ OldK t.heap s'.heap ∧ s'.os = t.os ∧ AllBare s'.gens) t := by
    intro H hH hS hok
    have free : ∀ {b : Addr} {o : Obj} {es : Array DictEntry} {ep : Nat}, t.heap.get? b = some o → o.data = .dict es ep → H b = none := by
      intro b o es ep g d
      by_cases z : H b = none
      · exact z
      · obtain ⟨rfl, _⟩ := hH b z
        rw [hobj] at g
        cases g
        cases (show Data.seq vs.toArray _ = Data.dict es ep from d)
    have ns' : ∀ {b : Addr} {m : Str → Option Value}, t.heap.Ns b m → (hidT t.heap H).Ns b m := by
      rintro b m ⟨o, es, ep, g, d, r⟩
      exact ⟨o, es, ep, hidT_get g (free g d), d, r⟩
    have inB : K.In (hidT t.heap H) := by
      intro b o g
      refine hidT_get (inK b o g) ?_
      by_cases z : H b = none
      · exact z
      · obtain ⟨rfl, z2, _⟩ := hH b z
        rw [z2] at g
        cases g
    have md : Mod K mg (hidT t.heap H) := by
      obtain ⟨mc, h1, h2⟩ := noLim
      exact ⟨inB, ns' gN, ⟨mb, ns' bN, bI⟩, ⟨mc, ns' h1, h2⟩⟩
    have env : Env0 P w K mg (hidT t.heap H) callerA [] t H := ⟨rfl, md, fun b o g => of_hidT g, Nat.le_of_eq (hidT_size _ _), trivial, fun b hb => (List.not_mem_nil hb).elim, hok, .of_eq gE⟩
    have run := (F _ inB (ns' gN)).run callerA [] t H ⟨[.ref a], []⟩ [.ref a] [.ref a] _ _ room rfl env (bind t (.ref a)) (.cons rfl .nil) (hsp H hS)
    refine codeAny_mono run fun r s' h => ?_
    match r, h with
    | .ok (.ret u), h =>
      obtain ⟨v, H', os, bare, un, hok', rel, q⟩ := h
      cases (show v = V.bl true from q)
      obtain rfl : u = Value.bool true := rel
      refine ⟨rfl, OldK.of_keep fun b o g => ?_, os, bare⟩
      by_cases z : H b = none
      · exact un.keep b o g z (fun c => (List.not_mem_nil c).elim) (fun c => (List.not_mem_nil c).elim)
      · obtain ⟨rfl, _, ob, xs, z2⟩ := hH b z
        have z3 := un.frzs b ob _ z2
        obtain ⟨g1, _⟩ := hok b _ z2
        obtain ⟨g2, _⟩ := hok' b _ z3
        rw [g] at g1
        cases g1
        exact g2
  have rel := vals_ints hi
  have lenV := hi.length
  by_cases hk : K.lookup a = none
  · refine go (fun b => if b = a then some (.frz { cls := .type "list", data := .seq vs.toArray } (.lst (ns.map V.int))) else none) (fun b z => ?_) (Or.inl (Or.inr ⟨_, if_pos rfl⟩)) (fun b u z => ?_)
    · have e : b = a := by
        by_cases e : b = a
        · exact e
        · exact (z (if_neg e)).elim
      exact ⟨e, hk, _, _, if_pos rfl⟩
    · by_cases e : b = a
      · have z' := (if_pos e).symm.trans z
        cases z'
        subst e
        exact ⟨hobj, by rw [List.length_map]; exact hl, vs, _, rel, hobj⟩
      · have z' := (if_neg e).symm.trans z
        cases z'
  · obtain ⟨o, ho⟩ := Option.ne_none_iff_exists'.mp hk
    have g := inK a o ho
    rw [hobj] at g
    cases g
    refine go (fun _ => none) (fun b z => (z rfl).elim) (Or.inr ⟨_, vs.toArray, _, ho, rfl, rfl, rfl, by rw [List.size_toArray, lenV]; exact hl, by simpa using rel⟩) (fun b u z => ?_)
    cases (show (none : Option HO) = some u from z)
end
theorem walkG {l : PySem.W.OpenLaw} {n k : Nat} {q : Program} {loose : List Str} {XP : (Str → Option Value) → Heap → Prop} {YP : World → Heap → Prop} {d : DefRec} {x : Str}
    (hn : l.most = some n) (hn2 : n ≤ sizeLine) (hdf : d.params.defaults = []) (room : Room k callerA)
    (F : ∀ (w : World) (mg : Str → Option Value) (fa : Addr) (h : Heap), YP w h → h.Ns mainGlobals mg → mg d.name = some (.ref fa) →
      ∃ (K : PySem.W.Frag) (fd : FuncData) (sp : Sp), K.In h ∧ (∀ (s : Shared) (u : Value), BindsTo s fd ⟨[u], []⟩ [(x, u)]) ∧
        (∀ (H : Hp) (a : Addr) (ns : List Int), ns.length ≤ n → SqL K H a (ns.map V.int) → sp [.ref a] H (fun v _ => v = .bl true) fun _ _ _ => False) ∧
        ∀ base : Heap, K.In base → base.Ns mainGlobals mg → FnG l.prog w K mg base CX0 k fa fd [x] sp) :
    PySem.W.WalkO q loose XP YP l.row.toRowW d [] (fun f vs => PySem.call f vs) := by
  refine Att.attach_call hn hdf fun w s0 s1 mg mb fa o pm cd doc a vs ns G Y _ _ _ hmg hobj hints hlen hg => ?_
  obtain ⟨K, fd, sp, inK, hb, hsp, hF⟩ := F w mg fa _ Y G.T.g hmg
  exact lawG_call inK G.T.g G.T.b G.T.builtins G.T.nolimit hg hobj hints (Nat.le_trans hlen hn2) room hF hb fun H hS => hsp H a ns hlen hS
/-! ### repr of a list of ints -/
def reprInts (ns : List Int) : Str := (PyData.list (ns.map PyData.int)).shown
section
variable {X : Cx}
theorem reads_ints {h : Heap} : ∀ {ns : List Int} {its : List Value}, Vals (ns.map V.int) its → ReadsAll h its (ns.map PyData.int) []
  | [], _, .nil => .nil
  | n :: ns, _, .cons ⟨t, e⟩ r => by
    subst e
    exact .cons (.int n t) (reads_ints r)
theorem showable_ints : ∀ {ns : List Int}, (∀ n ∈ ns, n.natAbs.log2 < 1920) → PyData.showableAll (ns.map PyData.int) = true
  | [], _ => rfl
  | n :: ns, h => by
    show (decide (n.natAbs.log2 < 1920) && PyData.showableAll (ns.map PyData.int)) = true
    rw [decide_eq_true (h n List.mem_cons_self), showable_ints fun m hm => h m (List.mem_cons_of_mem _ hm)]
    rfl
def rReprL (K : PySem.W.Frag) : List V → Hp → VK → Prop := fun xs H Q => ∃ p ns, xs = [.ref p] ∧ H p = some (.lst (ns.map V.int)) ∧ (∀ n ∈ ns, n.natAbs.log2 < 1920) ∧ (reprInts ns).length ≤ sizeLine ∧ Q (.str (reprInts ns)) H
theorem depth_ints : ∀ ns : List Int, PyData.depthAll (ns.map PyData.int) ≤ 1
  | [] => by decide
  | n :: ns => by
    have h := depth_ints ns
    simp only [List.map_cons, PyData.depthAll, PyData.depth]
    omega
theorem noDict_ints : ∀ ns : List Int, PyData.hasDictAll (ns.map PyData.int) = false
  | [] => rfl
  | n :: ns => by
    have h := noDict_ints ns
    simp only [List.map_cons, PyData.hasDictAll, PyData.hasDict, h, Bool.or_self]
theorem cr_reprL {k : Nat} (hg : X.A.guards = some []) (hr : Room k X.A) : CallR X (.builtin "repr") (rReprL X.K) := by
  intro pins s σ H xs us Q I r h
  obtain ⟨p, ns, rfl, hp, hb, hz, q⟩ := h
  obtain ⟨u, rfl, ru⟩ := vals1 r
  cases (show u = Value.ref p from ru)
  obtain ⟨its, rv, pl, _⟩ := I.list (SqL.of hp)
  obtain ⟨o, n0, ho, hc, _, hd⟩ := pl
  have hd1 := depth_ints ns
  have hu := hr.units
  refine repr_of_reads' (d := .list (ns.map PyData.int)) (.list ho hc hd (by simpa using reads_ints rv)) (showable_ints hb) (fun c => by simp [PyData.hasDict, noDict_ints] at c) hg (by simp only [PyData.depth]; omega) (fun b o z => z) (fun h' u tk hk => ?_) hz
  exact ⟨.str _, H, I.kept hk, ⟨u, rfl⟩, q⟩
end
end My

set_option Elab.async false
set_option linter.all false
set_option maxRecDepth 100000
set_option maxHeartbeats 4000000
namespace My
open PySem PySem.Spec PyProof.Rows L2 Evl
section
variable {X : Cx}
theorem pip_of {op : Operator} {r : R2} (h : OpR X (inplaceOp op) r) : PIp X op r := fun pins s σ H x y v u Q I r1 r2 hh => h pins s σ H x y v u Q I r1 r2 hh
def rIsqrt : List V → Hp → VK → Prop := fun xs H Q => ∃ n : Nat, xs = [.int (n : Int)] ∧ n < 2 ^ 4000 ∧ Q (.int (Float64.isqrt n : Nat)) H
theorem cr_isqrt : CallR X (.builtin "math.isqrt") rIsqrt := by
  intro pins s σ H xs us Q I r h
  obtain ⟨n, rfl, hn, q⟩ := h
  obtain ⟨u, rfl, t, rfl⟩ := vals1 r
  have hl : ((n : Nat) : Int).toNat.log2 ≤ 3999 := by
    rw [Int.toNat_natCast]
    by_cases z : n = 0
    · subst z; decide
    · exact Nat.le_of_lt_succ ((Nat.log2_lt z).mpr hn)
  have g := PySem.W.mg_run_isqrt (n : Int) t (by omega) (by omega) (by omega)
  exact call_function_meets PySem.W.MGF.kind_isqrt PySem.W.MGF.plain_isqrt PySem.W.MGF.entry_isqrt (PySem.W.MGF.args_isqrt _) g.meets ⟨.int _, H, I.tok _, ⟨_, by rw [Int.toNat_natCast]⟩, q⟩
end
section
variable {K : PySem.W.Frag} {σ : L2.St} {H : Hp} {ta tb te : TE} {x y z v : V} {D : Ends} {tu tz : TS}
theorem ev_isqrt {n : Nat} (h : Ev te σ H (.int (n : Int))) (hn : n < 2 ^ 4000) : Ev (tCB rIsqrt (tCons te tNil)) σ H (.int (Float64.isqrt n : Nat)) := fun H1 e Q q => h H1 e _ fun H2 e2 => ⟨n, rfl, hn, q H2 e2⟩
theorem q_augR {i : Nat} {r : R2} {a : V} (hx : σ[i]? = some (some a)) (h : Ev te σ H y) (hr : RV r a y H z) (k : ∀ H1, Ex H H1 → tz D (σ.set i (some z)) H1) : tSeq (tAug i te r) tz D σ H :=
  ⟨a, hx, h H (Ex.refl H) _ fun H1 e => hr H1 e _ fun H2 e2 => k H2 (e.trans e2)⟩
theorem s_augR {i : Nat} {r : R2} {a : V} (hx : σ[i]? = some (some a)) (h : Ev te σ H y) (hr : RV r a y H z) (k : ∀ H1, Ex H H1 → D.nx (σ.set i (some z)) H1) : tAug i te r D σ H :=
  ⟨a, hx, h H (Ex.refl H) _ fun H1 e => hr H1 e _ fun H2 e2 => k H2 (e.trans e2)⟩
theorem ev_sum {ns : List Int} (h : EvL te σ H (ns.map V.int)) : Ev (tCB (rSum K) (tCons te tNil)) σ H (.int ns.sum) := fun H1 e Q q => h H1 e _ fun p H2 _ e2 h2 => ⟨p, ns, rfl, sq_of h2, q H2 e2⟩
theorem ev_reprL {ns : List Int} (h : EvL te σ H (ns.map V.int)) (hb : ∀ n ∈ ns, n.natAbs.log2 < 1920) (hz : (reprInts ns).length ≤ sizeLine) : Ev (tCB (rReprL K) (tCons te tNil)) σ H (.str (reprInts ns)) := fun H1 e Q q => h H1 e _ fun p H2 _ e2 h2 => ⟨p, ns, rfl, h2, hb, hz, q H2 e2⟩
theorem wmul {i j : Int} (hi : i.natAbs < 2 ^ 1000) (hj : j.natAbs < 2 ^ 1000) : CMulW i j := wide_mul hi hj (by decide) (by decide) (by decide)
end
end My

set_option Elab.async false
set_option linter.all false
set_option maxRecDepth 100000
set_option maxHeartbeats 4000000
namespace My
open PySem PySem.Spec PyProof.Rows L2 Evl
structure TT (mg : Str → Option Value) : Prop where
  len : mg "len" = none
  int_ : mg "int" = none
  bool_ : mg "bool" = none
  str_ : mg "str" = none
  list_ : mg "list" = none
  tuple_ : mg "tuple" = none
  range : mg "range" = none
  max : mg "max" = none
  min : mg "min" = none
  sum : mg "sum" = none
  isinstance : mg "isinstance" = none
  sorted : mg "sorted" = none
  repr : mg "repr" = none
  abs : mg "abs" = none
  enumerate : mg "enumerate" = none
/-- a loop over a text's signs -/
theorem for_str {x : Str} {g : TG} {tb : TS} {D : Ends} {σ : L2.St} {H : Hp} (Pv : Nat → L2.St → Hp → Prop) (h0 : Pv 0 σ H)
    (hs : ∀ i c σ H, x.cps[i]? = some c → Pv i σ H → g (.str ⟨#[c]⟩) σ H fun σ2 H2 => tb { D with nx := Pv (i + 1), ct := Pv (i + 1), bk := D.nx } σ2 H2) (hd : ∀ σ H, Pv x.cps.size σ H → D.nx σ H) :
    ∃ W : Nat → Nat → L2.St → Hp → Prop, (∃ m, W 0 m σ H) ∧ ∀ i m σ H, W i m σ H →
      ((Its x).stop i H ∧ D.nx σ H) ∨ ((Its x).go i H ∧ ∃ N : L2.St → Hp → Prop, (∀ σ' H', N σ' H' → ∃ m', m' < m ∧ W (i + 1) m' σ' H') ∧ ∀ y H', (Its x).yld i H y H' → g y σ H' fun σ2 H2 => tb { D with nx := N, ct := N, bk := D.nx } σ2 H2) := by
  refine ⟨fun i m σ H => m = x.cps.size - i ∧ i ≤ x.cps.size ∧ Pv i σ H, ⟨x.cps.size, by simp, Nat.zero_le _, h0⟩, ?_⟩
  rintro i m σ H ⟨rfl, hi, p⟩
  by_cases hlt : i < x.cps.size
  · refine .inr ⟨hlt, Pv (i + 1), fun σ' H' p' => ⟨x.cps.size - (i + 1), by omega, rfl, hlt, p'⟩, fun y H' z => ?_⟩
    obtain ⟨e, c, hc, rfl⟩ := z
    subst e
    exact hs i c σ _ hc p
  · have e : i = x.cps.size := by omega
    subst e
    exact .inl ⟨Nat.le_refl _, hd σ H p⟩
theorem q_forS {x : Str} {tl : TE} {g : TG} {D : Ends} {σ : L2.St} {H : Hp} {tu tz : TS} (h : Ev tl σ H (.str x)) (Pv : Nat → L2.St → Hp → Prop) (h0 : ∀ H1, Ex H H1 → Pv 0 σ H1)
    (hs : ∀ i c σ' H', x.cps[i]? = some c → Pv i σ' H' → g (.str ⟨#[c]⟩) σ' H' fun σ2 H2 => tu { D with nx := Pv (i + 1), ct := Pv (i + 1), bk := tz D } σ2 H2) (hd : ∀ σ' H', Pv x.cps.size σ' H' → tz D σ' H') : tSeq (tFor (iStr tl) g tu) tz D σ H :=
  h H (Ex.refl H) _ fun H1 e => ⟨x, rfl, for_str (D := { D with nx := tz D }) Pv (h0 H1 e) hs hd⟩
theorem vals_rev {zs : List V} {ws : List Value} (r : Vals zs ws) : Vals zs.reverse ws.reverse := by
  induction r with
  | nil => exact .nil
  | cons a r ih => rw [List.reverse_cons, List.reverse_cons]; exact ih.append (.cons a .nil)
/-! ### lists of ints in the heap -/
theorem get_map {ns : List Int} {i : Nat} {x : V} (h : (ns.map V.int)[i]? = some x) : ∃ z, ns[i]? = some z ∧ x = .int z := by
  rw [List.getElem?_map] at h
  cases e : ns[i]? with
  | none => rw [e] at h; cases h
  | some z => rw [e] at h; exact ⟨z, rfl, (Option.some.inj h).symm⟩
theorem drop_get {α : Type} {l : List α} {i : Nat} {x : α} (h : l[i]? = some x) : l.drop i = x :: l.drop (i + 1) := by
  obtain ⟨hi, e⟩ := List.getElem?_eq_some_iff.mp h
  rw [List.drop_eq_getElem_cons hi, e]
theorem at_map {ns : List Int} {i : Int} {z : Int} (h0 : 0 ≤ i) (h : ns[i.toNat]? = some z) : atI (ns.map V.int) i = some (.int z) := by
  have hi : i.toNat < ns.length := (List.getElem?_eq_some_iff.mp h).1
  have e : ixN (ns.map V.int).length i = some i.toNat := by
    unfold ixN
    rw [List.length_map, if_pos h0, if_pos (by omega)]
  unfold atI
  rw [e]
  show (ns.map V.int)[i.toNat]? = _
  rw [List.getElem?_map, h]
  rfl
/-! ### a cell -/
def seedF (ns : List Int) : Int := ns.foldl (fun s c => (s * 31 + c % 1000003) % 1000003) 17
def cellF (ns : List Int) (k : Int) : Int := if k < (ns.length : Int) then ns.getD k.toNat 0 else ((seedF ns + 7) * (k + 3) * 69621) % 2147483647
/-! ### digits -/
def digA : Int → List Int → List Int
  | _, [] => []
  | r, s :: ss => r % s :: digA (r / s) ss
def digB : Int → Int → List Int → List Int
  | _, _, [] => []
  | seed, k, s :: ss =>
    let seed' := (seed * 48271 + 974711 * k + 12345) % 2147483647
    let twice := (seed' * (seed' / 65537 + 3)) % 2147483629
    (twice / 19 % s) :: digB seed' (k + 1) ss
def digitsF (c : Int) (ss : List Int) : List Int := if 1000000000000000000 ≤ c then digA (c - 1000000000000000000) ss else digB (c % 2147483629) 0 ss
theorem digA_len : ∀ (r : Int) (ss : List Int), (digA r ss).length = ss.length
  | _, [] => rfl
  | r, s :: ss => by simp [digA, digA_len]
theorem digB_len : ∀ (r k : Int) (ss : List Int), (digB r k ss).length = ss.length
  | _, _, [] => rfl
  | r, k, s :: ss => by simp [digB, digB_len]
theorem digits_len (c : Int) (ss : List Int) : (digitsF c ss).length = ss.length := by
  unfold digitsF; split
  · exact digA_len _ _
  · exact digB_len _ _ _
/-- each digit is from 0 to its size, without it -/
def Within : List Int → List Int → Prop
  | [], [] => True
  | d :: ds, s :: ss => (0 ≤ d ∧ d < s) ∧ Within ds ss
  | _, _ => False
theorem digA_in : ∀ (r : Int) (ss : List Int), (∀ s ∈ ss, 0 < s) → Within (digA r ss) ss
  | _, [], _ => trivial
  | r, s :: ss, h => ⟨⟨Int.emod_nonneg _ (by have := h s List.mem_cons_self; omega), Int.emod_lt_of_pos _ (h s List.mem_cons_self)⟩, digA_in _ ss fun z hz => h z (List.mem_cons_of_mem _ hz)⟩
theorem digB_in : ∀ (r k : Int) (ss : List Int), (∀ s ∈ ss, 0 < s) → Within (digB r k ss) ss
  | _, _, [], _ => trivial
  | r, k, s :: ss, h => ⟨⟨Int.emod_nonneg _ (by have := h s List.mem_cons_self; omega), Int.emod_lt_of_pos _ (h s List.mem_cons_self)⟩, digB_in _ _ ss fun z hz => h z (List.mem_cons_of_mem _ hz)⟩
theorem digits_in (c : Int) (ss : List Int) (h : ∀ s ∈ ss, 0 < s) : Within (digitsF c ss) ss := by
  unfold digitsF; split
  · exact digA_in _ _ h
  · exact digB_in _ _ _ h
theorem et_yes {σ : L2.St} {H : Hp} : EvT tYes σ H true := fun H1 _ Q q => q H1 (Ex.refl H1)
theorem Within.get : ∀ {ds ss : List Int}, Within ds ss → ∀ i, i < ss.length → 0 ≤ ds.getD i 0 ∧ ds.getD i 0 < ss.getD i 0
  | [], [], _, i, h => absurd h (Nat.not_lt_zero i)
  | d :: ds, s :: ss, h, 0, _ => h.1
  | d :: ds, s :: ss, h, i + 1, hi => h.2.get i (by simpa using hi)
  | [], _ :: _, h, _, _ => h.elim
  | _ :: _, [], h, _, _ => h.elim
theorem Within.len : ∀ {ds ss : List Int}, Within ds ss → ds.length = ss.length
  | [], [], _ => rfl
  | _ :: _, _ :: _, h => congrArg Nat.succ h.2.len
  | [], _ :: _, h => h.elim
  | _ :: _, [], h => h.elim
theorem at_d {rs : List Int} {i : Nat} (h : i < rs.length) : atI (rs.map V.int) (i : Int) = some (.int (rs.getD i 0)) := at_map (by omega) (by
  rw [Int.toNat_natCast, List.getD_eq_getElem?_getD, List.getElem?_eq_getElem h]; rfl)
theorem pow_mono (b : Nat) (hb : 1 ≤ b) {i j : Nat} (h : i ≤ j) : ((b : Int)) ^ i ≤ (b : Int) ^ j := by
  have := Nat.pow_le_pow_right hb h
  have h2 : ((b ^ i : Nat) : Int) ≤ ((b ^ j : Nat) : Int) := Int.ofNat_le.mpr this
  rwa [Int.natCast_pow, Int.natCast_pow] at h2
theorem flat_ints (ns : List Int) : (ns.map V.int).all flatV = true := by
  rw [List.all_eq_true]
  intro x hx
  obtain ⟨z, _, rfl⟩ := List.mem_map.mp hx
  rfl
theorem in_ints (z : Int) (ns : List Int) : inV (.int z) (ns.map V.int) = decide (z ∈ ns) := by
  unfold inV
  induction ns with
  | nil => simp
  | cons a ns ih =>
    rw [List.map_cons, List.any_cons, ih]
    have : eqV (.int a) (.int z) = (a == z) := rfl
    rw [this]
    by_cases h : a = z
    · subst h; simp
    · have h2 : ¬ z = a := fun e => h e.symm
      simp [h, h2]
theorem given_map {α : Type} (xs : List α) (d : α) (g : α → V) (v : Nat → V) (h : ∀ i, i < xs.length → v i = g (xs.getD i d)) : given xs.length (fun _ => true) v = xs.map g := by
  unfold given
  rw [List.filter_eq_self.mpr (fun _ _ => rfl)]
  refine List.ext_getElem (by simp) fun i h1 h2 => ?_
  rw [List.getElem_map, List.getElem_map, List.getElem_range]
  rw [List.length_map] at h2
  rw [h i h2, List.getD_eq_getElem?_getD, List.getElem?_eq_getElem h2]
  rfl
/-- a call whose answer is one of several -/
theorem q_call {σ : L2.St} {H : Hp} {i : Nat} {sp : Sp} {dvs vs : List V} {E : XK} {ta : TA} {D : Ends} {tz : TS} (h : EvA ta σ H vs) (hs : ∀ H1, Ex H H1 → sp (vs ++ dvs) H1 (fun x H2 => tz D (σ.set i (some x)) H2) E) : tSeq (tAsg (tCall sp dvs E ta) (gName i)) tz D σ H :=
  h H (Ex.refl H) _ fun H1 e1 => hs H1 e1
/-- [x] * n -/
theorem el_rep {σ : L2.St} {H : Hp} {ta tb : TE} {xs : List V} {k : Int} (ha : EvL ta σ H xs) (hb : ∀ H1, Ex H H1 → Ev tb σ H1 (.int k)) (h0 : 0 ≤ k) (h1 : xs.length * k.toNat ≤ 100000) (h2 : k < 2 ^ 63) : EvL (tOp rRep ta tb) σ H (List.replicate k.toNat xs).flatten := fun H1 e Q q =>
  ha H1 e _ fun p H2 hp e2 h2' => hb H2 (e.trans e2) H2 (Ex.refl H2) _ fun H3 e3 => ⟨p, k, xs, rfl, rfl, e3 p _ h2', by omega, h2, sz_of h1, fun l hl => q l _ (fresh_back (e2.trans e3) hl) ((e2.trans e3).trans (Ex.new hl)) upd_same⟩
/-- a call with a new list as its second argument, its answer a new list -/
theorem q_call2L {σ : L2.St} {H : Hp} {i : Nat} {x : V} {xs ys : List V} {sp : Sp} {E : XK} {ta tb : TE} {D : Ends} {tz : TS} (ha : Ev ta σ H x) (hb : EvL tb σ H xs) (hs : ∀ p H1, H1 p = some (.lst xs) → Ex H H1 → SpL sp [x, .ref p] H1 ys)
    (k : ∀ p H1, H p = none → Ex H H1 → H1 p = some (.lst ys) → tz D (σ.set i (some (.ref p))) H1) : tSeq (tAsg (tCall sp [] E (tCons ta (tCons tb tNil))) (gName i)) tz D σ H :=
  ha H (Ex.refl H) _ fun H1 e1 => hb H1 e1 _ fun p H2 hp e2 h2 => hs p H2 h2 (e1.trans e2) H2 (Ex.refl H2) _ (fun r H3 hr e3 h3 => k r H3 (fresh_back (e1.trans e2) hr) ((e1.trans e2).trans e3) h3) E
theorem ev_callL2 {σ : L2.St} {H : Hp} {x z : V} {xs : List V} {sp : Sp} {E : XK} {ta tb : TE} (ha : Ev ta σ H x) (hb : EvL tb σ H xs) (hs : ∀ p H1, H1 p = some (.lst xs) → Ex H H1 → SpV sp [x, .ref p] H1 z) : Ev (tCall sp [] E (tCons ta (tCons tb tNil))) σ H z := fun H0 e0 Q q =>
  ha H0 e0 _ fun H1 e1 => hb H1 (e0.trans e1) _ fun p H2 hp e2 h2 => hs p H2 h2 ((e0.trans e1).trans e2) H2 (Ex.refl H2) Q (fun H3 e3 => q H3 ((e1.trans e2).trans e3)) E
theorem ev_callL1 {σ : L2.St} {H : Hp} {y z : V} {xs : List V} {sp : Sp} {E : XK} {ta tb : TE} (ha : EvL ta σ H xs) (hb : ∀ H1, Ex H H1 → Ev tb σ H1 y) (hs : ∀ p H1, H1 p = some (.lst xs) → Ex H H1 → SpV sp [.ref p, y] H1 z) : Ev (tCall sp [] E (tCons ta (tCons tb tNil))) σ H z := fun H0 e0 Q q =>
  ha H0 e0 _ fun p H1 hp e1 h1 => hb H1 (e0.trans e1) H1 (Ex.refl H1) _ fun H2 e2 => hs p H2 (e2 p _ h1) ((e0.trans e1).trans e2) H2 (Ex.refl H2) Q (fun H3 e3 => q H3 ((e1.trans e2).trans e3)) E
theorem ea_consNL {σ : L2.St} {H : Hp} {te : TE} {xs : List V} (h : EvL te σ H xs) (Q : List V → Hp → Prop) (q : ∀ p H2, H p = none → Ex H H2 → H2 p = some (.lst xs) → Q [.ref p] H2) : tCons te tNil σ H Q := h H (Ex.refl H) _ fun p H2 hp e h2 => q p H2 hp e h2
theorem kit_int_int {K : PySem.W.Frag} : PySem.W.kitOne K (.type "int") (.type "int") = some true := by rfl
theorem kit_int_bool {K : PySem.W.Frag} : PySem.W.kitOne K (.type "int") (.type "bool") = some false := by rfl
theorem kit_str_str {K : PySem.W.Frag} : PySem.W.kitOne K (.type "str") (.type "str") = some true := by rfl
def OkSizes (ss : List Int) : Prop := ss.length ≤ 1000 ∧ ∀ s ∈ ss, 0 < s ∧ s < 2 ^ 64
theorem divw {i j : Int} (h0 : 0 < j) (h : j < 2 ^ 64) : CDivW i j := wide_div (b := 64) h0 (by omega) (by decide) (by decide)
def spWhole : Sp := fun vs H Q _ => ∃ m : Int, vs = [.int m] ∧ RetV (.bl true) H Q
theorem sv_whole {m : Int} {H : Hp} : SpV spWhole [.int m] H (.bl true) := fun H1 _ Q q _ => ⟨m, rfl, q⟩
section
variable {K : PySem.W.Frag}
def spCellF (K : PySem.W.Frag) : Sp := fun vs H Q _ => ∃ (a : Addr) (ns : List Int) (k : Int), vs = [.ref a, .int k] ∧ SqL K H a (ns.map V.int) ∧ 0 ≤ k ∧ k ≤ 1000000 ∧ RetV (.int (cellF ns k)) H Q
theorem sv_cell {a : Addr} {ns : List Int} {k : Int} {H : Hp} (hS : SqL K H a (ns.map V.int)) (h0 : 0 ≤ k) (h1 : k ≤ 1000000) : SpV (spCellF K) [.ref a, .int k] H (.int (cellF ns k)) := fun H1 e Q q _ => ⟨a, ns, k, rfl, ex_l e hS, h0, h1, q⟩
def spDigits (K : PySem.W.Frag) : Sp := fun vs H Q _ => ∃ (c : Int) (b : Addr) (ss : List Int), vs = [.int c, .ref b] ∧ SqL K H b (ss.map V.int) ∧ OkSizes ss ∧ RetL ((digitsF c ss).map V.int) H Q
theorem sl_digits {c : Int} {b : Addr} {ss : List Int} {H : Hp} (hS : SqL K H b (ss.map V.int)) (ok : OkSizes ss) : SpL (spDigits K) [.int c, .ref b] H ((digitsF c ss).map V.int) := fun H1 e Q q _ => ⟨c, b, ss, rfl, ex_l e hS, ok, fun p H2 hp e2 h2 => q p H2 hp e2 h2⟩
theorem pos_of {ss : List Int} (h : OkSizes ss) : ∀ s ∈ ss, 0 < s := fun s hs => (h.2 s hs).1
end
end My

set_option Elab.async false
set_option linter.all false
set_option maxRecDepth 100000
set_option maxHeartbeats 4000000
namespace My
/-! ### how many texts have 1 to w letters, and how many letters they have together -/
def Sn (s : Nat) : Nat → Nat
  | 0 => 0
  | w + 1 => Sn s w + s ^ (w + 1)
def Bn (s : Nat) : Nat → Nat
  | 0 => 0
  | w + 1 => Bn s w + (w + 1) * s ^ (w + 1)
/-- t is the least total of c texts -/
def Tot (s c t : Nat) : Prop := ∃ w j, c = Sn s w + j ∧ j ≤ s ^ (w + 1) ∧ t = Bn s w + (w + 1) * j
theorem Sn_mono {s : Nat} : ∀ {v w : Nat}, v ≤ w → Sn s v ≤ Sn s w
  | v, 0, h => by
    have : v = 0 := by omega
    rw [this]
    exact Nat.le_refl _
  | v, w + 1, h => by
    by_cases e : v = w + 1
    · rw [e]
      exact Nat.le_refl _
    · exact Nat.le_trans (Sn_mono (v := v) (w := w) (by omega)) (Nat.le_add_right _ _)
theorem Bn_mono {s : Nat} : ∀ {v w : Nat}, v ≤ w → Bn s v ≤ Bn s w
  | v, 0, h => by
    have : v = 0 := by omega
    rw [this]
    exact Nat.le_refl _
  | v, w + 1, h => by
    by_cases e : v = w + 1
    · rw [e]
      exact Nat.le_refl _
    · exact Nat.le_trans (Bn_mono (v := v) (w := w) (by omega)) (Nat.le_add_right _ _)
theorem pow_pos' {s : Nat} (h : 1 ≤ s) (w : Nat) : 1 ≤ s ^ w := Nat.one_le_pow _ _ h
/-- fewer texts have fewer letters -/
theorem tot_le {s c d t u : Nat} (hs : 1 ≤ s) (h1 : Tot s c t) (h2 : Tot s d u) (h : c ≤ d) : t ≤ u := by
  obtain ⟨w, j, e1, hj, rfl⟩ := h1
  obtain ⟨v, i, e2, hi, rfl⟩ := h2
  by_cases hw : w < v
  · have a := Bn_mono (s := s) (show w + 1 ≤ v by omega)
    have b : (w + 1) * j ≤ (w + 1) * s ^ (w + 1) := Nat.mul_le_mul_left _ hj
    have c : Bn s (w + 1) = Bn s w + (w + 1) * s ^ (w + 1) := rfl
    omega
  · by_cases hv : v < w
    · have a := Sn_mono (s := s) (show v + 1 ≤ w by omega)
      have b : Sn s (v + 1) = Sn s v + s ^ (v + 1) := rfl
      have hi2 : i = s ^ (v + 1) := by omega
      have hj0 : j = 0 := by omega
      have hS : Sn s w = Sn s (v + 1) := by omega
      have hvw : w = v + 1 := by
        by_cases z : v + 2 ≤ w
        · have c1 := Sn_mono (s := s) z
          have c2 : Sn s (v + 2) = Sn s (v + 1) + s ^ (v + 2) := rfl
          have c3 := pow_pos' hs (v + 2)
          omega
        · omega
      subst hvw hi2 hj0
      exact Nat.le_of_eq rfl
    · have : w = v := by omega
      subst this
      have hji : j ≤ i := by omega
      exact Nat.add_le_add_left (Nat.mul_le_mul_left _ hji) _
theorem tot_uniq {s c t u : Nat} (hs : 1 ≤ s) (h1 : Tot s c t) (h2 : Tot s c u) : t = u :=
  Nat.le_antisymm (tot_le hs h1 h2 (Nat.le_refl _)) (tot_le hs h2 h1 (Nat.le_refl _))
theorem tot_succ {s w j : Nat} (hs : 1 ≤ s) (hj : j ≤ s ^ (w + 1)) : ∃ k, Tot s (Sn s w + j + 1) (Bn s w + (w + 1) * j + k) ∧ w + 1 ≤ k := by
  by_cases e : j = s ^ (w + 1)
  · refine ⟨w + 2, ⟨w + 1, 1, ?_, pow_pos' hs _, ?_⟩, by omega⟩
    · show _ = Sn s w + s ^ (w + 1) + 1
      omega
    · show _ = Bn s w + (w + 1) * s ^ (w + 1) + (w + 1 + 1) * 1
      rw [e]
      omega
  · refine ⟨w + 1, ⟨w, j + 1, by omega, by omega, ?_⟩, Nat.le_refl _⟩
    rw [Nat.mul_add]
    omega
/-- one text more has more letters -/
theorem tot_lt {s c d t u : Nat} (hs : 1 ≤ s) (h1 : Tot s c t) (h2 : Tot s d u) (h : c < d) : t < u := by
  obtain ⟨w, j, e1, hj, e3⟩ := h1
  obtain ⟨k, h3, hk⟩ := tot_succ hs hj
  have := tot_le hs h3 h2 (by omega)
  omega
/-- each depth bounds the total from below -/
theorem tot_depth {s c t : Nat} (hs : 1 ≤ s) (h : Tot s c t) : ∀ d, (d + 1) * c ≤ t + (d + 1) * Sn s d := by
  obtain ⟨w, j, rfl, hj, rfl⟩ := h
  have key : ∀ w, ∀ d, (d + 1) * Sn s w ≤ Bn s w + (d + 1) * Sn s d := by
    intro w
    induction w with
    | zero => intro d; simp [Sn]
    | succ w ih =>
      intro d
      by_cases hd : w + 1 ≤ d
      · have := Sn_mono (s := s) hd
        have := Nat.mul_le_mul_left (d + 1) this
        omega
      · have a := ih d
        have b : (d + 1) * s ^ (w + 1) ≤ (w + 1) * s ^ (w + 1) := Nat.mul_le_mul_right _ (by omega)
        show (d + 1) * (Sn s w + s ^ (w + 1)) ≤ Bn s w + (w + 1) * s ^ (w + 1) + _
        rw [Nat.mul_add]
        omega
  intro d
  by_cases hd : w < d
  · have a : Sn s w + j ≤ Sn s d := by
      have := Sn_mono (s := s) (show w + 1 ≤ d by omega)
      have c : Sn s (w + 1) = Sn s w + s ^ (w + 1) := rfl
      omega
    have := Nat.mul_le_mul_left (d + 1) a
    omega
  · have a := key w d
    have b : (d + 1) * j ≤ (w + 1) * j := Nat.mul_le_mul_right _ (by omega)
    rw [Nat.mul_add]
    omega
/-! ### one letter -/
theorem Sn_one : ∀ w, Sn 1 w = w
  | 0 => rfl
  | w + 1 => by show Sn 1 w + 1 ^ (w + 1) = w + 1; rw [Sn_one w, Nat.one_pow]
theorem Bn_one : ∀ w, 2 * Bn 1 w = w * (w + 1)
  | 0 => rfl
  | w + 1 => by
    show 2 * (Bn 1 w + (w + 1) * 1 ^ (w + 1)) = (w + 1) * (w + 1 + 1)
    rw [Nat.one_pow, Nat.mul_add, Bn_one w, Nat.mul_one, ← Nat.add_mul, Nat.mul_comm]
theorem tot_one (c : Nat) : Tot 1 c (c * (c + 1) / 2) := by
  refine ⟨c, 0, by rw [Sn_one]; rfl, Nat.zero_le _, ?_⟩
  have := Bn_one c
  omega
/-- fewer letters, no more texts: with one letter they are the longest -/
theorem tot_base {s c t u : Nat} (hs : 1 ≤ s) (h : Tot s c t) (h1 : Tot 1 c u) : t ≤ u := by
  obtain ⟨w, j, rfl, hj, rfl⟩ := h
  have key : ∀ w, w ≤ Sn s w := by
    intro w
    induction w with
    | zero => exact Nat.le_refl _
    | succ w ih =>
      have := pow_pos' hs (w + 1)
      show w + 1 ≤ Sn s w + s ^ (w + 1)
      omega
  -- by counting: the total is at most that of one letter, text by text
  have tri : ∀ n m, n * (n + 1) + 2 * ((n + 1) * m) ≤ (n + m) * (n + m + 1) := by
    intro n m
    have e : (n + m) * (n + m + 1) = n * (n + 1) + 2 * ((n + 1) * m) + m * (m - 1) := by
      cases m with
      | zero => simp
      | succ m =>
        have : (n + (m + 1)) * (n + (m + 1) + 1) = n * (n + 1) + 2 * ((n + 1) * (m + 1)) + (m + 1) * m := by
          simp only [Nat.mul_add, Nat.add_mul, Nat.mul_one, Nat.one_mul]
          have : m * n = n * m := Nat.mul_comm _ _
          omega
        exact this
    omega
  have hB : ∀ w, 2 * Bn s w ≤ Sn s w * (Sn s w + 1) := by
    intro w
    induction w with
    | zero => exact Nat.le_refl _
    | succ w ih =>
      have a := tri (Sn s w) (s ^ (w + 1))
      have b : (w + 1) * s ^ (w + 1) ≤ (Sn s w + 1) * s ^ (w + 1) := Nat.mul_le_mul_right _ (by have := key w; omega)
      show 2 * (Bn s w + (w + 1) * s ^ (w + 1)) ≤ (Sn s w + s ^ (w + 1)) * (Sn s w + s ^ (w + 1) + 1)
      omega
  have hu := tot_uniq (by decide) h1 (tot_one _)
  have a := tri (Sn s w) j
  have b : (w + 1) * j ≤ (Sn s w + 1) * j := Nat.mul_le_mul_right _ (by have := key w; omega)
  have c := hB w
  omega
end My

set_option Elab.async false
set_option linter.all false
set_option maxRecDepth 100000
set_option maxHeartbeats 4000000
namespace My
theorem tot_ex {s : Nat} (hs : 1 ≤ s) : ∀ c, ∃ t, Tot s c t
  | 0 => ⟨0, 0, 0, rfl, Nat.zero_le _, rfl⟩
  | c + 1 => by
    obtain ⟨t, w, j, e, hj, _⟩ := tot_ex hs c
    obtain ⟨k, h, _⟩ := tot_succ hs hj
    exact ⟨_, by rw [e]; exact h⟩
open Classical in
noncomputable def totF (s c : Nat) : Nat := if h : ∃ t, Tot s c t then h.choose else 0
theorem totF_spec {s c : Nat} (hs : 1 ≤ s) : Tot s c (totF s c) := by
  unfold totF
  rw [dif_pos (tot_ex hs c)]
  exact (tot_ex hs c).choose_spec
theorem totF_is {s c t : Nat} (hs : 1 ≤ s) (h : Tot s c t) : totF s c = t := tot_uniq hs (totF_spec hs) h
theorem totF_lt {s c d : Nat} (hs : 1 ≤ s) (h : c < d) : totF s c < totF s d := tot_lt hs (totF_spec hs) (totF_spec hs) h
theorem totF_le {s c d : Nat} (hs : 1 ≤ s) (h : c ≤ d) : totF s c ≤ totF s d := tot_le hs (totF_spec hs) (totF_spec hs) h
theorem totF_ge {s c : Nat} (hs : 1 ≤ s) : c ≤ totF s c := by
  have := tot_depth hs (totF_spec (c := c) hs) 0
  simp [Sn] at this
  exact this
/-- the greatest count of so many letters -/
def Gr (s far c : Nat) : Prop := totF s c ≤ far ∧ far < totF s (c + 1)
theorem gr_uniq {s far c d : Nat} (hs : 1 ≤ s) (h1 : Gr s far c) (h2 : Gr s far d) : c = d := by
  by_cases a : c < d
  · have := totF_le hs (show c + 1 ≤ d by omega)
    have := h1.2
    have := h2.1
    omega
  · by_cases b : d < c
    · have := totF_le hs (show d + 1 ≤ c by omega)
      have := h1.1
      have := h2.2
      omega
    · omega
theorem gr_loop {s w rest far : Nat} (hs : 1 ≤ s) (h : far = Bn s w + rest) (hr : rest ≤ s ^ (w + 1) * (w + 1)) : Gr s far (Sn s w + rest / (w + 1)) := by
  have hj : rest / (w + 1) ≤ s ^ (w + 1) := by
    apply Nat.div_le_of_le_mul
    rw [Nat.mul_comm]
    exact hr
  have h1 : Tot s (Sn s w + rest / (w + 1)) (Bn s w + (w + 1) * (rest / (w + 1))) := ⟨w, _, rfl, hj, rfl⟩
  obtain ⟨k, h2, hk⟩ := tot_succ hs hj
  have a := Nat.div_mul_le_self rest (w + 1)
  have b := Nat.lt_div_mul_add (a := rest) (b := w + 1) (by omega)
  rw [Nat.mul_comm] at a b
  refine ⟨?_, ?_⟩
  · rw [totF_is hs h1]
    omega
  · rw [totF_is hs h2]
    omega
theorem sq_step (a b : Nat) (h : a ≤ b) : a * a ≤ b * b := Nat.mul_le_mul h h
theorem gr_one {L r : Nat} (h1 : r * r ≤ 8 * L + 1) (h2 : 8 * L + 1 < (r + 1) * (r + 1)) : Gr 1 L ((r - 1) / 2) := by
  have hr : 1 ≤ r := by
    by_cases z : r = 0
    · subst z; simp at h2
    · omega
  obtain ⟨n, hn⟩ : ∃ n, n = (r - 1) / 2 := ⟨_, rfl⟩
  rw [← hn]
  have a : 2 * n + 1 ≤ r := by omega
  have b : r + 1 ≤ 2 * n + 3 := by omega
  have a2 := sq_step _ _ a
  have b2 := sq_step _ _ b
  have e1 : (2 * n + 1) * (2 * n + 1) = 4 * (n * (n + 1)) + 1 := by
    simp only [Nat.mul_add, Nat.add_mul, Nat.mul_one, Nat.one_mul]
    have : 2 * n * (2 * n) = 4 * (n * n) := by rw [Nat.mul_mul_mul_comm]
    omega
  have e2 : (2 * n + 3) * (2 * n + 3) = 4 * ((n + 1) * (n + 1 + 1)) + 1 := by
    simp only [Nat.mul_add, Nat.add_mul, Nat.mul_one, Nat.one_mul]
    have : 2 * n * (2 * n) = 4 * (n * n) := by rw [Nat.mul_mul_mul_comm]
    omega
  refine ⟨?_, ?_⟩
  · rw [totF_is (by decide) (tot_one n)]
    omega
  · rw [totF_is (by decide) (tot_one (n + 1))]
    have ev : ∃ k, (n + 1) * (n + 1 + 1) = 2 * k := by
      have := Nat.mod_two_eq_zero_or_one n
      rcases this with z | z
      · exact ⟨(n / 2 + 1) * (n + 1), by
          have e : n + 1 + 1 = 2 * (n / 2 + 1) := by omega
          rw [e, Nat.mul_comm (n + 1), Nat.mul_assoc]⟩
      · exact ⟨(n + 1) / 2 * (n + 1 + 1), by
          have e : n + 1 = 2 * ((n + 1) / 2) := by omega
          rw [← Nat.mul_assoc, ← e]⟩
    obtain ⟨k, hk⟩ := ev
    rw [hk] at e2 ⊢
    omega
/-- the least count of so many letters -/
def Le (L n : Nat) : Prop := 2 * L ≤ n * (n + 3) ∧ (n = 0 ∨ (n - 1) * (n + 2) < 2 * L)
theorem le_of {L r : Nat} (h1 : r * r ≤ 8 * L + 9) (h2 : 8 * L + 9 < (r + 1) * (r + 1)) : Le L (if (r - 3) / 2 * ((r - 3) / 2 + 3) < 2 * L then (r - 3) / 2 + 1 else (r - 3) / 2) := by
  have hr : 3 ≤ r := by
    by_cases z : r ≤ 2
    · have := sq_step (r + 1) 3 (by omega)
      omega
    · omega
  obtain ⟨n, hn⟩ : ∃ n, n = (r - 3) / 2 := ⟨_, rfl⟩
  rw [← hn]
  have a2 := sq_step _ _ (show 2 * n + 3 ≤ r by omega)
  have b2 := sq_step _ _ (show r + 1 ≤ 2 * n + 5 by omega)
  have sq : 2 * n * (2 * n) = 4 * (n * n) := by rw [Nat.mul_mul_mul_comm]
  have e1 : (2 * n + 3) * (2 * n + 3) = 4 * (n * (n + 3)) + 9 := by
    simp only [Nat.mul_add, Nat.add_mul, Nat.mul_one, Nat.one_mul]
    omega
  have e2 : (2 * n + 5) * (2 * n + 5) = 4 * ((n + 1) * (n + 1 + 3)) + 9 := by
    simp only [Nat.mul_add, Nat.add_mul, Nat.mul_one, Nat.one_mul]
    omega
  split
  · rename_i hlt
    refine ⟨by omega, Or.inr ?_⟩
    show (n + 1 - 1) * (n + 1 + 2) < 2 * L
    rw [Nat.add_sub_cancel]
    exact hlt
  · rename_i hge
    refine ⟨by omega, ?_⟩
    cases n with
    | zero => exact Or.inl rfl
    | succ n =>
      refine Or.inr ?_
      have e3 : (n + 1) * (n + 1 + 3) = (n + 1 - 1) * (n + 1 + 2) + (2 * n + 4) := by
        rw [Nat.add_sub_cancel]
        simp only [Nat.mul_add, Nat.add_mul, Nat.mul_one, Nat.one_mul]
        omega
      omega
theorem le_mono {n m : Nat} (h : n ≤ m) : n * (n + 3) ≤ m * (m + 3) := Nat.mul_le_mul h (by omega)
theorem le_uniq {L n m : Nat} (h1 : Le L n) (h2 : Le L m) : n = m := by
  have key : ∀ {n m : Nat}, Le L n → Le L m → ¬ n < m := by
    intro n m h1 h2 c
    rcases h2.2 with z | z
    · omega
    · have := le_mono (show n ≤ m - 1 by omega)
      have e : m - 1 + 3 = m + 2 := by omega
      rw [e] at this
      have := h1.1
      omega
  have := key h1 h2
  have := key h2 h1
  omega
theorem le_far {L n : Nat} (h : Le L n) : n ≤ L := by
  rcases h.2 with z | z
  · omega
  · obtain ⟨m, rfl⟩ : ∃ m, n = m + 1 := ⟨n - 1, by
      by_cases z : n = 0
      · subst z; have := h.1; omega
      · omega⟩
    rw [Nat.add_sub_cancel] at z
    by_cases c : m = 0
    · subst c; omega
    · have : m * 4 ≤ m * (m + 1 + 2) := Nat.mul_le_mul_left _ (by omega)
      omega
theorem gr_le {L n : Nat} (h : Gr 1 L n) : Le L n := by
  obtain ⟨h1, h2⟩ := h
  rw [totF_is (by decide) (tot_one n)] at h1
  rw [totF_is (by decide) (tot_one (n + 1))] at h2
  have e1 : n * (n + 3) = n * (n + 1) + 2 * n := by rw [show n + 3 = n + 1 + 2 by omega, Nat.mul_add]; omega
  have e2 : (n + 1) * (n + 1 + 1) = n * (n + 1) + 2 * n + 2 := by
    simp only [Nat.mul_add, Nat.add_mul, Nat.mul_one, Nat.one_mul]
    omega
  have ev : ∃ k, n * (n + 1) = 2 * k := by
    rcases Nat.mod_two_eq_zero_or_one n with z | z
    · exact ⟨n / 2 * (n + 1), by
        have e : n = 2 * (n / 2) := by omega
        rw [← Nat.mul_assoc, ← e]⟩
    · exact ⟨n * ((n + 1) / 2), by
        have e : n + 1 = 2 * ((n + 1) / 2) := by omega
        conv => lhs; rw [e]
        rw [← Nat.mul_assoc, Nat.mul_comm n 2, Nat.mul_assoc]⟩
  obtain ⟨k, hk⟩ := ev
  refine ⟨by omega, ?_⟩
  cases n with
  | zero => exact Or.inl rfl
  | succ n =>
    refine Or.inr ?_
    have e3 : (n + 1) * (n + 1 + 1) = (n + 1 - 1) * (n + 1 + 2) + 2 := by
      rw [Nat.add_sub_cancel]
      simp only [Nat.mul_add, Nat.add_mul, Nat.mul_one, Nat.one_mul]
      omega
    omega
theorem gr_base {s L n m : Nat} (hs : 1 ≤ s) (h1 : Gr 1 L n) (h2 : Gr s L m) : n ≤ m := by
  by_cases c : m < n
  · have a := totF_le hs (show m + 1 ≤ n by omega)
    have b := tot_base hs (totF_spec (c := n) hs) (totF_spec (s := 1) (by decide))
    have := h1.1
    have := h2.2
    omega
  · omega
theorem gr_depth {s L m : Nat} (hs : 1 ≤ s) (h : Gr s L m) (d : Nat) : m ≤ L / (d + 1) + Sn s d := by
  have a := tot_depth hs (totF_spec (c := m) hs) d
  have b := h.1
  have c : (d + 1) * (m - Sn s d) ≤ L := by
    rw [Nat.mul_sub]
    omega
  have := (Nat.le_div_iff_mul_le (show 0 < d + 1 by omega)).mpr (by rw [Nat.mul_comm]; exact c)
  omega
theorem gr_ex {s : Nat} (hs : 1 ≤ s) (L : Nat) : ∃ c, Gr s L c := by
  have key : ∀ n, L < totF s n → ∃ c, Gr s L c := by
    intro n
    induction n with
    | zero =>
      intro h
      have e : totF s 0 = 0 := totF_is hs ⟨0, 0, rfl, Nat.zero_le _, rfl⟩
      omega
    | succ n ih =>
      intro h
      by_cases c : L < totF s n
      · exact ih c
      · exact ⟨n, by omega, h⟩
  exact key (L + 1) (totF_ge hs)
open Classical in
noncomputable def grF (s L : Nat) : Nat := if h : ∃ c, Gr s L c then h.choose else 0
theorem grF_spec {s L : Nat} (hs : 1 ≤ s) : Gr s L (grF s L) := by
  unfold grF
  rw [dif_pos (gr_ex hs L)]
  exact (gr_ex hs L).choose_spec
theorem grF_is {s L c : Nat} (hs : 1 ≤ s) (h : Gr s L c) : grF s L = c := gr_uniq hs (grF_spec hs) h
theorem grF_le {s L : Nat} (hs : 1 ≤ s) : grF s L ≤ L := Nat.le_trans (totF_ge hs) (grF_spec hs).1
/-- the count of the letters of c texts -/
theorem grF_tot {s c : Nat} (hs : 1 ≤ s) : grF s (totF s c) = c := grF_is hs ⟨Nat.le_refl _, totF_lt hs (Nat.lt_succ_self c)⟩
theorem grF_tot1 {s c : Nat} (hs : 1 ≤ s) (h : 1 ≤ totF s c) : grF s (totF s c - 1) + 1 = c := by
  have hc : 1 ≤ c := by
    by_cases z : c = 0
    · subst z
      have e : totF s 0 = 0 := totF_is hs ⟨0, 0, rfl, Nat.zero_le _, rfl⟩
      omega
    · omega
  obtain ⟨d, rfl⟩ : ∃ d, c = d + 1 := ⟨c - 1, by omega⟩
  have : grF s (totF s (d + 1) - 1) = d := grF_is hs ⟨by have := totF_lt hs (Nat.lt_add_one d); omega, by omega⟩
  omega
theorem totF_cap {s c : Nat} (hs : 1 ≤ s) : totF s c ≤ c * (c + 1) / 2 := tot_base hs (totF_spec hs) (tot_one c)
def cap : Nat := 10 ^ 30 + 1
theorem totF_big {s c : Nat} (hs : 1 ≤ s) (h : c ≤ cap) : totF s c < 2 ^ 250 := by
  have a := totF_cap (c := c) hs
  have b : c * (c + 1) ≤ cap * (cap + 1) := Nat.mul_le_mul h (by omega)
  have d : cap * (cap + 1) < 2 ^ 250 := by decide +kernel
  omega
theorem level_small {s w : Nat} (hs : 2 ≤ s) (h : s ^ w ≤ 6 * cap) : w ≤ 110 := by
  by_cases c : 111 ≤ w
  · have a : 2 ^ 111 ≤ 2 ^ w := Nat.pow_le_pow_right (by decide) c
    have b : 2 ^ w ≤ s ^ w := Nat.pow_le_pow_left hs w
    have d : 6 * cap < 2 ^ 111 := by decide +kernel
    omega
  · omega
theorem cap_lt : cap < 2 ^ 101 := by decide +kernel
end My

set_option Elab.async false
set_option linter.all false
set_option maxRecDepth 100000
set_option maxHeartbeats 4000000
namespace My
open PySem PySem.Spec PyProof.Rows L2 Evl
def top (i : Nat) : Stmt := PySem.Challenge.pw_unpressed_k06_greatest_and_least.main.body.getD i (.Pass ⟨0, 0, 0, 0⟩)
section
variable {P : Program} {w : World} {K : PySem.W.Frag} {mg : Str → Option Value} {base : Heap}
/-! ### _law_whole -/
abbrev s_law_whole : Stmt := top 7
abbrev N_law_whole : List Str := ["value"]
theorem sc_law_whole : FnScope N_law_whole ["value"] (defScope s_law_whole) := ⟨rfl, rfl, rfl, by decide +kernel, rfl, by decide +kernel, by decide +kernel⟩
theorem ok_law_whole (T : TT mg) (F : At K mg "_law_whole" s_law_whole) : Dn P w K mg base 1 "_law_whole" s_law_whole ["value"] spWhole := by
  refine dn_ok F sc_law_whole (fun _ _ _ _ _ _ us hl => match us, hl with | [_], _ => rfl) (fun vs H Q E h => ?_) (fun f cdv A outer s H vs Q E hr h => ?_)
  · obtain ⟨m, rfl, _⟩ := h; rfl
  · obtain ⟨m, rfl, q⟩ := h
    refine ⟨_, (pss_one (ps_ret (pe_and (pe_callB call_isi (by rfl) T.isinstance (by decide +kernel) (pa_cons (pv 0) (pa_cons (pe_tyn "int" rfl T.int_ (by decide +kernel)) pa_nil))) (pe_one (pe_not (pe_callB call_isi (by rfl) T.isinstance (by decide +kernel) (pa_cons (pv 0) (pa_cons (pe_tyn "bool" rfl T.bool_ (by decide +kernel)) pa_nil)))))))), ?_⟩
    exact s_ret (v := .bl (true && !false)) (ev_andV (ev_isi (ev_var rfl) ev_c (ClsV.ty "int") (fun _ _ => .base (.int m)) kit_int_int) fun _ => ev_notV (ev_isi (ev_var rfl) ev_c (ClsV.ty "bool") (fun _ _ => .base (.int m)) kit_int_bool)) fun H1 e => q H1 e
/-! ### _law_cell -/
abbrev s_law_cell : Stmt := top 8
abbrev N_law_cell : List Str := ["script", "k", "seed", "cell"]
theorem sc_law_cell : FnScope N_law_cell ["script", "k"] (defScope s_law_cell) := ⟨rfl, rfl, rfl, by decide +kernel, rfl, by decide +kernel, by decide +kernel⟩
theorem ok_law_cell (T : TT mg) (F : At K mg "_law_cell" s_law_cell) : Dn P w K mg base 1 "_law_cell" s_law_cell ["script", "k"] (spCellF K) := by
  refine dn_ok F sc_law_cell (fun _ _ _ _ _ _ us hl => match us, hl with | [_, _], _ => rfl) (fun vs H Q E h => ?_) (fun f cdv A outer s H vs Q E hr h => ?_)
  · obtain ⟨a, ns, k, rfl, _⟩ := h; rfl
  · obtain ⟨a, ns, k, rfl, hS, hk, hk2, q⟩ := h
    refine ⟨_, (pss_cons (ps_if (pt_cmpR op_lt (pv 1) (pe_callB call_len_seq (by rfl) T.len boot_len (pa_cons (pv 0) pa_nil)) (nomark _)) (pss_one (ps_ret (pe_ix ix_list (pv 0) (pv 1) (fun _ _ => rfl)))) pss_nil)
      (pss_cons (ps_set (i := 2) sc_law_cell.nd rfl (Or.inl rfl) pe_int)
      (pss_cons (ps_for PassesOwn.never rfl (pi_list (pv 0)) (pg_name (i := 3) sc_law_cell.nd rfl (Or.inl rfl))
        (pss_one (ps_set (i := 2) sc_law_cell.nd rfl (Or.inl rfl) (pe_op op_mod (pe_callTy call_int1 (by rfl) T.int_ (by decide +kernel) (pa_cons (pe_op op_add (pe_op op_mul (pv 2) pe_int) (pe_op op_mod (pe_callTy call_int1 (by rfl) T.int_ (by decide +kernel) (pa_cons (pv 3) pa_nil)) pe_int)) pa_nil)) pe_int))))
      (pss_one (ps_ret (pe_op op_mod (pe_callTy call_int1 (by rfl) T.int_ (by decide +kernel) (pa_cons (pe_op op_mul (pe_op op_mul (pe_op op_add (pv 2) pe_int) (pe_op op_add (pv 1) pe_int)) pe_int) pa_nil)) pe_int)))))), ?_⟩
    refine q_when (et_test (ev_op (ev_var rfl) (ev_len (ev_var rfl) hS) rv_I0)) (fun hb H1 e1 => ?_) (fun hb H1 e1 => ?_)
    · have hlt : k < (ns.length : Int) := by
        have := of_decide_eq_true hb
        rw [List.length_map] at this
        exact this
      have hv : cellF ns k = ns.getD k.toNat 0 := if_pos hlt
      rw [hv] at q
      have hg : ns[k.toNat]? = some (ns.getD k.toNat 0) := by
        rw [List.getD_eq_getElem?_getD, List.getElem?_eq_getElem (by omega)]; rfl
      exact s_ret (ev_op (ev_var rfl) (ev_var rfl) (rv_ixL (ex_l e1 hS) (at_map hk hg))) fun H2 e2 => q H2 (e1.trans e2)
    · have hge : ¬ k < (ns.length : Int) := by
        have := of_decide_eq_false hb
        rw [List.length_map] at this
        exact this
      have hv : cellF ns k = ((seedF ns + 7) * (k + 3) * 69621) % 2147483647 := if_neg hge
      rw [hv] at q
      refine q_asg ev_c fun H2 e2 => ?_
      refine q_forLn (ev_var rfl) (ex_l (e1.trans e2) hS) (fun i σ' H' => ∃ (sd : Int) (v : Option V), σ' = [some (.ref a), some (.int k), some (.int sd), v] ∧ Ex H H' ∧ 0 ≤ sd ∧ sd < 1000003 ∧ (ns.drop i).foldl (fun s c => (s * 31 + c % 1000003) % 1000003) sd = seedF ns)
        (fun H3 e3 => ⟨17, none, rfl, (e1.trans e2).trans e3, by decide, by decide, rfl⟩) (fun i σ' H' _ ⟨_, _, _, e, _⟩ => ex_l e hS) ?_ ?_
      · rintro i x σ' H' hx ⟨sd, v, rfl, e, h0, h1, hf⟩
        obtain ⟨z, hz, rfl⟩ := get_map hx
        rw [drop_get hz, List.foldl_cons] at hf
        refine s_asg (ev_op (ev_int (ev_op (ev_op (ev_var rfl) ev_c (rv_I (by unfold CMul; omega))) (ev_op (ev_int (ev_var rfl)) ev_c (rv_I (by decide))) rv_I0)) ev_c (rv_I (by decide))) fun H4 e4 => ?_
        exact ⟨_, _, rfl, e.trans e4, Int.emod_nonneg _ (by decide), Int.emod_lt_of_pos _ (by decide), hf⟩
      · rintro σ' H' ⟨sd, v, rfl, e, h0, h1, hf⟩
        rw [List.length_map, List.drop_length] at hf
        have hsd : sd = seedF ns := hf
        subst hsd
        exact s_ret (ev_op (ev_int (ev_op (ev_op (ev_op (ev_var rfl) ev_c rv_I0) (ev_op (ev_var rfl) ev_c rv_I0) (rv_I (by unfold CMul; omega))) ev_c (rv_I (by unfold CMul; omega)))) ev_c (rv_I (by decide))) fun H4 e4 => q H4 (e.trans e4)
/-! ### _law_digits -/
abbrev s_law_digits : Stmt := top 9
abbrev N_law_digits : List Str := ["cell", "sizes", "row", "rest", "seed", "k", "wide", "twice"]
theorem sc_law_digits : FnScope N_law_digits ["cell", "sizes"] (defScope s_law_digits) := ⟨rfl, rfl, rfl, by decide +kernel, rfl, by decide +kernel, by decide +kernel⟩
theorem ok_law_digits (T : TT mg) (F : At K mg "_law_digits" s_law_digits) : Dn P w K mg base 1 "_law_digits" s_law_digits ["cell", "sizes"] (spDigits K) := by
  refine dn_ok F sc_law_digits (fun _ _ _ _ _ _ us hl => match us, hl with | [_, _], _ => rfl) (fun vs H Q E h => ?_) (fun f cdv A outer s H vs Q E hr h => ?_)
  · obtain ⟨c, b, ss, rfl, _⟩ := h; rfl
  · obtain ⟨c, b, ss, rfl, hS, ⟨hlen, hss⟩, q⟩ := h
    refine ⟨_, (pss_cons (ps_set (i := 2) sc_law_digits.nd rfl (Or.inl rfl) (pe_lst pa_nil))
      (pss_cons (ps_set (i := 3) sc_law_digits.nd rfl (Or.inl rfl) (pe_callTy call_int1 (by rfl) T.int_ (by decide +kernel) (pa_cons (pv 0) pa_nil)))
      (pss_cons (ps_if (pt_cmpR op_ge (pv 3) (pe_op op_pow pe_int pe_int) (nomark _)) (pss_cons (ps_set (i := 3) sc_law_digits.nd rfl (Or.inl rfl) (pe_op op_sub (pv 3) (pe_op op_pow pe_int pe_int)))
        (pss_cons (ps_for PassesOwn.never rfl (pi_list (pv 1)) (pg_name (i := 6) sc_law_digits.nd rfl (Or.inl rfl))
          (pss_cons (ps_expr (pe_bm PySem.F.plainAttrs_list PySem.F.slot_list_append PySem.F.type_list_append mt_append (pv 2) (pa_cons (pe_op op_mod (pe_callTy call_int1 (by rfl) T.int_ (by decide +kernel) (pa_cons (pv 3) pa_nil)) (pv 6)) pa_nil)))
            (pss_one (ps_set (i := 3) sc_law_digits.nd rfl (Or.inl rfl) (pe_op op_fdivW (pe_callTy call_int1 (by rfl) T.int_ (by decide +kernel) (pa_cons (pv 3) pa_nil)) (pv 6))))))
        (pss_one (ps_ret (pv 2))))) pss_nil)
      (pss_cons (ps_set (i := 4) sc_law_digits.nd rfl (Or.inl rfl) (pe_op op_mod (pe_callTy call_int1 (by rfl) T.int_ (by decide +kernel) (pa_cons (pv 3) pa_nil)) pe_int))
      (pss_cons (ps_for PassesOwn.never rfl (pi_range1 (by rfl) T.range (pa_cons (pe_callB call_len_seq (by rfl) T.len boot_len (pa_cons (pv 1) pa_nil)) pa_nil)) (pg_name (i := 5) sc_law_digits.nd rfl (Or.inl rfl))
        (pss_cons (ps_set (i := 4) sc_law_digits.nd rfl (Or.inl rfl) (pe_op op_mod (pe_callTy call_int1 (by rfl) T.int_ (by decide +kernel) (pa_cons (pe_op op_add (pe_op op_add (pe_op op_mul (pv 4) pe_int) (pe_op op_mul pe_int (pv 5))) pe_int) pa_nil)) pe_int))
          (pss_cons (ps_set (i := 7) sc_law_digits.nd rfl (Or.inl rfl) (pe_op op_mod (pe_callTy call_int1 (by rfl) T.int_ (by decide +kernel) (pa_cons (pe_op op_mul (pv 4) (pe_op op_add (pe_op op_fdiv (pv 4) pe_int) pe_int)) pa_nil)) pe_int))
          (pss_one (ps_expr (pe_bm PySem.F.plainAttrs_list PySem.F.slot_list_append PySem.F.type_list_append mt_append (pv 2) (pa_cons (pe_op op_mod (pe_op op_fdiv (pv 7) pe_int) (pe_ix ix_list (pv 1) (pv 5) (fun _ _ => rfl))) pa_nil)))))))
      (pss_one (ps_ret (pv 2)))))))), ?_⟩
    have e18 : (10 : Int) ^ (Int.toNat 18) = 1000000000000000000 := by decide
    have c18 : CPow 10 18 := by unfold CPow; decide
    refine q_asgL (el_lst ea_nil (by decide)) fun l H1 nl e1 h1 => ?_
    refine q_asg (ev_int (ev_var rfl)) fun H2 e2 => ?_
    refine q_when (et_test (ev_op (ev_var rfl) (ev_op ev_c ev_c (rv_I c18)) rv_I0)) (fun hb H3 e3 => ?_) (fun hb H3 e3 => ?_)
    · have hge : 1000000000000000000 ≤ c := by
        have := of_decide_eq_true hb
        rw [e18] at this
        exact this
      have hv : digitsF c ss = digA (c - 1000000000000000000) ss := if_pos hge
      rw [hv] at q
      refine q_asg (ev_op (ev_var rfl) (ev_op ev_c ev_c (rv_I c18)) rv_I0) fun H4 e4 => ?_
      have e14 : Ex H H4 := ((e1.trans e2).trans e3).trans e4
      refine q_forLn (ev_var rfl) (ex_l e14 hS) (fun i σ' H' => ∃ (r : Int) (done : List Int) (v : Option V), σ' = [some (.int c), some (.ref b), some (.ref l), some (.int r), none, none, v, none] ∧ Ex H H' ∧ H' l = some (.lst (done.map V.int)) ∧ done.length = i ∧ done ++ digA r (ss.drop i) = digA (c - 1000000000000000000) ss)
        (fun H5 e5 => ⟨_, [], none, rfl, e14.trans e5, e5 l _ (e4 l _ (e3 l _ (e2 l _ h1))), rfl, by rw [e18]; rfl⟩) (fun i σ' H' _ ⟨_, _, _, _, e, _⟩ => ex_l e hS) ?_ ?_
      · rintro i x σ' H' hx ⟨r, done, v, rfl, e, hl, hd, hf⟩
        obtain ⟨z, hz, rfl⟩ := get_map hx
        have hi := (List.getElem?_eq_some_iff.mp hz).1
        obtain ⟨z0, z1⟩ := hss z (List.mem_of_getElem? hz)
        rw [drop_get hz] at hf
        refine q_app hl (ev_var rfl) (ev_op (ev_int (ev_var rfl)) (ev_var rfl) (rv_I z0)) (by rw [List.length_map]; omega) fun H5 e5 => ?_
        refine s_asg (ev_op (ev_int (ev_var rfl)) (ev_var rfl) (rv_I (divw z0 z1))) fun H6 e6 => ?_
        refine ⟨r / z, done ++ [r % z], _, rfl, (Ex.mut (e.trans e5) nl).trans e6, ?_, by rw [List.length_append]; simp [hd], ?_⟩
        · rw [List.map_append]
          exact e6 l _ upd_same
        · rw [List.append_assoc]
          exact hf
      · rintro σ' H' ⟨r, done, v, rfl, e, hl, hd, hf⟩
        rw [List.length_map, List.drop_length] at hf
        have hf2 : done = digA (c - 1000000000000000000) ss := by rw [← hf]; simp [digA]
        subst hf2
        exact s_ret (ev_var rfl) fun H5 e5 => q l H5 nl (e.trans e5) (e5 l _ hl)
    · have hlt : ¬ 1000000000000000000 ≤ c := by
        have := of_decide_eq_false hb
        rw [e18] at this
        exact this
      have hv : digitsF c ss = digB (c % 2147483629) 0 ss := if_neg hlt
      rw [hv] at q
      refine q_asg (ev_op (ev_int (ev_var rfl)) ev_c (rv_I (by decide))) fun H4 e4 => ?_
      have e14 : Ex H H4 := ((e1.trans e2).trans e3).trans e4
      refine q_forR1 (ea_cons (ev_len (ev_var rfl) (ex_l e14 hS)) ea_nil) ⟨by omega, by rw [List.length_map]; omega⟩ (fun i σ' H' => ∃ (sd : Int) (done : List Int) (v u : Option V), σ' = [some (.int c), some (.ref b), some (.ref l), some (.int c), some (.int sd), v, none, u] ∧ Ex H H' ∧ H' l = some (.lst (done.map V.int)) ∧ done.length = i ∧ 0 ≤ sd ∧ sd < 2147483647 ∧ done ++ digB sd i (ss.drop i) = digB (c % 2147483629) 0 ss)
        (fun H5 e5 => ⟨_, [], none, none, rfl, e14.trans e5, e5 l _ (e4 l _ (e3 l _ (e2 l _ h1))), rfl, Int.emod_nonneg _ (by decide), Int.lt_trans (Int.emod_lt_of_pos _ (by decide)) (by decide), rfl⟩) ?_ ?_
      · rintro i σ' H' hi ⟨sd, done, v, u, rfl, e, hl, hd, h0, h1', hf⟩
        rw [List.length_map] at hi
        obtain ⟨z, hz⟩ : ∃ z, ss[i]? = some z := ⟨_, List.getElem?_eq_getElem (by omega)⟩
        obtain ⟨z0, z1⟩ := hss z (List.mem_of_getElem? hz)
        rw [drop_get hz] at hf
        have hm : 0 ≤ (sd * 48271 + 974711 * (i : Int) + 12345) % 2147483647 := Int.emod_nonneg _ (by decide)
        have hm2 : (sd * 48271 + 974711 * (i : Int) + 12345) % 2147483647 < 2147483647 := Int.emod_lt_of_pos _ (by decide)
        refine q_asg (ev_op (ev_int (ev_op (ev_op (ev_op (ev_var rfl) ev_c (rv_I (by unfold CMul; omega))) (ev_op ev_c (ev_var rfl) (rv_I (by unfold CMul; omega))) rv_I0) ev_c rv_I0)) ev_c (rv_I (by decide))) fun H5 e5 => ?_
        refine q_asg (ev_op (ev_int (ev_op (ev_var rfl) (ev_op (ev_op (ev_var rfl) ev_c (rv_I (by unfold CDiv; decide))) ev_c rv_I0) (rv_I (by unfold CMul; omega)))) ev_c (rv_I (by decide))) fun H6 e6 => ?_
        have e16 : Ex H H6 := (e.trans e5).trans e6
        refine s_app (e6 l _ (e5 l _ hl)) (ev_var rfl) (ev_op (ev_op (ev_var rfl) ev_c (rv_I (by unfold CDiv; decide))) (ev_op (ev_var rfl) (ev_var rfl) (rv_ixL (ex_l e16 hS) (at_map (by omega) (by simpa using hz)))) (rv_I z0)) (by rw [List.length_map]; omega) fun H7 e7 => ?_
        refine ⟨_, done ++ [(sd * 48271 + 974711 * (i : Int) + 12345) % 2147483647 * ((sd * 48271 + 974711 * (i : Int) + 12345) % 2147483647 / 65537 + 3) % 2147483629 / 19 % z], _, _, rfl, Ex.mut (e16.trans e7) nl, ?_, by rw [List.length_append]; simp [hd], hm, hm2, ?_⟩
        · rw [List.map_append]
          exact upd_same
        · rw [List.append_assoc]
          exact hf
      · rintro σ' H' ⟨sd, done, v, u, rfl, e, hl, hd, h0, h1', hf⟩
        have en : ((ss.map V.int).length : Int).toNat = ss.length := by simp
        rw [en, List.drop_length] at hf
        have hf2 : done = digB (c % 2147483629) 0 ss := by rw [← hf]; simp [digB]
        subst hf2
        exact s_ret (ev_var rfl) fun H5 e5 => q l H5 nl (e.trans e5) (e5 l _ hl)
end
end My

set_option Elab.async false
set_option linter.all false
set_option maxRecDepth 100000
set_option maxHeartbeats 4000000
namespace My
open PySem PySem.Spec PyProof.Rows L2 Evl
theorem cB (s w : Nat) : ((Bn s w : Nat) : Int) + ((s ^ (w + 1) : Nat) : Int) * ((w + 1 : Nat) : Int) = ((Bn s (w + 1) : Nat) : Int) := by
  rw [← Int.natCast_mul, ← Int.natCast_add]
  congr 1
  show Bn s w + s ^ (w + 1) * (w + 1) = Bn s w + (w + 1) * s ^ (w + 1)
  rw [Nat.mul_comm]
theorem cS (s w : Nat) : ((Sn s w : Nat) : Int) + ((s ^ (w + 1) : Nat) : Int) = ((Sn s (w + 1) : Nat) : Int) := by
  rw [← Int.natCast_add]
  rfl
theorem cP (s w : Nat) : ((s ^ (w + 1) : Nat) : Int) * ((s : Nat) : Int) = ((s ^ (w + 1 + 1) : Nat) : Int) := by
  rw [← Int.natCast_mul]
  rfl
theorem cN (w : Nat) : ((w + 1 : Nat) : Int) + 1 = ((w + 1 + 1 : Nat) : Int) := by omega
theorem tri_cast (c : Nat) : ((c : Int) * ((c : Int) + 1)) / 2 = ((c * (c + 1) / 2 : Nat) : Int) := by
  rw [Int.natCast_ediv, Int.natCast_mul, Int.natCast_add]
  rfl
theorem capN {c : Nat} (h : c ≤ cap) : ((c : Nat) : Int).natAbs < 2 ^ 1000 := by
  have a := cap_lt
  have b : (2 : Nat) ^ 101 < 2 ^ 1000 := by decide +kernel
  rw [Int.natAbs_natCast]
  omega
theorem capN1 {c : Nat} (h : c ≤ cap) : ((c : Nat) : Int).natAbs + 10 < 2 ^ 1000 := by
  have a := cap_lt
  have b : (2 : Nat) ^ 101 + 10 < 2 ^ 1000 := by decide +kernel
  rw [Int.natAbs_natCast]
  omega
section
variable {P : Program} {w : World} {K : PySem.W.Frag} {mg : Str → Option Value} {base : Heap}
/-! ### shortest_total -/
abbrev s_shortest_total : Stmt := top 2
abbrev N_shortest_total : List Str := ["size", "count", "total", "rest", "length", "texts"]
theorem sc_shortest_total : FnScope N_shortest_total ["size", "count"] (defScope s_shortest_total) := ⟨rfl, rfl, rfl, by decide +kernel, rfl, by decide +kernel, by decide +kernel⟩
def spST : Sp := fun vs H Q _ => ∃ s c : Nat, vs = [.int (s : Int), .int (c : Int)] ∧ 1 ≤ s ∧ s ≤ 6 ∧ c ≤ cap ∧ RetV (.int (totF s c : Nat)) H Q
theorem ok_shortest_total (F : At K mg "shortest_total" s_shortest_total) : Dn P w K mg base 1 "shortest_total" s_shortest_total ["size", "count"] spST := by
  refine dn_ok F sc_shortest_total (fun _ _ _ _ _ _ us hl => match us, hl with | [_, _], _ => rfl) (fun vs H Q E h => ?_) (fun f cdv A outer t H vs Q E hr h => ?_)
  · obtain ⟨s, c, rfl, _⟩ := h; rfl
  · obtain ⟨s, c, rfl, h1, h6, hc, q⟩ := h
    refine ⟨_, (pss_cons (ps_if (pt_cmpR op_eq (pv 0) pe_int (nomark _)) (pss_one (ps_ret (pe_op op_fdiv (pe_op op_mulW (pv 1) (pe_op op_add (pv 1) pe_int)) pe_int))) pss_nil)
      (pss_cons (ps_set (i := 2) sc_shortest_total.nd rfl (Or.inl rfl) pe_int)
      (pss_cons (ps_set (i := 3) sc_shortest_total.nd rfl (Or.inl rfl) (pv 1))
      (pss_cons (ps_set (i := 4) sc_shortest_total.nd rfl (Or.inl rfl) pe_int)
      (pss_cons (ps_set (i := 5) sc_shortest_total.nd rfl (Or.inl rfl) (pv 0))
      (pss_cons (ps_while PassesOwn.never (pt_cmpR op_gt (pv 3) (pv 5) (nomark _))
        (pss_cons (ps_aug (i := 2) sc_shortest_total.nd rfl (Or.inl rfl) (pe_op op_mul (pv 5) (pv 4)) (pip_of iop_add))
          (pss_cons (ps_aug (i := 3) sc_shortest_total.nd rfl (Or.inl rfl) (pv 5) (pip_of iop_sub))
          (pss_cons (ps_aug (i := 4) sc_shortest_total.nd rfl (Or.inl rfl) pe_int (pip_of iop_add))
          (pss_one (ps_aug (i := 5) sc_shortest_total.nd rfl (Or.inl rfl) (pv 0) (pip_of iop_mul)))))))
      (pss_one (ps_ret (pe_op op_add (pv 2) (pe_op op_mul (pv 3) (pv 4))))))))))), ?_⟩
    refine q_when (et_test (ev_op (ev_var rfl) ev_c (rv_eq rfl))) (fun hb H1 e1 => ?_) (fun hb H1 e1 => ?_)
    · have hs : s = 1 := by
        have := of_decide_eq_true hb
        injection this
        omega
      subst hs
      rw [totF_is (by decide) (tot_one c), ← tri_cast] at q
      exact s_ret (ev_op (ev_op (ev_var rfl) (ev_op (ev_var rfl) ev_c rv_I0) (rv_I (wmul (capN hc) (by have := capN1 hc; omega)))) ev_c (rv_I (by unfold CDiv; decide))) fun H2 e2 => q H2 (e1.trans e2)
    · have hs : 2 ≤ s := by
        have := of_decide_eq_false hb
        by_cases z : s = 1
        · subst z; exact absurd rfl this
        · omega
      refine q_asg ev_c fun H2 e2 => ?_
      refine q_asg (ev_var rfl) fun H3 e3 => ?_
      refine q_asg ev_c fun H4 e4 => ?_
      refine q_asg (ev_var rfl) fun H5 e5 => ?_
      refine q_while (fun m σ H' => ∃ v rest : Nat, rest = m ∧ σ = [some (.int (s : Int)), some (.int (c : Int)), some (.int (Bn s v : Nat)), some (.int (rest : Int)), some (.int (v + 1 : Nat)), some (.int (s ^ (v + 1) : Nat))] ∧ Ex H H' ∧ c = Sn s v + rest ∧ s ^ v ≤ 6 * cap)
        c ⟨0, c, rfl, by rw [Nat.pow_one]; rfl, (((e1.trans e2).trans e3).trans e4).trans e5, by simp [Sn], by rw [Nat.pow_zero]; decide +kernel⟩ ?_
      rintro m σ' H' ⟨v, rest, rfl, rfl, e, hcr, hv⟩
      have v110 := level_small hs hv
      refine ⟨_, et_test (ev_op (ev_var rfl) (ev_var rfl) rv_I0), fun hb2 H6 e6 => ?_, fun hb2 H6 e6 => ?_⟩
      · have hlt : s ^ (v + 1) < rest := by
          have := of_decide_eq_true hb2
          omega
        refine ⟨fun σ2 H2 => ∃ m', m' < rest ∧ ∃ v rest : Nat, rest = m' ∧ σ2 = [some (.int (s : Int)), some (.int (c : Int)), some (.int (Bn s v : Nat)), some (.int (rest : Int)), some (.int (v + 1 : Nat)), some (.int (s ^ (v + 1) : Nat))] ∧ Ex H H2 ∧ c = Sn s v + rest ∧ s ^ v ≤ 6 * cap, fun _ _ h => h, ?_⟩
        refine q_augR rfl (ev_op (ev_var rfl) (ev_var rfl) (rv_I (Or.inr (by omega)))) rv_I0 fun H7 e7 => ?_
        refine q_augR rfl (ev_var rfl) rv_I0 fun H8 e8 => ?_
        refine q_augR rfl ev_c rv_I0 fun H9 e9 => ?_
        refine s_augR rfl (ev_var rfl) (rv_I (Or.inr (by omega))) fun H10 e10 => ?_
        have hp := pow_pos' (show 1 ≤ s by omega) (v + 1)
        refine ⟨rest - s ^ (v + 1), by omega, v + 1, rest - s ^ (v + 1), rfl, ?_, ((((e.trans e6).trans e7).trans e8).trans e9).trans e10, ?_, by omega⟩
        · have e1 : ((rest : Nat) : Int) - ((s ^ (v + 1) : Nat) : Int) = ((rest - s ^ (v + 1) : Nat) : Int) := by omega
          rw [← cB, ← cP, ← cN, ← e1]
          rfl
        · show c = Sn s v + s ^ (v + 1) + (rest - s ^ (v + 1))
          omega
      · have hge : rest ≤ s ^ (v + 1) := by
          have := of_decide_eq_false hb2
          omega
        have ht : totF s c = Bn s v + (v + 1) * rest := totF_is (by omega) ⟨v, rest, hcr, hge, rfl⟩
        have ev : ((totF s c : Nat) : Int) = ((Bn s v : Nat) : Int) + ((rest : Nat) : Int) * ((v + 1 : Nat) : Int) := by
          rw [ht, Int.natCast_add, Int.natCast_mul, Int.mul_comm]
        rw [ev] at q
        exact s_ret (ev_op (ev_var rfl) (ev_op (ev_var rfl) (ev_var rfl) (rv_I (Or.inr (by omega)))) rv_I0) fun H7 e7 => q H7 ((e.trans e6).trans e7)
theorem sv_st {s c : Nat} {H : Hp} (h1 : 1 ≤ s) (h6 : s ≤ 6) (hc : c ≤ cap) : SpV spST [.int (s : Int), .int (c : Int)] H (.int (totF s c : Nat)) := fun _ _ _ q _ => ⟨s, c, rfl, h1, h6, hc, q⟩
/-! ### greatest_count -/
abbrev s_greatest_count : Stmt := top 3
abbrev N_greatest_count : List Str := ["size", "length", "count", "rest", "word", "texts"]
theorem sc_greatest_count : FnScope N_greatest_count ["size", "length"] (defScope s_greatest_count) := ⟨rfl, rfl, rfl, by decide +kernel, rfl, by decide +kernel, by decide +kernel⟩
def spGC : Sp := fun vs H Q _ => ∃ s L : Nat, vs = [.int (s : Int), .int (L : Int)] ∧ 1 ≤ s ∧ s ≤ 6 ∧ L ≤ cap ∧ RetV (.int (grF s L : Nat)) H Q
theorem isqrt_dec (n k : Nat) (hk : k ≤ 3) (h9 : 9 ≤ n ∨ k ≤ 1 ∧ 1 ≤ n) : ((Float64.isqrt n : Nat) : Int) - (k : Int) = ((Float64.isqrt n - k : Nat) : Int) := by
  have h := PySem.Float64.isqrt_spec n
  have : k ≤ Float64.isqrt n := by
    rcases h9 with a | ⟨a, b⟩
    · by_cases c : Float64.isqrt n ≤ 2
      · have := sq_step (Float64.isqrt n + 1) 3 (by omega)
        omega
      · omega
    · by_cases c : Float64.isqrt n = 0
      · rw [c] at h; omega
      · omega
  omega
theorem ok_greatest_count (TI : mg "isqrt" = some (.builtin "math.isqrt")) (F : At K mg "greatest_count" s_greatest_count) : Dn P w K mg base 1 "greatest_count" s_greatest_count ["size", "length"] spGC := by
  refine dn_ok F sc_greatest_count (fun _ _ _ _ _ _ us hl => match us, hl with | [_, _], _ => rfl) (fun vs H Q E h => ?_) (fun f cdv A outer t H vs Q E hr h => ?_)
  · obtain ⟨s, c, rfl, _⟩ := h; rfl
  · obtain ⟨s, L, rfl, h1, h6, hL, q⟩ := h
    refine ⟨_, (pss_cons (ps_if (pt_cmpR op_eq (pv 0) pe_int (nomark _)) (pss_one (ps_ret (pe_op op_fdiv (pe_op op_sub (pe_callBfun cr_isqrt (by rfl) TI (pa_cons (pe_op op_add (pe_op op_mul pe_int (pv 1)) pe_int) pa_nil)) pe_int) pe_int))) pss_nil)
      (pss_cons (ps_set (i := 2) sc_greatest_count.nd rfl (Or.inl rfl) pe_int)
      (pss_cons (ps_set (i := 3) sc_greatest_count.nd rfl (Or.inl rfl) (pv 1))
      (pss_cons (ps_set (i := 4) sc_greatest_count.nd rfl (Or.inl rfl) pe_int)
      (pss_cons (ps_set (i := 5) sc_greatest_count.nd rfl (Or.inl rfl) (pv 0))
      (pss_cons (ps_while PassesOwn.never (pt_cmpR op_gt (pv 3) (pe_op op_mul (pv 5) (pv 4)) (nomark _))
        (pss_cons (ps_aug (i := 2) sc_greatest_count.nd rfl (Or.inl rfl) (pv 5) (pip_of iop_add))
          (pss_cons (ps_aug (i := 3) sc_greatest_count.nd rfl (Or.inl rfl) (pe_op op_mul (pv 5) (pv 4)) (pip_of iop_sub))
          (pss_cons (ps_aug (i := 4) sc_greatest_count.nd rfl (Or.inl rfl) pe_int (pip_of iop_add))
          (pss_one (ps_aug (i := 5) sc_greatest_count.nd rfl (Or.inl rfl) (pv 0) (pip_of iop_mul)))))))
      (pss_one (ps_ret (pe_op op_add (pv 2) (pe_op op_fdiv (pv 3) (pv 4))))))))))), ?_⟩
    have hL2 := cap_lt
    refine q_when (et_test (ev_op (ev_var rfl) ev_c (rv_eq rfl))) (fun hb H1 e1 => ?_) (fun hb H1 e1 => ?_)
    · have hs : s = 1 := by
        have := of_decide_eq_true hb
        injection this
        omega
      subst hs
      have hi := PySem.Float64.isqrt_spec (8 * L + 1)
      rw [grF_is (by decide) (gr_one hi.1 hi.2)] at q
      have e8 : (8 : Int) * (L : Int) + 1 = ((8 * L + 1 : Nat) : Int) := by omega
      have ev : (((Float64.isqrt (8 * L + 1) - 1) / 2 : Nat) : Int) = (((Float64.isqrt (8 * L + 1) : Nat) : Int) - 1) / 2 := by
        have := isqrt_dec (8 * L + 1) 1 (by decide) (Or.inr ⟨by decide, by omega⟩)
        have c1 : ((1 : Nat) : Int) = 1 := rfl
        rw [c1] at this
        rw [this, Int.natCast_ediv]
        rfl
      rw [ev] at q
      refine s_ret (ev_op (ev_op (ev_isqrt (n := 8 * L + 1) ?_ ?_) ev_c rv_I0) ev_c (rv_I (by unfold CDiv; decide))) fun H2 e2 => q H2 (e1.trans e2)
      · rw [← e8]
        exact ev_op (ev_op ev_c (ev_var rfl) (rv_I (Or.inl (by decide)))) ev_c rv_I0
      · have : (8 * 2 ^ 101 + 1 : Nat) < 2 ^ 4000 := by decide +kernel
        omega
    · have hs : 2 ≤ s := by
        have := of_decide_eq_false hb
        by_cases z : s = 1
        · subst z; exact absurd rfl this
        · omega
      refine q_asg ev_c fun H2 e2 => ?_
      refine q_asg (ev_var rfl) fun H3 e3 => ?_
      refine q_asg ev_c fun H4 e4 => ?_
      refine q_asg (ev_var rfl) fun H5 e5 => ?_
      refine q_while (fun m σ H' => ∃ v rest : Nat, rest = m ∧ σ = [some (.int (s : Int)), some (.int (L : Int)), some (.int (Sn s v : Nat)), some (.int (rest : Int)), some (.int (v + 1 : Nat)), some (.int (s ^ (v + 1) : Nat))] ∧ Ex H H' ∧ L = Bn s v + rest ∧ s ^ v ≤ 6 * cap)
        L ⟨0, L, rfl, by rw [Nat.pow_one]; rfl, (((e1.trans e2).trans e3).trans e4).trans e5, by simp [Bn], by rw [Nat.pow_zero]; decide +kernel⟩ ?_
      rintro m σ' H' ⟨v, rest, rfl, rfl, e, hcr, hv⟩
      have v110 := level_small hs hv
      have eM : ((s ^ (v + 1) : Nat) : Int) * ((v + 1 : Nat) : Int) = ((s ^ (v + 1) * (v + 1) : Nat) : Int) := (Int.natCast_mul _ _).symm
      refine ⟨_, et_test (ev_op (ev_var rfl) (ev_op (ev_var rfl) (ev_var rfl) (rv_I (Or.inr (by omega)))) rv_I0), fun hb2 H6 e6 => ?_, fun hb2 H6 e6 => ?_⟩
      · have hlt : s ^ (v + 1) * (v + 1) < rest := by
          have := of_decide_eq_true hb2
          rw [eM] at this
          omega
        have hp := pow_pos' (show 1 ≤ s by omega) (v + 1)
        have hp2 : s ^ (v + 1) ≤ s ^ (v + 1) * (v + 1) := Nat.le_mul_of_pos_right _ (by omega)
        refine ⟨fun σ2 H2 => ∃ m', m' < rest ∧ ∃ v rest : Nat, rest = m' ∧ σ2 = [some (.int (s : Int)), some (.int (L : Int)), some (.int (Sn s v : Nat)), some (.int (rest : Int)), some (.int (v + 1 : Nat)), some (.int (s ^ (v + 1) : Nat))] ∧ Ex H H2 ∧ L = Bn s v + rest ∧ s ^ v ≤ 6 * cap, fun _ _ h => h, ?_⟩
        refine q_augR rfl (ev_var rfl) rv_I0 fun H7 e7 => ?_
        refine q_augR rfl (ev_op (ev_var rfl) (ev_var rfl) (rv_I (Or.inr (by omega)))) rv_I0 fun H8 e8 => ?_
        refine q_augR rfl ev_c rv_I0 fun H9 e9 => ?_
        refine s_augR rfl (ev_var rfl) (rv_I (Or.inr (by omega))) fun H10 e10 => ?_
        refine ⟨rest - s ^ (v + 1) * (v + 1), by omega, v + 1, rest - s ^ (v + 1) * (v + 1), rfl, ?_, ((((e.trans e6).trans e7).trans e8).trans e9).trans e10, ?_, by omega⟩
        · have e1 : ((rest : Nat) : Int) - ((s ^ (v + 1) : Nat) : Int) * ((v + 1 : Nat) : Int) = ((rest - s ^ (v + 1) * (v + 1) : Nat) : Int) := by rw [eM]; omega
          rw [← cS, ← cP, ← cN, ← e1]
          rfl
        · show L = Bn s v + (v + 1) * s ^ (v + 1) + (rest - s ^ (v + 1) * (v + 1))
          have := Nat.mul_comm (v + 1) (s ^ (v + 1))
          omega
      · have hge : rest ≤ s ^ (v + 1) * (v + 1) := by
          have := of_decide_eq_false hb2
          rw [eM] at this
          omega
        have ht : grF s L = Sn s v + rest / (v + 1) := grF_is (by omega) (gr_loop (by omega) hcr hge)
        have ev : ((grF s L : Nat) : Int) = ((Sn s v : Nat) : Int) + ((rest : Nat) : Int) / ((v + 1 : Nat) : Int) := by
          rw [ht, Int.natCast_add, Int.natCast_ediv]
        rw [ev] at q
        exact s_ret (ev_op (ev_var rfl) (ev_op (ev_var rfl) (ev_var rfl) (rv_I ⟨by omega, by omega⟩)) rv_I0) fun H7 e7 => q H7 ((e.trans e6).trans e7)
theorem sv_gc {s L : Nat} {H : Hp} (h1 : 1 ≤ s) (h6 : s ≤ 6) (hc : L ≤ cap) : SpV spGC [.int (s : Int), .int (L : Int)] H (.int (grF s L : Nat)) := fun _ _ _ q _ => ⟨s, L, rfl, h1, h6, hc, q⟩
end
end My

set_option Elab.async false
set_option linter.all false
set_option maxRecDepth 100000
set_option maxHeartbeats 4000000
namespace My
open PySem PySem.Spec PyProof.Rows L2 Evl
/-! ### the plain list of lengths -/
theorem Sn_mul (s : Nat) : ∀ w, Sn s (w + 1) = s * (Sn s w + 1)
  | 0 => by simp [Sn]
  | w + 1 => by
    have h := Sn_mul s w
    show Sn s (w + 1) + s ^ (w + 1 + 1) = s * (Sn s w + s ^ (w + 1) + 1)
    rw [h, Nat.pow_succ s (w + 1), Nat.mul_comm (s ^ (w + 1)) s]
    simp only [Nat.mul_add, Nat.mul_one]
    omega
def LV (s i d : Nat) : Prop := (i = 0 ∧ d = 0) ∨ ∃ w, d = w + 1 ∧ Sn s w < i ∧ i ≤ Sn s (w + 1)
def Listed (s n : Nat) (l : List Nat) : Prop := l.length = 1 + n * s ∧ ∀ i, i < l.length → LV s i (l.getD i 0)
theorem listed_0 (s : Nat) : Listed s 0 [0] := ⟨by simp, fun i hi => by
  have : i = 0 := by simpa using hi
  subst this
  exact Or.inl ⟨rfl, rfl⟩⟩
theorem listed_step {s n : Nat} {l : List Nat} (hs : 1 ≤ s) (h : Listed s n l) : Listed s (n + 1) (l ++ List.replicate s (l.getD n 0 + 1)) := by
  obtain ⟨h1, h2⟩ := h
  have hns : n ≤ n * s := Nat.le_mul_of_pos_right _ (by omega)
  refine ⟨by rw [List.length_append, List.length_replicate, h1, Nat.add_mul]; omega, fun i hi => ?_⟩
  rw [List.length_append, List.length_replicate] at hi
  by_cases c : i < l.length
  · have e : (l ++ List.replicate s (l.getD n 0 + 1)).getD i 0 = l.getD i 0 := by
      rw [List.getD_eq_getElem?_getD, List.getElem?_append_left c, ← List.getD_eq_getElem?_getD]
    rw [e]
    exact h2 i c
  · have e : (l ++ List.replicate s (l.getD n 0 + 1)).getD i 0 = l.getD n 0 + 1 := by
      rw [List.getD_eq_getElem?_getD, List.getElem?_append_right (by omega), List.getElem?_replicate, if_pos (by omega)]
      rfl
    rw [e]
    refine Or.inr ?_
    rcases h2 n (by omega) with ⟨rfl, z⟩ | ⟨w, z, a, b⟩
    · refine ⟨0, by rw [z], ?_, ?_⟩
      · show 0 < i
        omega
      · show i ≤ 0 + s ^ (0 + 1)
        rw [Nat.zero_add, Nat.pow_one]
        omega
    · refine ⟨w + 1, by rw [z], ?_, ?_⟩
      · have := Nat.mul_le_mul_left s (show Sn s w + 1 ≤ n by omega)
        rw [Sn_mul, h1] at *
        rw [Nat.mul_comm s n] at this
        omega
      · have := Nat.mul_le_mul_left s (show n + 1 ≤ Sn s (w + 1) + 1 by omega)
        rw [Sn_mul s (w + 1)]
        rw [Nat.mul_add, Nat.mul_comm s n] at this
        omega
theorem listed_sum {s n : Nat} {l : List Nat} (hs : 1 ≤ s) (h : Listed s n l) : ∀ m, m < l.length → (l.take (m + 1)).sum = totF s m
  | 0, hm => by
    have e0 : totF s 0 = 0 := totF_is hs ⟨0, 0, rfl, Nat.zero_le _, rfl⟩
    rw [e0, List.take_succ_eq_append_getElem hm]
    rcases h.2 0 hm with ⟨_, z⟩ | ⟨w, _, a, _⟩
    · rw [List.getD_eq_getElem?_getD, List.getElem?_eq_getElem hm] at z
      have z2 : l[0] = 0 := z
      simp [z2]
    · omega
  | m + 1, hm => by
    have ih := listed_sum hs h m (by omega)
    rw [List.take_succ_eq_append_getElem hm, List.sum_append, ih]
    rcases h.2 (m + 1) hm with ⟨z, _⟩ | ⟨w, z, a, b⟩
    · omega
    · rw [List.getD_eq_getElem?_getD, List.getElem?_eq_getElem hm] at z
      have z2 : l[m + 1] = w + 1 := z
      have e : Sn s (w + 1) = Sn s w + s ^ (w + 1) := rfl
      have t1 : Tot s m (Bn s w + (w + 1) * (m - Sn s w)) := ⟨w, m - Sn s w, by omega, by omega, rfl⟩
      have t2 : Tot s (m + 1) (Bn s w + (w + 1) * (m - Sn s w + 1)) := ⟨w, m - Sn s w + 1, by omega, by omega, rfl⟩
      rw [totF_is hs t1, totF_is hs t2, z2]
      simp [Nat.mul_add]
      omega
theorem sum_map (l : List Nat) : (l.map fun (n : Nat) => (n : Int)).sum = ((l.sum : Nat) : Int) := by
  induction l with
  | nil => rfl
  | cons a l ih => rw [List.map_cons, List.sum_cons, List.sum_cons, ih, Int.natCast_add]
abbrev nV (l : List Nat) : List V := l.map fun (n : Nat) => V.int (n : Int)
theorem at_nV {l : List Nat} {i : Nat} (h : i < l.length) : atI (nV l) (i : Int) = some (.int (l.getD i 0 : Nat)) := by
  have e : ixN (nV l).length (i : Int) = some i := by
    unfold ixN
    rw [List.length_map, if_pos (by omega), if_pos (by omega)]
    simp
  unfold atI
  rw [e]
  show (nV l)[i]? = _
  rw [List.getElem?_map, List.getElem?_eq_getElem h, List.getD_eq_getElem?_getD, List.getElem?_eq_getElem h]
  rfl
theorem cut_nV (l : List Nat) (m : Nat) (h : m < l.length) : cutV (nV l) none (some ((m : Int) + 1)) = (((l.take (m + 1)).map fun (n : Nat) => (n : Int)).map V.int) := by
  have hl : (nV l).length = l.length := List.length_map _
  unfold cutV
  have e1 : HT.sIx (nV l).length 0 none = 0 := rfl
  have e2 : HT.sIx (nV l).length (nV l).length (some ((m : Int) + 1)) = m + 1 := by
    unfold HT.sIx
    rw [hl]
    show (if ((m : Int) + 1) < 0 then _ else min ((m : Int) + 1).toNat l.length) = m + 1
    rw [if_neg (by omega)]
    omega
  rw [e1, e2, List.drop_zero, Nat.sub_zero, ← List.map_take, List.map_map]
  rfl
section
variable {P : Program} {w : World} {K : PySem.W.Frag} {mg : Str → Option Value} {base : Heap}
/-! ### least_count -/
abbrev s_least_count : Stmt := top 4
abbrev N_least_count : List Str := ["length", "below"]
theorem sc_least_count : FnScope N_least_count ["length"] (defScope s_least_count) := ⟨rfl, rfl, rfl, by decide +kernel, rfl, by decide +kernel, by decide +kernel⟩
def spLC : Sp := fun vs H Q _ => ∃ L : Nat, vs = [.int (L : Int)] ∧ L ≤ cap ∧ RetV (.int (grF 1 L : Nat)) H Q
theorem ok_least_count (TI : mg "isqrt" = some (.builtin "math.isqrt")) (F : At K mg "least_count" s_least_count) : Dn P w K mg base 1 "least_count" s_least_count ["length"] spLC := by
  refine dn_ok F sc_least_count (fun _ _ _ _ _ _ us hl => match us, hl with | [_], _ => rfl) (fun vs H Q E h => ?_) (fun f cdv A outer t H vs Q E hr h => ?_)
  · obtain ⟨L, rfl, _⟩ := h; rfl
  · obtain ⟨L, rfl, hL, q⟩ := h
    refine ⟨_, (pss_cons (ps_set (i := 1) sc_least_count.nd rfl (Or.inl rfl) (pe_op op_fdiv (pe_op op_sub (pe_callBfun cr_isqrt (by rfl) TI (pa_cons (pe_op op_add (pe_op op_mul pe_int (pv 0)) pe_int) pa_nil)) pe_int) pe_int))
      (pss_cons (ps_if (pt_cmpR op_lt (pe_op op_mulW (pv 1) (pe_op op_add (pv 1) pe_int)) (pe_op op_mul pe_int (pv 0)) (nomark _)) (pss_one (ps_ret (pe_op op_add (pv 1) pe_int))) pss_nil)
      (pss_one (ps_ret (pv 1))))), ?_⟩
    have hL2 := cap_lt
    have hi := PySem.Float64.isqrt_spec (8 * L + 9)
    have hle := le_uniq (le_of hi.1 hi.2) (gr_le (grF_spec (s := 1) (L := L) (by decide)))
    have hd := isqrt_dec (8 * L + 9) 3 (by decide) (Or.inl (by omega))
    have c3 : ((3 : Nat) : Int) = 3 := rfl
    rw [c3] at hd
    have e8 : (8 : Int) * (L : Int) + 9 = ((8 * L + 9 : Nat) : Int) := by omega
    have hsm : (Float64.isqrt (8 * L + 9) - 3) / 2 ≤ 8 * L + 9 := by
      have : Float64.isqrt (8 * L + 9) ≤ Float64.isqrt (8 * L + 9) * Float64.isqrt (8 * L + 9) := Nat.le_mul_self _
      omega
    refine q_asg (v := .int (((Float64.isqrt (8 * L + 9) - 3) / 2 : Nat) : Int)) ?_ fun H1 e1 => ?_
    · rw [Int.natCast_ediv, ← hd]
      refine ev_op (ev_op (ev_isqrt (n := 8 * L + 9) ?_ ?_) ev_c rv_I0) ev_c (rv_I (by unfold CDiv; decide))
      · rw [← e8]
        exact ev_op (ev_op ev_c (ev_var rfl) (rv_I (Or.inl (by decide)))) ev_c rv_I0
      · have : (8 * 2 ^ 101 + 9 : Nat) < 2 ^ 4000 := by decide +kernel
        omega
    generalize (Float64.isqrt (8 * L + 9) - 3) / 2 = b at hle hsm ⊢
    have hbig : (8 * 2 ^ 101 + 9 + 20 : Nat) < 2 ^ 1000 := by decide +kernel
    refine q_when (et_test (ev_op (ev_op (ev_var rfl) (ev_op (ev_var rfl) ev_c rv_I0) (rv_I (wmul (by omega) (by omega)))) (ev_op ev_c (ev_var rfl) (rv_I (Or.inl (by decide)))) rv_I0)) (fun hb H2 e2 => ?_) (fun hb H2 e2 => ?_)
    · have hlt : b * (b + 3) < 2 * L := by
        have := of_decide_eq_true hb
        have e : (b : Int) * ((b : Int) + 3) = ((b * (b + 3) : Nat) : Int) := by rw [Int.natCast_mul, Int.natCast_add]; rfl
        rw [e] at this
        omega
      rw [if_pos hlt] at hle
      rw [← hle] at q
      exact s_ret (ev_op (ev_var rfl) ev_c rv_I0) fun H3 e3 => q H3 ((e1.trans e2).trans e3)
    · have hlt : ¬ b * (b + 3) < 2 * L := by
        have := of_decide_eq_false hb
        have e : (b : Int) * ((b : Int) + 3) = ((b * (b + 3) : Nat) : Int) := by rw [Int.natCast_mul, Int.natCast_add]; rfl
        rw [e] at this
        omega
      rw [if_neg hlt] at hle
      rw [← hle] at q
      exact s_ret (ev_var rfl) fun H3 e3 => q H3 ((e1.trans e2).trans e3)
theorem sv_lc {L : Nat} {H : Hp} (hc : L ≤ cap) : SpV spLC [.int (L : Int)] H (.int (grF 1 L : Nat)) := fun _ _ _ q _ => ⟨L, rfl, hc, q⟩
/-! ### count_bound -/
abbrev s_count_bound : Stmt := top 5
abbrev N_count_bound : List Str := ["size", "length", "depth", "shorter", "texts", "_"]
theorem sc_count_bound : FnScope N_count_bound ["size", "length", "depth"] (defScope s_count_bound) := ⟨rfl, rfl, rfl, by decide +kernel, rfl, by decide +kernel, by decide +kernel⟩
def spCB : Sp := fun vs H Q _ => ∃ s L d : Nat, vs = [.int (s : Int), .int (L : Int), .int (d + 1 : Nat)] ∧ 1 ≤ s ∧ s ≤ 6 ∧ d + 1 ≤ 100 ∧ RetV (.int (L / (d + 1) + Sn s d : Nat)) H Q
theorem ok_count_bound (T : TT mg) (F : At K mg "count_bound" s_count_bound) : Dn P w K mg base 1 "count_bound" s_count_bound ["size", "length", "depth"] spCB := by
  refine dn_ok F sc_count_bound (fun _ _ _ _ _ _ us hl => match us, hl with | [_, _, _], _ => rfl) (fun vs H Q E h => ?_) (fun f cdv A outer t H vs Q E hr h => ?_)
  · obtain ⟨s, L, d, rfl, _⟩ := h; rfl
  · obtain ⟨s, L, d, rfl, h1, h6, hd, q⟩ := h
    refine ⟨_, (pss_cons (ps_set (i := 3) sc_count_bound.nd rfl (Or.inl rfl) pe_int)
      (pss_cons (ps_set (i := 4) sc_count_bound.nd rfl (Or.inl rfl) pe_int)
      (pss_cons (ps_for PassesOwn.never rfl (pi_range2 (by rfl) T.range (pa_cons pe_int (pa_cons (pv 2) pa_nil))) (pg_name (i := 5) sc_count_bound.nd rfl (Or.inl rfl))
        (pss_cons (ps_aug (i := 4) sc_count_bound.nd rfl (Or.inl rfl) (pv 0) (pip_of iop_mul))
          (pss_one (ps_aug (i := 3) sc_count_bound.nd rfl (Or.inl rfl) (pv 4) (pip_of iop_add)))))
      (pss_one (ps_ret (pe_op op_add (pe_op op_fdiv (pv 1) (pv 2)) (pv 3))))))), ?_⟩
    refine q_asg ev_c fun H1 e1 => ?_
    refine q_asg ev_c fun H2 e2 => ?_
    refine q_forR2 (ea_cons ev_c (ea_cons (ev_var rfl) ea_nil)) ⟨by decide, by decide, by omega, by omega⟩ (fun i σ' H' => ∃ v : Option V, σ' = [some (.int (s : Int)), some (.int (L : Int)), some (.int (d + 1 : Nat)), some (.int (Sn s i : Nat)), some (.int (s ^ i : Nat)), v] ∧ Ex H H')
      (fun H3 e3 => ⟨none, by rw [Nat.pow_zero]; rfl, (e1.trans e2).trans e3⟩) ?_ ?_
    · rintro i σ' H' hi ⟨v, rfl, e⟩
      refine q_augR rfl (ev_var rfl) (rv_I (Or.inr (by omega))) fun H3 e3 => ?_
      refine s_augR rfl (ev_var rfl) rv_I0 fun H4 e4 => ?_
      refine ⟨some (.int ((1 : Int) + (i : Int))), ?_, (e.trans e3).trans e4⟩
      have ep : ((s ^ i : Nat) : Int) * ((s : Nat) : Int) = ((s ^ (i + 1) : Nat) : Int) := by rw [← Int.natCast_mul]; rfl
      rw [← cS, ← ep]
      rfl
    · rintro σ' H' ⟨v, rfl, e⟩
      have en : (((d + 1 : Nat) : Int) - 1).toNat = d := by omega
      rw [en]
      have ev : ((L / (d + 1) + Sn s d : Nat) : Int) = (L : Int) / ((d + 1 : Nat) : Int) + ((Sn s d : Nat) : Int) := by rw [Int.natCast_add, Int.natCast_ediv]
      rw [ev] at q
      exact s_ret (ev_op (ev_op (ev_var rfl) (ev_var rfl) (rv_I ⟨by omega, by omega⟩)) (ev_var rfl) rv_I0) fun H3 e3 => q H3 (e.trans e3)
theorem sv_cb {s L d : Nat} {n : Int} {H : Hp} (hn : n = ((d + 1 : Nat) : Int)) (h1 : 1 ≤ s) (h6 : s ≤ 6) (hc : d + 1 ≤ 100) : SpV spCB [.int (s : Int), .int (L : Int), .int n] H (.int (L / (d + 1) + Sn s d : Nat)) := fun _ _ _ q _ => ⟨s, L, d, by rw [hn], h1, h6, hc, q⟩
/-! ### _law_total -/
abbrev s_law_total : Stmt := top 10
abbrev N_law_total : List Str := ["base", "many", "total", "left", "texts", "wide", "here"]
theorem sc_law_total : FnScope N_law_total ["base", "many"] (defScope s_law_total) := ⟨rfl, rfl, rfl, by decide +kernel, rfl, by decide +kernel, by decide +kernel⟩
theorem Sn_big {s : Nat} (hs : 2 ≤ s) : cap < Sn s 119 := by
  have a : s ^ 119 ≤ Sn s 119 := Nat.le_add_left _ _
  have b : 2 ^ 119 ≤ s ^ 119 := Nat.pow_le_pow_left hs 119
  have c : cap < 2 ^ 119 := by decide +kernel
  omega
theorem ok_law_total (T : TT mg) (F : At K mg "_law_total" s_law_total) : Dn P w K mg base 1 "_law_total" s_law_total ["base", "many"] spST := by
  refine dn_ok F sc_law_total (fun _ _ _ _ _ _ us hl => match us, hl with | [_, _], _ => rfl) (fun vs H Q E h => ?_) (fun f cdv A outer t H vs Q E hr h => ?_)
  · obtain ⟨s, c, rfl, _⟩ := h; rfl
  · obtain ⟨s, c, rfl, h1, h6, hc, q⟩ := h
    refine ⟨_, (pss_cons (ps_if (pt_cmpR op_eq (pv 0) pe_int (nomark _)) (pss_one (ps_ret (pe_op op_fdiv (pe_op op_mulW (pv 1) (pe_op op_add (pv 1) pe_int)) pe_int))) pss_nil)
      (pss_cons (ps_set (i := 2) sc_law_total.nd rfl (Or.inl rfl) pe_int)
      (pss_cons (ps_set (i := 3) sc_law_total.nd rfl (Or.inl rfl) (pv 1))
      (pss_cons (ps_set (i := 4) sc_law_total.nd rfl (Or.inl rfl) (pv 0))
      (pss_cons (ps_for PassesOwn.never rfl (pi_range2 (by rfl) T.range (pa_cons pe_int (pa_cons pe_int pa_nil))) (pg_name (i := 5) sc_law_total.nd rfl (Or.inl rfl))
        (pss_cons (ps_if (pt_cmpR op_le (pv 3) pe_int (nomark _)) (pss_one ps_break) pss_nil)
          (pss_cons (ps_set (i := 6) sc_law_total.nd rfl (Or.inl rfl) (pe_callB (call_min2 rfl) (by rfl) T.min (by decide +kernel) (pa_cons (pv 3) (pa_cons (pv 4) pa_nil))))
          (pss_cons (ps_set (i := 2) sc_law_total.nd rfl (Or.inl rfl) (pe_op op_add (pv 2) (pe_op op_mul (pv 6) (pv 5))))
          (pss_cons (ps_set (i := 3) sc_law_total.nd rfl (Or.inl rfl) (pe_op op_sub (pv 3) (pv 6)))
          (pss_one (ps_set (i := 4) sc_law_total.nd rfl (Or.inl rfl) (pe_op op_mul (pv 4) (pv 0)))))))))
      (pss_one (ps_ret (pv 2)))))))), ?_⟩
    refine q_when (et_test (ev_op (ev_var rfl) ev_c (rv_eq rfl))) (fun hb H1 e1 => ?_) (fun hb H1 e1 => ?_)
    · have hs : s = 1 := by
        have := of_decide_eq_true hb
        injection this
        omega
      subst hs
      rw [totF_is (by decide) (tot_one c), ← tri_cast] at q
      exact s_ret (ev_op (ev_op (ev_var rfl) (ev_op (ev_var rfl) ev_c rv_I0) (rv_I (wmul (capN hc) (by have := capN1 hc; omega)))) ev_c (rv_I (by unfold CDiv; decide))) fun H2 e2 => q H2 (e1.trans e2)
    · have hs : 2 ≤ s := by
        have := of_decide_eq_false hb
        by_cases z : s = 1
        · subst z; exact absurd rfl this
        · omega
      refine q_asg ev_c fun H2 e2 => ?_
      refine q_asg (ev_var rfl) fun H3 e3 => ?_
      refine q_asg (ev_var rfl) fun H4 e4 => ?_
      refine q_forR2 (ea_cons ev_c (ea_cons ev_c ea_nil)) ⟨by decide, by decide, by decide, by decide⟩ (fun i σ' H' => ∃ (tt rest : Nat) (v u : Option V), σ' = [some (.int (s : Int)), some (.int (c : Int)), some (.int (tt : Int)), some (.int (rest : Int)), some (.int (s ^ (i + 1) : Nat)), v, u] ∧ Ex H H' ∧ ((tt = Bn s i ∧ c = Sn s i + rest) ∨ (rest = 0 ∧ tt = totF s c)))
        (fun H5 e5 => ⟨0, c, none, none, by rw [Nat.zero_add, Nat.pow_one]; rfl, ((((e1.trans e2).trans e3).trans e4)).trans e5, Or.inl ⟨rfl, by simp [Sn]⟩⟩) ?_ ?_
      · rintro i σ' H' hi ⟨tt, rest, v, u, rfl, e, hcase⟩
        refine q_when (et_test (ev_op (ev_var rfl) ev_c rv_I0)) (fun hb2 H5 e5 => ?_) (fun hb2 H5 e5 => ?_)
        · have hz : rest = 0 := by
            have := of_decide_eq_true hb2
            omega
          have ht : tt = totF s c := by
            rcases hcase with ⟨a, b⟩ | ⟨_, b⟩
            · rw [a]
              exact (totF_is (by omega) ⟨i, 0, by omega, Nat.zero_le _, rfl⟩).symm
            · exact b
          rw [← ht] at q
          show tRet (tVar 2) { nx := fun _ H' => Q .non H', rt := Q } _ _
          exact s_ret (ev_var rfl) fun H6 e6 => q H6 ((e.trans e5).trans e6)
        · have hnz : 0 < rest := by
            have := of_decide_eq_false hb2
            omega
          have hA : tt = Bn s i ∧ c = Sn s i + rest := by
            rcases hcase with a | ⟨a, _⟩
            · exact a
            · omega
          obtain ⟨hA1, hA2⟩ := hA
          have hmin : (if ((s ^ (i + 1) : Nat) : Int) < (rest : Int) then ((s ^ (i + 1) : Nat) : Int) else (rest : Int)) = ((min rest (s ^ (i + 1)) : Nat) : Int) := by
            split <;> omega
          refine q_asg (ev_min2 (ev_var rfl) (ev_var rfl)) fun H6 e6 => ?_
          rw [hmin]
          refine q_asg (ev_op (ev_var rfl) (ev_op (ev_var rfl) (ev_var rfl) (rv_I (Or.inr (by omega)))) rv_I0) fun H7 e7 => ?_
          refine q_asg (ev_op (ev_var rfl) (ev_var rfl) rv_I0) fun H8 e8 => ?_
          refine s_asg (ev_op (ev_var rfl) (ev_var rfl) (rv_I (Or.inr (by omega)))) fun H9 e9 => ?_
          refine ⟨tt + min rest (s ^ (i + 1)) * (i + 1), rest - min rest (s ^ (i + 1)), some (.int ((1 : Int) + (i : Int))), some (.int ((min rest (s ^ (i + 1)) : Nat) : Int)), ?_, (((e.trans e5).trans e6).trans e7).trans (e8.trans e9), ?_⟩
          · have ea : (tt : Int) + ((min rest (s ^ (i + 1)) : Nat) : Int) * ((1 : Int) + (i : Int)) = ((tt + min rest (s ^ (i + 1)) * (i + 1) : Nat) : Int) := by
              rw [Int.natCast_add, Int.natCast_mul]
              congr 2
              omega
            have eb : (rest : Int) - ((min rest (s ^ (i + 1)) : Nat) : Int) = ((rest - min rest (s ^ (i + 1)) : Nat) : Int) := by omega
            rw [← cP, ← ea, ← eb]
            rfl
          · by_cases hle : rest ≤ s ^ (i + 1)
            · refine Or.inr ⟨by omega, ?_⟩
              rw [Nat.min_eq_left hle, hA1, Nat.mul_comm]
              exact (totF_is (by omega) ⟨i, rest, hA2, hle, rfl⟩).symm
            · refine Or.inl ⟨?_, ?_⟩
              · rw [Nat.min_eq_right (by omega), hA1, Nat.mul_comm]
                rfl
              · rw [Nat.min_eq_right (by omega), hA2]
                show _ = Sn s i + s ^ (i + 1) + _
                omega
      · rintro σ' H' ⟨tt, rest, v, u, rfl, e, hcase⟩
        have ht : tt = totF s c := by
          rcases hcase with ⟨a, b⟩ | ⟨_, b⟩
          · exfalso
            have := Sn_big hs
            have e119 : ((120 : Int) - 1).toNat = 119 := by decide
            rw [e119] at b
            omega
          · exact b
        rw [← ht] at q
        exact s_ret (ev_var rfl) fun H5 e5 => q H5 (e.trans e5)
/-! ### _law_listed_total -/
abbrev s_law_listed_total : Stmt := top 11
abbrev N_law_listed_total : List Str := ["base", "many", "letters", "at", "k"]
theorem sc_law_listed_total : FnScope N_law_listed_total ["base", "many"] (defScope s_law_listed_total) := ⟨rfl, rfl, rfl, by decide +kernel, rfl, by decide +kernel, by decide +kernel⟩
def spLT : Sp := fun vs H Q _ => ∃ s c : Nat, vs = [.int (s : Int), .int (c : Int)] ∧ 1 ≤ s ∧ s ≤ 6 ∧ c ≤ 120 ∧ RetV (.int (totF s c : Nat)) H Q
theorem ok_law_listed_total (T : TT mg) (F : At K mg "_law_listed_total" s_law_listed_total) : Dn P w K mg base 1 "_law_listed_total" s_law_listed_total ["base", "many"] spLT := by
  refine dn_ok F sc_law_listed_total (fun _ _ _ _ _ _ us hl => match us, hl with | [_, _], _ => rfl) (fun vs H Q E h => ?_) (fun f cdv A outer t H vs Q E hr h => ?_)
  · obtain ⟨s, c, rfl, _⟩ := h; rfl
  · obtain ⟨s, c, rfl, h1, h6, hc, q⟩ := h
    refine ⟨_, (pss_cons (ps_set (i := 2) sc_law_listed_total.nd rfl (Or.inl rfl) (pe_lst (pa_cons pe_int pa_nil)))
      (pss_cons (ps_for PassesOwn.never rfl (pi_range1 (by rfl) T.range (pa_cons (pv 1) pa_nil)) (pg_name (i := 3) sc_law_listed_total.nd rfl (Or.inl rfl))
        (pss_cons (ps_if (pt_cmpR op_gt (pe_callB call_len_seq (by rfl) T.len boot_len (pa_cons (pv 2) pa_nil)) (pv 1) (nomark _)) (pss_one ps_break) pss_nil)
          (pss_one (ps_for PassesOwn.never rfl (pi_range1 (by rfl) T.range (pa_cons (pv 0) pa_nil)) (pg_name (i := 4) sc_law_listed_total.nd rfl (Or.inl rfl))
            (pss_one (ps_expr (pe_bm PySem.F.plainAttrs_list PySem.F.slot_list_append PySem.F.type_list_append mt_append (pv 2) (pa_cons (pe_op op_add (pe_ix ix_list (pv 2) (pv 3) (fun _ _ => rfl)) pe_int) pa_nil))))))))
      (pss_one (ps_ret (pe_callB (cr_sum rfl) (by rfl) T.sum (by decide +kernel) (pa_cons (pe_slice sl_list (pv 2) po_none (po_some (pe_op op_add (pv 1) pe_int))) pa_nil)))))), ?_⟩
    refine q_asgL (xs := nV [0]) (el_lst (ea_cons ev_c ea_nil) (by show 1 ≤ 100000; decide)) fun l H1 nl e1 hl1 => ?_
    -- the end, once the list is long enough
    have fin : ∀ (x y : Option V) (i : Nat) (L : List Nat) (H' : Hp), Listed s i L → c < L.length → Ex H H' → H' l = some (.lst (nV L)) →
        tRet (tCB (rSum K) (tCons (tSl (rSlL K) (tVar 2) tNoPart (tPart (tOp (rI0 fun i j => .int (i + j)) (tVar 1) (tC (.int 1))))) tNil)) { nx := fun _ H' => Q .non H', rt := Q } [some (.int (s : Int)), some (.int (c : Int)), some (.ref l), x, y] H' := by
      intro x y i L H' hL hcL e hl
      have hsum := listed_sum h1 hL c hcL
      rw [← hsum, ← sum_map] at q
      refine s_ret (ev_sum (K := K) ?_) fun H2 e2 => q H2 (e.trans e2)
      rw [← cut_nV L c hcL]
      exact el_sl (ev_var rfl) eo_none (eo_some (ev_op (ev_var rfl) ev_c rv_I0)) (sq_of hl)
    refine q_forR1 (ea_cons (ev_var rfl) ea_nil) ⟨by omega, by omega⟩ (fun i σ' H' => ∃ (L : List Nat) (x y : Option V), σ' = [some (.int (s : Int)), some (.int (c : Int)), some (.ref l), x, y] ∧ Ex H H' ∧ H' l = some (.lst (nV L)) ∧ Listed s i L ∧ L.length ≤ 2000) (fun H2 e2 => ⟨[0], none, none, rfl, e1.trans e2, e2 _ _ hl1, listed_0 s, by decide⟩) ?_ ?_
    · rintro i σ' H' hi ⟨L, x, y, rfl, e, hl, hL, hlen⟩
      refine q_when (et_test (ev_op (ev_len (K := K) (ev_var rfl) (sq_of hl)) (ev_var rfl) rv_I0)) (fun hb H2 e2 => ?_) (fun hb H2 e2 => ?_)
      · have hcL : c < L.length := by
          have := of_decide_eq_true hb
          rw [List.length_map] at this
          omega
        exact fin _ _ i L H2 hL hcL (e.trans e2) (e2 _ _ hl)
      · have hcL : L.length ≤ c := by
          have := of_decide_eq_false hb
          rw [List.length_map] at this
          omega
        have hi2 : i < L.length := by
          have := hL.1
          have : i ≤ i * s := Nat.le_mul_of_pos_right _ (by omega)
          omega
        refine s_forR1 (ea_cons (ev_var rfl) ea_nil) ⟨by omega, by omega⟩ (fun k σ2 H3 => ∃ y2 : Option V, σ2 = [some (.int (s : Int)), some (.int (c : Int)), some (.ref l), some (.int (i : Int)), y2] ∧ Ex H H3 ∧ H3 l = some (.lst (nV (L ++ List.replicate k (L.getD i 0 + 1))))) (fun H3 e3 => ⟨y, rfl, (e.trans e2).trans e3, by rw [List.replicate_zero, List.append_nil]; exact e3 _ _ (e2 _ _ hl)⟩) ?_ ?_
        · rintro k σ2 H3 hk ⟨y2, rfl, e3, hl3⟩
          have hg : (L ++ List.replicate k (L.getD i 0 + 1)).getD i 0 = L.getD i 0 := by
            rw [List.getD_eq_getElem?_getD, List.getElem?_append_left hi2, ← List.getD_eq_getElem?_getD]
          have ha := at_nV (l := L ++ List.replicate k (L.getD i 0 + 1)) (i := i) (by rw [List.length_append]; omega)
          rw [hg] at ha
          refine s_app hl3 (ev_var rfl) (ev_op (ev_op (ev_var rfl) (ev_var rfl) (rv_ixL (K := K) (sq_of hl3) ha)) ev_c rv_I0) (by rw [List.length_map, List.length_append, List.length_replicate]; omega) fun H4 e4 => ?_
          refine ⟨_, rfl, Ex.mut (e3.trans e4) nl, ?_⟩
          rw [List.replicate_succ', ← List.append_assoc, upd_same]
          simp [nV]
        · rintro σ2 H3 ⟨y2, rfl, e3, hl3⟩
          have es : ((s : Nat) : Int).toNat = s := by omega
          rw [es] at hl3
          refine ⟨_, _, _, rfl, e3, hl3, listed_step h1 hL, ?_⟩
          rw [List.length_append, List.length_replicate]
          omega
    · rintro σ' H' ⟨L, x, y, rfl, e, hl, hL, hlen⟩
      have ec : ((c : Nat) : Int).toNat = c := by omega
      rw [ec] at hL
      have hcL : c < L.length := by
        have := hL.1
        have : c ≤ c * s := Nat.le_mul_of_pos_right _ (by omega)
        omega
      exact fin _ _ c L H' hL hcL e hl
theorem sv_lt {s c : Nat} {H : Hp} (h1 : 1 ≤ s) (h6 : s ≤ 6) (hc : c ≤ 120) : SpV spLT [.int (s : Int), .int (c : Int)] H (.int (totF s c : Nat)) := fun _ _ _ q _ => ⟨s, c, rfl, h1, h6, hc, q⟩
end
end My

set_option Elab.async false
set_option linter.all false
set_option maxRecDepth 100000
set_option maxHeartbeats 4000000
namespace My
open PySem PySem.Spec PyProof.Rows L2 Evl
/-- a list made over a range, of items of which a word is known -/
theorem q_lcR1_any {ta : TA} {te : TE} {j i0 : Nat} {vs : List Nat} {n : Int} {σ : L2.St} {H : Hp} {D : Ends} {tz : TS} (P : V → Prop) (h : EvA ta σ H [.int n]) (hn : 0 ≤ n ∧ n ≤ 40000) (hw : ∀ x, wipe ((wipe σ vs).set j (some x)) vs = wipe σ vs)
    (he : ∀ (i : Nat) H1, Ex H H1 → (i : Int) < n → ∀ Q : VK, (∀ z H2, P z → Ex H1 H2 → Q z H2) → te ((wipe σ vs).set j (some (.int (i : Int)))) H1 Q)
    (q : ∀ p H2 zs, H p = none → Ex H H2 → zs.length = n.toNat → (∀ z ∈ zs, P z) → H2 p = some (.lst zs) → tz D (σ.set i0 (some (.ref p))) H2) : tSeq (tAsg (tLc (iRng1 ta) (gName j) tYes te vs) (gName i0)) tz D σ H :=
  h H (Ex.refl H) _ fun H1 e1 => ⟨n, rfl, by omega, by omega, fun Dl hD =>
    lc_range (lo := 0) (n := n.toNat) (fun i H' => ∃ zs : List V, Ex H1 H' ∧ H' Dl = some (.lst zs) ∧ zs.length = i ∧ ∀ z ∈ zs, P z) ⟨[], Ex.new hD, upd_same, rfl, fun _ h => absurd h List.not_mem_nil⟩
      (fun i H' hi p => by
        obtain ⟨zs, e, hl, hz, hP⟩ := p
        have e0 : (0 : Int) + (i : Int) = (i : Int) := Int.zero_add _
        show wipe ((wipe σ vs).set j (some (.int ((0 : Int) + (i : Int))))) vs = wipe σ vs ∧ te ((wipe σ vs).set j (some (.int ((0 : Int) + (i : Int))))) H' fun y H4 => ∃ acc, H4 Dl = some (.lst acc) ∧ acc.length < sizeLine ∧ ∃ zs : List V, Ex H1 (upd H4 Dl (.lst (acc ++ [y]))) ∧ (upd H4 Dl (.lst (acc ++ [y]))) Dl = some (.lst zs) ∧ zs.length = i + 1 ∧ ∀ z ∈ zs, P z
        rw [e0]
        refine ⟨hw _, he i H' (e1.trans e) (by omega) _ fun z H4 hPz e4 => ⟨zs, e4 _ _ hl, sz_lt (by omega), zs ++ [z], Ex.mut (e.trans e4) hD, upd_same, by simp [hz], fun u hu => ?_⟩⟩
        rcases List.mem_append.mp hu with hu | hu
        · exact hP u hu
        · simp at hu; subst hu; exact hPz)
      (fun H' p => by
        obtain ⟨zs, e, hl, hz, hP⟩ := p
        exact q Dl H' zs (fresh_back e1 hD) (e1.trans e) hz hP hl)⟩
def S35 : List Int := [8, 31, 6, 100, 5] ++ List.replicate 30 10
def T30 : Nat := 10 ^ 30
theorem T30_cap : T30 + 1 = cap := rfl
def IsN (z : V) : Prop := ∃ m : Nat, z = .int (m : Int) ∧ m ≤ T30
section
variable {P : Program} {w : World} {K : PySem.W.Frag} {mg : Str → Option Value} {base : Heap}
/-! ### _law_level -/
abbrev s_law_level : Stmt := top 12
abbrev N_law_level : List Str := ["base", "deep", "texts", "number", "letters", "k"]
theorem sc_law_level : FnScope N_law_level ["base", "deep"] (defScope s_law_level) := ⟨rfl, rfl, rfl, by decide +kernel, rfl, by decide +kernel, by decide +kernel⟩
def spLev : Sp := fun vs H Q _ => ∃ b d : Int, vs = [.int b, .int d] ∧ 1 ≤ b ∧ b ≤ 6 ∧ 0 ≤ d ∧ d ≤ 100 ∧ ∀ x y : Int, RetL [.int x, .int y] H Q
theorem ok_law_level (T : TT mg) (F : At K mg "_law_level" s_law_level) : Dn P w K mg base 1 "_law_level" s_law_level ["base", "deep"] spLev := by
  refine dn_ok F sc_law_level (fun _ _ _ _ _ _ us hl => match us, hl with | [_, _], _ => rfl) (fun vs H Q E h => ?_) (fun f cdv A outer t H vs Q E hr h => ?_)
  · obtain ⟨b, d, rfl, _⟩ := h; rfl
  · obtain ⟨b, d, rfl, h1, h6, h0, hd, q⟩ := h
    refine ⟨_, (pss_cons (ps_set (i := 2) sc_law_level.nd rfl (Or.inl rfl) pe_int)
      (pss_cons (ps_set (i := 3) sc_law_level.nd rfl (Or.inl rfl) pe_int)
      (pss_cons (ps_set (i := 4) sc_law_level.nd rfl (Or.inl rfl) pe_int)
      (pss_cons (ps_for PassesOwn.never rfl (pi_range2 (by rfl) T.range (pa_cons pe_int (pa_cons (pe_op op_add (pv 1) pe_int) pa_nil))) (pg_name (i := 5) sc_law_level.nd rfl (Or.inl rfl))
        (pss_cons (ps_set (i := 2) sc_law_level.nd rfl (Or.inl rfl) (pe_op op_mul (pv 2) (pv 0)))
          (pss_cons (ps_if (pt_cmpR op_gt (pe_op op_add (pv 4) (pe_op op_mul (pv 2) (pv 5))) (pe_op op_sub (pe_op op_pow pe_int pe_int) pe_int) (nomark _)) (pss_one ps_break) pss_nil)
          (pss_cons (ps_set (i := 3) sc_law_level.nd rfl (Or.inl rfl) (pe_op op_add (pv 3) (pv 2)))
          (pss_one (ps_set (i := 4) sc_law_level.nd rfl (Or.inl rfl) (pe_op op_add (pv 4) (pe_op op_mul (pv 2) (pv 5)))))))))
      (pss_one (ps_ret (pe_lst (pa_cons (pv 3) (pa_cons (pv 4) pa_nil))))))))), ?_⟩
    refine q_asg ev_c fun H1 e1 => ?_
    refine q_asg ev_c fun H2 e2 => ?_
    refine q_asg ev_c fun H3 e3 => ?_
    have c30 : CPow 10 30 := by unfold CPow; decide
    refine q_forR2 (ea_cons ev_c (ea_cons (ev_op (ev_var rfl) ev_c rv_I0) ea_nil)) ⟨by decide, by decide, by omega, by omega⟩ (fun i σ' H' => ∃ (tx x y : Int) (v : Option V), σ' = [some (.int b), some (.int d), some (.int tx), some (.int x), some (.int y), v] ∧ Ex H H') (fun H4 e4 => ⟨_, _, _, _, rfl, ((e1.trans e2).trans e3).trans e4⟩) ?_ ?_
    · rintro i σ' H' hi ⟨tx, x, y, v, rfl, e⟩
      refine q_asg (ev_op (ev_var rfl) (ev_var rfl) (rv_I (Or.inr (by omega)))) fun H4 e4 => ?_
      refine q_when (et_test (ev_op (ev_op (ev_var rfl) (ev_op (ev_var rfl) (ev_var rfl) (rv_I (Or.inr (by omega)))) rv_I0) (ev_op (ev_op ev_c ev_c (rv_I c30)) ev_c rv_I0) rv_I0)) (fun hb H5 e5 => ?_) (fun hb H5 e5 => ?_)
      · show tRet (tLst (tCons (tVar 3) (tCons (tVar 4) tNil))) { nx := fun _ H' => Q .non H', rt := Q } _ _
        exact s_retL (el_lst (ea_cons (ev_var rfl) (ea_cons (ev_var rfl) ea_nil)) (by show 2 ≤ 100000; decide)) fun p H6 hp e6 h6 => q x y p H6 (fresh_back ((e.trans e4).trans e5) hp) (((e.trans e4).trans e5).trans e6) h6
      · refine q_asg (ev_op (ev_var rfl) (ev_var rfl) rv_I0) fun H6 e6 => ?_
        refine s_asg (ev_op (ev_var rfl) (ev_op (ev_var rfl) (ev_var rfl) (rv_I (Or.inr (by omega)))) rv_I0) fun H7 e7 => ?_
        exact ⟨_, _, _, _, rfl, (((e.trans e4).trans e5).trans e6).trans e7⟩
    · rintro σ' H' ⟨tx, x, y, v, rfl, e⟩
      exact s_retL (el_lst (ea_cons (ev_var rfl) (ea_cons (ev_var rfl) ea_nil)) (by show 2 ≤ 100000; decide)) fun p H6 hp e6 h6 => q x y p H6 (fresh_back e hp) (e.trans e6) h6
/-! ### _law_number -/
abbrev s_law_number : Stmt := top 13
abbrev N_law_number : List Str := ["row", "number", "k", "near", "deep", "root"]
theorem sc_law_number : FnScope N_law_number ["row"] (defScope s_law_number) := ⟨rfl, rfl, rfl, by decide +kernel, rfl, by decide +kernel, by decide +kernel⟩
def spNum (K : PySem.W.Frag) : Sp := fun vs H Q _ => ∃ (p : Addr) (rs : List Int), vs = [.ref p] ∧ SqL K H p (rs.map V.int) ∧ Within rs S35 ∧ ∀ z : Nat, z ≤ T30 → RetV (.int (z : Int)) H Q
/-- an item of a list that a def hands back -/
theorem ev_ixCall2 {σ : L2.St} {H : Hp} {sp : Sp} {E : XK} {ta tb : TE} {i : Nat} {x y : V} {Q : VK} (hi : i < 2) (ha : Ev ta σ H x) (hb : Ev tb σ H y) (hs : ∀ H1, Ex H H1 → ∀ Q1 : VK, (∀ (u v : Int) p H2, Ex H1 H2 → H2 p = some (.lst [.int u, .int v]) → Q1 (.ref p) H2) → sp [x, y] H1 Q1 E)
    (q : ∀ (z : Int) H2, Ex H H2 → Q (.int z) H2) : tOp (rIxL K) (tCall sp [] E (tCons ta (tCons tb tNil))) (tC (.int (i : Int))) σ H Q :=
  ha H (Ex.refl H) _ fun H1 e1 => hb H1 e1 _ fun H2 e2 => hs H2 (e1.trans e2) _ fun u v p H3 e3 h3 => by
    have : i = 0 ∨ i = 1 := by omega
    rcases this with rfl | rfl
    · exact ⟨p, _, _, _, rfl, rfl, sq_of h3, rfl, q u H3 ((e1.trans e2).trans e3)⟩
    · exact ⟨p, _, _, _, rfl, rfl, sq_of h3, rfl, q v H3 ((e1.trans e2).trans e3)⟩
theorem ok_law_number (T : TT mg) (F : At K mg "_law_number" s_law_number) (D_law_level : Dn P w K mg base 1 "_law_level" s_law_level ["base", "deep"] spLev) : Dn P w K mg base 2 "_law_number" s_law_number ["row"] (spNum K) := by
  refine dn_ok F sc_law_number (fun _ _ _ _ _ _ us hl => match us, hl with | [_], _ => rfl) (fun vs H Q E h => ?_) (fun f cdv A outer t H vs Q E hr h => ?_)
  · obtain ⟨p, rs, rfl, _⟩ := h; rfl
  · obtain ⟨p, rs, rfl, hS, hw, q⟩ := h
    refine ⟨_, (pss_cons (ps_set (i := 1) sc_law_number.nd rfl (Or.inl rfl) pe_int)
      (pss_cons (ps_for PassesOwn.never rfl (pi_range1 (by rfl) T.range (pa_cons (pe_ix ix_list (pv 0) pe_int (fun _ _ => rfl)) pa_nil)) (pg_name (i := 2) sc_law_number.nd rfl (Or.inl rfl))
        (pss_one (ps_set (i := 1) sc_law_number.nd rfl (Or.inl rfl) (pe_op op_add (pe_op op_mul (pv 1) pe_int) (pe_ix ix_list (pv 0) (pe_op op_add pe_int (pv 2)) (fun _ _ => rfl))))))
      (pss_cons (ps_if (pt_cmpR op_lt (pe_ix ix_list (pv 0) pe_int (fun _ _ => rfl)) pe_int (nomark _)) (pss_one (ps_ret (pv 1))) pss_nil)
      (pss_cons (ps_set (i := 3) sc_law_number.nd rfl (Or.inl rfl) (pe_op op_sub (pe_ix ix_list (pv 0) pe_int (fun _ _ => rfl)) pe_int))
      (Evl.pss_cut (ps_if (pt_cmpR op_eq (pe_ix ix_list (pv 0) pe_int (fun _ _ => rfl)) pe_int (nomark _)) (pss_one (ps_set (i := 1) sc_law_number.nd rfl (Or.inl rfl) (pe_op op_sub (pe_op op_pow pe_int pe_int) (pe_ix ix_list (pv 0) pe_int (fun _ _ => rfl))))) pss_nil)
      (Evl.pss_cut (ps_if (pt_cmpR op_eq (pe_ix ix_list (pv 0) pe_int (fun _ _ => rfl)) pe_int (nomark _)) (pss_one (ps_set (i := 1) sc_law_number.nd rfl (Or.inl rfl) (pe_op op_add (pe_ix ix_list (pv 0) pe_int (fun _ _ => rfl)) (pv 3)))) pss_nil)
      (Evl.pss_cut (ps_if (pt_cmpR op_eq (pe_ix ix_list (pv 0) pe_int (fun _ _ => rfl)) pe_int (nomark _)) (pss_cons (ps_set (i := 5) sc_law_number.nd rfl (Or.inl rfl) (pe_op op_mod (pe_callTy call_int1 (by rfl) T.int_ (by decide +kernel) (pa_cons (pv 1) pa_nil)) (pe_op op_pow pe_int pe_int)))
        (pss_one (ps_set (i := 1) sc_law_number.nd rfl (Or.inl rfl) (pe_op op_add (pe_op op_fdiv (pe_op op_mul (pv 5) (pe_op op_add (pv 5) pe_int)) pe_int) (pv 3))))) pss_nil)
      (pss_cons (ps_set (i := 4) sc_law_number.nd rfl (Or.inl rfl) (pe_op op_mod (pe_callTy call_int1 (by rfl) T.int_ (by decide +kernel) (pa_cons (pe_ix ix_list (pv 0) pe_int (fun _ _ => rfl)) pa_nil)) (pe_ix ix_list (pe_lst (pa_cons pe_int (pa_cons pe_int (pa_cons pe_int (pa_cons pe_int (pa_cons pe_int (pa_cons pe_int pa_nil))))))) (pe_ix ix_list (pv 0) pe_int (fun _ _ => rfl)) (fun _ _ => rfl))))
      (Evl.pss_cut (ps_if (pt_cmpR op_eq (pe_ix ix_list (pv 0) pe_int (fun _ _ => rfl)) pe_int (nomark _)) (pss_one (ps_set (i := 1) sc_law_number.nd rfl (Or.inl rfl) (pe_op op_add (pe_ix ix_list (pe_dn D_law_level hr (by decide) rfl (pa_cons (pe_op op_add pe_int (pe_ix ix_list (pv 0) pe_int (fun _ _ => rfl))) (pa_cons (pv 4) pa_nil))) pe_int (fun _ _ => rfl)) (pv 3)))) pss_nil)
      (Evl.pss_cut (ps_if (pt_cmpR op_eq (pe_ix ix_list (pv 0) pe_int (fun _ _ => rfl)) pe_int (nomark _)) (pss_one (ps_set (i := 1) sc_law_number.nd rfl (Or.inl rfl) (pe_op op_add (pe_ix ix_list (pe_dn D_law_level hr (by decide) rfl (pa_cons (pe_op op_add pe_int (pe_ix ix_list (pv 0) pe_int (fun _ _ => rfl))) (pa_cons (pv 4) pa_nil))) pe_int (fun _ _ => rfl)) (pv 3)))) pss_nil)
      (pss_one (ps_ret (pe_callB (call_max2 rfl) (by rfl) T.max (by decide +kernel) (pa_cons pe_int (pa_cons (pe_callB (call_min2 rfl) (by rfl) T.min (by decide +kernel) (pa_cons (pv 1) (pa_cons (pe_op op_pow pe_int pe_int) pa_nil))) pa_nil))))))))))))))), ?_⟩
    have hl : rs.length = 35 := hw.len
    have g1 : 0 ≤ rs.getD 1 0 ∧ rs.getD 1 0 < 31 := hw.get 1 (by decide)
    have g2 : 0 ≤ rs.getD 2 0 ∧ rs.getD 2 0 < 6 := hw.get 2 (by decide)
    have c30 : CPow 10 30 := by unfold CPow; decide
    have c15 : CPow 10 15 := by unfold CPow; decide
    have ix : ∀ (σ : L2.St) (i : Nat) (H1 : Hp), σ[0]? = some (some (V.ref p)) → i < 35 → Ex H H1 → Ev (tOp (rIxL K) (tVar 0) (tC (.int (i : Int)))) σ H1 (.int (rs.getD i 0)) := fun σ i H1 h0 hi e => ev_op (ev_var h0) ev_c (rv_ixL (ex_l e hS) (at_d (by omega)))
    refine q_asg ev_c fun H1 e1 => ?_
    refine q_forR1 (ea_cons (ix _ 1 H1 rfl (by decide) e1) ea_nil) ⟨g1.1, by omega⟩ (fun i σ' H' => ∃ (n : Nat) (v : Option V), σ' = [some (.ref p), some (.int (n : Int)), v, none, none, none] ∧ Ex H H' ∧ n < 10 ^ i) (fun H2 e2 => ⟨0, none, rfl, e1.trans e2, by decide⟩) ?_ ?_
    · rintro i σ' H' hi ⟨n, v, rfl, e, hn⟩
      have g := hw.get (5 + i) (by show 5 + i < 35; omega)
      have e10 : S35.getD (5 + i) 0 = 10 := by
        have : ∀ i, i < 30 → S35.getD (5 + i) 0 = 10 := by decide +kernel
        exact this i (by omega)
      rw [e10] at g
      refine s_asg (ev_op (ev_op (ev_var rfl) ev_c (rv_I (Or.inr (by decide)))) (ev_op (ev_var rfl) (ev_op ev_c (ev_var rfl) rv_I0) (rv_ixL (ex_l e hS) (by
        have e5 : (5 : Int) + (i : Int) = ((5 + i : Nat) : Int) := by omega
        rw [e5]
        exact at_d (by omega)))) rv_I0) fun H2 e2 => ?_
      have ev : ((n : Nat) : Int) * 10 + rs.getD (5 + i) 0 = ((n * 10 + (rs.getD (5 + i) 0).toNat : Nat) : Int) := by omega
      refine ⟨n * 10 + (rs.getD (5 + i) 0).toNat, some (.int (i : Int)), by rw [← ev]; rfl, e.trans e2, ?_⟩
      rw [Nat.pow_succ]
      omega
    rintro σ' H2 ⟨n, v, rfl, e2, hn⟩
    have hn30 : n ≤ T30 := by
      have := Nat.pow_le_pow_right (show 0 < 10 by decide) (show (rs.getD 1 0).toNat ≤ 30 by omega)
      unfold T30
      omega
    refine q_when (et_test (ev_op (ix _ 0 H2 rfl (by decide) e2) ev_c rv_I0)) (fun hb H3 e3 => ?_) (fun hb H3 e3 => ?_)
    · exact s_ret (ev_var rfl) fun H4 e4 => q n hn30 H4 ((e2.trans e3).trans e4)
    have e23 := e2.trans e3
    refine q_asg (ev_op (ix _ 4 H3 rfl (by decide) e23) ev_c rv_I0) fun H4 e4 => ?_
    have e24 := e23.trans e4
    generalize rs.getD 4 0 - 2 = near
    generalize (n : Int) = n0
    refine q_cut (M := fun σ' H' => ∃ n : Int, σ' = [some (.ref p), some (.int n), v, some (.int near), none, none] ∧ Ex H H') ?_ ?_
    · refine s_when (et_test (ev_op (ix _ 0 H4 rfl (by decide) e24) ev_c (rv_eq rfl))) (fun _ H5 e5 => ?_) (fun _ H5 e5 => ⟨_, rfl, e24.trans e5⟩)
      exact s_asg (ev_op (ev_op ev_c ev_c (rv_I c30)) (ix _ 4 H5 rfl (by decide) (e24.trans e5)) rv_I0) fun H6 e6 => ⟨_, rfl, (e24.trans e5).trans e6⟩
    rintro σ' H5 ⟨n1, rfl, e5⟩
    refine q_cut (M := fun σ' H' => ∃ n : Int, σ' = [some (.ref p), some (.int n), v, some (.int near), none, none] ∧ Ex H H') ?_ ?_
    · refine s_when (et_test (ev_op (ix _ 0 H5 rfl (by decide) e5) ev_c (rv_eq rfl))) (fun _ H6 e6 => ?_) (fun _ H6 e6 => ⟨_, rfl, e5.trans e6⟩)
      exact s_asg (ev_op (ix _ 3 H6 rfl (by decide) (e5.trans e6)) (ev_var rfl) rv_I0) fun H7 e7 => ⟨_, rfl, (e5.trans e6).trans e7⟩
    rintro σ' H6 ⟨n2, rfl, e6⟩
    refine q_cut (M := fun σ' H' => ∃ (n : Int) (r : Option V), σ' = [some (.ref p), some (.int n), v, some (.int near), none, r] ∧ Ex H H') ?_ ?_
    · refine s_when (et_test (ev_op (ix _ 0 H6 rfl (by decide) e6) ev_c (rv_eq rfl))) (fun _ H7 e7 => ?_) (fun _ H7 e7 => ⟨_, _, rfl, e6.trans e7⟩)
      have e15 : (10 : Int) ^ (Int.toNat 15) = 1000000000000000 := by decide
      have m0 := Int.emod_nonneg n2 (show (10 : Int) ^ (Int.toNat 15) ≠ 0 by rw [e15]; decide)
      have m1 := Int.emod_lt_of_pos n2 (show (0 : Int) < (10 : Int) ^ (Int.toNat 15) by rw [e15]; decide)
      rw [e15] at m0 m1
      refine q_asg (ev_op (ev_int (ev_var rfl)) (ev_op ev_c ev_c (rv_I c15)) (rv_I (show (0 : Int) < (10 : Int) ^ (Int.toNat 15) by rw [e15]; decide))) fun H8 e8 => ?_
      rw [e15]
      refine s_asg (ev_op (ev_op (ev_op (ev_var rfl) (ev_op (ev_var rfl) ev_c rv_I0) (rv_I (Or.inl (by omega)))) ev_c (rv_I (by unfold CDiv; decide))) (ev_var rfl) rv_I0) fun H9 e9 => ⟨_, _, rfl, ((e6.trans e7).trans e8).trans e9⟩
    rintro σ' H7 ⟨n3, r, rfl, e7⟩
    have hm : ∃ m : Int, 0 < m ∧ m ≤ 100 ∧ atI ([100, 96, 60, 48, 41, 37].map V.int) (rs.getD 2 0) = some (.int m) := by
      have h6 : rs.getD 2 0 = 0 ∨ rs.getD 2 0 = 1 ∨ rs.getD 2 0 = 2 ∨ rs.getD 2 0 = 3 ∨ rs.getD 2 0 = 4 ∨ rs.getD 2 0 = 5 := by omega
      rcases h6 with z | z | z | z | z | z <;> rw [z]
      · exact ⟨100, by decide, by decide, rfl⟩
      · exact ⟨96, by decide, by decide, rfl⟩
      · exact ⟨60, by decide, by decide, rfl⟩
      · exact ⟨48, by decide, by decide, rfl⟩
      · exact ⟨41, by decide, by decide, rfl⟩
      · exact ⟨37, by decide, by decide, rfl⟩
    obtain ⟨m, m0, m1, ham⟩ := hm
    refine q_asg (ev_op (ev_int (ix _ 3 H7 rfl (by decide) e7)) (ev_opL1 (el_lst (ea_cons ev_c (ea_cons ev_c (ea_cons ev_c (ea_cons ev_c (ea_cons ev_c (ea_cons ev_c ea_nil)))))) (by show 6 ≤ 100000; decide)) (fun H8 e8 => ix _ 2 H8 rfl (by decide) (e7.trans e8)) (fun a H8 ha _ => rv_ixL (K := K) (sq_of ha) ham)) (rv_I m0)) fun H8 e8 => ?_
    have d0 := Int.emod_nonneg (rs.getD 3 0) (show m ≠ 0 by omega)
    have d1 := Int.emod_lt_of_pos (rs.getD 3 0) m0
    have e78 := e7.trans e8
    generalize rs.getD 3 0 % m = deep at d0 d1 ⊢
    have lev : ∀ (i : Nat) (n : Int) (H9 : Hp), i < 2 → Ex H H9 → ∀ Q' : VK, (∀ (z : Int) H10, Ex H9 H10 → Q' (.int z) H10) →
        tOp (rIxL K) (tCall spLev [] E0 (tCons (tOp (rI0 fun i j => .int (i + j)) (tC (.int 1)) (tOp (rIxL K) (tVar 0) (tC (.int 2)))) (tCons (tVar 4) tNil))) (tC (.int (i : Int))) [some (.ref p), some (.int n), v, some (.int near), some (.int deep), r] H9 Q' := by
      intro i n H9 hi e9 Q' q'
      refine ev_ixCall2 (K := K) hi (ev_op ev_c (ix _ 2 H9 rfl (by decide) e9) rv_I0) (ev_var rfl) (fun H10 e10 Q1 q1 => ⟨_, deep, rfl, by omega, by omega, d0, by omega, fun x y a H11 _ e11 h11 => q1 x y a H11 e11 h11⟩) q'
    refine q_cut (M := fun σ' H' => ∃ n : Int, σ' = [some (.ref p), some (.int n), v, some (.int near), some (.int deep), r] ∧ Ex H H') ?_ ?_
    · refine s_when (et_test (ev_op (ix _ 0 H8 rfl (by decide) e78) ev_c (rv_eq rfl))) (fun _ H9 e9 => ?_) (fun _ H9 e9 => ⟨_, rfl, e78.trans e9⟩)
      exact lev 0 n3 H9 (by decide) (e78.trans e9) _ fun z H10 e10 => ⟨_, rfl, z, near, rfl, rfl, ⟨_, rfl, (e78.trans e9).trans e10⟩⟩
    rintro σ' H9 ⟨n4, rfl, e9⟩
    refine q_cut (M := fun σ' H' => ∃ n : Int, σ' = [some (.ref p), some (.int n), v, some (.int near), some (.int deep), r] ∧ Ex H H') ?_ ?_
    · refine s_when (et_test (ev_op (ix _ 0 H9 rfl (by decide) e9) ev_c (rv_eq rfl))) (fun _ H10 e10 => ?_) (fun _ H10 e10 => ⟨_, rfl, e9.trans e10⟩)
      exact lev 1 n4 H10 (by decide) (e9.trans e10) _ fun z H11 e11 => ⟨_, rfl, z, near, rfl, rfl, ⟨_, rfl, (e9.trans e10).trans e11⟩⟩
    rintro σ' H10 ⟨n5, rfl, e10⟩
    have e30 : (10 : Int) ^ (Int.toNat 30) = (T30 : Int) := by decide
    refine s_ret (ev_max2 ev_c (ev_min2 (ev_var rfl) (ev_op ev_c ev_c (rv_I c30)))) fun H11 e11 => ?_
    rw [e30]
    have ev : ∃ z : Nat, z ≤ T30 ∧ (if (if (T30 : Int) < n5 then (T30 : Int) else n5) > 0 then (if (T30 : Int) < n5 then (T30 : Int) else n5) else 0) = (z : Int) := by
      refine ⟨(if (if (T30 : Int) < n5 then (T30 : Int) else n5) > 0 then (if (T30 : Int) < n5 then (T30 : Int) else n5) else 0).toNat, ?_, ?_⟩
      · split <;> split <;> omega
      · split <;> split <;> omega
    obtain ⟨z, hz, ez⟩ := ev
    rw [ez]
    exact q z hz H11 (e10.trans e11)
/-! ### _law_greatest_told, _law_least_told -/
abbrev s_law_greatest_told : Stmt := top 14
abbrev N_law_greatest_told : List Str := ["base", "far", "told"]
theorem sc_law_greatest_told : FnScope N_law_greatest_told ["base", "far"] (defScope s_law_greatest_told) := ⟨rfl, rfl, rfl, by decide +kernel, rfl, by decide +kernel, by decide +kernel⟩
def spGT : Sp := fun vs H Q _ => ∃ s L : Nat, vs = [.int (s : Int), .int (L : Int)] ∧ 1 ≤ s ∧ s ≤ 6 ∧ L ≤ T30 ∧ RetV (.bl true) H Q
theorem ok_law_greatest_told (F : At K mg "_law_greatest_told" s_law_greatest_told) (D_greatest_count : Dn P w K mg base 1 "greatest_count" s_greatest_count ["size", "length"] spGC) (D_law_whole : Dn P w K mg base 1 "_law_whole" s_law_whole ["value"] spWhole) (D_law_total : Dn P w K mg base 1 "_law_total" s_law_total ["base", "many"] spST) : Dn P w K mg base 2 "_law_greatest_told" s_law_greatest_told ["base", "far"] spGT := by
  refine dn_ok F sc_law_greatest_told (fun _ _ _ _ _ _ us hl => match us, hl with | [_, _], _ => rfl) (fun vs H Q E h => ?_) (fun f cdv A outer t H vs Q E hr h => ?_)
  · obtain ⟨s, L, rfl, _⟩ := h; rfl
  · obtain ⟨s, L, rfl, h1, h6, hL, q⟩ := h
    refine ⟨_, (pss_cons (ps_set (i := 2) sc_law_greatest_told.nd rfl (Or.inl rfl) (pe_dn D_greatest_count hr (by decide) rfl (pa_cons (pv 0) (pa_cons (pv 1) pa_nil))))
      (pss_cons (ps_if (PW.pt (pw_or (pt_not (pt_val (pe_dn D_law_whole hr (by decide) rfl (pa_cons (pv 2) pa_nil)))) (pw_or (pt_cmpR op_lt (pv 2) pe_int (nomark _)) (pw_or1 (pt_cmpR op_gt (pv 2) (pv 1) (nomark _)))))) (pss_one (ps_ret pe_bl)) pss_nil)
      (pss_one (ps_ret (pe_and (pe_cmpR op_le (pe_dn D_law_total hr (by decide) rfl (pa_cons (pv 0) (pa_cons (pv 2) pa_nil))) (pv 1) (nomark _)) (pe_one (pe_cmpR op_gt (pe_dn D_law_total hr (by decide) rfl (pa_cons (pv 0) (pa_cons (pe_op op_add (pv 2) pe_int) pa_nil))) (pv 1) (nomark _)))))))), ?_⟩
    have hcap := T30_cap
    have g := grF_spec (s := s) (L := L) h1
    have gl := grF_le (s := s) (L := L) h1
    refine q_asg (ev_call (ea_cons (ev_var rfl) (ea_cons (ev_var rfl) ea_nil)) (sv_gc h1 h6 (by omega))) fun H1 e1 => ?_
    refine q_when (et_or (et_not (et_B (ev_call (ea_cons (ev_var rfl) ea_nil) sv_whole))) fun _ => et_or (et_test (ev_op (ev_var rfl) ev_c rv_I0)) fun _ => et_test (ev_op (ev_var rfl) (ev_var rfl) rv_I0)) (fun hb H2 e2 => ?_) (fun hb H2 e2 => ?_)
    · exfalso
      have a : ¬ ((grF s L : Nat) : Int) < 0 := by omega
      have b : ¬ (L : Int) < ((grF s L : Nat) : Int) := by omega
      simp [a, b] at hb
    · have a1 : ((totF s (grF s L) : Nat) : Int) ≤ (L : Int) := Int.ofNat_le.mpr g.1
      have a2 : (L : Int) < ((totF s (grF s L + 1) : Nat) : Int) := Int.ofNat_lt.mpr g.2
      refine s_ret (v := .bl (decide (((totF s (grF s L) : Nat) : Int) ≤ (L : Int)) && decide ((L : Int) < ((totF s (grF s L + 1) : Nat) : Int)))) (ev_andV (ev_op (ev_call (ea_cons (ev_var rfl) (ea_cons (ev_var rfl) ea_nil)) (sv_st h1 h6 (by omega))) (ev_var rfl) rv_I0) fun _ => ev_op (ev_call (ea_cons (ev_var rfl) (ea_cons (ev_op (ev_var rfl) ev_c rv_I0) ea_nil)) (sv_st (c := grF s L + 1) h1 h6 (by omega))) (ev_var rfl) rv_I0) fun H3 e3 => ?_
      rw [decide_eq_true a1, decide_eq_true a2]
      exact q H3 ((e1.trans e2).trans e3)
theorem sv_gt {s L : Nat} {H : Hp} (h1 : 1 ≤ s) (h6 : s ≤ 6) (hc : L ≤ T30) : SpV spGT [.int (s : Int), .int (L : Int)] H (.bl true) := fun _ _ _ q _ => ⟨s, L, rfl, h1, h6, hc, q⟩
abbrev s_law_least_told : Stmt := top 15
abbrev N_law_least_told : List Str := ["far", "told"]
theorem sc_law_least_told : FnScope N_law_least_told ["far"] (defScope s_law_least_told) := ⟨rfl, rfl, rfl, by decide +kernel, rfl, by decide +kernel, by decide +kernel⟩
def spLeT : Sp := fun vs H Q _ => ∃ L : Nat, vs = [.int (L : Int)] ∧ L ≤ T30 ∧ RetV (.bl true) H Q
theorem ok_law_least_told (F : At K mg "_law_least_told" s_law_least_told) (D_least_count : Dn P w K mg base 1 "least_count" s_least_count ["length"] spLC) (D_law_whole : Dn P w K mg base 1 "_law_whole" s_law_whole ["value"] spWhole) : Dn P w K mg base 2 "_law_least_told" s_law_least_told ["far"] spLeT := by
  refine dn_ok F sc_law_least_told (fun _ _ _ _ _ _ us hl => match us, hl with | [_], _ => rfl) (fun vs H Q E h => ?_) (fun f cdv A outer t H vs Q E hr h => ?_)
  · obtain ⟨L, rfl, _⟩ := h; rfl
  · obtain ⟨L, rfl, hL, q⟩ := h
    refine ⟨_, (pss_cons (ps_set (i := 1) sc_law_least_told.nd rfl (Or.inl rfl) (pe_dn D_least_count hr (by decide) rfl (pa_cons (pv 0) pa_nil)))
      (pss_cons (ps_if (PW.pt (pw_or (pt_not (pt_val (pe_dn D_law_whole hr (by decide) rfl (pa_cons (pv 1) pa_nil)))) (pw_or (pt_cmpR op_lt (pv 1) pe_int (nomark _)) (pw_or1 (pt_cmpR op_lt (pe_op op_mulW (pv 1) (pe_op op_add (pv 1) pe_int)) (pe_op op_mul pe_int (pv 0)) (nomark _)))))) (pss_one (ps_ret pe_bl)) pss_nil)
      (pss_one (ps_ret (pe_or (pe_cmpR op_eq (pv 1) pe_int (nomark _)) (pe_one (pe_cmpR op_lt (pe_op op_mulW (pe_op op_sub (pv 1) pe_int) (pe_op op_add (pv 1) pe_int)) (pe_op op_mul pe_int (pv 0)) (nomark _)))))))), ?_⟩
    have hcap := T30_cap
    have hlc := cap_lt
    have g := gr_le (grF_spec (s := 1) (L := L) (by decide))
    have gl := le_far g
    refine q_asg (ev_call (ea_cons (ev_var rfl) ea_nil) (sv_lc (by omega))) fun H1 e1 => ?_
    generalize grF 1 L = n at g gl ⊢
    have hbig : (2 ^ 101 + 20 : Nat) < 2 ^ 1000 := by decide +kernel
    have a1 : ¬ ((n : Nat) : Int) * (((n : Nat) : Int) + 3) < 2 * (L : Int) := by
      have e : (n : Int) * ((n : Int) + 3) = ((n * (n + 3) : Nat) : Int) := by rw [Int.natCast_mul, Int.natCast_add]; rfl
      rw [e]
      have := g.1
      omega
    refine q_when (et_or (et_not (et_B (ev_call (ea_cons (ev_var rfl) ea_nil) sv_whole))) fun _ => et_or (et_test (ev_op (ev_var rfl) ev_c rv_I0)) fun _ => et_test (ev_op (ev_op (ev_var rfl) (ev_op (ev_var rfl) ev_c rv_I0) (rv_I (wmul (by omega) (by omega)))) (ev_op ev_c (ev_var rfl) (rv_I (Or.inl (by decide)))) rv_I0)) (fun hb H2 e2 => ?_) (fun hb H2 e2 => ?_)
    · exfalso
      have a : ¬ ((n : Nat) : Int) < 0 := by omega
      rw [decide_eq_false a, decide_eq_false a1] at hb
      cases hb
    · refine s_ret (v := .bl (decide (V.int (n : Int) = V.int 0) || decide (((n : Int) - 1) * ((n : Int) + 2) < 2 * (L : Int)))) (ev_orV (ev_op (ev_var rfl) ev_c (rv_eq rfl)) fun _ => ev_op (ev_op (ev_op (ev_var rfl) ev_c rv_I0) (ev_op (ev_var rfl) ev_c rv_I0) (rv_I (wmul (by omega) (by omega)))) (ev_op ev_c (ev_var rfl) (rv_I (Or.inl (by decide)))) rv_I0) fun H3 e3 => ?_
      have hv : (decide (V.int (n : Int) = V.int 0) || decide (((n : Int) - 1) * ((n : Int) + 2) < 2 * (L : Int))) = true := by
        rcases g.2 with z | z
        · subst z
          rfl
        · by_cases c : n = 0
          · subst c
            rfl
          · have e : ((n : Int) - 1) * ((n : Int) + 2) = (((n - 1) * (n + 2) : Nat) : Int) := by
              rw [Int.natCast_mul, Int.natCast_add]
              congr 1
              omega
            rw [e, decide_eq_true (show (((n - 1) * (n + 2) : Nat) : Int) < 2 * (L : Int) by omega), Bool.or_true]
      rw [hv]
      exact q H3 ((e1.trans e2).trans e3)
theorem sv_let {L : Nat} {H : Hp} (hc : L ≤ T30) : SpV spLeT [.int (L : Int)] H (.bl true) := fun _ _ _ q _ => ⟨L, rfl, hc, q⟩
end
end My

set_option Elab.async false
set_option linter.all false
set_option maxRecDepth 100000
set_option maxHeartbeats 4000000
namespace My
open PySem PySem.Spec PyProof.Rows L2 Evl
section
variable {P : Program} {w : World} {K : PySem.W.Frag} {mg : Str → Option Value} {base : Heap}
theorem kd_st (D : Dn P w K mg base 1 "shortest_total" s_shortest_total ["size", "count"] spST) : Kd P w K mg base 1 "shortest_total" 0 ["count", "size"] (fun _ zs => zs.reverse) spST :=
  kd_of D 0 ["count", "size"] (fun _ ws => ws.reverse) (fun _ zs => zs.reverse) (fun _ _ _ _ _ _ us ws h1 h2 => match us, ws, h1, h2 with | [], [_, _], _, _ => rfl) (fun _ r => vals_rev r)
theorem kd_gc (D : Dn P w K mg base 1 "greatest_count" s_greatest_count ["size", "length"] spGC) : Kd P w K mg base 1 "greatest_count" 0 ["length", "size"] (fun _ zs => zs.reverse) spGC :=
  kd_of D 0 ["length", "size"] (fun _ ws => ws.reverse) (fun _ zs => zs.reverse) (fun _ _ _ _ _ _ us ws h1 h2 => match us, ws, h1, h2 with | [], [_, _], _, _ => rfl) (fun _ r => vals_rev r)
theorem kd_lc (D : Dn P w K mg base 1 "least_count" s_least_count ["length"] spLC) : Kd P w K mg base 1 "least_count" 0 ["length"] (fun _ zs => zs) spLC :=
  kd_of D 0 ["length"] (fun _ ws => ws) (fun _ zs => zs) (fun _ _ _ _ _ _ us ws h1 h2 => match us, ws, h1, h2 with | [], [_], _, _ => rfl) (fun _ r => r)
theorem kd_cb (D : Dn P w K mg base 1 "count_bound" s_count_bound ["size", "length", "depth"] spCB) : Kd P w K mg base 1 "count_bound" 0 ["depth", "length", "size"] (fun _ zs => zs.reverse) spCB :=
  kd_of D 0 ["depth", "length", "size"] (fun _ ws => ws.reverse) (fun _ zs => zs.reverse) (fun _ _ _ _ _ _ us ws h1 h2 => match us, ws, h1, h2 with | [], [_, _, _], _, _ => rfl) (fun _ r => vals_rev r)
/-! ### _law_total_told -/
abbrev s_law_total_told : Stmt := top 16
abbrev N_law_total_told : List Str := ["base", "many", "due", "told", "k", "far"]
theorem sc_law_total_told : FnScope N_law_total_told ["base", "many"] (defScope s_law_total_told) := ⟨rfl, rfl, rfl, by decide +kernel, rfl, by decide +kernel, by decide +kernel⟩
theorem ok_law_total_told (T : TT mg) (F : At K mg "_law_total_told" s_law_total_told) (D_law_total : Dn P w K mg base 1 "_law_total" s_law_total ["base", "many"] spST) (D_shortest_total : Dn P w K mg base 1 "shortest_total" s_shortest_total ["size", "count"] spST)
    (D_law_whole : Dn P w K mg base 1 "_law_whole" s_law_whole ["value"] spWhole) (D_shortest_total_count_size : Kd P w K mg base 1 "shortest_total" 0 ["count", "size"] (fun _ zs => zs.reverse) spST) (D_law_listed_total : Dn P w K mg base 1 "_law_listed_total" s_law_listed_total ["base", "many"] spLT)
    (D_law_greatest_told : Dn P w K mg base 2 "_law_greatest_told" s_law_greatest_told ["base", "far"] spGT) (D_law_least_told : Dn P w K mg base 2 "_law_least_told" s_law_least_told ["far"] spLeT) (D_greatest_count : Dn P w K mg base 1 "greatest_count" s_greatest_count ["size", "length"] spGC) :
    Dn P w K mg base 3 "_law_total_told" s_law_total_told ["base", "many"] spGT := by
  refine dn_ok F sc_law_total_told (fun _ _ _ _ _ _ us hl => match us, hl with | [_, _], _ => rfl) (fun vs H Q E h => ?_) (fun f cdv A outer t H vs Q E hr h => ?_)
  · obtain ⟨s, L, rfl, _⟩ := h; rfl
  · obtain ⟨s, c, rfl, h1, h6, hc, q⟩ := h
    refine ⟨_, (pss_cons (ps_set (i := 2) sc_law_total_told.nd rfl (Or.inl rfl) (pe_dn D_law_total hr (by decide) rfl (pa_cons (pv 0) (pa_cons (pv 1) pa_nil))))
      (pss_cons (ps_set (i := 3) sc_law_total_told.nd rfl (Or.inl rfl) (pe_dn D_shortest_total hr (by decide) rfl (pa_cons (pv 0) (pa_cons (pv 1) pa_nil))))
      (pss_cons (ps_if (PW.pt (pw_or (pt_not (pt_val (pe_dn D_law_whole hr (by decide) rfl (pa_cons (pv 3) pa_nil)))) (pw_or (pt_cmpR op_ne (pv 3) (pv 2) (nomark _)) (pw_or1 (pt_cmpR op_ne (pe_kd D_shortest_total_count_size hr (by decide) rfl (pk_cons (pv 1) (pk_cons (pv 0) pk_nil))) (pv 2) (nomark _)))))) (pss_one (ps_ret pe_bl)) pss_nil)
      (pss_cons (ps_if (PW.pt (pw_and (pt_cmpR op_le (pv 1) pe_int (nomark _)) (pw_and1 (pt_cmpR op_ne (pv 3) (pe_dn D_law_listed_total hr (by decide) rfl (pa_cons (pv 0) (pa_cons (pv 1) pa_nil))) (nomark _))))) (pss_one (ps_ret pe_bl)) pss_nil)
      (pss_cons (ps_for PassesOwn.never rfl (pi_range1 (by rfl) T.range (pa_cons pe_int pa_nil)) (pg_name (i := 4) sc_law_total_told.nd rfl (Or.inl rfl))
        (pss_cons (ps_set (i := 5) sc_law_total_told.nd rfl (Or.inl rfl) (pe_op op_add (pe_op op_sub (pv 2) pe_int) (pv 4)))
          (pss_one (ps_if (PW.pt (pw_and (pt_cmpR op_le pe_int (pv 5) (nomark _)) (pw_and (pt_cmpR op_le (pv 5) (pe_op op_pow pe_int pe_int) (nomark _)) (pw_and1 (pt_not (PW.pt (pw_and (pt_val (pe_dn D_law_greatest_told hr (by decide) rfl (pa_cons (pv 0) (pa_cons (pv 5) pa_nil)))) (pw_and1 (pt_val (pe_dn D_law_least_told hr (by decide) rfl (pa_cons (pv 5) pa_nil))))))))))) (pss_one (ps_ret pe_bl)) pss_nil))))
      (pss_cons (ps_if (PW.pt (pw_and (pt_cmpR op_le (pv 2) (pe_op op_pow pe_int pe_int) (nomark _)) (pw_and1 (pt_cmpR op_ne (pe_dn D_greatest_count hr (by decide) rfl (pa_cons (pv 0) (pa_cons (pv 2) pa_nil))) (pv 1) (nomark _))))) (pss_one (ps_ret pe_bl)) pss_nil)
      (pss_one (ps_ret (pe_or (pe_cmpR op_lt (pv 2) pe_int (nomark _)) (pe_or (pe_cmpR op_gt (pv 2) (pe_op op_pow pe_int pe_int) (nomark _)) (pe_one (pe_cmpR op_eq (pe_dn D_greatest_count hr (by decide) rfl (pa_cons (pv 0) (pa_cons (pe_op op_sub (pv 2) pe_int) pa_nil))) (pe_op op_sub (pv 1) pe_int) (nomark _))))))))))))), ?_⟩
    have hcap := T30_cap
    have c30 : CPow 10 30 := by unfold CPow; decide
    have e30 : (10 : Int) ^ (Int.toNat 30) = (T30 : Int) := by decide
    have gt := grF_tot (s := s) (c := c) h1
    have gt1 := grF_tot1 (s := s) (c := c) h1
    refine q_asg (ev_call (ea_cons (ev_var rfl) (ea_cons (ev_var rfl) ea_nil)) (sv_st h1 h6 (by omega))) fun H1 e1 => ?_
    refine q_asg (ev_call (ea_cons (ev_var rfl) (ea_cons (ev_var rfl) ea_nil)) (sv_st h1 h6 (by omega))) fun H2 e2 => ?_
    refine q_when (et_or (et_not (et_B (ev_call (ea_cons (ev_var rfl) ea_nil) sv_whole))) fun _ => et_or (et_test (ev_op (ev_var rfl) (ev_var rfl) (rv_ne rfl))) fun _ => et_test (ev_op (ev_callN ea_nil (ea_cons (ev_var rfl) (ea_cons (ev_var rfl) ea_nil)) rfl rfl (sv_st h1 h6 (by omega))) (ev_var rfl) (rv_ne rfl))) (fun hb H3 e3 => ?_) (fun hb H3 e3 => ?_)
    · simp at hb
    refine q_when (b := decide ((c : Int) ≤ 120) && false) (et_and (et_test (ev_op (ev_var rfl) ev_c rv_I0)) fun hb2 => ?_) (fun hb H4 e4 => ?_) (fun hb H4 e4 => ?_)
    · have h120 : c ≤ 120 := by
        have := of_decide_eq_true hb2
        omega
      exact et_is (et_test (ev_op (ev_var rfl) (ev_call (ea_cons (ev_var rfl) (ea_cons (ev_var rfl) ea_nil)) (sv_lt h1 h6 h120)) (rv_ne rfl))) (by simp)
    · simp at hb
    have e14 := ((e1.trans e2).trans e3).trans e4
    refine q_forR1 (ea_cons ev_c ea_nil) ⟨by decide, by decide⟩ (fun i σ' H' => ∃ x y : Option V, σ' = [some (.int (s : Int)), some (.int (c : Int)), some (.int (totF s c : Nat)), some (.int (totF s c : Nat)), x, y] ∧ Ex H H') (fun H5 e5 => ⟨none, none, rfl, e14.trans e5⟩) ?_ ?_
    · rintro i σ' H' hi ⟨x, y, rfl, e⟩
      refine q_asg (ev_op (ev_op (ev_var rfl) ev_c rv_I0) (ev_var rfl) rv_I0) fun H5 e5 => ?_
      refine s_when (b := decide ((0 : Int) ≤ ((totF s c : Nat) : Int) - 1 + (i : Int)) && (decide (((totF s c : Nat) : Int) - 1 + (i : Int) ≤ 10 ^ (Int.toNat 30)) && false)) (et_and (et_test (ev_op ev_c (ev_var rfl) rv_I0)) fun hb1 => et_and (et_test (ev_op (ev_var rfl) (ev_op ev_c ev_c (rv_I c30)) rv_I0)) fun hb2 => ?_) (fun hb H6 e6 => ?_) (fun hb H6 e6 => ⟨_, _, rfl, (e.trans e5).trans e6⟩)
      · have f0 := of_decide_eq_true hb1
        have f1 := of_decide_eq_true hb2
        rw [e30] at f1
        obtain ⟨far, hfar⟩ : ∃ far : Nat, ((totF s c : Nat) : Int) - 1 + (i : Int) = (far : Int) := ⟨(((totF s c : Nat) : Int) - 1 + (i : Int)).toNat, by omega⟩
        rw [hfar] at f1 ⊢
        have hT : far ≤ T30 := by omega
        exact et_not (a := true && true) (et_and (et_B (ev_call (ea_cons (ev_var rfl) (ea_cons (ev_var rfl) ea_nil)) (sv_gt h1 h6 hT))) fun _ => et_B (ev_call (ea_cons (ev_var rfl) ea_nil) (sv_let hT)))
      · simp at hb
    rintro σ' H5 ⟨x, y, rfl, e⟩
    refine q_when (b := decide (((totF s c : Nat) : Int) ≤ 10 ^ (Int.toNat 30)) && false) (et_and (et_test (ev_op (ev_var rfl) (ev_op ev_c ev_c (rv_I c30)) rv_I0)) fun hb2 => ?_) (fun hb H6 e6 => ?_) (fun hb H6 e6 => ?_)
    · have f1 := of_decide_eq_true hb2
      rw [e30] at f1
      exact et_is (et_test (ev_op (ev_call (ea_cons (ev_var rfl) (ea_cons (ev_var rfl) ea_nil)) (sv_gc h1 h6 (by omega))) (ev_var rfl) (rv_ne rfl))) (by rw [gt]; simp)
    · simp at hb
    refine s_ret (v := .bl (decide (((totF s c : Nat) : Int) < 1) || (decide ((10 : Int) ^ (Int.toNat 30) < ((totF s c : Nat) : Int)) || true))) (ev_orV (ev_op (ev_var rfl) ev_c rv_I0) fun hb1 => ev_orV (ev_op (ev_var rfl) (ev_op ev_c ev_c (rv_I c30)) rv_I0) fun hb2 => ?_) fun H7 e7 => ?_
    · have f0 := of_decide_eq_false hb1
      have f1 := of_decide_eq_false hb2
      rw [e30] at f1
      have ef : ((totF s c : Nat) : Int) - 1 = ((totF s c - 1 : Nat) : Int) := by omega
      have g1 := gt1 (by omega)
      refine ev_is (ev_op (x := .int (grF s (totF s c - 1) : Nat)) (ev_call (ea_cons (ev_var rfl) (ea_cons (ev_op (ev_var rfl) ev_c rv_I0) ea_nil)) ?_) (ev_op (ev_var rfl) ev_c rv_I0) (rv_eq rfl)) ?_
      · show SpV spGC [.int (s : Int), .int (((totF s c : Nat) : Int) - 1)] _ _
        rw [ef]
        exact sv_gc h1 h6 (by omega)
      · have : ((grF s (totF s c - 1) : Nat) : Int) = (c : Int) - 1 := by omega
        rw [this]
        simp
    · rw [Bool.or_true, Bool.or_true]
      exact q H7 ((e.trans e6).trans e7)
/-! ### _law_length_told -/
abbrev s_law_length_told : Stmt := top 17
abbrev N_law_length_told : List Str := ["base", "far", "deep", "most", "least", "shorter", "texts", "k", "bound"]
theorem sc_law_length_told : FnScope N_law_length_told ["base", "far", "deep"] (defScope s_law_length_told) := ⟨rfl, rfl, rfl, by decide +kernel, rfl, by decide +kernel, by decide +kernel⟩
def spLenT : Sp := fun vs H Q _ => ∃ s L d : Nat, vs = [.int (s : Int), .int (L : Int), .int (d + 1 : Nat)] ∧ 1 ≤ s ∧ s ≤ 6 ∧ L ≤ T30 ∧ d + 1 ≤ 100 ∧ RetV (.bl true) H Q
theorem ok_law_length_told (T : TT mg) (F : At K mg "_law_length_told" s_law_length_told) (D_law_greatest_told : Dn P w K mg base 2 "_law_greatest_told" s_law_greatest_told ["base", "far"] spGT) (D_law_least_told : Dn P w K mg base 2 "_law_least_told" s_law_least_told ["far"] spLeT)
    (D_greatest_count : Dn P w K mg base 1 "greatest_count" s_greatest_count ["size", "length"] spGC) (D_greatest_count_length_size : Kd P w K mg base 1 "greatest_count" 0 ["length", "size"] (fun _ zs => zs.reverse) spGC) (D_least_count : Dn P w K mg base 1 "least_count" s_least_count ["length"] spLC) (D_least_count_length : Kd P w K mg base 1 "least_count" 0 ["length"] (fun _ zs => zs) spLC)
    (D_count_bound : Dn P w K mg base 1 "count_bound" s_count_bound ["size", "length", "depth"] spCB) (D_count_bound_depth_length_size : Kd P w K mg base 1 "count_bound" 0 ["depth", "length", "size"] (fun _ zs => zs.reverse) spCB) (D_law_whole : Dn P w K mg base 1 "_law_whole" s_law_whole ["value"] spWhole) :
    Dn P w K mg base 3 "_law_length_told" s_law_length_told ["base", "far", "deep"] spLenT := by
  refine dn_ok F sc_law_length_told (fun _ _ _ _ _ _ us hl => match us, hl with | [_, _, _], _ => rfl) (fun vs H Q E h => ?_) (fun f cdv A outer t H vs Q E hr h => ?_)
  · obtain ⟨s, L, d, rfl, _⟩ := h; rfl
  · obtain ⟨s, L, d, rfl, h1, h6, hL, hd, q⟩ := h
    refine ⟨_, (pss_cons (ps_if (PW.pt (pw_or (pt_not (pt_val (pe_dn D_law_greatest_told hr (by decide) rfl (pa_cons (pv 0) (pa_cons (pv 1) pa_nil))))) (pw_or1 (pt_not (pt_val (pe_dn D_law_least_told hr (by decide) rfl (pa_cons (pv 1) pa_nil))))))) (pss_one (ps_ret pe_bl)) pss_nil)
      (pss_cons (ps_set (i := 3) sc_law_length_told.nd rfl (Or.inl rfl) (pe_kd D_greatest_count_length_size hr (by decide) rfl (pk_cons (pv 1) (pk_cons (pv 0) pk_nil))))
      (pss_cons (ps_set (i := 4) sc_law_length_told.nd rfl (Or.inl rfl) (pe_dn D_least_count hr (by decide) rfl (pa_cons (pv 1) pa_nil)))
      (pss_cons (ps_if (PW.pt (pw_or (pt_cmpR op_ne (pv 3) (pe_dn D_greatest_count hr (by decide) rfl (pa_cons (pv 0) (pa_cons (pv 1) pa_nil))) (nomark _)) (pw_or1 (pt_cmpR op_ne (pe_kd D_least_count_length hr (by decide) rfl (pk_cons (pv 1) pk_nil)) (pv 4) (nomark _))))) (pss_one (ps_ret pe_bl)) pss_nil)
      (pss_cons (ps_if (PW.pt (pw_or (pt_cmpR op_ne (pv 4) (pe_dn D_greatest_count hr (by decide) rfl (pa_cons pe_int (pa_cons (pv 1) pa_nil))) (nomark _)) (pw_or1 (pt_cmpR op_gt (pv 4) (pv 3) (nomark _))))) (pss_one (ps_ret pe_bl)) pss_nil)
      (pss_cons (ps_set (i := 5) sc_law_length_told.nd rfl (Or.inl rfl) pe_int)
      (pss_cons (ps_set (i := 6) sc_law_length_told.nd rfl (Or.inl rfl) pe_int)
      (pss_cons (ps_for PassesOwn.never rfl (pi_range2 (by rfl) T.range (pa_cons pe_int (pa_cons (pv 2) pa_nil))) (pg_name (i := 7) sc_law_length_told.nd rfl (Or.inl rfl))
        (pss_cons (ps_set (i := 6) sc_law_length_told.nd rfl (Or.inl rfl) (pe_op op_mul (pv 6) (pv 0)))
          (pss_one (ps_set (i := 5) sc_law_length_told.nd rfl (Or.inl rfl) (pe_op op_add (pv 5) (pv 6))))))
      (pss_cons (ps_set (i := 8) sc_law_length_told.nd rfl (Or.inl rfl) (pe_dn D_count_bound hr (by decide) rfl (pa_cons (pv 0) (pa_cons (pv 1) (pa_cons (pv 2) pa_nil)))))
      (pss_cons (ps_if (PW.pt (pw_or (pt_not (pt_val (pe_dn D_law_whole hr (by decide) rfl (pa_cons (pv 8) pa_nil)))) (pw_or (pt_cmpR op_ne (pv 8) (pe_op op_add (pe_op op_fdiv (pv 1) (pv 2)) (pv 5)) (nomark _)) (pw_or1 (pt_cmpR op_lt (pv 8) (pv 3) (nomark _)))))) (pss_one (ps_ret pe_bl)) pss_nil)
      (pss_one (ps_ret (pe_cmpR op_eq (pe_kd D_count_bound_depth_length_size hr (by decide) rfl (pk_cons (pv 2) (pk_cons (pv 1) (pk_cons (pv 0) pk_nil)))) (pv 8) (nomark _)))))))))))))), ?_⟩
    have hcap := T30_cap
    have gb := gr_base h1 (grF_spec (s := 1) (L := L) (by decide)) (grF_spec (s := s) (L := L) h1)
    have gd := gr_depth h1 (grF_spec (s := s) (L := L) h1) d
    refine q_when (et_or (et_not (et_B (ev_call (ea_cons (ev_var rfl) (ea_cons (ev_var rfl) ea_nil)) (sv_gt h1 h6 hL)))) fun _ => et_not (et_B (ev_call (ea_cons (ev_var rfl) ea_nil) (sv_let hL)))) (fun hb H1 e1 => ?_) (fun hb H1 e1 => ?_)
    · simp at hb
    refine q_asg (ev_callN ea_nil (ea_cons (ev_var rfl) (ea_cons (ev_var rfl) ea_nil)) rfl rfl (sv_gc h1 h6 (by omega))) fun H2 e2 => ?_
    refine q_asg (ev_call (ea_cons (ev_var rfl) ea_nil) (sv_lc (by omega))) fun H3 e3 => ?_
    refine q_when (et_or (et_test (ev_op (ev_var rfl) (ev_call (ea_cons (ev_var rfl) (ea_cons (ev_var rfl) ea_nil)) (sv_gc h1 h6 (by omega))) (rv_ne rfl))) fun _ => et_test (ev_op (ev_callN ea_nil (ea_cons (ev_var rfl) ea_nil) rfl rfl (sv_lc (by omega))) (ev_var rfl) (rv_ne rfl))) (fun hb H4 e4 => ?_) (fun hb H4 e4 => ?_)
    · simp at hb
    refine q_when (et_or (et_test (ev_op (ev_var rfl) (ev_call (ea_cons ev_c (ea_cons (ev_var rfl) ea_nil)) (sv_gc (s := 1) (by decide) (by decide) (by omega))) (rv_ne rfl))) fun _ => et_test (ev_op (ev_var rfl) (ev_var rfl) rv_I0)) (fun hb H5 e5 => ?_) (fun hb H5 e5 => ?_)
    · exfalso
      have a : ¬ ((grF s L : Nat) : Int) < ((grF 1 L : Nat) : Int) := by omega
      simp [a] at hb
    refine q_asg ev_c fun H6 e6 => ?_
    refine q_asg ev_c fun H7 e7 => ?_
    have e17 := (((((e1.trans e2).trans e3).trans e4).trans e5).trans e6).trans e7
    refine q_forR2 (ea_cons ev_c (ea_cons (ev_var rfl) ea_nil)) ⟨by decide, by decide, by omega, by omega⟩ (fun i σ' H' => ∃ v : Option V, σ' = [some (.int (s : Int)), some (.int (L : Int)), some (.int (d + 1 : Nat)), some (.int (grF s L : Nat)), some (.int (grF 1 L : Nat)), some (.int (Sn s i : Nat)), some (.int (s ^ i : Nat)), v, none] ∧ Ex H H') (fun H8 e8 => ⟨none, by rw [Nat.pow_zero]; rfl, e17.trans e8⟩) ?_ ?_
    · rintro i σ' H' hi ⟨v, rfl, e⟩
      refine q_asg (ev_op (ev_var rfl) (ev_var rfl) (rv_I (Or.inr (by omega)))) fun H8 e8 => ?_
      refine s_asg (ev_op (ev_var rfl) (ev_var rfl) rv_I0) fun H9 e9 => ?_
      refine ⟨some (.int ((1 : Int) + (i : Int))), ?_, (e.trans e8).trans e9⟩
      have ep : ((s ^ i : Nat) : Int) * ((s : Nat) : Int) = ((s ^ (i + 1) : Nat) : Int) := by rw [← Int.natCast_mul]; rfl
      rw [← cS, ← ep]
      rfl
    rintro σ' H8 ⟨v, rfl, e⟩
    have en : (((d + 1 : Nat) : Int) - 1).toNat = d := by omega
    rw [en]
    refine q_asg (ev_call (ea_cons (ev_var rfl) (ea_cons (ev_var rfl) (ea_cons (ev_var rfl) ea_nil))) (sv_cb rfl h1 h6 hd)) fun H9 e9 => ?_
    refine q_when (et_or (et_not (et_B (ev_call (ea_cons (ev_var rfl) ea_nil) sv_whole))) fun _ => et_or (et_test (ev_op (ev_var rfl) (ev_op (ev_op (ev_var rfl) (ev_var rfl) (rv_I ⟨by omega, by omega⟩)) (ev_var rfl) rv_I0) (rv_ne rfl))) fun _ => et_test (ev_op (ev_var rfl) (ev_var rfl) rv_I0)) (fun hb H10 e10 => ?_) (fun hb H10 e10 => ?_)
    · exfalso
      have ev : (L : Int) / ((d + 1 : Nat) : Int) + ((Sn s d : Nat) : Int) = ((L / (d + 1) + Sn s d : Nat) : Int) := by rw [Int.natCast_add (L / (d + 1)), Int.natCast_ediv]
      have a : ¬ ((L / (d + 1) + Sn s d : Nat) : Int) < ((grF s L : Nat) : Int) := by omega
      rw [ev] at hb
      rw [decide_eq_false a] at hb
      simp at hb
    refine s_ret (ev_op (ev_callN ea_nil (ea_cons (ev_var rfl) (ea_cons (ev_var rfl) (ea_cons (ev_var rfl) ea_nil))) rfl rfl (sv_cb rfl h1 h6 hd)) (ev_var rfl) (rv_eq rfl)) fun H11 e11 => ?_
    rw [decide_eq_true rfl]
    exact q H11 (((e.trans e9).trans e10).trans e11)
theorem sv_lent {s L d : Nat} {n : Int} {H : Hp} (hn : n = ((d + 1 : Nat) : Int)) (h1 : 1 ≤ s) (h6 : s ≤ 6) (hL : L ≤ T30) (hc : d + 1 ≤ 100) : SpV spLenT [.int (s : Int), .int (L : Int), .int n] H (.bl true) := fun _ _ _ q _ => ⟨s, L, d, by rw [hn], h1, h6, hL, hc, q⟩
end
end My

set_option Elab.async false
set_option linter.all false
set_option maxRecDepth 100000
set_option maxHeartbeats 4000000
namespace My
open PySem PySem.Spec PyProof.Rows L2 Evl
theorem repr_len {ns : List Int} (hb : ∀ n ∈ ns, n.natAbs.log2 < 1920) (hl : ns.length ≤ 1000) : (reprInts ns).length ≤ sizeLine := by
  have h : (listText (PyData.shownAll (ns.map PyData.int))).length ≤ ((PyData.shownAll (ns.map PyData.int)).map (·.length)).sum + 2 * (PyData.shownAll (ns.map PyData.int)).length + 3 := listText_len_le _
  have e : PyData.shownAll (ns.map PyData.int) = ns.map fun n => Str.ofString (toString n) := by
    rw [shownAll_eq_map, List.map_map]
    rfl
  have hs : ∀ ms : List Int, (∀ n ∈ ms, n.natAbs.log2 < 1920) → (((ms.map fun n => Str.ofString (toString n)).map (·.length)).sum) ≤ 1921 * ms.length := by
    intro ms
    induction ms with
    | nil => intro _; simp
    | cons n ms ih =>
      intro hm
      have a := ih fun m hmm => hm m (List.mem_cons_of_mem _ hmm)
      have b := int_text_len_1921 (hm n List.mem_cons_self)
      simp only [List.map_cons, List.sum_cons, List.length_cons] at a ⊢
      omega
  have hs2 := hs ns hb
  rw [e, List.length_map] at h
  have e2 : (reprInts ns).length = (listText (PyData.shownAll (ns.map PyData.int))).length := by
    unfold reprInts
    simp only [PyData.shown]
  rw [e2, e]
  have : sizeLine = 16777216 := rfl
  omega
theorem log2_of {n : Nat} (h : n < 2 ^ 1000) : ((n : Nat) : Int).natAbs.log2 < 1920 := by
  rw [Int.natAbs_natCast]
  by_cases z : n = 0
  · subst z; decide
  · have := (Nat.log2_lt z).mpr h
    omega
theorem el_call2 {σ : L2.St} {H : Hp} {x : V} {xs ys : List V} {sp : Sp} {E : XK} {ta tb : TE} (ha : Ev ta σ H x) (hb : EvL tb σ H xs) (hs : ∀ p H1, H1 p = some (.lst xs) → Ex H H1 → SpL sp [x, .ref p] H1 ys) : EvL (tCall sp [] E (tCons ta (tCons tb tNil))) σ H ys := fun H0 e0 Q q =>
  ha H0 e0 _ fun H1 e1 => hb H1 (e0.trans e1) _ fun p H2 hp e2 h2 => hs p H2 h2 ((e0.trans e1).trans e2) H2 (Ex.refl H2) Q (fun r H3 hr e3 h3 => q r H3 (fresh_back (e1.trans e2) hr) ((e1.trans e2).trans e3) h3) E
theorem ev_ixNew {K : PySem.W.Frag} {σ : L2.St} {H : Hp} {v : V} {xs : List V} {i : Int} {ta tb : TE} (ha : EvL ta σ H xs) (hb : ∀ H1, Ex H H1 → Ev tb σ H1 (.int i)) (h : atI xs i = some v) : Ev (tOp (rIxL K) ta tb) σ H v := fun H1 e Q q =>
  ha H1 e _ fun p H2 hp e2 h2 => hb H2 (e.trans e2) H2 (Ex.refl H2) _ fun H3 e3 => ⟨p, xs, i, v, rfl, rfl, sq_of (e3 _ _ h2), h, q H3 (e2.trans e3)⟩
theorem ok35 : OkSizes S35 := by unfold OkSizes; decide +kernel
theorem ok1 : OkSizes [100] := by unfold OkSizes; decide
section
variable {P : Program} {w : World} {K : PySem.W.Frag} {mg : Str → Option Value} {base : Heap}
abbrev s_law : Stmt := top 18
abbrev N_law : List Str := ["script", "sizes", "fars", "manies", "deep", "first", "base", "again", "k"]
theorem sc_law : FnScope N_law ["script"] (defScope s_law) := ⟨rfl, rfl, rfl, by decide +kernel, rfl, by decide +kernel, by decide +kernel⟩
def spLaw (K : PySem.W.Frag) : Sp := fun vs H Q _ => ∃ (a : Addr) (ns : List Int), vs = [.ref a] ∧ SqL K H a (ns.map V.int) ∧ ∀ H', Q (.bl true) H'
/-- two numbers -/
theorem two_nums {zs : List V} (hl : zs.length = 2) (h : ∀ z ∈ zs, IsN z) : ∃ a b : Nat, zs = [.int (a : Int), .int (b : Int)] ∧ a ≤ T30 ∧ b ≤ T30 := by
  match zs, hl with
  | [x, y], _ =>
    obtain ⟨a, rfl, ha⟩ := h x (by simp)
    obtain ⟨b, rfl, hb⟩ := h y (by simp)
    exact ⟨a, b, rfl, ha, hb⟩
theorem at0 {a b : Nat} : atI [V.int (a : Int), V.int (b : Int)] (0 : Int) = some (.int (a : Int)) := rfl
theorem at1 {a b : Nat} : atI [V.int (a : Int), V.int (b : Int)] (1 : Int) = some (.int (b : Int)) := rfl
theorem at_two {a b k : Nat} (hk : k < 2) (ha : a ≤ T30) (hb : b ≤ T30) : ∃ m : Nat, atI [V.int (a : Int), V.int (b : Int)] (k : Int) = some (.int (m : Int)) ∧ m ≤ T30 := by
  match k, hk with
  | 0, _ => exact ⟨a, rfl, ha⟩
  | 1, _ => exact ⟨b, rfl, hb⟩
theorem sv_gtB {s L : Nat} {n : Int} {H : Hp} (hn : n = (s : Int)) (h1 : 1 ≤ s) (h6 : s ≤ 6) (hc : L ≤ T30) : SpV spGT [.int n, .int (L : Int)] H (.bl true) := by
  rw [hn]
  exact sv_gt h1 h6 hc
theorem sv_lentB {s L d : Nat} {b n : Int} {H : Hp} (hb : b = (s : Int)) (hn : n = ((d + 1 : Nat) : Int)) (h1 : 1 ≤ s) (h6 : s ≤ 6) (hL : L ≤ T30) (hc : d + 1 ≤ 100) : SpV spLenT [.int b, .int (L : Int), .int n] H (.bl true) := by
  rw [hb]
  exact sv_lent hn h1 h6 hL hc
/-- the four numbers told -/
noncomputable def four (f m d : Nat) : List Int := [(grF 2 f : Nat), (grF 1 f : Nat), (totF 2 m : Nat), (f / (d + 1) + Sn 2 d : Nat)]
theorem Sn2_lt : ∀ d, Sn 2 d < 2 ^ (d + 1)
  | 0 => by decide
  | d + 1 => by
    have h := Sn2_lt d
    show Sn 2 d + 2 ^ (d + 1) < 2 ^ (d + 1 + 1)
    rw [Nat.pow_succ 2 (d + 1)]
    omega
theorem four_small {f m d : Nat} (hf : f ≤ T30) (hm : m ≤ T30) (hd : d + 1 ≤ 100) : ∀ n ∈ four f m d, n.natAbs.log2 < 1920 := by
  have hcap := T30_cap
  have c1 := cap_lt
  have p1 : (2 : Nat) ^ 101 < 2 ^ 1000 := by decide +kernel
  have p2 : (2 : Nat) ^ 250 < 2 ^ 1000 := by decide +kernel
  have p3 : (2 : Nat) ^ 101 + 2 ^ 101 < 2 ^ 1000 := by decide +kernel
  have g2 := grF_le (s := 2) (L := f) (by decide)
  have g1 := grF_le (s := 1) (L := f) (by decide)
  have t2 := totF_big (s := 2) (c := m) (by decide) (by omega)
  have q := Nat.div_le_self f (d + 1)
  have s2 := Sn2_lt d
  have s3 : (2 : Nat) ^ (d + 1) ≤ 2 ^ 101 := Nat.pow_le_pow_right (by decide) (by omega)
  intro n hn
  unfold four at hn
  simp only [List.mem_cons, List.not_mem_nil, or_false] at hn
  rcases hn with rfl | rfl | rfl | rfl
  · exact log2_of (by omega)
  · exact log2_of (by omega)
  · exact log2_of (by omega)
  · exact log2_of (by omega)
theorem fnG_law (T : TT mg) {f0 : Addr} {fd : FuncData} (F : FnP K "law" s_law f0 fd) (D_law_cell : Dn P w K mg base 1 "_law_cell" s_law_cell ["script", "k"] (spCellF K)) (D_law_digits : Dn P w K mg base 1 "_law_digits" s_law_digits ["cell", "sizes"] (spDigits K))
    (D_law_number : Dn P w K mg base 2 "_law_number" s_law_number ["row"] (spNum K)) (D_greatest_count : Dn P w K mg base 1 "greatest_count" s_greatest_count ["size", "length"] spGC) (D_least_count : Dn P w K mg base 1 "least_count" s_least_count ["length"] spLC)
    (D_shortest_total : Dn P w K mg base 1 "shortest_total" s_shortest_total ["size", "count"] spST) (D_count_bound : Dn P w K mg base 1 "count_bound" s_count_bound ["size", "length", "depth"] spCB)
    (D_law_total_told : Dn P w K mg base 3 "_law_total_told" s_law_total_told ["base", "many"] spGT) (D_law_length_told : Dn P w K mg base 3 "_law_length_told" s_law_length_told ["base", "far", "deep"] spLenT) :
    FnG P w K mg base CX0 4 f0 fd ["script"] (spLaw K) := by
  refine fnG_of F sc_law (fun vs H Q E h => ?_) (fun cdv A outer s H vs Q E hr hG h => ?_)
  · obtain ⟨a, ns, rfl, _⟩ := h; rfl
  · obtain ⟨a, ns, rfl, hS, q⟩ := h
    refine ⟨_, (pss_cons (ps_set (i := 1) sc_law.nd rfl (Or.inr rfl) (pe_op op_cat (pe_lst (pa_cons pe_int (pa_cons pe_int (pa_cons pe_int (pa_cons pe_int (pa_cons pe_int pa_nil)))))) (pe_op op_rep (pe_lst (pa_cons pe_int pa_nil)) pe_int)))
      (pss_cons (ps_setLc (i := 2) (own := [("k", 8)]) (g := gName 8) (tt := tYes) rfl sc_law.nd rfl rfl (sw_true rfl rfl rfl (by decide +kernel)) (pi_range1 (by rfl) T.range (pa_cons pe_int pa_nil)) (blkOk_by (own := [("k", 8)]) (N := N_law) (sc := defScope s_law) (by decide +kernel)) (fun _ _ _ _ _ => pg_name (i := 8) sc_law.nd rfl (Or.inl rfl)) (fun _ _ _ _ _ => pts_nil) (fun _ _ _ _ _ => (pe_dn D_law_number hr (by decide) rfl (pa_cons (pe_dn D_law_digits hr (by decide) rfl (pa_cons (pe_dn D_law_cell hr (by decide) rfl (pa_cons (pv 0) (pa_cons (pv 8) pa_nil))) (pa_cons (pv 1) pa_nil))) pa_nil))))
      (pss_cons (ps_setLc (i := 3) (own := [("k", 8)]) (g := gName 8) (tt := tYes) rfl sc_law.nd rfl rfl (sw_true rfl rfl rfl (by decide +kernel)) (pi_range1 (by rfl) T.range (pa_cons pe_int pa_nil)) (blkOk_by (own := [("k", 8)]) (N := N_law) (sc := defScope s_law) (by decide +kernel)) (fun _ _ _ _ _ => pg_name (i := 8) sc_law.nd rfl (Or.inl rfl)) (fun _ _ _ _ _ => pts_nil) (fun _ _ _ _ _ => (pe_dn D_law_number hr (by decide) rfl (pa_cons (pe_dn D_law_digits hr (by decide) rfl (pa_cons (pe_dn D_law_cell hr (by decide) rfl (pa_cons (pv 0) (pa_cons (pe_op op_add pe_int (pv 8)) pa_nil))) (pa_cons (pv 1) pa_nil))) pa_nil))))
      (pss_cons (ps_set (i := 4) sc_law.nd rfl (Or.inl rfl) (pe_op op_add pe_int (pe_ix ix_list (pe_dn D_law_digits hr (by decide) rfl (pa_cons (pe_dn D_law_cell hr (by decide) rfl (pa_cons (pv 0) (pa_cons pe_int pa_nil))) (pa_cons (pe_lst (pa_cons pe_int pa_nil)) pa_nil))) pe_int (fun _ _ => rfl))))
      (pss_cons (ps_set (i := 5) sc_law.nd rfl (Or.inl rfl) (pe_callB (cr_reprL hG hr) (by rfl) T.repr (by decide +kernel) (pa_cons (pe_lst (pa_cons (pe_dn D_greatest_count hr (by decide) rfl (pa_cons pe_int (pa_cons (pe_ix ix_list (pv 2) pe_int (fun _ _ => rfl)) pa_nil))) (pa_cons (pe_dn D_least_count hr (by decide) rfl (pa_cons (pe_ix ix_list (pv 2) pe_int (fun _ _ => rfl)) pa_nil)) (pa_cons (pe_dn D_shortest_total hr (by decide) rfl (pa_cons pe_int (pa_cons (pe_ix ix_list (pv 3) pe_int (fun _ _ => rfl)) pa_nil))) (pa_cons (pe_dn D_count_bound hr (by decide) rfl (pa_cons pe_int (pa_cons (pe_ix ix_list (pv 2) pe_int (fun _ _ => rfl)) (pa_cons (pv 4) pa_nil)))) pa_nil))))) pa_nil)))
      (pss_cons (ps_for PassesOwn.never rfl (pi_range2 (by rfl) T.range (pa_cons pe_int (pa_cons pe_int pa_nil))) (pg_name (i := 6) sc_law.nd rfl (Or.inl rfl))
        (pss_one (ps_for PassesOwn.never rfl (pi_range1 (by rfl) T.range (pa_cons pe_int pa_nil)) (pg_name (i := 8) sc_law.nd rfl (Or.inl rfl))
            (pss_one (ps_if (PW.pt (pw_or (pt_not (pt_val (pe_dn D_law_total_told hr (by decide) rfl (pa_cons (pv 6) (pa_cons (pe_ix ix_list (pv 3) (pv 8) (fun _ _ => rfl)) pa_nil))))) (pw_or1 (pt_not (pt_val (pe_dn D_law_length_told hr (by decide) rfl (pa_cons (pv 6) (pa_cons (pe_ix ix_list (pv 2) (pv 8) (fun _ _ => rfl)) (pa_cons (pv 4) pa_nil))))))))) (pss_one (ps_ret pe_bl)) pss_nil)))))
      (pss_cons (ps_set (i := 7) sc_law.nd rfl (Or.inl rfl) (pe_callB (cr_reprL hG hr) (by rfl) T.repr (by decide +kernel) (pa_cons (pe_lst (pa_cons (pe_dn D_greatest_count hr (by decide) rfl (pa_cons pe_int (pa_cons (pe_ix ix_list (pv 2) pe_int (fun _ _ => rfl)) pa_nil))) (pa_cons (pe_dn D_least_count hr (by decide) rfl (pa_cons (pe_ix ix_list (pv 2) pe_int (fun _ _ => rfl)) pa_nil)) (pa_cons (pe_dn D_shortest_total hr (by decide) rfl (pa_cons pe_int (pa_cons (pe_ix ix_list (pv 3) pe_int (fun _ _ => rfl)) pa_nil))) (pa_cons (pe_dn D_count_bound hr (by decide) rfl (pa_cons pe_int (pa_cons (pe_ix ix_list (pv 2) pe_int (fun _ _ => rfl)) (pa_cons (pv 4) pa_nil)))) pa_nil))))) pa_nil)))
      (pss_one (ps_ret (pe_cmpR op_eq (pv 5) (pv 7) (nomark _))))))))))), ?_⟩
    have hcap := T30_cap
    -- sizes
    have hrp : [V.int 8, V.int 31, V.int 6, V.int 100, V.int 5] ++ (List.replicate (Int.toNat 30) [V.int 10]).flatten = S35.map V.int := by decide +kernel
    refine q_asgL (xs := S35.map V.int) (by
      rw [← hrp]
      exact el_cat (el_lst (ea_cons ev_c (ea_cons ev_c (ea_cons ev_c (ea_cons ev_c (ea_cons ev_c ea_nil))))) (by show 5 ≤ 100000; decide)) (el_rep (el_lst (ea_cons ev_c ea_nil) (by show 1 ≤ 100000; decide)) (fun _ _ => ev_c) (by decide) (by decide) (by decide)) (by decide)) fun sz H1 _ e1 hsz => ?_
    -- fars
    refine q_lcR1_any IsN (ea_cons ev_c ea_nil) ⟨by decide, by decide⟩ (fun _ => rfl) (fun i H2 e2 hi Q1 hq => ?_) fun fp H2 zs _ e2 hzl hzn hfs => ?_
    · exact (el_call (ea_cons (ev_call (ea_cons (ev_var rfl) (ea_cons (ev_var rfl) ea_nil)) (sv_cell (k := (i : Int)) (ex_l (e1.trans e2) hS) (by omega) (by omega))) (ea_cons (ev_var rfl) ea_nil)) (sl_digits (sq_of (e2 _ _ hsz)) ok35)) H2 (Ex.refl H2) _ fun p H3 hp e3 h3 =>
        ⟨p, _, rfl, sq_of h3, digits_in _ _ (pos_of ok35), fun z hz H4 e4 => hq (.int (z : Int)) H4 ⟨z, rfl, hz⟩ (e3.trans e4)⟩
    obtain ⟨f0, f1, rfl, hf0, hf1⟩ := two_nums hzl hzn
    have e12 := e1.trans e2
    have hsz2 := e2 _ _ hsz
    -- manies
    refine q_lcR1_any IsN (ea_cons ev_c ea_nil) ⟨by decide, by decide⟩ (fun _ => rfl) (fun i H3 e3 hi Q1 hq => ?_) fun mp H3 zs _ e3 hzl hzn hms => ?_
    · exact (el_call (ea_cons (ev_call (ea_cons (ev_var rfl) (ea_cons (ev_op ev_c (ev_var rfl) rv_I0) ea_nil)) (sv_cell (k := 2 + (i : Int)) (ex_l (e12.trans e3) hS) (by omega) (by omega))) (ea_cons (ev_var rfl) ea_nil)) (sl_digits (sq_of (e3 _ _ hsz2)) ok35)) H3 (Ex.refl H3) _ fun p H4 hp e4 h4 =>
        ⟨p, _, rfl, sq_of h4, digits_in _ _ (pos_of ok35), fun z hz H5 e5 => hq (.int (z : Int)) H5 ⟨z, rfl, hz⟩ (e4.trans e5)⟩
    obtain ⟨m0, m1, rfl, hm0, hm1⟩ := two_nums hzl hzn
    have e13 := e12.trans e3
    have hfs3 := e3 _ _ hfs
    -- deep
    have wd : Within (digitsF (cellF ns 4) [100]) [100] := digits_in _ _ (pos_of ok1)
    have gd : 0 ≤ (digitsF (cellF ns 4) [100]).getD 0 0 ∧ (digitsF (cellF ns 4) [100]).getD 0 0 < 100 := wd.get 0 (by decide)
    have ld : (digitsF (cellF ns 4) [100]).length = 1 := wd.len
    obtain ⟨d, hd⟩ : ∃ d : Nat, (1 : Int) + (digitsF (cellF ns 4) [100]).getD 0 0 = ((d + 1 : Nat) : Int) := ⟨((digitsF (cellF ns 4) [100]).getD 0 0).toNat, by omega⟩
    have hd1 : d + 1 ≤ 100 := by omega
    refine q_asg (ev_op ev_c (ev_ixNew (K := K) (el_call2 (ev_call (ea_cons (ev_var rfl) (ea_cons ev_c ea_nil)) (sv_cell (k := 4) (ex_l e13 hS) (by decide) (by decide))) (el_lst (ea_cons ev_c ea_nil) (by show 1 ≤ 100000; decide)) (fun p H1 hp e => sl_digits (ss := [100]) (sq_of hp) ok1)) (fun _ _ => ev_c) (at_d (i := 0) (by omega))) rv_I0) fun H4 e4 => ?_
    rw [hd]
    have hfs4 := e4 _ _ hfs3
    have hms4 := e4 _ _ hms
    have h4s := four_small hf0 hm0 hd1
    -- first
    refine q_asg (ev_reprL (ns := four f0 m0 d) (show EvL _ _ _ [.int (grF 2 f0 : Nat), .int (grF 1 f0 : Nat), .int (totF 2 m0 : Nat), .int (f0 / (d + 1) + Sn 2 d : Nat)] from
      el_lst (ea_cons (ev_call (ea_cons ev_c (ea_cons (ev_op (ev_var rfl) ev_c (rv_ixL (K := K) (sq_of hfs4) at0)) ea_nil)) (sv_gc (s := 2) (by decide) (by decide) (by omega)))
        (ea_cons (ev_call (ea_cons (ev_op (ev_var rfl) ev_c (rv_ixL (K := K) (sq_of hfs4) at0)) ea_nil) (sv_lc (by omega)))
        (ea_cons (ev_call (ea_cons ev_c (ea_cons (ev_op (ev_var rfl) ev_c (rv_ixL (K := K) (sq_of hms4) at0)) ea_nil)) (sv_st (s := 2) (by decide) (by decide) (by omega)))
        (ea_cons (ev_call (ea_cons ev_c (ea_cons (ev_op (ev_var rfl) ev_c (rv_ixL (K := K) (sq_of hfs4) at0)) (ea_cons (ev_var rfl) ea_nil))) (sv_cb (s := 2) rfl (by decide) (by decide) hd1)) ea_nil)))) (by show 4 ≤ 100000; decide)) h4s (repr_len h4s (by show 4 ≤ 1000; decide))) fun H5 e5 => ?_
    have hfs5 := e5 _ _ hfs4
    have hms5 := e5 _ _ hms4
    -- the loops
    refine q_forR2 (ea_cons ev_c (ea_cons ev_c ea_nil)) ⟨by decide, by decide, by decide, by decide⟩ (fun i σ' H' => ∃ x y : Option V, σ' = [some (.ref a), some (.ref sz), some (.ref fp), some (.ref mp), some (.int (d + 1 : Nat)), some (.str (reprInts (four f0 m0 d))), x, none, y] ∧ Ex H5 H') (fun H6 e6 => ⟨none, none, rfl, e6⟩) ?_ ?_
    · rintro i σ' H' hi ⟨x, y, rfl, e⟩
      refine s_forR1 (ea_cons ev_c ea_nil) ⟨by decide, by decide⟩ (fun k σ2 H2 => ∃ y : Option V, σ2 = [some (.ref a), some (.ref sz), some (.ref fp), some (.ref mp), some (.int (d + 1 : Nat)), some (.str (reprInts (four f0 m0 d))), some (.int ((1 : Int) + (i : Int))), none, y] ∧ Ex H5 H2) (fun H6 e6 => ⟨y, rfl, e.trans e6⟩) ?_ ?_
      · rintro k σ2 H2 hk ⟨y2, rfl, e2'⟩
        obtain ⟨m, hm, hmT⟩ := at_two (a := m0) (b := m1) (k := k) (by omega) hm0 hm1
        obtain ⟨f, hf, hfT⟩ := at_two (a := f0) (b := f1) (k := k) (by omega) hf0 hf1
        have hb1 : (1 : Int) + (i : Int) = ((i + 1 : Nat) : Int) := by omega
        refine s_when (et_or (et_not (et_B (ev_call (ea_cons (ev_var rfl) (ea_cons (ev_op (ev_var rfl) (ev_var rfl) (rv_ixL (K := K) (sq_of (e2' _ _ hms5)) hm)) ea_nil)) (sv_gtB (s := i + 1) hb1 (by omega) (by omega) hmT)))) fun _ => et_not (et_B (ev_call (ea_cons (ev_var rfl) (ea_cons (ev_op (ev_var rfl) (ev_var rfl) (rv_ixL (K := K) (sq_of (e2' _ _ hfs5)) hf)) (ea_cons (ev_var rfl) ea_nil))) (sv_lentB (s := i + 1) hb1 rfl (by omega) (by omega) hfT hd1)))) (fun hb H6 e6 => ?_) (fun hb H6 e6 => ⟨_, rfl, e2'.trans e6⟩)
        simp at hb
      · rintro σ2 H2 ⟨y2, rfl, e2'⟩
        exact ⟨_, _, rfl, e2'⟩
    rintro σ' H6 ⟨x, y, rfl, e6⟩
    have hfs6 := e6 _ _ hfs5
    have hms6 := e6 _ _ hms5
    -- again
    refine q_asg (ev_reprL (ns := four f0 m0 d) (show EvL _ _ _ [.int (grF 2 f0 : Nat), .int (grF 1 f0 : Nat), .int (totF 2 m0 : Nat), .int (f0 / (d + 1) + Sn 2 d : Nat)] from
      el_lst (ea_cons (ev_call (ea_cons ev_c (ea_cons (ev_op (ev_var rfl) ev_c (rv_ixL (K := K) (sq_of hfs6) at0)) ea_nil)) (sv_gc (s := 2) (by decide) (by decide) (by omega)))
        (ea_cons (ev_call (ea_cons (ev_op (ev_var rfl) ev_c (rv_ixL (K := K) (sq_of hfs6) at0)) ea_nil) (sv_lc (by omega)))
        (ea_cons (ev_call (ea_cons ev_c (ea_cons (ev_op (ev_var rfl) ev_c (rv_ixL (K := K) (sq_of hms6) at0)) ea_nil)) (sv_st (s := 2) (by decide) (by decide) (by omega)))
        (ea_cons (ev_call (ea_cons ev_c (ea_cons (ev_op (ev_var rfl) ev_c (rv_ixL (K := K) (sq_of hfs6) at0)) (ea_cons (ev_var rfl) ea_nil))) (sv_cb (s := 2) rfl (by decide) (by decide) hd1)) ea_nil)))) (by show 4 ≤ 100000; decide)) h4s (repr_len h4s (by show 4 ≤ 1000; decide))) fun H7 e7 => ?_
    refine s_ret (ev_op (ev_var rfl) (ev_var rfl) (rv_eq rfl)) fun H8 e8 => ?_
    rw [decide_eq_true rfl]
    exact q H8
end
end My

set_option Elab.async false
set_option linter.all false
set_option maxRecDepth 100000
set_option maxHeartbeats 0
namespace My
open PySem PySem.Spec PyProof.Rows L2 Evl
def d_shortest_total : He.DefD := ⟨("shortest_total", none), "shortest_total", "shortest_total", defArgs s_shortest_total, defBody s_shortest_total, defScope s_shortest_total, [], []⟩
def d_greatest_count : He.DefD := ⟨("greatest_count", none), "greatest_count", "greatest_count", defArgs s_greatest_count, defBody s_greatest_count, defScope s_greatest_count, [], []⟩
def d_least_count : He.DefD := ⟨("least_count", none), "least_count", "least_count", defArgs s_least_count, defBody s_least_count, defScope s_least_count, [], []⟩
def d_count_bound : He.DefD := ⟨("count_bound", none), "count_bound", "count_bound", defArgs s_count_bound, defBody s_count_bound, defScope s_count_bound, [], []⟩
def d_law_whole : He.DefD := ⟨("_law_whole", none), "_law_whole", "_law_whole", defArgs s_law_whole, defBody s_law_whole, defScope s_law_whole, [], []⟩
def d_law_cell : He.DefD := ⟨("_law_cell", none), "_law_cell", "_law_cell", defArgs s_law_cell, defBody s_law_cell, defScope s_law_cell, [], []⟩
def d_law_digits : He.DefD := ⟨("_law_digits", none), "_law_digits", "_law_digits", defArgs s_law_digits, defBody s_law_digits, defScope s_law_digits, [], []⟩
def d_law_total : He.DefD := ⟨("_law_total", none), "_law_total", "_law_total", defArgs s_law_total, defBody s_law_total, defScope s_law_total, [], []⟩
def d_law_listed_total : He.DefD := ⟨("_law_listed_total", none), "_law_listed_total", "_law_listed_total", defArgs s_law_listed_total, defBody s_law_listed_total, defScope s_law_listed_total, [], []⟩
def d_law_level : He.DefD := ⟨("_law_level", none), "_law_level", "_law_level", defArgs s_law_level, defBody s_law_level, defScope s_law_level, [], []⟩
def d_law_number : He.DefD := ⟨("_law_number", none), "_law_number", "_law_number", defArgs s_law_number, defBody s_law_number, defScope s_law_number, [], []⟩
def d_law_greatest_told : He.DefD := ⟨("_law_greatest_told", none), "_law_greatest_told", "_law_greatest_told", defArgs s_law_greatest_told, defBody s_law_greatest_told, defScope s_law_greatest_told, [], []⟩
def d_law_least_told : He.DefD := ⟨("_law_least_told", none), "_law_least_told", "_law_least_told", defArgs s_law_least_told, defBody s_law_least_told, defScope s_law_least_told, [], []⟩
def d_law_total_told : He.DefD := ⟨("_law_total_told", none), "_law_total_told", "_law_total_told", defArgs s_law_total_told, defBody s_law_total_told, defScope s_law_total_told, [], []⟩
def d_law_length_told : He.DefD := ⟨("_law_length_told", none), "_law_length_told", "_law_length_told", defArgs s_law_length_told, defBody s_law_length_told, defScope s_law_length_told, [], []⟩
def d_law : He.DefD := ⟨("law", none), "law", "law", defArgs s_law, defBody s_law, defScope s_law, [], []⟩
def fn : List He.DefD := [d_shortest_total, d_greatest_count, d_least_count, d_count_bound, d_law_whole, d_law_cell, d_law_digits, d_law_total, d_law_listed_total, d_law_level, d_law_number, d_law_greatest_told, d_law_least_told, d_law_total_told, d_law_length_told, d_law]
def fa : List He.Fa := [.glo "shortest_total", .glo "greatest_count", .glo "least_count", .glo "count_bound", .glo "_law_whole", .glo "_law_cell", .glo "_law_digits", .glo "_law_total", .glo "_law_listed_total", .glo "_law_level", .glo "_law_number", .glo "_law_greatest_told", .glo "_law_least_told", .glo "_law_total_told", .glo "_law_length_told", .glo "law", .free "len", .free "int", .free "bool", .free "str", .free "list", .free "tuple", .free "range", .free "max", .free "min", .free "sum", .free "isinstance", .free "sorted", .free "repr", .free "abs", .free "enumerate"]
abbrev R : PySem.W.OpenRow := PySem.W.OpenLaw.row PySem.Challenge.rw_unpressed_k06_greatest_and_least
def exI (K : PySem.W.Frag) : Bool := He.eqO (PySem.W.nsIn K mainGlobals "isqrt") (some (some (.builtin "math.isqrt")))
abbrev hk : PySem.W.Hook := He.hookX 4 fa fn [] [] exI
def ob (s : PySem.W.SharedT) : He.AlX := He.obsX 4 fa fn [] [] exI (HandSHeadRun.getT s)
theorem ob_eq (s : PySem.W.SharedT) : ob s = hk.obs s.abs := He.obsX_eq (HandSHeadRun.getT_eq s)
abbrev loose : List Str := ["shortest_total", "greatest_count", "least_count", "count_bound", "_law_whole", "_law_cell", "_law_digits", "_law_total", "_law_listed_total", "_law_level", "_law_number", "_law_greatest_told", "_law_least_told", "_law_total_told", "_law_length_told"]
theorem run (w : World) : HandSHeadRun.RunEqI R (PySem.W.view R.prog [0, 18]) hk ob 3000 loose w := by
  unfold HandSHeadRun.RunEqI
  kernel_rfl
theorem at_of {K : PySem.W.Frag} {mg : Str → Option Value} {h : Heap} (X : K.In h) (G : h.Ns mainGlobals mg) (c : He.SaysD fa fn K) (i : Nat) {x : Str} {st : Stmt} (h1 : fn[i]? = some ⟨(x, none), x, x, defArgs st, defBody st, defScope st, [], []⟩) (h2 : fa[i]? = some (.glo x)) : At K mg x st := by
  obtain ⟨fd, F⟩ := c.def_ i h1
  exact ⟨_, fd, F, He.glo_ok X G (c.fact i h2)⟩
theorem tt_of {K : PySem.W.Frag} {mg : Str → Option Value} {h : Heap} (X : K.In h) (G : h.Ns mainGlobals mg) (c : He.SaysD fa fn K) : TT mg := ⟨He.free_ok X G (c.fact 16 (f := .free "len") rfl), He.free_ok X G (c.fact 17 (f := .free "int") rfl), He.free_ok X G (c.fact 18 (f := .free "bool") rfl), He.free_ok X G (c.fact 19 (f := .free "str") rfl), He.free_ok X G (c.fact 20 (f := .free "list") rfl), He.free_ok X G (c.fact 21 (f := .free "tuple") rfl), He.free_ok X G (c.fact 22 (f := .free "range") rfl), He.free_ok X G (c.fact 23 (f := .free "max") rfl), He.free_ok X G (c.fact 24 (f := .free "min") rfl), He.free_ok X G (c.fact 25 (f := .free "sum") rfl), He.free_ok X G (c.fact 26 (f := .free "isinstance") rfl), He.free_ok X G (c.fact 27 (f := .free "sorted") rfl), He.free_ok X G (c.fact 28 (f := .free "repr") rfl), He.free_ok X G (c.fact 29 (f := .free "abs") rfl), He.free_ok X G (c.fact 30 (f := .free "enumerate") rfl)⟩

theorem facts {P : Program} {w : World} {K : PySem.W.Frag} {h : Heap} {mg : Str → Option Value} {f : Addr} (X : K.In h) (G : h.Ns mainGlobals mg) (hfa : mg ("law" : Str) = some (.ref f)) (c : He.SaysX fa fn [] [] exI w h K) :
    ∃ fd : FuncData, (∀ (s : Shared) (v : Value), BindsTo s fd ⟨[v], []⟩ [("script", v)]) ∧ ∀ base : Heap, K.In base → base.Ns mainGlobals mg → FnG P w K mg base CX0 4 f fd ["script"] (spLaw K) := by
  have A_shortest_total : At K mg "shortest_total" s_shortest_total := at_of X G c.t.d 0 rfl rfl
  have A_greatest_count : At K mg "greatest_count" s_greatest_count := at_of X G c.t.d 1 rfl rfl
  have A_least_count : At K mg "least_count" s_least_count := at_of X G c.t.d 2 rfl rfl
  have A_count_bound : At K mg "count_bound" s_count_bound := at_of X G c.t.d 3 rfl rfl
  have A_law_whole : At K mg "_law_whole" s_law_whole := at_of X G c.t.d 4 rfl rfl
  have A_law_cell : At K mg "_law_cell" s_law_cell := at_of X G c.t.d 5 rfl rfl
  have A_law_digits : At K mg "_law_digits" s_law_digits := at_of X G c.t.d 6 rfl rfl
  have A_law_total : At K mg "_law_total" s_law_total := at_of X G c.t.d 7 rfl rfl
  have A_law_listed_total : At K mg "_law_listed_total" s_law_listed_total := at_of X G c.t.d 8 rfl rfl
  have A_law_level : At K mg "_law_level" s_law_level := at_of X G c.t.d 9 rfl rfl
  have A_law_number : At K mg "_law_number" s_law_number := at_of X G c.t.d 10 rfl rfl
  have A_law_greatest_told : At K mg "_law_greatest_told" s_law_greatest_told := at_of X G c.t.d 11 rfl rfl
  have A_law_least_told : At K mg "_law_least_told" s_law_least_told := at_of X G c.t.d 12 rfl rfl
  have A_law_total_told : At K mg "_law_total_told" s_law_total_told := at_of X G c.t.d 13 rfl rfl
  have A_law_length_told : At K mg "_law_length_told" s_law_length_told := at_of X G c.t.d 14 rfl rfl
  have A_law : At K mg "law" s_law := at_of X G c.t.d 15 rfl rfl
  have T : TT mg := tt_of X G c.t.d
  have TI : mg "isqrt" = some (.builtin "math.isqrt") := PySem.W.mg_of X G (He.eqO_ok c.more)
  obtain ⟨f0, fd, F, hm⟩ := A_law.ex
  have e := hfa.symm.trans hm
  cases e
  have b := FunD.bindsA (ps := ["script"]) F fun _ _ _ _ _ _ us hl => match us, hl with | [_], _ => rfl
  refine ⟨fd, fun s v => b s [v] rfl, fun base _ _ => ?_⟩
  have D1 := ok_shortest_total (P := P) (w := w) (base := base) A_shortest_total
  have D2 := ok_greatest_count (P := P) (w := w) (base := base) TI A_greatest_count
  have D3 := ok_least_count (P := P) (w := w) (base := base) TI A_least_count
  have D4 := ok_count_bound (P := P) (w := w) (base := base) T A_count_bound
  have D5 := ok_law_whole (P := P) (w := w) (base := base) T A_law_whole
  have D6 := ok_law_cell (P := P) (w := w) (base := base) T A_law_cell
  have D7 := ok_law_digits (P := P) (w := w) (base := base) T A_law_digits
  have D8 := ok_law_total (P := P) (w := w) (base := base) T A_law_total
  have D9 := ok_law_listed_total (P := P) (w := w) (base := base) T A_law_listed_total
  have D10 := ok_law_level (P := P) (w := w) (base := base) T A_law_level
  have D11 := ok_law_number T A_law_number D10
  have D12 := ok_law_greatest_told A_law_greatest_told D2 D5 D8
  have D13 := ok_law_least_told A_law_least_told D3 D5
  have D14 := ok_law_total_told T A_law_total_told D8 D1 D5 (kd_st D1) D9 D12 D13 D2
  have D15 := ok_law_length_told T A_law_length_told D12 D13 D2 (kd_gc D2) D3 (kd_lc D3) D4 (kd_cb D4) D5
  exact fnG_law T F D6 D7 D11 D2 D3 D1 D4 D14 D15
end My
open PySem PySem.W PySem.Calls PyProof.Rows
theorem PySem.Challenge.cw_unpressed_k06_greatest_and_least_holds : PySem.Challenge.rw_unpressed_k06_greatest_and_least.Holds := by
  w_on; o_law
  refine HandSHeadRun.head_imp (r := OpenLaw.row PySem.Challenge.rw_unpressed_k06_greatest_and_least) (q := view (OpenLaw.row PySem.Challenge.rw_unpressed_k06_greatest_and_least).prog [0, 18]) (H := My.hk) (ob := My.ob) (M := 3000) (loose := My.loose) (d := HandSHeadRun.topDef (OpenLaw.row PySem.Challenge.rw_unpressed_k06_greatest_and_least).prog 18) (kwd := []) My.ob_eq
    My.run (by kernel_rfl) (by kernel_rfl) (by kernel_rfl) (by rfl) (by first | assumption | decide +kernel) (by decide +kernel) ⟨rfl, rfl, rfl, rfl, rfl, by decide +kernel⟩ ?hw ?hc
  case hw => w_witness2
  case hc =>
    refine My.walkG (l := PySem.Challenge.rw_unpressed_k06_greatest_and_least) (n := 63) (k := 4) (x := "script") rfl (by decide) (by kernel_rfl) ⟨rfl, by decide, by decide⟩ ?F
    intro w mg fa h Y G hmg0
    obtain ⟨K, KX, c⟩ := Y
    have hmg : mg ("law" : PySem.Str) = some (.ref fa) := by
      have e : (HandSHeadRun.topDef (OpenLaw.row PySem.Challenge.rw_unpressed_k06_greatest_and_least).prog 18).name = ("law" : PySem.Str) := by kernel_rfl
      rw [← e]
      exact hmg0
    obtain ⟨fd, hb, hF⟩ := My.facts (P := (PySem.Challenge.rw_unpressed_k06_greatest_and_least).prog) (w := w) KX G hmg c
    exact ⟨K, fd, My.spLaw K, KX, hb, fun H a ns hl hS => ⟨a, ns, rfl, hS, fun _ => rfl⟩, hF⟩
