import PyProof.Rows.All
import Wide.All
import OpenK.AllK
import Wide.FinOn
import KE.GoesEnum
import PyProof.ReprRoads
import PyProof.ReprLen
import HandS.ForMost
import HandS.ForExc
import HandS.TryMany
import HandS.ExcInit
import HandS.ExcField
import HandS.ExcIs
import HandS.IsInst
import HandS.TupAny
import HandS.WideBits
import HandS.Rev
import HandS.Lambda
import HandS.EndTab
import HandS.Walk
import PySem.Challenge.RW_pagesagain_k02_whole_rows_that_repeat_an
import HandS.Conv
set_option Elab.async false
set_option linter.all false
set_option maxRecDepth 100000
set_option maxHeartbeats 4000000
/-! our own additions to the hand layer: defs that know that nothing guards around them, repr of data, calls by keywords alone, enumerate of a tuple -/
namespace Lx
open PySem PySem.Spec PyProof.Rows L2

/-! ### a def called, told at a context -/
structure Callee (X : Cx) (f : Addr) (fd : FuncData) (ps : List Str) (sp : Sp) (E : XK) : Prop where
  len : ∀ vs H Q, sp vs H Q E → vs.length = ps.length
  go : ∀ (pins : List (Addr × Obj)) (σ : L2.St) (s : Shared) (H : Hp) (us : List Value) (kw : List (Str × Value)) (ws : List Value) (vs : List V) (Q : VK), Inv X pins σ H s → BindsTo s fd ⟨us, kw⟩ (ps.zip ws) → Vals vs ws → sp vs H Q E →
    wpAny (model X.prog X.w) X.A (call (.ref f) us kw) (EP X pins σ Q) X.xe s

theorem callee_end {X : Cx} {CX : CXT} {E : XK} {pins : List (Addr × Obj)} {σ : L2.St} {s : Shared} {H : Hp} {f : Addr} {us : List Value} {kw : List (Str × Value)} {Q : VK} (I : Inv X pins σ H s) (hx : Passes CX X E)
    (h : codeAny (model X.prog X.w) X.A (.call (.ref f) ⟨us, kw⟩) (CR CX X.stack X.prog X.w H s Q E) s) : wpAny (model X.prog X.w) X.A (call (.ref f) us kw) (EP X pins σ Q) X.xe s := by
  apply wpAny_call
  apply codeAny_mono h
  rintro (e | (_ | _ | _ | u)) s' q
  · exact hx pins σ H s e s' I q
  all_goals first
    | exact I.after q
    | exact False.elim q

theorem FnOk.callee {X : Cx} {CX : CXT} {k : Nat} {f : Addr} {fd : FuncData} {ps : List Str} {sp : Sp} {E : XK} (F : FnOk X.prog X.w X.K X.mg X.base CX k f fd ps sp) (hr : Room k X.A) (hx : Passes CX X E) : Callee X f fd ps sp E :=
  ⟨fun vs H Q h => F.len vs H Q E h, fun pins σ s H us kw ws vs Q I hb r h => callee_end I hx (F.run X.A X.stack s H ⟨us, kw⟩ ws vs Q E hr I.env0 hb r h)⟩

/-- a def's promise where no guard stands around the call -/
structure FnOkG (P : Program) (w : World) (K : PySem.W.Frag) (mg : Str → Option Value) (base : Heap) (CX : CXT) (k : Nat) (f : Addr) (fd : FuncData) (ps : List Str) (sp : Sp) : Prop where
  len : ∀ vs H Q E, sp vs H Q E → vs.length = ps.length
  run : ∀ (A : Around) (outer : List Env) (s : Shared) (H : Hp) (args : Args) (us : List Value) (vs : List V) (Q : VK) (E : XK), Room k A → A.guards = some [] → Env0 P w K mg base A outer s H → BindsTo s fd args (ps.zip us) →
    Vals vs us → sp vs H Q E → codeAny (model P w) A (.call (.ref f) args) (CR CX outer P w H s Q E) s

theorem FnOkG.callee {X : Cx} {CX : CXT} {k : Nat} {f : Addr} {fd : FuncData} {ps : List Str} {sp : Sp} {E : XK} (F : FnOkG X.prog X.w X.K X.mg X.base CX k f fd ps sp) (hr : Room k X.A) (hg : X.A.guards = some []) (hx : Passes CX X E) : Callee X f fd ps sp E :=
  ⟨fun vs H Q h => F.len vs H Q E h, fun pins σ s H us kw ws vs Q I hb r h => callee_end I hx (F.run X.A X.stack s H ⟨us, kw⟩ ws vs Q E hr hg I.env0 hb r h)⟩

section
variable {P : Program} {w : World} {K : PySem.W.Frag} {mg : Str → Option Value} {base : Heap}
theorem okG {x qual : Str} {st : Stmt} {f : Addr} {fd : FuncData} {N ps : List Str} {k : Nat} {sp : Sp} (F : Fun K x qual st f fd) (S : FnScope N ps (defScope st)) (len : ∀ vs H Q E, sp vs H Q E → vs.length = ps.length)
    (hbody : ∀ (cdv : Value) (A : Around) (outer : List Env) (s : Shared) (H : Hp) (vs : List V) (Q : VK) (E : XK), Room k (A.deeper (envOfC qual (defScope st) s.heap.objs.size f cdv)) → A.guards = some [] → sp vs H Q E →
      ∃ t, PSs (cxOf L2.CX0 P w K mg base N qual (defScope st) f cdv A outer s H E).nox (defBody st) t ∧ t { nx := fun _ H' => Q .non H', rt := Q } (start N vs) H) : FnOkG P w K mg base L2.CX0 (k + 1) f fd ps sp := by
  obtain ⟨oc, od, kV, doc, pm, an, cdv, ct, osl, rfl, lk, hcd⟩ := F.ex
  constructor
  · exact len
  · intro A outer s H args us vs Q E hr hg e0 hb r h
    apply LamX.run_ofS lk hcd S hr e0 hb r (len vs H Q E h)
    intro hr'
    have ⟨t, ht, hq⟩ := hbody cdv A outer s H vs Q E hr' hg h
    exact ⟨t, ht.nox, hq⟩
end

/-! ### calls -/
section
variable {X : Cx} {f : Addr} {fd : FuncData} {ps ks : List Str} {sp : Sp} {dvs : List V} {ds : List Value} {E : XK} {x : Str} {p pos : Pos} {e : Expr} {es : List Expr} {kws : List Keyword} {t tk : TA} {g : List Value → List Value → List Value} {gV : List V → List V → List V}
/-- f(e, ..) -/
theorem pe_callC (F : Callee X f fd ps sp E) (hg : Gl X x) (hm : X.mg x = some (.ref f)) (hk : PySem.W.keepIn X.K (.ref f) = true) (hb : Binds X.K fd ps []) (ha : PA X (e :: es) t)
    (hdb : (x == ("__debug__" : Str)) = false := by decide) (he : starEach (e :: es) X.env = (false, eval e X.env) :: starEach es X.env := by rfl) (hpl : (backTo pos (starEach es X.env)).any (·.1) = false := by rfl) :
    PE X (.Call (.Name x p) (e :: es) [] pos) (tCall sp [] E t) := by
  constructor
  intro pins s σ H Q I h
  apply wpAny_Call_Name_kw (ld_glob I hg hm ?_ hdb)
  refine PySem.W.callWith_K (h₀ := X.base) I.ok.mod.kin hk (thn (ha.run pos pins s σ H _ I h) ?_) he hpl
  rintro us s1 ⟨vs, H1, I1, r, q⟩
  refine ⟨I1.kIn, ?_⟩
  rw [List.append_nil] at q
  have hl : us.length = ps.length := by rw [← r.length]; exact F.len _ _ _ q
  exact F.go pins σ s1 H1 us [] us vs Q I1 (by simpa using hb s1 us I1.kIn (by simpa using hl)) r q
/-- f(k = v, ..), every parameter by its name -/
theorem pe_callKw0 (F : Callee X f fd ps sp E) (hg : Gl X x) (hm : X.mg x = some (.ref f)) (hk : PySem.W.keepIn X.K (.ref f) = true) (hb : KBinds X.K fd ps ks g gV) (hkw : PK X kws tk)
    (hall : (backToKw pos (keywordEach kws X.env)).all (·.1.isSome) = true := by rfl) (hks : (backToKw pos (keywordEach kws X.env)).filterMap (·.1) = ks := by rfl)
    (hdb : (x == ("__debug__" : Str)) = false := by decide)
    (hpl : ((backTo pos (starEach [] X.env)).any (·.1) || (backToKw pos (keywordEach kws X.env)).any (·.1.isNone)) = false := by rfl) :
    PE X (.Call (.Name x p) [] kws pos) (tCallK sp gV E tNil tk) := by
  constructor
  intro pins s σ H Q I h
  apply wpAny_Call_Name_kw (ld_glob I hg hm ?_ hdb)
  refine PySem.W.callWith_KW0 (h₀ := X.base) I.ok.mod.kin hk hall (thn (hkw.run pos pins s σ H _ I h) ?_) hpl
  rintro ws s2 ⟨zs, H2, I2, rz, q2⟩
  refine ⟨I2.kIn, ?_⟩
  rw [hks]
  have r2 : Vals (gV [] zs) (g [] ws) := hb.rel .nil rz
  have hl : (g [] ws).length = ps.length := by rw [← r2.length]; exact F.len _ _ _ q2
  exact F.go pins σ s2 H2 [] _ (g [] ws) (gV [] zs) Q I2 (hb.to s2 [] ws I2.kIn hl) r2 q2
end

/-! ### repr of data -/
section
variable {X : Cx}
theorem call_reprD (hu : X.A.units + 200 < cLine) (hg : X.A.guards = some []) :
    CallR X (.builtin "repr") (fun xs H Q => ∃ v d, xs = [v] ∧ Dp X.K H v d ∧ PyData.showable d = true ∧ PyData.hasDict d = false ∧ d.depth ≤ 64 ∧ d.leavesShort 13 = true ∧ d.weight ≤ 2 ^ 20 ∧ (∀ i, d = .int i → i.natAbs.log2 < 1920) ∧ Q (.str d.shown) H) := by
  rintro pins s σ H xs us Q I r ⟨v, d, rfl, hd, hs, hn, hdep, hl, hw, hi, q⟩
  obtain ⟨u, rfl, ru⟩ := vals1 r
  have hz : d.shown.length ≤ sizeLine := PyData.shown_fits (B := 13) (by decide) (by decide) hl hw
  obtain ⟨as, rd⟩ := Dp.reads I d v u hd ru
  have sc : ∀ (z : Str) (h' : Heap) (t t2 : Nat), (∀ b o, s.heap.get? b = some o → h'.get? b = some o) → Q (.str z) H → EP X pins σ Q (.str z t) { s with heap := h', toks := t2 } := fun z h' t t2 k q => ⟨.str z, H, I.kept k, ⟨t, rfl⟩, q⟩
  have self : ∀ b o, s.heap.get? b = some o → s.heap.get? b = some o := fun _ _ e => e
  cases rd with
  | none => exact PySem.P.repr_of_none (sc "None" _ _ _ self q)
  | bool b => exact PySem.P.repr_of_bool (sc _ _ _ _ self q)
  | int i t => exact PySem.P.repr_of_int (hi i rfl) (sc _ _ _ _ self q)
  | str z t => exact PySem.P.repr_of_str (sc _ _ _ _ self q) hz
  | list h1 h2 h3 h4 => exact repr_of_reads' (.list h1 h2 h3 h4) hs (fun z => by rw [hn] at z; cases z) hg (by omega) self (fun h' u tk k => sc _ _ _ _ k q) hz
  | tuple h1 h2 h3 h4 => exact repr_of_reads' (.tuple h1 h2 h3 h4) hs (fun z => by rw [hn] at z; cases z) hg (by omega) self (fun h' u tk k => sc _ _ _ _ k q) hz
  | dict h1 h2 h3 h4 h5 => cases hd
end
end Lx

set_option Elab.async false
set_option linter.all false
set_option maxRecDepth 100000
set_option maxHeartbeats 4000000
/-! enumerate of a tuple -/
namespace Lx
open PySem PySem.Spec PyProof.Rows L2

theorem meets_enum1 {v : Value} {o : Obj} {H : Heap → Prop} (B : Begins v o H) :
    Meets (Builtin.«enumerate.__new__» ⟨[.type "enumerate", v], []⟩) (fun _ R s => H s.heap ∧
      R (.ok (.ret (.ref (s.heap.push o).objs.size))) { s with heap := (s.heap.push o).push { cls := .type "enumerate", data := .fields #[.none, .bool false, .ref s.heap.objs.size, rawInt 0, .none, .none] } }) := by
  apply Meets.of_wp
  rintro prog w A R ⟨hp, g, d, tk, os⟩ ⟨h1, h⟩
  have sub1 := sub_enumerate
  have it : ∀ {A' : Around} {E : Value → Shared → Prop} {Q : Value → Shared → Prop}, Q (.ref hp.objs.size) ⟨hp.push o, g, d, tk, os⟩ → wpAny (model prog w) A' (pyIter v) Q E ⟨hp, g, d, tk, os⟩ :=
    fun {A' E Q} q => B.iter prog w A' E ⟨hp, g, d, tk, os⟩ Q h1 q
  wp_walk using it
  apply wpAny_stack_any
  intro st
  apply wpAny_pure
  split
  · rename_i c _ _ _ _ _
    cases (c == Value.type "enumerate") <;> (wp_walk using it; exact ⟨_, rfl, h⟩)
  · wp_walk using it
    exact ⟨_, rfl, h⟩

theorem enum1_begins {prog : Program} {w : World} {A : Around} {E : Value → Shared → Prop} {s : Shared} {v : Value} {o : Obj} {H : Heap → Prop} {Q : Value → Shared → Prop} (B : Begins v o H) (h1 : H s.heap)
    (h : ∀ h', IsEnum h' (s.heap.objs.size + 1) s.heap.objs.size 0 .none → h'.get? s.heap.objs.size = some o → (∀ b u, s.heap.get? b = some u → h'.get? b = some u) → Q (.ref (s.heap.objs.size + 1)) { s with heap := h' }) :
    wpAny (model prog w) A (call (.type "enumerate") [v]) Q E s := by
  apply callType_new F.called_enumerate (by decide) (F.typeCall_enumerate_1 _) (F.newCall_enumerate_1 _) (fun obj => F.args_object_init_2 obj _) F.entry_enumerate_new (meets_enum1 B)
  refine ⟨h1, ?_⟩
  have hz : (s.heap.push o).objs.size = s.heap.objs.size + 1 := Heap.size_push ..
  show _ ∧ _
  rw [hz]
  have he : IsEnum ((s.heap.push o).push { cls := .type "enumerate", data := .fields #[.none, .bool false, .ref s.heap.objs.size, rawInt 0, .none, .none] }) (s.heap.objs.size + 1) s.heap.objs.size 0 .none := by
    have z := Heap.get?_push_size (s.heap.push o) (o := { cls := .type "enumerate", data := .fields #[.none, .bool false, .ref s.heap.objs.size, rawInt 0, .none, .none] }) rfl
    rw [hz] at z
    exact z
  exact ⟨⟨_, he, rfl⟩, h _ he (Heap.get?_push_of_some _ (Heap.get?_push_size _ B.free)) fun b u x => Heap.get?_push_of_some _ (Heap.get?_push_of_some _ x)⟩

/-- a tuple, each item in a new pair -/
def ItEt (K : PySem.W.Frag) (a : Addr) : It where
  go := fun i H => ∃ (xs : List V) (x : V), SqT K H a xs ∧ xs[i]? = some x
  yld := fun i H v H' => ∃ T x, v = .ref T ∧ H T = none ∧ H' = upd H T (.tup [.int (i : Nat), x]) ∧ ∀ xs, SqT K H a xs → xs[i]? = some x
  stop := fun i H => ∃ xs : List V, SqT K H a xs ∧ xs.length = i

theorem turn_enumT {P : Program} {w : World} {K : PySem.W.Frag} {elts : List Expr} {kk : Nat} {tpos : Pos} (a e it : Addr) (hei : e ≠ it) (hai : a ≠ it) (hae : e ≠ a) :
    Turn P w K (.Tuple elts kk tpos) (ItEt K a) [e, it] e (fun i h => (∃ old, IsEnum h e it ((i : Nat) : Int) old) ∧ h.IsTupleIter it a i) := by
  refine { mem := by simp, obj := ?_, keep := ?_, item := ?_, done := ?_, self := ?_ }
  · rintro i h ⟨⟨old, he⟩, ⟨o, ho, hc, hd⟩⟩ b hb
    rcases (by simpa using hb : b = e ∨ b = it) with rfl | rfl
    · exact ⟨_, he, fun v q => nomatch q⟩
    · exact ⟨o, ho, fun v q => by rw [hd] at q; cases q⟩
  · rintro i h h' ⟨⟨old, he⟩, hi⟩ k
    exact ⟨⟨old, k e (by simp) _ he⟩, hi.at fun o q => k it (by simp) o q⟩
  · rintro X rfl rfl rfl hc i pins s σ H E I hf ⟨⟨old, he⟩, hit⟩ ⟨xs, x, hq, hx⟩
    obtain ⟨its, rv, p, hz⟩ := I.tuple hq
    obtain ⟨u, hu, ru⟩ := rv.get hx
    have hlt : i < its.toArray.size := by
      have z := (List.getElem?_eq_some_iff.mp hu).1
      simpa using z
    have ge : e < s.heap.objs.size := Heap.lt_size he
    have gi : it < s.heap.objs.size := by obtain ⟨_, q, _⟩ := hit; exact Heap.lt_size q
    have D := Draws.tuple (prog := X.prog) (w := X.w) (A := X.A.in1) (show X.A.in1.handled = none from I.ok.hd hc) it a hai its.toArray
    apply wpAny_pyNext_enum_itemD D he ⟨hit, p⟩ hlt hei (by simp [hei, hae])
    intro y h' tk hy ho st' hT hsz hk
    have ey : y = u := by
      have z : its.toArray[i]? = some u := by simpa using hu
      rw [z] at hy
      exact (Option.some.inj hy).symm
    subst ey
    refine ⟨_, rfl, wpAny_letOwnedTupleGo_enum (s := { s with heap := h', toks := tk + 1 }) ho fun h2 he2 sb => ?_⟩
    have hT2 := (sb.2 _ (Nat.ne_of_gt ge)).trans hT
    have new : ObjOk X.prog X.w (upd H s.heap.objs.size (.tup [.int (i : Nat), x])) h2 s.heap.objs.size (.tup [.int (i : Nat), x]) :=
      ⟨by show 2 ≤ sizeLine; decide, [.int i tk, y], .cons ⟨_, rfl⟩ (.cons ru .nil), ⟨_, hT2, rfl, _, rfl⟩⟩
    have J := I.turnedNew (ch := [e, it]) (t' := tk + 1) (h' := h2) (fun b ob hb q => (sb.2 b (by rintro rfl; simp at hb)).trans (hk b ob (by rintro rfl; simp at hb) (by rintro rfl; simp at hb) q)) hf (Nat.le_refl _) new
    refine ⟨.ref s.heap.objs.size, _, J, rfl, ⟨_, x, rfl, I.hok.fresh (Nat.le_refl _), rfl, fun ys hy => by rw [I.tuple_inj hy hq]; exact hx⟩, ⟨⟨y, ?_⟩, st'.1.at fun o q => (sb.2 it (Ne.symm hei)).trans q⟩, ?_⟩
    · rw [show ((i + 1 : Nat) : Int) = (i : Int) + 1 by omega]
      exact he2
    · intro b hb
      have lt : b < s.heap.objs.size := by rcases (by simpa using hb : b = e ∨ b = it) with rfl | rfl <;> assumption
      rw [upd_ne (Nat.ne_of_lt lt)]
      exact (hf b hb).1
  · rintro X rfl rfl rfl hc i pins s σ H E I hf ⟨⟨old, he⟩, hit⟩ ⟨xs, hq, hx⟩
    obtain ⟨its, rv, p, hz⟩ := I.tuple hq
    have D := Draws.tuple (prog := X.prog) (w := X.w) (A := X.A.in1) (show X.A.in1.handled = none from I.ok.hd hc) it a hai its.toArray
    have ei : its.toArray.size = i := by
      have z := rv.length
      simp only [List.size_toArray]
      omega
    apply wpAny_pyNext_enum_endD D he (by rw [ei]; exact ⟨hit, p⟩)
    intro h' eb
    obtain ⟨f0, f1, f2, f3, f4, f5⟩ := hf it (by simp)
    exact ⟨rfl, I.turned (t' := s.toks) (fun b o hb q => eb b o hb q) f0 f1 f3 f4 f5⟩
  · rintro A i s Q E ⟨⟨_, he⟩, _⟩ h
    exact wpAny_pyIter_enum he h

/-- enumerate(x), x a list or a tuple -/
def iEnumS (K : PySem.W.Frag) (ta : TA) : TI := fun σ H R => ta σ H fun vs H1 => ∃ a xs, vs = [.ref a] ∧ ((SqL K H1 a xs ∧ R (Ite K a) H1) ∨ (SqT K H1 a xs ∧ R (ItEt K a) H1))
theorem pi_enumS {X : Cx} {e : Expr} {ta : TA} {p pos tpos : Pos} {elts : List Expr} {kk : Nat} (hg : Gl X "enumerate") (hm : X.mg "enumerate" = none) (ha : PA X [e] ta) (hs : starEach [e] X.env = [(false, eval e X.env)] := by rfl) :
    PI X (.Tuple elts kk tpos) (.Call (.Name "enumerate" p) [e] [] pos) (iEnumS X.K ta) := by
  constructor
  intro pins s σ H R I h
  apply Call_ (ld_blt I hg hm boot_enumerate (PyProof.Rows.callWith_type1 (thn (ha.run pos pins s σ H _ I h) ?_) hs rfl))
  rintro us s1 ⟨vs, H1, I1, r1, a, xs, rfl, q⟩
  obtain ⟨u, rfl, ru⟩ := vals1 r1
  obtain rfl : u = Value.ref a := ru
  have fpo : ∀ b ∈ [s1.heap.objs.size + 1, s1.heap.objs.size], FpOk X pins H1 b := fun b hb => by
    have le : s1.heap.objs.size ≤ b := by rcases (by simpa using hb : b = s1.heap.objs.size + 1 ∨ b = s1.heap.objs.size) with rfl | rfl <;> omega
    exact I1.fpOk le (I1.hok.fresh le)
  rcases q with ⟨hq, q⟩ | ⟨hq, q⟩
  · obtain ⟨its, rv, p', hz⟩ := I1.list hq
    apply call_enumerate_list p'.isList
    intro h' he hit hsz hk
    exact wpAny_pyIter_enum he ⟨s1.heap.objs.size + 1, [s1.heap.objs.size + 1, s1.heap.objs.size], _, _, H1, rfl, I1.kept (t' := s1.toks) hk, turn_enum a (s1.heap.objs.size + 1) s1.heap.objs.size, ⟨⟨.none, he⟩, hit, Nat.succ_ne_self _⟩, fpo, q⟩
  · obtain ⟨its, rv, p', hz⟩ := I1.tuple hq
    have la : a < s1.heap.objs.size := by obtain ⟨o, g, _⟩ := p'; exact Heap.lt_size g
    apply enum1_begins (begins_tuple a its.toArray) p'
    intro h' he hit hk
    exact wpAny_pyIter_enum he ⟨s1.heap.objs.size + 1, [s1.heap.objs.size + 1, s1.heap.objs.size], _, _, H1, rfl, I1.kept (t' := s1.toks) hk, turn_enumT a (s1.heap.objs.size + 1) s1.heap.objs.size (Nat.succ_ne_self _) (Nat.ne_of_lt la) (Nat.ne_of_gt (Nat.lt_succ_of_lt la)), ⟨⟨.none, he⟩, ⟨_, hit, rfl, rfl⟩⟩, fpo, q⟩

/-- walking it: an invariant over (turn, slots, heap) -/
theorem for_enumT {K : PySem.W.Frag} {a : Addr} {xs : List V} {g : TG} {tb : TS} {D : Ends} {σ : L2.St} {H : Hp} (Pv : Nat → L2.St → Hp → Prop) (h0 : Pv 0 σ H) (hl : ∀ i σ H, i ≤ xs.length → Pv i σ H → SqT K H a xs)
    (hs : ∀ i x σ H, xs[i]? = some x → Pv i σ H → ∀ T, H T = none → g (.ref T) σ (upd H T (.tup [.int (i : Nat), x])) fun σ2 H2 => tb { D with nx := Pv (i + 1), ct := Pv (i + 1), bk := D.nx } σ2 H2) (hd : ∀ σ H, Pv xs.length σ H → D.nx σ H) :
    ∃ W : Nat → Nat → L2.St → Hp → Prop, (∃ m, W 0 m σ H) ∧ ∀ i m σ H, W i m σ H →
      (((ItEt K a).stop i H ∧ D.nx σ H) ∨ ((ItEt K a).go i H ∧ ∃ N : L2.St → Hp → Prop, (∀ σ' H', N σ' H' → ∃ m', m' < m ∧ W (i + 1) m' σ' H') ∧ ∀ x H', (ItEt K a).yld i H x H' → g x σ H' fun σ2 H2 => tb { D with nx := N, ct := N, bk := D.nx } σ2 H2)) := by
  refine ⟨fun i m σ H => i + m = xs.length ∧ Pv i σ H, ⟨xs.length, by omega, h0⟩, ?_⟩
  rintro i m σ H ⟨em, hp⟩
  have hq := hl i σ H (by omega) hp
  by_cases hi : i < xs.length
  · right
    refine ⟨⟨xs, xs[i], hq, List.getElem?_eq_getElem hi⟩, Pv (i + 1), fun σ' H' z => ⟨m - 1, by omega, by omega, z⟩, ?_⟩
    rintro x H' ⟨T, y, rfl, nT, rfl, f⟩
    exact hs i y σ H (f xs hq) hp T nT
  · left
    have e : i = xs.length := by omega
    subst e
    exact ⟨⟨xs, hq, rfl⟩, hd σ H hp⟩
end Lx

set_option Elab.async false
set_option linter.all false
set_option maxRecDepth 100000
set_option maxHeartbeats 4000000
/-! exceptions: several clauses that name the error; isinstance of a caught error that bears fields; raise of an error with one field -/
namespace Lx
open PySem PySem.Spec PyProof.Rows L2

/-! ### several clauses, each «except x as n» -/
abbrev Suite := Addr → Value → Option Addr → TS
def endsNone (D : Ends) (i : Nat) : Ends := { nx := fun σ H => D.nx (σ.set i none) H, rt := D.rt, bk := fun σ H => D.bk (σ.set i none) H, ct := fun σ H => D.ct (σ.set i none) H }
def wClauses (K : PySem.W.Frag) (Wout : WX) (D : Ends) : List (Value × Nat × Suite) → WX
  | [] => Wout
  | (c, i, ts) :: r => fun cls d σ H => ∃ b, PySem.W.exmOne K cls c = some b ∧ (b = true → ∀ a, H a = none → ts a cls d (endsNone D i) (σ.set i (some (.ref a))) H) ∧ (b = false → wClauses K Wout D r cls d σ H)
inductive Clauses (X : Cx) : List ExceptHandler → List (Value × Nat × Suite) → Prop
  | nil : Clauses X [] []
  | cons {x n : Str} {c : Value} {i : Nat} {ts : Suite} {b0 : Stmt} {suite : List Stmt} {p1 p2 : Pos} {hds : List ExceptHandler} {l : List (Value × Nat × Suite)} (hc : Names X x c) (hi : X.N[i]? = some n) (hl : X.env.kindOf n = some .local)
      (hsu : ∀ (a : Addr) (oe : Obj) (cls : Value) (d : Option Addr) (pn : List (Addr × Obj)), Zc cls d oe → (∃ vs, oe.data = .fields vs) → PSs (X.suite a ((a, oe) :: pn)) (b0 :: suite) (ts a cls d)) (r : Clauses X hds l) :
      Clauses X (.ExceptHandler (some (.Name x p1)) (some n) (b0 :: suite) p2 :: hds) ((c, i, ts) :: l)


/-- the error at a flies; beneath it the frame stands as it did -/
structure Air (X : Cx) (pins : List (Addr × Obj)) (σ : L2.St) (H : Hp) (sI : Shared) (a : Addr) (B : Heap) (cls : Value) (d : Option Addr) (s : Shared) : Prop where
  J : Inv X pins σ H sI
  nb : ∀ b o, sI.heap.get? b = some o → b ∉ frs X.stack → B.get? b = some o
  up : sI.heap.UpToSlots s.heap
  fl : HandSPX.FlyingZ B (X.env :: X.outer) a (Zc cls d) s.heap
  na : H a = none
  os : s.os = sI.os
  ag : AllBare s.gens
section
variable {X : Cx} {pins : List (Addr × Obj)} {σ : L2.St} {H : Hp} {s sI : Shared} {D : Ends} {Wout : WX} {a : Addr} {B : Heap} {cls : Value} {d : Option Addr}
theorem Air.on (A : Air X pins σ H sI a B cls d s) {h : Heap} (f : HandSPX.FlyingZ B (X.env :: X.outer) a (Zc cls d) h) (u : s.heap.UpToSlots h) : Air X pins σ H sI a B cls d { s with heap := h } :=
  ⟨A.J, A.nb, A.up.trans u, f, A.na, A.os, A.ag⟩
theorem Air.inv (A : Air X pins σ H sI a B cls d s) : Inv X pins σ H s := A.J.landed A.nb A.fl.1 A.up A.os A.ag
theorem Air.suite (A : Air X pins σ H sI a B cls d s) (hf : X.env.frame = some X.env.locals) : ∃ oe, s.heap.get? a = some oe ∧ Zc cls d oe ∧ (∃ vs, oe.data = .fields vs) ∧ Inv (X.suite a ((a, oe) :: (X.pn ++ pins))) [] σ H s := by
  obtain ⟨oe, vs, he, hz, hd⟩ := A.fl.there
  have nfr : a ∉ frs (X.env :: X.outer) := by
    intro hm
    obtain ⟨_, o', e', hnf⟩ := A.fl.2.2.1.mem hm
    rw [he] at e'
    cases e'
    exact hnf _ hd
  have m1 : X.env.locals ∈ frs (X.env :: X.outer) := List.mem_filterMap.mpr ⟨X.env, List.mem_cons_self, by rw [hf]⟩
  have m2 : ∀ b ∈ X.fs, b ∈ frs (X.env :: X.outer) := fun b hb => by
    obtain ⟨e, h1, h2⟩ := List.mem_filterMap.mp hb
    exact List.mem_filterMap.mpr ⟨e, List.mem_cons_of_mem _ h1, h2⟩
  exact ⟨oe, he, hz, ⟨vs, hd⟩, A.inv.suite he hd A.na (fun z => nfr (z ▸ m1)) fun z => nfr (m2 a z)⟩

theorem clauses_run (hs : X.stack = X.env :: X.outer) (hf : X.env.frame = some X.env.locals) (hN : X.N.Nodup) (tk : Takes X Wout) {hds : List ExceptHandler} {l : List (Value × Nat × Suite)} (C : Clauses X hds l) :
    ∀ {s : Shared}, Air X pins σ H sI a B cls d s → wClauses X.K Wout D l cls d σ H → wpAny (model X.prog X.w) X.A (handleBy (.ref a) X.env hds) (SP X pins D) X.xe s := by
  induction C with
  | nil =>
    intro s A w
    apply wpAny_handleBy_nil
    obtain ⟨k1, k2, k3, oe, vs, T, oT, ts', he, hz, hd, h1, hr⟩ := A.fl
    unfold PySem.passOn
    apply wpAny_bind
    apply wpAny_field he hd h1
    rw [if_neg (by simp)]
    have fin : wpAny (model X.prog X.w) X.A (setFlight (.ref a) X.env.frame) (fun _ s4 => wpAny (model X.prog X.w) X.A (throw (.ref a) : Sem Flow) (SP X pins D) X.xe s4) X.xe s := by
      rw [hf]
      exact HandSPX.setFlight_upZ A.fl fun h4 hh up4 => wpAny_throw (tk _ _ ⟨a, B, sI, pins, σ, H, cls, d, rfl, A.J, A.nb, A.up.trans up4, .inr (.inr (by rw [hs]; exact hh)), A.na, A.os, A.ag, w⟩)
    first
      | exact wpAny_bind fin
      | exact wpAny_bind (wpAny_pure (wpAny_bind fin))
  | @cons x n c i ts b0 suite p1 p2 hds l hc hi hl hsu r ih =>
    rintro s A ⟨b, hb, yes, no⟩
    obtain ⟨oe, he, hz, hd, S⟩ := A.suite hf
    refine wpAny_handleBy_cons (codeAny_handlers_test ?_) (by intro q; cases q)
    have ty : PySem.W.Looks (model X.prog X.w) s.heap (typeOf (.ref a)) cls := fun A Q E s' k q => wpAny_typeOf_ref (k _ _ he) (by rw [hz.1]; exact q)
    have mt := PySem.W.exm_one (M := model X.prog X.w) A.inv.kIn ty hb
    have cl : ∀ {Q : Value → Shared → Prop} {E : Value → Shared → Prop}, Q c s → wpAny (model X.prog X.w) (X.A.mark (some (.ref a))) (eval (.Name x p1) X.env) Q E s := fun {Q E} q => by
      obtain ⟨g1, g2, g3 | ⟨g3, g4, g5⟩⟩ := hc
      · exact ld_glob (X := X.suite a ((a, oe) :: (X.pn ++ pins))) S g1 g3 q g2
      · exact ld_blt (X := X.suite a ((a, oe) :: (X.pn ++ pins))) S g1 g3 g4 q g5 g2
    apply cl
    apply mt.here
    cases b with
    | false => exact ih A (no rfl)
    | true =>
      apply codeAny_handlers_suite_as
      apply HandSPX.lands_againZ A.fl
      intro h4 fl4 up4
      have A4 := A.on fl4 up4
      obtain ⟨oe4, he4, hz4, hd4, S4⟩ := A4.suite hf
      apply store_ok (X := X.suite a ((a, oe4) :: (X.pn ++ pins))) (v := .ref a) S4 hN hi (.inl hl) rfl ?_ (.inr hl)
      intro s5 S5
      refine wpAny_mono ((hsu a oe4 cls d (X.pn ++ pins) hz4 hd4).run [] s5 _ H _ S5 (yes rfl a A.na)) ?_ (fun _ _ z => False.elim z)
      have fin : ∀ {σ6 : L2.St} {H6 : Hp} {s6 : Shared} {Q : Shared → Prop}, Inv (X.suite a ((a, oe4) :: (X.pn ++ pins))) [] σ6 H6 s6 → (∀ s7, Inv X pins (σ6.set i none) H6 s7 → Q s7) →
          wpAny (model X.prog X.w) X.A (do bindName X.env n .none; unbindBehindTheSuite X.env n p2) (fun _ s7 => Q s7) X.xe s6 := fun S6 hq => gone_ok (S6.unsuite A.J.ok) hN hi hl hq
      rintro (_ | _ | _ | u) s6 hsp
      · obtain ⟨σ6, H6, S6, q6⟩ := hsp
        exact fin S6 fun s7 J7 => ⟨_, _, J7, q6⟩
      · obtain ⟨σ6, H6, S6, q6⟩ := hsp
        exact fin S6 fun s7 J7 => ⟨_, _, J7, q6⟩
      · obtain ⟨σ6, H6, S6, q6⟩ := hsp
        exact fin S6 fun s7 J7 => ⟨_, _, J7, q6⟩
      · obtain ⟨v6, σ6, H6, S6, r6, q6⟩ := hsp
        exact fin S6 fun s7 J7 => ⟨_, _, _, J7, r6, q6⟩

theorem ps_try_clauses {body : List Stmt} {h0 : ExceptHandler} {hds : List ExceptHandler} {l : List (Value × Nat × Suite)} {pos : Pos} {tb : WX → TS} (hs : X.stack = X.env :: X.outer) (hf : X.env.frame = some X.env.locals) (hN : X.N.Nodup) (tk : Takes X Wout)
    (hb : ∀ (W : WX) (pn : List (Addr × Obj)) (xe : Value → Shared → Prop), Takes (X.tr pn xe) W → PassesOwn (model X.prog X.w) X.A X.env xe → PSs (X.tr pn xe) body (tb W)) (C : Clauses X (h0 :: hds) l) :
    PS X (.Try body (h0 :: hds) [] [] pos) (fun D σ H => tb (wClauses X.K Wout D l) D σ H) := by
  constructor
  intro pins s σ H D I h
  have ok := I.ok
  apply wpAny_Try_except
  refine wpAny_mono ((hb (wClauses X.K Wout D l) (X.pn ++ pins) _ ?_ PassesOwn.looking).run [] s σ H D (I.toTry _) h) ?_ (fun e s1 he => he)
  · rintro u s' ⟨a, B, sI, pins', σ', H', cls, d, rfl, J', nb, up, sky, na, os, ag, w⟩
    show wpAny (model X.prog X.w) X.A (noteFrame (.ref a) X.env) _ _ _
    apply Sky.land Zc.steady (by rw [ok.frames, hs]) hf (by rw [← hs]; exact sky)
    intro h3 fl3 up3
    exact clauses_run hs hf hN tk C ⟨J'.ofTry ok, nb, up.trans up3, fl3, na, os, ag⟩ w
  · rintro (_ | _ | _ | u) s1 hsp
    · obtain ⟨σ', H', J', q⟩ := hsp
      exact wpAny_execs_nil ⟨σ', H', J'.ofTry ok, q⟩
    · obtain ⟨σ', H', J', q⟩ := hsp
      exact ⟨σ', H', J'.ofTry ok, q⟩
    · obtain ⟨σ', H', J', q⟩ := hsp
      exact ⟨σ', H', J'.ofTry ok, q⟩
    · obtain ⟨v, σ', H', J', r, q⟩ := hsp
      exact ⟨v, σ', H', J'.ofTry ok, r, q⟩
end
end Lx

set_option Elab.async false
set_option linter.all false
set_option maxRecDepth 100000
set_option maxHeartbeats 4000000
/-! isinstance of a caught error that bears fields; raise of an error whose __init__ stores one field -/
namespace PySem.W
open PySem PySem.Spec PySem.Calls PyProof.Rows L2
theorem found_data {K : Frag} {C : Addr} {od : Option Obj} {name : Str} {a g : Value} (hc : (clsIn K C).isSome = true) (ha : findIn K (.ref C) name = some (some a)) (hg : specialIn K a "__get__" = some (some g)) (ht : takesIn K a = some true) :
    findObj K C od name = some (.bind g a) := by
  cases hq : clsIn K C with
  | none => rw [hq] at hc; cases hc
  | some cd => simp [findObj, hq, ha, hg, ht]
theorem exc_class_attr {prog : Program} {w : World} {A : Around} {E : Value → Shared → Prop} {s : Shared} {K : Frag} {x D : Addr} {ox : Obj} {od : Option Obj} {Q : Option Value → Shared → Prop} (C : ExcC K D) (X : K.In s.heap) (I : InstAt s.heap x ox D od)
    (h : Q (some (.ref D)) { s with toks := s.toks + 1 }) : wpAny (model prog w) A (getAttr? (.ref x) "__class__") Q E s := by
  have hc : (clsIn K D).isSome = true := by
    obtain ⟨cd, z, _⟩ := any_some C.hd
    rw [z]
    rfl
  have ff := found_data (od := od) hc C.ha C.hn C.ht
  obtain ⟨hp, g, d, t, os⟩ := s
  have l0 := I.type (M := model prog w)
  have l1 := looks_findIn (M := model prog w) X C.hg
  have l2 := looks_findIn (M := model prog w) X C.hk
  have l3 := looks_find (M := model prog w) X I ff
  have isExc : Looks (model prog w) hp (isInstance (.ref x) (.type "BaseException")) true := l0.andThen (looks_subIn X C.hs)
  have z0 : (false && onTheHeap (Value.builtin "BaseException.__getattribute__")) = false := rfl
  have z1 : (onTheHeap (Value.ref D) && Value.builtin "BaseException.__getattribute__" == Value.builtin "object.__getattribute__") = false := by
    rw [show (Value.builtin "BaseException.__getattribute__" == Value.builtin "object.__getattribute__") = false by decide +kernel, Bool.and_false]
  unfold getAttr? getAttrBy? getAttrBy
  apply wpAny_bind
  apply wpAny_mkText
  apply wpAny_bind
  apply wpAny_attempt
  apply wpAny_holding
  apply wpAny_bind
  apply l0.at
  apply wpAny_bind
  apply l1.at
  show wpAny _ _ (if (onTheHeap (Value.ref D) && Value.builtin "BaseException.__getattribute__" == Value.builtin "object.__getattribute__") = true then _ else _) _ _ _
  rw [z1, if_neg Bool.false_ne_true]
  unfold getAttrByItsOwn hookBefore
  apply wpAny_bind
  rw [if_pos (show onTheHeap (Value.ref D) = true from rfl)]
  apply l2.at
  apply wpAny_bind
  apply wpAny_attempt
  apply wpAny_holding
  unfold callGetattribute
  rw [z0, if_neg Bool.false_ne_true]
  unfold boundAndCalled
  rw [PySem.F.excAttr_ValueError.ga.bind (.ref x)]
  apply wpAny_bind
  apply wpAny_pure
  show wpAny _ _ (call (.builtin "BaseException.__getattribute__") [.ref x, .str "__class__" t]) _ _ _
  apply wpAny_call
  apply codeAny_call_builtin PySem.F.excAttr_ValueError.ga.plain PySem.F.entry_bexc_ga
  refine @check_slot (model prog w) _ _ ⟨hp, g, d, t + 1, os⟩ "BaseException.__getattribute__" "BaseException" "__getattribute__" (.ref x) [.str "__class__" t] [] _ (by decide +kernel) (by decide +kernel) isExc (PySem.F.args_bexc_ga (.ref x) (.str "__class__" t)) ?_
  unfold Builtin.«object.__getattribute__»
  refine wpAny_bind (wpAny_of_eq (a := ((Value.ref x : Value), [Value.str "__class__" t])) (by first | rfl | (simp only [slotArgs]; rfl)) ?_)
  apply wpAny_bind
  apply wpAny_pure
  apply wpAny_bind
  apply l0.at
  apply wpAny_bind
  apply l3.at
  show wpAny _ _ (holding [Value.builtin "object.__class__"] (call (.builtin "getset_descriptor.__get__") [.builtin "object.__class__", .ref x, .ref D]) >>= ret) _ _ _
  apply wpAny_bind
  apply wpAny_holding
  apply wpAny_call
  apply class_get (s := ⟨hp, g, d, t + 1, os⟩) (ox := ox) (od := od) X I C.hm
  apply wpAny_pure
  show wpAny _ _ (handedOut (.ref D)) _ _ _
  rw [handedOut_of (v := .ref D) rfl]
  first
    | exact wpAny_pure (wpAny_pure h)
    | exact wpAny_pure h
    | exact wpAny_pure (wpAny_bind (wpAny_pure (wpAny_pure h)))
theorem kit_exc {K : Frag} {x D : Addr} {ox : Obj} {od : Option Obj} (C : ExcC K D) : KitX K (.ref x) (.ref D) (fun h => InstAt h x ox D od) := by
  have ex : ∃ o : Obj, K.lookup D = some o ∧ (∃ c d cd sl, o = ⟨c, d, .cls cd, sl⟩) := by
    obtain ⟨cd, hc, _⟩ := any_some C.hd
    unfold clsIn at hc
    split at hc
    · rename_i c' d' cd' sl' ho
      exact ⟨_, ho, _, _, _, _, rfl⟩
    · cases hc
  refine { ty := fun _ _ _ I => I.type, it := ?_, ne := ?_, ca := fun X I k => exc_class_attr C X I k }
  · intro M h X I A' Q' E' s' k q
    obtain ⟨o, ho, c, d, cd, sl, rfl⟩ := ex
    unfold isType loadHead
    exact wpAny_bind (wpAny_loadPart (k _ _ (X _ _ ho)) (wpAny_pure q))
  · intro h tp dd its n sl X htp
    obtain ⟨o, ho, c, d, cd, sl2, rfl⟩ := ex
    apply Bool.eq_false_iff.mpr
    intro q
    have e : D = tp := Value.ref.inj (beq_iff_eq.mp q)
    subst e
    have z := (X _ _ ho).symm.trans htp
    cases z
end PySem.W
namespace Lx
open PySem PySem.Spec PyProof.Rows L2
/-- isinstance(e, c), e the exception that the suite holds, its fields in the dict at dd -/
def rIsF (K : PySem.W.Frag) (D a dd : Addr) : List V → Hp → VK → Prop := fun xs H Q => ∃ (c : V) (cv : Value) (b : Bool) (fs : List (Str × V)), xs = [.ref a, c] ∧ (∀ u, RelV c u → u = cv) ∧ PySem.W.kitOne K (.ref D) cv = some b ∧ H dd = some (.xd fs) ∧ Q (.bl b) H
theorem call_isF {X : Cx} {a D dd : Addr} {oe : Obj} {pn : List (Addr × Obj)} (C : ExcC X.K D) (hz : Zc (.ref D) (some dd) oe) (hf : ∃ vs, oe.data = .fields vs) : CallR (X.suite a ((a, oe) :: pn)) (.builtin "isinstance") (rIsF X.K D a dd) := by
  rintro pins s σ H xs us Q I r ⟨c, cv, b, fs, rfl, hcv, e, hd, q⟩
  obtain ⟨u1, u2, rfl, r1, r2⟩ := vals2 r
  cases r1
  have ec := hcv _ r2
  subst ec
  obtain ⟨hget, _⟩ := I.pin (a, oe) (List.mem_append.mpr (.inl List.mem_cons_self))
  obtain ⟨mA, hns, _⟩ := (show ObjOk X.prog X.w H s.heap dd (.xd fs) from I.hok dd _ hd)
  obtain ⟨od, ho, _⟩ := lookIn_ns hns
  have J : PySem.W.InstAt s.heap a oe D (some od) := by
    obtain ⟨vs, hv⟩ := hf
    obtain ⟨h1, h2⟩ := hz
    obtain ⟨oc, odx, oda, osl⟩ := oe
    dsimp only at h1 h2 hv
    subst h1 h2 hv
    exact ⟨hget, rfl, rfl, ho⟩
  exact PySem.W.kia_one (PySem.W.kit_exc C) I.kIn J e (fun z => nomatch z) fun tk => ⟨.bl b, H, I.kept (t' := tk) fun _ _ z => z, rfl, q⟩

/-! ### an error class whose __init__ stores one field «at» -/
def errSp (C : Addr) (fld : Str) : Sp := fun vs H Q _ => ∃ a v, vs = [.ref a, v] ∧ H a = some (exo a C none) ∧ ∀ dx, H dx = none → dx ≠ a → Q .non (upd (upd H dx (exd dx [(fld, v)])) a (exo a C (some dx)))
/-- the class x over ValueError, at C -/
structure Err (P : Program) (w : World) (K : PySem.W.Frag) (mg : Str → Option Value) (base : Heap) (x fld : Str) (C : Addr) : Prop where
  T : OexC K C
  xf : XfC K C
  ec : ExcC K C
  no : PySem.W.findIn K (.ref C) fld = some none
  gC : mg x = some (.ref C)
  ini : ∃ fI fd k ps, PySem.W.findIn K (.ref C) "__init__" = some (some (.ref fI)) ∧ PySem.W.typeIn K (.ref fI) = some (.type "function") ∧ k ≤ 1 ∧ FnOk P w K mg base L2.CX0 k fI fd ps (errSp C fld) ∧ Binds K fd ps []
def tErr (C : Addr) (fld : Str) (W : WX) (te : TE) : TS := fun _ σ H => tMkO C (errSp C fld) [] (tCons te tNil) σ H fun cls d H' => W cls d σ H'
/-- behind the argument's reading -/
theorem err_in {C : Addr} {fld : Str} {v : V} {H1 : Hp} {Q : XK} (h : ∀ d H', Same H1 H' → H1 d = none → H' d = some (.xd [(fld, v)]) → Q (.ref C) (some d) H') :
    ([v] : List V).length ≤ 1000 ∧ ∀ a, H1 a = none → errSp C fld (.ref a :: ([v] ++ [])) (upd H1 a (exo a C none))
      (fun u H2 => u = .non ∧ ∃ (d : Addr) (fs : List (Str × V)), H2 a = some (exo a C (some d)) ∧ H2 d = some (exd d fs) ∧ H1 d = none ∧ Q (.ref C) (some d) (upd (del H2 a) d (.xd fs))) (fun _ _ _ => False) := by
  refine ⟨Nat.succ_le_succ (Nat.zero_le _), fun a na => ⟨a, v, rfl, upd_same, fun dx nd ne => ⟨rfl, dx, [(fld, v)], upd_same, ?_, ?_, ?_⟩⟩⟩
  · rw [upd_ne ne, upd_same]
  · rw [upd_ne ne] at nd
    exact nd
  · rw [upd_ne ne] at nd
    refine h dx _ (fun b o z => ?_) nd upd_same
    have n1 : b ≠ dx := ne_of_none z nd
    have n2 : b ≠ a := ne_of_none z na
    rw [upd_ne n1, del_ne n2, upd_ne n2, upd_ne n1, upd_ne n2]
    exact z
theorem ps_raiseErr {X : Cx} {C : Addr} {x fld : Str} {e : Expr} {te : TE} {W : WX} {p pos pos2 : Pos} (hc : X.calm = true) (Er : Err X.prog X.w X.K X.mg X.base x fld C) (hr : Room 2 X.A) (tk : Takes X W) (he : PE X e te) (hg : Gl X x := by rfl)
    (hdb : (x == ("__debug__" : Str)) = false := by decide) (h1 : starEach [e] X.env = (false, eval e X.env) :: starEach [] X.env := by rfl) (h2 : (backTo pos (starEach [] X.env)).any (·.1) = false := by rfl) :
    PS X (.Raise (some (.Call (.Name x p) [e] [] pos)) none pos2) (tErr C fld W te) := by
  obtain ⟨fI, fd, k, ps, i1, i2, hk, F1, hb⟩ := Er.ini
  exact ps_raise (pos := pos2) hc tk (pmk_oex (p := p) (dvs := []) (ds := []) Er.T i1 i2 F1 (hr.mono (by omega)) hb .nil pass0 hg Er.gC (pa_cons he pa_nil h1) hdb h1 h2)
/-- the class's own __init__ -/
theorem ok_errInit {P : Program} {w : World} {K : PySem.W.Frag} {mg : Str → Option Value} {base : Heap} {qual fld : Str} {C f : Addr} {fd : FuncData} {st : Stmt} {k0 : Nat} {p1 p2 p3 p4 : Pos} (T : OexC K C) (no : PySem.W.findIn K (.ref C) fld = some none)
    (F : Fun K "__init__" qual st f fd) (S : FnScope ["self", fld] ["self", fld] (defScope st)) (hB : defBody st = [.Assign [.Attribute (.Name "self" p1) fld p2] (.Name fld p3) p4]) (hd : (fld == ("__debug__" : Str)) = false) (hcd : (fld == ("__classdict__" : Str)) = false)
    (v1 : Vis (defScope st) "self") (v2 : Vis (defScope st) fld) (hsw : ∀ X : Cx, swapsWith (.Name fld p3) (some (.Attribute (.Name "self" p1) fld p2)) p4.line X.env = pure false) : FnOk P w K mg base L2.CX0 1 f fd ["self", fld] (errSp C fld) := by
  apply F.ok S
  · rintro vs H Q E ⟨a, v, rfl, _⟩
    rfl
  · rintro cdv A outer s H vs Q E hr ⟨a, v, rfl, ha, h⟩
    rw [hB]
    refine ⟨_, pss_one (ps_ost (pe_var (i := 0) rfl v1) (pe_var (i := 1) rfl v2 hd hcd) (hsw _)), ?_⟩
    exact ⟨v, rfl, .ref a, rfl, a, C, rfl, T, no, .inl ⟨ha, h⟩⟩
end Lx

set_option Elab.async false
set_option linter.all false
set_option maxRecDepth 100000
set_option maxHeartbeats 4000000
/-! short words: a def by its name; values of a known kind; what stays -/
namespace Lx
open PySem PySem.Spec PyProof.Rows L2

/-- the def x keeps sp -/
structure Has (P : Program) (w : World) (K : PySem.W.Frag) (mg : Str → Option Value) (base : Heap) (CX : CXT) (k : Nat) (x : Str) (ps : List Str) (sp : Sp) : Prop where
  ex : ∃ f fd, mg x = some (.ref f) ∧ PySem.W.keepIn K (.ref f) = true ∧ Binds K fd ps [] ∧ FnOk P w K mg base CX k f fd ps sp
structure HasG (P : Program) (w : World) (K : PySem.W.Frag) (mg : Str → Option Value) (base : Heap) (k : Nat) (x : Str) (ps : List Str) (sp : Sp) : Prop where
  ex : ∃ f fd, mg x = some (.ref f) ∧ PySem.W.keepIn K (.ref f) = true ∧ Binds K fd ps [] ∧ FnOkG P w K mg base L2.CX0 k f fd ps sp
section
variable {X : Cx} {k : Nat} {x : Str} {ps : List Str} {sp : Sp} {e : Expr} {es : List Expr} {p pos : Pos} {t : TA}
theorem pe_has (F : Has X.prog X.w X.K X.mg X.base L2.CX0 k x ps sp) (hr : Room k X.A) (hg : Gl X x) (ha : PA X (e :: es) t)
    (hdb : (x == ("__debug__" : Str)) = false := by decide) (he : starEach (e :: es) X.env = (false, eval e X.env) :: starEach es X.env := by rfl) (hpl : (backTo pos (starEach es X.env)).any (·.1) = false := by rfl) :
    PE X (.Call (.Name x p) (e :: es) [] pos) (tCall sp [] L2.E0 t) := by
  obtain ⟨f, fd, h1, h2, h3, h4⟩ := F.ex
  exact pe_callC (Lx.FnOk.callee h4 hr pass0) hg h1 h2 h3 ha hdb he hpl
theorem pe_hasG (F : HasG X.prog X.w X.K X.mg X.base k x ps sp) (hr : Room k X.A) (hgd : X.A.guards = some []) (hg : Gl X x) (ha : PA X (e :: es) t)
    (hdb : (x == ("__debug__" : Str)) = false := by decide) (he : starEach (e :: es) X.env = (false, eval e X.env) :: starEach es X.env := by rfl) (hpl : (backTo pos (starEach es X.env)).any (·.1) = false := by rfl) :
    PE X (.Call (.Name x p) (e :: es) [] pos) (tCall sp [] L2.E0 t) := by
  obtain ⟨f, fd, h1, h2, h3, h4⟩ := F.ex
  exact pe_callC (Lx.FnOkG.callee h4 hr hgd pass0) hg h1 h2 h3 ha hdb he hpl
/-- a def that may raise: E what is wished of the error -/
theorem pe_hasX {E : XK} {W : WX} (F : Has X.prog X.w X.K X.mg X.base (L2.CX X.prog X.w) k x ps sp) (hr : Room k X.A) (tk : Takes X W) (hW : ∀ cls d σ H, E cls d H → W cls d σ H) (hg : Gl X x) (ha : PA X (e :: es) t)
    (hdb : (x == ("__debug__" : Str)) = false := by decide) (he : starEach (e :: es) X.env = (false, eval e X.env) :: starEach es X.env := by rfl) (hpl : (backTo pos (starEach es X.env)).any (·.1) = false := by rfl) :
    PE X (.Call (.Name x p) (e :: es) [] pos) (tCall sp [] E t) := by
  obtain ⟨f, fd, h1, h2, h3, h4⟩ := F.ex
  exact pe_callC (Lx.FnOk.callee h4 hr (passes_call tk hW)) hg h1 h2 h3 ha hdb he hpl
end

/-! ### what stays -/
theorem sameT {K : PySem.W.Frag} {H H' : Hp} {a : Addr} {xs : List V} (e : Same H H') (h : SqT K H a xs) : SqT K H' a xs := by
  rcases h with (h | ⟨o, h⟩) | h
  · exact .inl (.inl (e _ _ h))
  · exact .inl (.inr ⟨o, e _ _ h⟩)
  · exact .inr h
theorem same_new {H : Hp} {p : Addr} {o : HO} (h : H p = none) : Same H (upd H p o) := fun b x e => by
  rw [upd_ne (ne_of_none e h)]
  exact e
mutual
theorem Same.dp {K : PySem.W.Frag} {H H' : Hp} (e : Same H H') : ∀ (d : PyData) (v : V), Dp K H v d → Dp K H' v d
  | .none, _, h => by cases h; exact .non
  | .bool b, _, h => by cases h; exact .bl b
  | .int i, _, h => by cases h; exact .int i
  | .str x, _, h => by cases h; exact .str x
  | .list ds, _, h => by
    cases h with
    | lst h1 h2 => exact .lst (e.seq h1) (Same.dps e ds _ h2)
  | .tuple ds, _, h => by
    cases h with
    | tup h1 h2 => exact .tup (sameT e h1) (Same.dps e ds _ h2)
  | .dict _, _, h => by cases h
theorem Same.dps {K : PySem.W.Frag} {H H' : Hp} (e : Same H H') : ∀ (ds : List PyData) (vs : List V), DpAll K H vs ds → DpAll K H' vs ds
  | [], _, h => by cases h; exact .nil
  | d :: ds, _, h => by
    cases h with
    | cons h1 h2 => exact .cons (Same.dp e d _ h1) (Same.dps e ds _ h2)
end

theorem walk_enumT {K : PySem.W.Frag} {a : Addr} {xs : List V} : Walk (ItEt K a) xs.length (fun H => SqT K H a xs) (YPair (fun i => some (.int (i : Nat))) (fun i => xs[i]?)) := by
  constructor
  · intro i H hi q
    exact ⟨xs, xs[i], q, by simp [hi]⟩
  · intro H q
    exact ⟨xs, q, rfl⟩
  · rintro i H v H' hi q ⟨T, x, h1, h2, h3, h4⟩
    exact ⟨T, .int (i : Nat), x, h1, h2, h3, rfl, h4 xs q⟩

/-! ### values of a known kind -/
inductive Vk (K : PySem.W.Frag) (H : Hp) : V → Prop
  | non : Vk K H .non
  | bl (b : Bool) : Vk K H (.bl b)
  | int (i : Int) : Vk K H (.int i)
  | str (s : Str) : Vk K H (.str s)
  | lst {a : Addr} {xs : List V} : SqL K H a xs → Vk K H (.ref a)
  | tup {a : Addr} {xs : List V} : SqT K H a xs → Vk K H (.ref a)
theorem Vk.same {K : PySem.W.Frag} {H H' : Hp} {v : V} (h : Vk K H v) (e : Same H H') : Vk K H' v := by
  cases h with
  | non => exact .non
  | bl b => exact .bl b
  | int i => exact .int i
  | str s => exact .str s
  | lst h => exact .lst (e.seq h)
  | tup h => exact .tup (sameT e h)
theorem ty_list {K : PySem.W.Frag} {H : Hp} {a : Addr} {xs : List V} (h : SqL K H a xs) : TyX K H (.ref a) (.type "list") := by
  rcases h with (h | ⟨o, h⟩) | ⟨o, its, n, h, hc, _⟩
  · exact .base (.lst h)
  · exact .base (.frz h)
  · exact .kList h hc
theorem ty_tuple {K : PySem.W.Frag} {H : Hp} {a : Addr} {xs : List V} (h : SqT K H a xs) : TyX K H (.ref a) (.type "tuple") := by
  rcases h with (h | ⟨o, h⟩) | ⟨o, its, n, h, hc, _⟩
  · exact .base (.tup h)
  · exact .fTuple h
  · exact .kTuple h hc
def tyName : V → String
  | .non => "NoneType"
  | .bl _ => "bool"
  | .int _ => "int"
  | .str _ => "str"
  | _ => "list"
/-- what is no int and no bool by its kind -/
def isI : V → Bool
  | .int _ => true
  | .bl _ => true
  | _ => false
def isB : V → Bool
  | .bl _ => true
  | _ => false
/-- the ints from lo to hi -/
def numV (v : V) (lo hi : Int) : Bool := match v with
  | .int i => decide (lo ≤ i) && decide (i ≤ hi)
  | _ => false
theorem Vk.asInt {K : PySem.W.Frag} {H : Hp} {v : V} (h : Vk K H v) : ∃ t, TyX K H v t ∧ PySem.W.kitOne K t (.type "int") = some (isI v) := by
  cases h with
  | non => exact ⟨_, .base .non, kit_ty (r := false) (by decide +kernel)⟩
  | bl b => exact ⟨_, .base (.bl b), kit_ty (r := true) (by decide +kernel)⟩
  | int i => exact ⟨_, .base (.int i), kit_ty (r := true) (by decide +kernel)⟩
  | str s => exact ⟨_, .base (.str s), kit_ty (r := false) (by decide +kernel)⟩
  | lst h => exact ⟨_, ty_list h, kit_ty (r := false) (by decide +kernel)⟩
  | tup h => exact ⟨_, ty_tuple h, kit_ty (r := false) (by decide +kernel)⟩
theorem Vk.asBool {K : PySem.W.Frag} {H : Hp} {v : V} (h : Vk K H v) : ∃ t, TyX K H v t ∧ PySem.W.kitOne K t (.type "bool") = some (isB v) := by
  cases h with
  | non => exact ⟨_, .base .non, kit_ty (r := false) (by decide +kernel)⟩
  | bl b => exact ⟨_, .base (.bl b), kit_ty (r := true) (by decide +kernel)⟩
  | int i => exact ⟨_, .base (.int i), kit_ty (r := false) (by decide +kernel)⟩
  | str s => exact ⟨_, .base (.str s), kit_ty (r := false) (by decide +kernel)⟩
  | lst h => exact ⟨_, ty_list h, kit_ty (r := false) (by decide +kernel)⟩
  | tup h => exact ⟨_, ty_tuple h, kit_ty (r := false) (by decide +kernel)⟩
/-- a list's or tuple's items -/
inductive Seq (K : PySem.W.Frag) (H : Hp) : V → List V → Prop
  | lst {a : Addr} {xs : List V} : SqL K H a xs → Seq K H (.ref a) xs
  | tup {a : Addr} {xs : List V} : SqT K H a xs → Seq K H (.ref a) xs
/-- none, a truth value, a number, a text -/
inductive Sca : V → Prop
  | non : Sca .non
  | bl (b : Bool) : Sca (.bl b)
  | int (i : Int) : Sca (.int i)
  | str (s : Str) : Sca (.str s)
theorem Sca.vk {K : PySem.W.Frag} {H : Hp} {v : V} (h : Sca v) : Vk K H v := by
  cases h with
  | non => exact .non
  | bl b => exact .bl b
  | int i => exact .int i
  | str s => exact .str s
theorem Seq.vk {K : PySem.W.Frag} {H : Hp} {v : V} {xs : List V} (h : Seq K H v xs) : Vk K H v := by
  cases h with
  | lst h => exact .lst h
  | tup h => exact .tup h
theorem Seq.same {K : PySem.W.Frag} {H H' : Hp} {v : V} {xs : List V} (h : Seq K H v xs) (e : Same H H') : Seq K H' v xs := by
  cases h with
  | lst h => exact .lst (e.seq h)
  | tup h => exact .tup (sameT e h)
theorem kitLT {K : PySem.W.Frag} {a : String} {b1 b2 : Bool} (h1 : PySem.W.kitOne K (.type a) (.type "list") = some b1) (h2 : PySem.W.kitOne K (.type a) (.type "tuple") = some b2) :
    PySem.W.kitAny K (.type a) [.type "list", .type "tuple"] = some (b1 || b2) := by
  refine kitAny_cons h1 (fun e => ?_) (fun e => by rw [e]; rfl)
  subst e
  refine kitAny_cons h2 (fun e => ?_) (fun e => by rw [e]; rfl)
  subst e
  exact kitAny_nil
theorem Seq.kit {K : PySem.W.Frag} {H : Hp} {v : V} {xs : List V} (h : Seq K H v xs) : ∃ t, TyX K H v t ∧ PySem.W.kitAny K t [.type "list", .type "tuple"] = some true := by
  cases h with
  | lst h => exact ⟨_, ty_list h, kitLT (b1 := true) (b2 := false) (kit_ty (by decide +kernel)) (kit_ty (by decide +kernel))⟩
  | tup h => exact ⟨_, ty_tuple h, kitLT (b1 := false) (b2 := true) (kit_ty (by decide +kernel)) (kit_ty (by decide +kernel))⟩
theorem Sca.kit {K : PySem.W.Frag} {H : Hp} {v : V} (h : Sca v) : ∃ t, TyX K H v t ∧ PySem.W.kitAny K t [.type "list", .type "tuple"] = some false := by
  cases h with
  | non => exact ⟨_, .base .non, kitLT (b1 := false) (b2 := false) (kit_ty (by decide +kernel)) (kit_ty (by decide +kernel))⟩
  | bl b => exact ⟨_, .base (.bl b), kitLT (b1 := false) (b2 := false) (kit_ty (by decide +kernel)) (kit_ty (by decide +kernel))⟩
  | int i => exact ⟨_, .base (.int i), kitLT (b1 := false) (b2 := false) (kit_ty (by decide +kernel)) (kit_ty (by decide +kernel))⟩
  | str s => exact ⟨_, .base (.str s), kitLT (b1 := false) (b2 := false) (kit_ty (by decide +kernel)) (kit_ty (by decide +kernel))⟩
end Lx

set_option Elab.async false
set_option linter.all false
set_option maxRecDepth 100000
set_option maxHeartbeats 4000000
/-! a list or a tuple walked; comprehensions whose element leaves all as it was -/
namespace Lx
open PySem PySem.Spec PyProof.Rows L2

/-- a def that may raise, called where it does not -/
theorem pe_hasN {X : Cx} {k : Nat} {x : Str} {ps : List Str} {sp : Sp} {e : Expr} {es : List Expr} {p pos : Pos} {t : TA} (F : Has X.prog X.w X.K X.mg X.base (L2.CX X.prog X.w) k x ps sp) (hr : Room k X.A) (hg : Gl X x) (ha : PA X (e :: es) t)
    (hdb : (x == ("__debug__" : Str)) = false := by decide) (he : starEach (e :: es) X.env = (false, eval e X.env) :: starEach es X.env := by rfl) (hpl : (backTo pos (starEach es X.env)).any (·.1) = false := by rfl) :
    PE X (.Call (.Name x p) (e :: es) [] pos) (tCall sp [] L2.E0 t) := by
  obtain ⟨f, fd, h1, h2, h3, h4⟩ := F.ex
  exact pe_callC (Lx.FnOk.callee h4 hr passL) hg h1 h2 h3 ha hdb he hpl

/-- len of a list or a tuple, the written part named -/
def rLenS (K : PySem.W.Frag) : List V → Hp → VK → Prop := fun xs H Q => ∃ p ys, xs = [V.ref p] ∧ (SqL K H p ys ∨ SqT K H p ys) ∧ Q (V.int (ys.length : Nat)) H
theorem lenS {X : Cx} : CallR X (.builtin "len") (rLenS X.K) := call_len_seq

/-- tuple(x) of a list or a tuple, the written part named -/
def rTupOf (K : PySem.W.Frag) : List V → Hp → VK → Prop := fun xs H Q => ∃ p ys, xs = [V.ref p] ∧ ((SqL K H p ys ∧ ∀ l, H l = none → Q (V.ref l) (upd H l (.tup ys))) ∨ (SqT K H p ys ∧ Q (V.ref p) H))
theorem tupOf {X : Cx} : CallR X (.type "tuple") (rTupOf X.K) := call_tuple_of

/-- a list or a tuple -/
def iSeq (K : PySem.W.Frag) (tl : TE) : TI := fun σ H R => tl σ H fun x H1 => ∃ a, x = .ref a ∧ ((∃ xs, SqL K H1 a xs ∧ R (Itl K a) H1) ∨ (∃ xs, SqT K H1 a xs ∧ R (Itt K a) H1))
theorem pi_seq {X : Cx} {tg l : Expr} {tl : TE} (hl : PE X l tl) : PI X tg l (iSeq X.K tl) := by
  constructor
  intro pins s σ H R I h
  apply thn (hl.run pins s σ H _ I h)
  rintro v s1 ⟨x, H1, I1, r1, a, rfl, q⟩
  cases r1
  have fpo : ∀ b ∈ [s1.heap.objs.size], FpOk X pins H1 b := fun b hb => by
    obtain rfl : b = s1.heap.objs.size := by simpa using hb
    exact I1.fpOk (Nat.le_refl _) (I1.hok.fresh (Nat.le_refl _))
  rcases q with ⟨xs, hq, q⟩ | ⟨xs, hq, q⟩
  · obtain ⟨its, rv, p, hz⟩ := I1.list hq
    exact wpAny_pyIter_list p.isList ⟨s1.heap.objs.size, [s1.heap.objs.size], _, _, H1, rfl, I1.kept (t' := s1.toks) fun b o e => Heap.get?_push_of_some _ e, turn_list a _, ⟨_, Heap.get?_push_size _ rfl, rfl, rfl⟩, fpo, q⟩
  · obtain ⟨its, rv, p, hz⟩ := I1.tuple hq
    exact wpAny_pyIter_tuple (show s1.heap.IsTuple a its.toArray from p) ⟨s1.heap.objs.size, [s1.heap.objs.size], _, _, H1, rfl, I1.kept (t' := s1.toks) fun b o e => Heap.get?_push_of_some _ e, turn_tuple a _, ⟨_, Heap.get?_push_size _ rfl, rfl, rfl⟩, fpo, q⟩

theorem yes_in {σ : L2.St} {H : Hp} {A B : Hp → Prop} (h : A H) : tYes σ H (fun b H3 => if b = true then A H3 else B H3) := by
  show (if true = true then A H else B H)
  exact iteT h

/-- behind i turns the new list at D holds what f gives of the turns that p lets; all else is as it was -/
def PvF (p : Nat → Bool) (f : Nat → V) (H1 : Hp) (D : Addr) (i : Nat) (H : Hp) : Prop := Same H1 H ∧ H D = some (.lst (((List.range i).filter p).map f))
theorem pvf0 {p : Nat → Bool} {f : Nat → V} {H1 : Hp} {D : Addr} (n : H1 D = none) : PvF p f H1 D 0 (upd H1 D (.lst [])) := ⟨same_new n, upd_same⟩
theorem range_put (p : Nat → Bool) (f : Nat → V) (i : Nat) (h : p i = true) : ((List.range (i + 1)).filter p).map f = ((List.range i).filter p).map f ++ [f i] := by
  rw [List.range_succ, List.filter_append, List.map_append]
  simp [h]
theorem range_skip (p : Nat → Bool) (f : Nat → V) (i : Nat) (h : p i = false) : ((List.range (i + 1)).filter p).map f = ((List.range i).filter p).map f := by
  rw [List.range_succ, List.filter_append, List.map_append]
  simp [h]
theorem range_len (p : Nat → Bool) (f : Nat → V) (i : Nat) : (((List.range i).filter p).map f).length ≤ i := by
  rw [List.length_map]
  have := List.length_filter_le p (List.range i)
  rwa [List.length_range] at this
theorem pvf_put {p : Nat → Bool} {f : Nat → V} {H1 H H4 : Hp} {D : Addr} {i : Nat} {y : V} (n : H1 D = none) (h : PvF p f H1 D i H) (s : Same H H4) (hp : p i = true) (e : y = f i) (hi : i < 1000000) :
    ∃ acc, H4 D = some (.lst acc) ∧ acc.length < sizeLine ∧ PvF p f H1 D (i + 1) (upd H4 D (.lst (acc ++ [y]))) := by
  refine ⟨_, s _ _ h.2, ?_, fun b o z => ?_, ?_⟩
  · have := range_len p f i
    rw [sizeLine_eq]
    omega
  · rw [upd_ne (ne_of_none z n)]
    exact s _ _ (h.1 _ _ z)
  · rw [upd_same, range_put p f i hp, e]
theorem pvf_skip {p : Nat → Bool} {f : Nat → V} {H1 H H4 : Hp} {D : Addr} {i : Nat} (h : PvF p f H1 D i H) (s : Same H H4) (hp : p i = false) : PvF p f H1 D (i + 1) H4 :=
  ⟨h.1.trans s, by rw [range_skip p f i hp]; exact s _ _ h.2⟩
theorem filter_true (n : Nat) : (List.range n).filter (fun _ => true) = List.range n := List.filter_eq_self.mpr fun _ _ => rfl
theorem range_get {xs : List V} : (List.range xs.length).map (fun i => xs.getD i .non) = xs := by
  apply List.ext_getElem
  · simp
  · intro i h1 h2
    simp [h2]
theorem range_get_map {α : Type} {xs : List V} (g : V → α) : (List.range xs.length).map (fun i => g (xs.getD i .non)) = xs.map g := by
  apply List.ext_getElem
  · simp
  · intro i h1 h2
    have h3 : i < xs.length := by simpa using h1
    simp [h3]
end Lx

set_option Elab.async false
set_option linter.all false
set_option maxRecDepth 100000
set_option maxHeartbeats 4000000
/-! data: what repr and == ask of them -/
namespace Lx
open PySem PySem.Spec PyProof.Rows L2

structure Neat (d : PyData) (dep wt : Nat) : Prop where
  lay : d.canLay0 = true
  dep : d.depth ≤ dep
  wt : d.weight ≤ wt
  shw : d.showable = true
  nod : d.hasDict = false
  ls : d.leavesShort 13 = true
theorem Neat.mono {d : PyData} {a b a' b' : Nat} (h : Neat d a b) (h1 : a ≤ a') (h2 : b ≤ b') : Neat d a' b' := ⟨h.lay, by have := h.dep; omega, by have := h.wt; omega, h.shw, h.nod, h.ls⟩
theorem Neat.shaped {d : PyData} {a b : Nat} (h : Neat d a b) (h1 : a ≤ 64) : SeqAt.shaped d = true := by
  unfold SeqAt.shaped
  rw [h.lay, Bool.true_and, decide_eq_true_eq]
  have := h.dep
  omega
theorem log2_lt {n : Nat} (h : n < 10 ^ 12) : n.log2 < 1920 := by
  by_cases z : n = 0
  · subst z
    decide
  · rw [Nat.log2_lt z]
    exact Nat.lt_of_lt_of_le (Nat.lt_trans h (show 10 ^ 12 < 2 ^ 40 by decide)) (Nat.pow_le_pow_right (by decide) (by decide))
theorem neat_none : Neat .none 0 0 := ⟨rfl, Nat.le_refl _, Nat.le_refl _, rfl, rfl, rfl⟩
theorem neat_bool (b : Bool) : Neat (.bool b) 0 0 := ⟨rfl, Nat.le_refl _, Nat.le_refl _, rfl, rfl, rfl⟩
theorem neat_int {i : Int} (h : i.natAbs < 10 ^ 12) : Neat (.int i) 0 40 := by
  refine ⟨rfl, Nat.le_refl _, ?_, ?_, rfl, ?_⟩
  · show (if (i == 0) = true then 0 else i.natAbs.log2 + 1) ≤ 40
    split
    · omega
    · by_cases z : i.natAbs = 0
      · rw [z]
        decide
      · have := (Nat.log2_lt z (k := 40)).mpr (Nat.lt_trans h (by decide))
        omega
  · exact decide_eq_true (log2_lt h)
  · exact decide_eq_true (PyData.shown_int_le h)
theorem neat_all {ds : List PyData} {a b : Nat} (h : ∀ d ∈ ds, Neat d a b) : PyData.canLayAll0 ds = true ∧ PyData.depthAll ds ≤ a ∧ PyData.weightAll ds ≤ ds.length * (b + 1) ∧ PyData.showableAll ds = true ∧ PyData.hasDictAll ds = false ∧ PyData.leavesShortAll 13 ds = true := by
  induction ds with
  | nil => exact ⟨rfl, Nat.zero_le _, Nat.zero_le _, rfl, rfl, rfl⟩
  | cons d ds ih =>
    obtain ⟨i1, i2, i3, i4, i5, i6⟩ := ih fun x hx => h x (List.mem_cons_of_mem _ hx)
    have k := h d List.mem_cons_self
    refine ⟨?_, ?_, ?_, ?_, ?_, ?_⟩
    · show (d.canLay0 && PyData.canLayAll0 ds) = true
      rw [k.lay, i1]
      rfl
    · show max d.depth (PyData.depthAll ds) ≤ a
      have := k.dep
      omega
    · show d.weight + 1 + PyData.weightAll ds ≤ (ds.length + 1) * (b + 1)
      have := k.wt
      rw [Nat.add_mul]
      omega
    · show (d.showable && PyData.showableAll ds) = true
      rw [k.shw, i4]
      rfl
    · show (d.hasDict || PyData.hasDictAll ds) = false
      rw [k.nod, i5]
      rfl
    · show (d.leavesShort 13 && PyData.leavesShortAll 13 ds) = true
      rw [k.ls, i6]
      rfl
theorem neat_list {ds : List PyData} {a b : Nat} (h : ∀ d ∈ ds, Neat d a b) : Neat (.list ds) (a + 1) (ds.length * (b + 1)) := by
  obtain ⟨i1, i2, i3, i4, i5, i6⟩ := neat_all h
  exact ⟨i1, Nat.succ_le_succ i2, i3, i4, i5, i6⟩
theorem neat_tuple {ds : List PyData} {a b : Nat} (h : ∀ d ∈ ds, Neat d a b) : Neat (.tuple ds) (a + 1) (ds.length * (b + 1)) := by
  obtain ⟨i1, i2, i3, i4, i5, i6⟩ := neat_all h
  exact ⟨i1, Nat.succ_le_succ i2, i3, i4, i5, i6⟩
theorem neat_ints {ds : List Int} (h : ∀ d ∈ ds, d.natAbs < 10 ^ 12) : ∀ d ∈ ds.map PyData.int, Neat d 0 40 := fun d hd => by
  obtain ⟨i, hi, rfl⟩ := List.mem_map.mp hd
  exact neat_int (h i hi)
/-- what repr asks of a datum -/
structure RepOk (d : PyData) : Prop where
  ex : ∃ a b, Neat d a b ∧ a ≤ 64 ∧ b ≤ 2 ^ 20
theorem Neat.rep {d : PyData} {a b : Nat} (h : Neat d a b) (ha : a ≤ 64 := by decide) (hb : b ≤ 2 ^ 20 := by decide) : RepOk d := ⟨a, b, h, ha, hb⟩
def rRepr (K : PySem.W.Frag) : List V → Hp → VK → Prop := fun xs H Q => ∃ v d, xs = [v] ∧ Dp K H v d ∧ RepOk d ∧ Q (.str d.shown) H
theorem call_reprS {X : Cx} (hu : X.A.units + 200 < cLine) (hg : X.A.guards = some []) : CallR X (.builtin "repr") (rRepr X.K) := by
  rintro pins s σ H xs us Q I r ⟨v, d, rfl, hd, ⟨a, b, h, ha, hb⟩, q⟩
  refine call_reprD hu hg pins s σ H [v] us Q I r ⟨v, d, rfl, hd, h.shw, h.nod, Nat.le_trans h.dep ha, h.ls, Nat.le_trans h.wt hb, fun i e => ?_, q⟩
  have z := h.shw
  subst e
  exact of_decide_eq_true z

/-! ### == -/
theorem eqvAll_ints : ∀ (xs ys : List Int), PyData.eqvAll (xs.map PyData.int) (ys.map PyData.int) = decide (xs = ys)
  | [], [] => rfl
  | [], _ :: _ => rfl
  | _ :: _, [] => rfl
  | x :: xs, y :: ys => by
    show ((x == y) && PyData.eqvAll (xs.map PyData.int) (ys.map PyData.int)) = _
    rw [eqvAll_ints xs ys, Bool.eq_iff_iff]
    simp
theorem eqv_tuple_ints (xs ys : List Int) : PyData.eqv (.tuple (xs.map PyData.int)) (.tuple (ys.map PyData.int)) = decide (xs = ys) := eqvAll_ints xs ys
theorem eqv_list_ints (xs ys : List Int) : PyData.eqv (.list (xs.map PyData.int)) (.list (ys.map PyData.int)) = decide (xs = ys) := eqvAll_ints xs ys
theorem dps_ints {K : PySem.W.Frag} {H : Hp} : ∀ (xs : List Int), DpAll K H (xs.map V.int) (xs.map PyData.int)
  | [] => .nil
  | x :: xs => .cons (.int x) (dps_ints xs)
theorem dp_tuple_ints {K : PySem.W.Frag} {H : Hp} {a : Addr} {xs : List Int} (h : SqT K H a (xs.map V.int)) : Dp K H (.ref a) (.tuple (xs.map PyData.int)) := .tup h (dps_ints xs)
theorem dp_list_ints {K : PySem.W.Frag} {H : Hp} {a : Addr} {xs : List Int} (h : SqL K H a (xs.map V.int)) : Dp K H (.ref a) (.list (xs.map PyData.int)) := .lst h (dps_ints xs)
theorem shaped_ints_any {xs : List Int} : PyData.canLayAll0 (xs.map PyData.int) = true ∧ PyData.depthAll (xs.map PyData.int) = 0 := by
  induction xs with
  | nil => exact ⟨rfl, rfl⟩
  | cons x xs ih => exact ⟨by show (true && PyData.canLayAll0 _) = true; rw [ih.1]; rfl, by show max 0 (PyData.depthAll _) = 0; rw [ih.2]; rfl⟩
theorem shaped_tuple_ints (xs : List Int) : SeqAt.shaped (.tuple (xs.map PyData.int)) = true := by
  obtain ⟨h1, h2⟩ := shaped_ints_any (xs := xs)
  show (PyData.canLayAll0 (xs.map PyData.int) && decide (PyData.depthAll (xs.map PyData.int) + 1 ≤ 64)) = true
  rw [h1, h2]
  rfl
theorem shaped_list_ints (xs : List Int) : SeqAt.shaped (.list (xs.map PyData.int)) = true := by
  obtain ⟨h1, h2⟩ := shaped_ints_any (xs := xs)
  show (PyData.canLayAll0 (xs.map PyData.int) && decide (PyData.depthAll (xs.map PyData.int) + 1 ≤ 64)) = true
  rw [h1, h2]
  rfl

/-! ### slices -/
theorem cut_from (xs : List V) (s : Nat) : cutV xs (some (s : Int)) none = xs.drop s := by
  unfold cutV
  rw [HT.sIx_nat, HT.sIx_none]
  rcases Nat.le_total s xs.length with h | h
  · rw [Nat.min_eq_left h, List.take_of_length_le (by rw [List.length_drop]; exact Nat.le_refl _)]
  · rw [Nat.min_eq_right h, List.drop_of_length_le (Nat.le_refl _), List.drop_of_length_le h, List.take_nil]
theorem cut_to (xs : List V) (s : Nat) : cutV xs none (some (s : Int)) = xs.take s := by
  unfold cutV
  rw [HT.sIx_nat, HT.sIx_none]
  show (xs.drop 0).take (min s xs.length - 0) = xs.take s
  rw [List.drop_zero, Nat.sub_zero]
  rcases Nat.le_total s xs.length with h | h
  · rw [Nat.min_eq_left h]
  · rw [Nat.min_eq_right h, List.take_of_length_le (Nat.le_refl _), List.take_of_length_le h]
end Lx

set_option Elab.async false
set_option linter.all false
set_option maxRecDepth 100000
set_option maxHeartbeats 4000000
/-! a def called with every parameter by its name, in the reverse order -/
namespace Lx
open PySem PySem.Spec PyProof.Rows L2
def gRev (us ws : List Value) : List Value := match us with
  | [] => ws.reverse
  | _ => []
def gRevV (vs zs : List V) : List V := match vs with
  | [] => zs.reverse
  | _ => []
theorem vals_reverse : ∀ {xs : List V} {us : List Value}, Vals xs us → Vals xs.reverse us.reverse
  | _, _, .nil => .nil
  | x :: xs, u :: us, .cons r t => by
    rw [List.reverse_cons, List.reverse_cons]
    exact Vals.append (vals_reverse t) (.cons r .nil)
theorem rev_rel {vs : List V} {us : List Value} {zs : List V} {ws : List Value} (r : Vals vs us) (s : Vals zs ws) : Vals (gRevV vs zs) (gRev us ws) := by
  cases r with
  | nil => exact vals_reverse s
  | cons _ _ => exact .nil
structure HasR (P : Program) (w : World) (K : PySem.W.Frag) (mg : Str → Option Value) (base : Heap) (CX : CXT) (k : Nat) (x : Str) (ps ks : List Str) (sp : Sp) : Prop where
  ex : ∃ f fd, mg x = some (.ref f) ∧ PySem.W.keepIn K (.ref f) = true ∧ KBinds K fd ps ks gRev gRevV ∧ FnOk P w K mg base CX k f fd ps sp
theorem pe_hasR {X : Cx} {k : Nat} {x : Str} {ps ks : List Str} {sp : Sp} {p pos : Pos} {kws : List Keyword} {tk : TA} (F : HasR X.prog X.w X.K X.mg X.base (L2.CX X.prog X.w) k x ps ks sp) (hr : Room k X.A) (hg : Gl X x) (hkw : PK X kws tk)
    (hall : (backToKw pos (keywordEach kws X.env)).all (·.1.isSome) = true := by rfl) (hks : (backToKw pos (keywordEach kws X.env)).filterMap (·.1) = ks := by rfl)
    (hdb : (x == ("__debug__" : Str)) = false := by decide)
    (hpl : ((backTo pos (starEach [] X.env)).any (·.1) || (backToKw pos (keywordEach kws X.env)).any (·.1.isNone)) = false := by rfl) :
    PE X (.Call (.Name x p) [] kws pos) (tCallK sp gRevV L2.E0 tNil tk) := by
  obtain ⟨f, fd, h1, h2, h3, h4⟩ := F.ex
  exact pe_callKw0 (Lx.FnOk.callee h4 hr passL) hg h1 h2 h3 hkw hall hks hdb hpl
theorem kb2 {K : PySem.W.Frag} {fd : FuncData} {a b : Str} (h : ∀ (s : Shared) (u v : Value), K.In s.heap → BindsTo s fd ⟨[], [(b, u), (a, v)]⟩ [(a, v), (b, u)]) : KBinds K fd [a, b] [b, a] gRev gRevV where
  to := by
    rintro s us ws hK hl
    cases us with
    | cons _ _ => cases hl
    | nil =>
      match ws, hl with
      | [u, v], _ => exact h s u v hK
      | [], hl => cases hl
      | [_], hl => cases hl
      | _ :: _ :: _ :: _, hl => simp [gRev] at hl
  rel := rev_rel
theorem kb3 {K : PySem.W.Frag} {fd : FuncData} {a b c : Str} (h : ∀ (s : Shared) (u v x : Value), K.In s.heap → BindsTo s fd ⟨[], [(c, u), (b, v), (a, x)]⟩ [(a, x), (b, v), (c, u)]) : KBinds K fd [a, b, c] [c, b, a] gRev gRevV where
  to := by
    rintro s us ws hK hl
    cases us with
    | cons _ _ => cases hl
    | nil =>
      match ws, hl with
      | [u, v, x], _ => exact h s u v x hK
      | [], hl => cases hl
      | [_], hl => cases hl
      | [_, _], hl => cases hl
      | _ :: _ :: _ :: _ :: _, hl => simp [gRev] at hl
  rel := rev_rel
end Lx

set_option Elab.async false
set_option linter.all false
set_option maxRecDepth 100000
set_option maxHeartbeats 4000000
/-! lambdas that capture names: made (as a value, or handed to a def), called; with parameters -/
namespace Lx
open PySem PySem.Spec PyProof.Rows L2
abbrev lamQ (X : Cx) : Str := X.env.qual ++ "<lambda>"
/-- at f: the lambda of this text, made in X's frame, its code object at cc -/
def LamO (X : Cx) (ps : Arguments) (body : Expr) (sc : Scope) (f cc : Addr) : HO := .ext fun h => ∃ pm ctv : Value, h.get? f = some (PySem.W.kla_obj "<lambda>" (lamQ X) ps body sc (cloFrom X.env.cells sc.names []) pm cc ctv)
theorem LamO.not_tbl {X : Cx} {ps : Arguments} {body : Expr} {sc : Scope} {f cc : Addr} (z : Array Value) : LamO X ps body sc f cc ≠ .tbl z := fun e => by
  unfold LamO at e
  cases e
theorem LamX.codeO_nt {c : Addr} {q : Str} (ps : Array Value) : LamX.CodeO c q ≠ .tbl ps := LamX.codeO_ne ps
/-- a lambda's names: its parameters, captured ones, globals -/
structure LamN (sc scope : Scope) (ps : List Str) : Prop where
  kind : scope.kind = .function
  co : scope.isCoroutine = false
  gen : scope.isGenerator = false
  loc : ∀ y ∈ scope.names, y.2 = .local → y.1 ∈ ps
  nocell : ∀ y ∈ scope.names, y.2 ≠ .cell
  free : ∀ y ∈ scope.names, y.2 = .free → sc.names.lookup y.1 = some .cell ∨ sc.names.lookup y.1 = some .free
  par : ∀ p ∈ ps, scope.names.lookup p = some .local
def lamNB (sc scope : Scope) (ps : List Str) : Bool :=
  decide (scope.kind = .function) && (!scope.isCoroutine && (!scope.isGenerator && ((scope.names.all fun y => (!decide (y.2 = .local) || ps.contains y.1) && (!decide (y.2 = .cell) && (!decide (y.2 = .free) || (decide (sc.names.lookup y.1 = some .cell) || decide (sc.names.lookup y.1 = some .free))))) &&
    ps.all fun p => decide (scope.names.lookup p = some .local))))
theorem lamN_by {sc scope : Scope} {ps : List Str} (h : lamNB sc scope ps = true) : LamN sc scope ps := by
  unfold lamNB at h
  simp only [Bool.and_eq_true, Bool.or_eq_true, Bool.not_eq_true', decide_eq_true_eq, decide_eq_false_iff_not, List.all_eq_true] at h
  obtain ⟨h1, h2, h3, h4, h5⟩ := h
  refine ⟨h1, h2, h3, fun y hy e => ?_, fun y hy => (h4 y hy).2.1, fun y hy e => ?_, h5⟩
  · rcases (h4 y hy).1 with z | z
    · exact absurd e z
    · simpa using z
  · rcases (h4 y hy).2.2 with z | z | z
    · exact absurd e z
    · exact .inl z
    · exact .inr z
theorem LamN.has {X : Cx} {scope : Scope} {ps : List Str} (L : LamN X.env.scope scope ps) (ok : X.Ok) : ∀ y ∈ scope.names, y.2 = .free → ∃ c, X.env.cells.lookup y.1 = some c := fun y hy e =>
  ok.has _ (L.free y hy e)

section
variable {X : Cx} {pins : List (Addr × Obj)} {σ : L2.St} {H : Hp} {s : Shared}
/-- the lambda is made and known from now on -/
theorem lam_new {T : List (Addr × Str)} {c P : Addr} {params : Arguments} {body : Expr} {scope : Scope} {ps : List Str} {pos : Pos} {E : Value → Shared → Prop} {Q : Value → Shared → Prop} (L : LamN X.env.scope scope ps) (I : Inv X pins σ H s) (TB : LamX.TabB X.base X.mg c P) (hcode : X.env.code = .ref c)
    (hm : (P, lamQ X) ∈ T) (hu : ∀ p ∈ T, p.1 = P → p.2 = lamQ X) (hT : LamX.Tabs T H) (hdef : defaultsOf params X.env = ([], []))
    (h : ∀ (f cc : Addr) (H1 : Hp) (s' : Shared), Inv X pins σ H1 s' → LamX.ExtN H H1 → LamX.Tabs T H1 → H f = none → H1 f = some (LamO X params body scope f cc) → H1 cc = some (LamX.CodeO cc (lamQ X)) → Q (.ref f) s') :
    wpAny (model X.prog X.w) X.A (eval (.Lambda params body scope pos) X.env) Q E s := by
  obtain ⟨tb, hP, ht, ha⟩ := hT _ hm
  have bP : s.heap.BuiltinsAt X.mg P := TB.bm.keeps I.bk
  have hP' : s.heap.get? P = some { cls := .none, data := .fields tb } := I.hok P _ hP
  have clo := closure_ok (L.has I.ok)
  -- the object itself, laid upon a heap that holds the code object
  have laid : ∀ (h' : Heap) (tk : Nat) (H0 : Hp) (cc : Addr) (pm ctv : Value), Inv X pins σ H0 { s with heap := h', toks := tk } → LamX.ExtN H H0 → LamX.Tabs T H0 → H0 cc = some (LamX.CodeO cc (lamQ X)) → s.heap.objs.size ≤ h'.objs.size →
      Q (.ref h'.objs.size) { s with heap := h'.push (PySem.W.kla_obj "<lambda>" (lamQ X) params body scope (cloFrom X.env.cells scope.names []) pm cc ctv), toks := tk } := by
    intro h' tk H0 cc pm ctv I0 e0 T0 hcc hsz
    have got : (h'.push (PySem.W.kla_obj "<lambda>" (lamQ X) params body scope (cloFrom X.env.cells scope.names []) pm cc ctv)).get? h'.objs.size = some (PySem.W.kla_obj "<lambda>" (lamQ X) params body scope (cloFrom X.env.cells scope.names []) pm cc ctv) := Heap.get?_push_size _ rfl
    have nf : H0 h'.objs.size = none := I0.hok.fresh (Nat.le_refl _)
    have J := I0.laid (t' := tk) (a := h'.objs.size) (o := LamO X params body scope h'.objs.size cc) (fun b u q => Heap.get?_push_of_some _ q) (Nat.le_refl _) ⟨⟨pm, ctv, got⟩, ⟨_, got⟩, fun h1 h2 ⟨a, b, z⟩ k => ⟨a, b, k _ z⟩⟩
    have keep : ∀ b o, H0 b = some o → upd H0 h'.objs.size (LamO X params body scope h'.objs.size cc) b = some o := fun b o z => by
      rw [upd_ne (ne_of_none z nf)]
      exact z
    exact h _ cc _ _ J (e0.trans (LamX.ExtN.of keep)) (T0.ext keep) (I.hok.fresh hsz) upd_same (keep _ _ hcc)
  refine PySem.W.kla_eval hdef ?_
  cases hc : codeAmong pos tb.toList with
  | some cv =>
    obtain ⟨cc, e, hco⟩ := ha pos cv hc
    subst e
    apply PySem.W.kla_makeFunctionHit (mg := X.mg) (c := c) (P := P) (ps := tb) clo I.ok.glob (I.mod.glob.keeps I.bk) hcode (TB.code.keeps I.bk) hP' ht hc bP
    intro ctv h' tk hx hsz
    exact laid h' tk H cc _ ctv (I.kept hx) (LamX.ExtN.refl H) hT hco hsz
  | none =>
    apply PySem.W.kla_makeFunction (mg := X.mg) (c := c) (P := P) (ps := tb) clo I.ok.glob (I.mod.glob.keeps I.bk) hcode (TB.code.keeps I.bk) hP' ht hc TB.gP bP
    intro cc ctv h' tk hx hge hlt hrec htb
    obtain ⟨c2, oc, vs, t, e2, hoc, hd, hv⟩ := hrec
    cases e2
    have nC : H cc = none := I.hok.fresh hge
    have I1 := LamX.inv_table (t' := tk) (more := #[rawInt pos.line, rawInt pos.col, .ref cc]) (h' := h') (q := lamQ X) I hP (fun b o hb e => hx b o hb e) htb hge ⟨oc, vs, t, hoc, hd, hv⟩
    have e1 : LamX.ExtN H (upd (upd H P (.tbl (tb ++ #[rawInt pos.line, rawInt pos.col, .ref cc]))) cc (LamX.CodeO cc (lamQ X))) := fun b o e n => by
      have nb : b ≠ P := fun z => n tb (Option.some.inj (e.symm.trans (by rw [z]; exact hP)))
      rw [upd_ne (ne_of_none e nC), upd_ne nb]
      exact e
    have el : (tb ++ #[rawInt pos.line, rawInt pos.col, .ref cc]).toList = tb.toList ++ [rawInt pos.line, rawInt pos.col, .ref cc] := by simp
    refine laid h' tk _ cc _ ctv I1 e1 ?_ upd_same (Nat.le_trans hge (Nat.le_of_lt hlt))
    intro p hp
    by_cases hb : p.1 = P
    · rw [hu p hp hb, hb]
      refine ⟨_, by rw [upd_ne (ne_of_none hP nC), upd_same], by rw [el]; exact PySem.TriplesOk_snoc _ _ _ _ ht, fun p' cv hcv => ?_⟩
      rw [el] at hcv
      rcases LamX.among_app _ ht hcv with z | z
      · obtain ⟨c0, f1, f2⟩ := ha p' cv z
        exact ⟨c0, f1, e1 _ _ f2 LamX.codeO_ne⟩
      · exact ⟨cc, z, upd_same⟩
    · obtain ⟨ps', a1, a2, a3⟩ := hT p hp
      refine ⟨ps', by rw [upd_ne (ne_of_none a1 nC), upd_ne hb]; exact a1, a2, fun p' cv hcv => ?_⟩
      obtain ⟨c0, f1, f2⟩ := a3 p' cv hcv
      exact ⟨c0, f1, e1 _ _ f2 LamX.codeO_ne⟩
end
/-- a lambda as a value -/
def tLamV (X : Cx) (T : List (Addr × Str)) (params : Arguments) (body : Expr) (scope : Scope) : TE := fun _ H Q => LamX.Tabs T H ∧ ∀ f cc H1, LamX.ExtN H H1 → LamX.Tabs T H1 → H f = none → H1 f = some (LamO X params body scope f cc) → H1 cc = some (LamX.CodeO cc (lamQ X)) → Q (.ref f) H1
theorem pe_lamV {X : Cx} {T : List (Addr × Str)} {c P : Addr} {params : Arguments} {body : Expr} {scope : Scope} {ps : List Str} {pos : Pos} (L : LamN X.env.scope scope ps) (TB : LamX.TabB X.base X.mg c P) (hcode : X.env.code = .ref c)
    (hm : (P, lamQ X) ∈ T) (hu : ∀ p ∈ T, p.1 = P → p.2 = lamQ X) (hdef : defaultsOf params X.env = ([], [])) : PE X (.Lambda params body scope pos) (tLamV X T params body scope) := by
  constructor
  rintro pins s σ H Q I ⟨hT, q⟩
  apply lam_new L I TB hcode hm hu hT hdef
  intro f cc H1 s' I1 e1 T1 nf hf hc
  exact ⟨.ref f, H1, I1, rfl, q f cc H1 e1 T1 nf hf hc⟩
end Lx

set_option Elab.async false
set_option linter.all false
set_option maxRecDepth 100000
set_option maxHeartbeats 4000000
/-! a lambda's body runs -/
namespace Lx
open PySem PySem.Spec PyProof.Rows L2
abbrev lmEnv (X : Cx) (scope : Scope) (L f cc : Addr) : Env := PySem.W.envX (lamQ X) scope L f (.ref cc) (cloFrom X.env.cells scope.names [])
/-- the context of the body, entered at s from the frames outer: the maker's names, then the parameters -/
def lmCx (X : Cx) (ps : List Str) (A : Around) (outer : List Env) (s : Shared) (H : Hp) (E : XK) (scope : Scope) (f cc : Addr) : Cx where
  prog := X.prog
  w := X.w
  K := X.K
  mg := X.mg
  base := X.base
  A := A.deeper (lmEnv X scope s.heap.objs.size f cc)
  N := X.N ++ ps
  s_0 := s
  H_0 := H
  env := lmEnv X scope s.heap.objs.size f cc
  outer := outer
  stack := lmEnv X scope s.heap.objs.size f cc :: outer
  ex := []
  fn := fun _ => false
  calm := true
  pn := []
  xe := fun e s' => wpAny (model X.prog X.w) (A.deeper (lmEnv X scope s.heap.objs.size f cc)) (leaving (lmEnv X scope s.heap.objs.size f cc) e) (fun _ s'' => L2.CX X.prog X.w outer H s E e s'') (fun e' s'' => L2.CX X.prog X.w outer H s E e' s'') s'
/-- the maker's cells are what they were -/
def CellsOn (X : Cx) (h h' : Heap) (H' : Hp) : Prop := ∀ x c, X.env.cells.lookup x = some c → (∀ v, h.IsCell c v → h'.IsCell c v) ∧ H' c = none
theorem CellsOn.un {X : Cx} {fs : List Addr} {pins : List (Addr × Obj)} {σ : L2.St} {H H' : Hp} {s s' : Shared} (I : Inv X pins σ H s) (u : Un fs [] H H' s.heap s'.heap) : CellsOn X s.heap s'.heap H' := fun x c e => by
  obtain ⟨v, o, ho, hd⟩ := I.cell x c e
  refine ⟨fun v' ⟨o', h1, h2⟩ => ?_, u.free c o ho (I.freeC x c e) (by simp)⟩
  obtain ⟨sl, q⟩ := u.any h1 (I.freeC x c e) (by simp)
  exact ⟨_, q, h2⟩
theorem CellsOn.then {X : Cx} {fs : List Addr} {h h1 h2 : Heap} {H1 H2 : Hp} (a : CellsOn X h h1 H1) (hc : ∀ x c, X.env.cells.lookup x = some c → ∃ v, h.IsCell c v) (u : Un fs [] H1 H2 h1 h2) : CellsOn X h h2 H2 := fun x c e => by
  obtain ⟨k, n⟩ := a x c e
  obtain ⟨v, z⟩ := hc x c e
  obtain ⟨o, ho, hd⟩ := k v z
  refine ⟨fun v' y => ?_, u.free c o ho n (by simp)⟩
  obtain ⟨o', h1, h2⟩ := k v' y
  obtain ⟨sl, q⟩ := u.any h1 n (by simp)
  exact ⟨_, q, h2⟩

section
variable {X : Cx} {pins : List (Addr × Obj)} {σ : L2.St} {H HZ : Hp} {s s1 : Shared}
theorem lm_start {ps : List Str} {A : Around} {outer : List Env} {E : XK} {scope : Scope} {f cc : Addr} {h1 : Heap} {tk : Nat} {vs : List V} {us : List Value} (I : Inv X pins σ H s) (L : LamN X.env.scope scope ps) (e0 : Env0 X.prog X.w X.K X.mg X.base A outer s1 HZ) (hd : A.handled = none)
    (cl : CellsOn X s.heap s1.heap HZ) (hv : vs.length = ps.length) (hb : ∀ (j : Nat) y v, ps[j]? = some y → vs[j]? = some v → ∃ u, RelV v u ∧ (ps.zip us).reverse.lookup y = some u)
    (hns : h1.Ns s1.heap.objs.size fun y => (ps.zip us).reverse.lookup y) (kp : ∀ b o, s1.heap.get? b = some o → h1.get? b = some o) (hX : ∀ p ∈ ps, p ∉ X.N) :
    Inv (lmCx X ps A outer s1 HZ E scope f cc) [] (σ ++ vs.map some) HZ { s1 with heap := h1, toks := tk } := by
  have hfree := L.has I.ok
  -- the lambda's cells are the maker's
  have cm : ∀ {y c}, (cloFrom X.env.cells scope.names []).lookup y = some c → X.env.cells.lookup y = some c := fun {y c} e => by
    rcases cloFrom_mem (PySem.mem_of_lookup e) with hm | ⟨h1, h2⟩
    · cases hm
    · obtain ⟨c1, hc⟩ := hfree _ h1 rfl
      have hc : X.env.cells.lookup y = some c1 := hc
      rw [hc] at h2
      rw [hc, h2]
      rfl
  have there : ∀ {y}, scope.names.lookup y = some .free → ∃ c, (cloFrom X.env.cells scope.names []).lookup y = some c := fun {y} hl =>
    mem_lookup (cloFrom_has (cells := X.env.cells) (acc := []) (PySem.mem_of_lookup hl))
  have ck : ∀ {x c}, X.env.cells.lookup x = some c → ∀ {v}, s.heap.IsCell c v → h1.IsCell c v := fun {x c} e {v} z => by
    obtain ⟨o, ho, hd⟩ := (cl x c e).1 v z
    exact ⟨o, kp _ _ ho, hd⟩
  have none_ex : ∀ b : Addr, b ∉ (lmCx X ps A outer s1 HZ E scope f cc).ex := fun b z => absurd (show b ∈ ([] : List Addr) from z) (by simp)
  have okX : (lmCx X ps A outer s1 HZ E scope f cc).Ok := {
    mod := e0.mod
    kind := L.kind
    glob := rfl
    blt := rfl
    above := Nat.le_refl _
    inj := fun y z c e1 e2 => I.ok.inj y z c (cm e1) (cm e2)
    has := fun y hy => by
      rcases (show scope.names.lookup y = some .cell ∨ scope.names.lookup y = some .free from hy) with q | q
      · exact absurd rfl (L.nocell _ (PySem.mem_of_lookup q))
      · exact there q
    cab := fun y c z _ => absurd (show false = true from z) Bool.false_ne_true
    hd := fun _ => hd
    frames := Around.frames_deeper e0.frames
    stk := .inr ⟨rfl, rfl⟩
    exf := fun b z => absurd z (none_ex b)
    bs := e0.bs
    bsz := e0.bsz
    noex := fun b _ _ => none_ex b
    exfs := fun b z => absurd z (none_ex b)
    funs := e0.funs
    frf := e0.frf }
  have lenN : σ.length = X.N.length := I.len
  refine { ok := okX, os := rfl, bare := e0.bare, base := Un.kept kp, loc := ⟨_, hns, ?_⟩, cell := ?_, free := e0.hok.fresh (Nat.le_refl _), freeC := ?_, pin := ?_, hok := e0.hok.kept kp, len := ?_ }
  · intro i y v e1 e2 e3
    have e1 : (X.N ++ ps)[i]? = some y := e1
    by_cases hi : i < X.N.length
    · rw [List.getElem?_append_left hi] at e1
      rw [List.getElem?_append_left (by omega)] at e2
      have nop : y ∉ ps := fun z => hX y z (List.mem_of_getElem? e1)
      rcases (show Vis scope y from e3) with k | k | k
      · exact absurd (L.loc _ (PySem.mem_of_lookup k) rfl) nop
      · exact absurd rfl (L.nocell _ (PySem.mem_of_lookup k))
      · obtain ⟨m, hn, hl⟩ := I.loc
        have fr := L.free _ (PySem.mem_of_lookup k) rfl
        have vis : Vis X.env.scope y := fr.elim (fun k => .inr (.inl k)) (fun k => .inr (.inr k))
        obtain ⟨u, r, q⟩ := hl i y v e1 e2 vis
        obtain ⟨c2, h2⟩ := there k
        refine ⟨u, r, .inr ⟨.inr k, c2, h2, ?_⟩⟩
        rcases q with ⟨k', _⟩ | ⟨_, c3, e', z⟩
        · have k' : X.env.scope.names.lookup y = some .local := k'
          rcases fr with g | g <;> (rw [show X.env.scope.names.lookup y = _ from g] at k'; cases k')
        · rw [cm h2] at e'
          cases e'
          exact ck (cm h2) z
    · rw [List.getElem?_append_right (by omega)] at e1
      rw [List.getElem?_append_right (by omega), lenN, List.getElem?_map] at e2
      cases ev : vs[i - X.N.length]? with
      | none =>
        rw [ev] at e2
        cases e2
      | some v' =>
        rw [ev] at e2
        cases e2
        obtain ⟨u, r, q⟩ := hb _ y v e1 ev
        exact ⟨u, r, .inl ⟨L.par y (List.mem_of_getElem? e1), q⟩⟩
  · intro y c e
    obtain ⟨v, z⟩ := I.cell y c (cm e)
    exact ⟨v, ck (cm e) z⟩
  · intro y c e
    exact (cl y c (cm e)).2
  · intro p hp
    exact absurd (show p ∈ ([] : List (Addr × Obj)) ++ [] from hp) (by simp)
  · show (σ ++ vs.map some).length = (X.N ++ ps).length
    rw [List.length_append, List.length_append, List.length_map, lenN, hv]

/-- f(us), f a lambda that X's frame made; whoever calls -/
theorem lm_run {ps : List Str} {A : Around} {outer : List Env} {E : XK} {scope : Scope} {params : Arguments} {body : Expr} {f cc : Addr} {k : Nat} {vs : List V} {us : List Value} {Q : VK} (I : Inv X pins σ H s) (L : LamN X.env.scope scope ps) (e0 : Env0 X.prog X.w X.K X.mg X.base A outer s1 HZ)
    (lim : s1.heap.NoLimit) (cl : CellsOn X s.heap s1.heap HZ) (hf : HZ f = some (LamO X params body scope f cc)) (hc : HZ cc = some (LamX.CodeO cc (lamQ X))) (hr : Room (k + 1) A) (hX : ∀ p ∈ ps, p ∉ X.N) (rv : Vals vs us) (hl : vs.length = ps.length)
    (hbind : ∀ (q : Str) (clo : List (Str × Addr)) (pm cv ctv : Value), bindArgs (PySem.W.kla_fn "<lambda>" q params body scope clo pm cv ctv) ⟨us, []⟩ = pure (ps.zip us))
    (hlook : ∀ (j : Nat) y v, ps[j]? = some y → vs[j]? = some v → ∃ u, RelV v u ∧ (ps.zip us).reverse.lookup y = some u)
    (hbody : ∀ s2, Room k (A.deeper (lmEnv X scope s1.heap.objs.size f cc)) → Inv (lmCx X ps A outer s1 HZ E scope f cc) [] (σ ++ vs.map some) HZ s2 →
      wpAny (model X.prog X.w) (A.deeper (lmEnv X scope s1.heap.objs.size f cc)) (eval body (lmEnv X scope s1.heap.objs.size f cc)) (EP (lmCx X ps A outer s1 HZ E scope f cc) [] (σ ++ vs.map some) Q) (lmCx X ps A outer s1 HZ E scope f cc).xe s2) :
    codeAny (model X.prog X.w) A (.call (.ref f) ⟨us, []⟩) (CR (L2.CX X.prog X.w) outer X.prog X.w HZ s1 Q E) s1 := by
  have of : ∃ pm ctv : Value, s1.heap.get? f = some (PySem.W.kla_obj "<lambda>" (lamQ X) params body scope (cloFrom X.env.cells scope.names []) pm cc ctv) := by
    have z : ObjOk X.prog X.w HZ s1.heap f (LamO X params body scope f cc) := e0.hok f _ hf
    exact z.1
  obtain ⟨pm, ctv, ho⟩ := of
  have oc : ∃ (oc : Obj) (ws : Array Value) (t : Tok), s1.heap.get? cc = some oc ∧ oc.data = .fields ws ∧ ws[1]? = some (.str (lamQ X) t) := by
    have z : ObjOk X.prog X.w HZ s1.heap cc (LamX.CodeO cc (lamQ X)) := e0.hok cc _ hc
    exact z.1
  obtain ⟨oc, ws, t, hoc, hdc, hvc⟩ := oc
  apply PySem.W.kla_callFunE hr.depth ho rfl L.co L.gen rfl ⟨cc, oc, ws, t, rfl, hoc, hdc, hvc⟩
  rw [hbind]
  apply wpAny_pure
  apply wpAny_newFunctionEnv (fun y hy => L.nocell y hy) ?_ ?_ L.kind
  · intro y hy
    exact L.par y.1 (List.of_mem_zip hy).1
  · intro h1 hns hsb
    refine ⟨lim.fresh _ hsb, ?_⟩
    have kp : ∀ b o, s1.heap.get? b = some o → h1.get? b = some o := fun b o e => hsb.extBut b o (Nat.ne_of_lt (Heap.lt_size e)) (Heap.get?_push_of_some _ e)
    have J := lm_start (E := E) (f := f) (cc := cc) (tk := s1.toks + (ps.zip us).length) I L e0 hr.hd cl hl hlook hns kp hX
    refine PySem.W.kla_codeExpr (wpAny_mono (hbody _ (hr.deeper _) J) ?_ fun e s' q => q)
    rintro v s' ⟨w', H', J', r, q⟩
    exact ⟨w', H', J'.os, J'.bare, J'.base, J'.hok, r, q⟩
end
end Lx

set_option Elab.async false
set_option linter.all false
set_option maxRecDepth 100000
set_option maxHeartbeats 400000
/-! a lambda handed to a def that calls it first of all -/
namespace Lx
open PySem PySem.Spec PyProof.Rows L2
abbrev gCx (X : Cx) (Ng : List Str) (x : Str) (sg : Scope) (g : Addr) (cdg : Value) (s : Shared) (H : Hp) : Cx := cxOf L2.CX0 X.prog X.w X.K X.mg X.base Ng x sg g cdg X.A X.stack s H L2.E0
/-- the def calls what it got, at the heap at which it was entered; TT: what it makes of the lambda's reading -/
def GivesH (X : Cx) (Ng : List Str) (x : Str) (sg : Scope) (g : Addr) (cdg : Value) (bg : List Stmt) (a : Str) (TT : (XK → Hp → VK → Prop) → Hp → VK → Prop) : Prop :=
  ∀ (f : Addr) (s : Shared) (H : Hp) (Q : VK) (tl : XK → Hp → VK → Prop),
    (∀ (W : WX) (pn : List (Addr × Obj)) (xe : Value → Shared → Prop) (E : XK) (p1 p2 : Pos), Takes ((gCx X Ng x sg g cdg s H).tr pn xe) W → (∀ cls d σ' H', E cls d H' → W cls d σ' H') →
      PE ((gCx X Ng x sg g cdg s H).tr pn xe) (.Call (.Name a p1) [] [] p2) (fun σZ HZ Q => σZ[0]? = some (some (.ref f)) ∧ HZ = H ∧ tl E HZ Q)) →
    TT tl H Q → ∃ t, PSs (gCx X Ng x sg g cdg s H).nox bg t ∧ t { nx := fun _ H' => Q .non H', rt := Q } (L2.start Ng [.ref f]) H
def tLamG (T : List (Addr × Str)) (TT : (XK → Hp → VK → Prop) → Hp → VK → Prop) (t : XK → TE) : TE := fun σ H Q => LamX.Tabs T H ∧ ∀ H1, LamX.ExtN H H1 → LamX.Tabs T H1 → TT (fun E H' Q' => t E σ H' Q') H1 Q
/-- what is asked of the body of a lambda without parameters -/
def BodyOk (X : Cx) (k : Nat) (scope : Scope) (body : Expr) (t : XK → TE) : Prop :=
  ∀ (pins : List (Addr × Obj)) (σ : L2.St) (H0 : Hp) (s0 : Shared) (A : Around) (outer : List Env) (s1 : Shared) (H1 : Hp) (E : XK) (f cc : Addr), Inv X pins σ H0 s0 → CellsOn X s0.heap s1.heap H1 → A.guards = X.A.guards → Room k (A.deeper (lmEnv X scope s1.heap.objs.size f cc)) →
    ∀ (s2 : Shared) (Q : VK), Inv (lmCx X [] A outer s1 H1 E scope f cc) [] σ H1 s2 → t E σ H1 Q →
      wpAny (model X.prog X.w) (A.deeper (lmEnv X scope s1.heap.objs.size f cc)) (eval body (lmEnv X scope s1.heap.objs.size f cc)) (EP (lmCx X [] A outer s1 H1 E scope f cc) [] σ Q) (lmCx X [] A outer s1 H1 E scope f cc).xe s2
theorem BodyOk.of {X : Cx} {k : Nat} {scope : Scope} {body : Expr} {t : XK → TE} (h : ∀ (A : Around) (outer : List Env) (s1 : Shared) (H1 : Hp) (E : XK) (f cc : Addr), Room k (A.deeper (lmEnv X scope s1.heap.objs.size f cc)) → PE (lmCx X [] A outer s1 H1 E scope f cc) body (t E)) : BodyOk X k scope body t :=
  fun pins σ H0 s0 A outer s1 H1 E f cc I cl hg hr s2 Q J ht => (h A outer s1 H1 E f cc hr).run [] s2 σ H1 Q J ht
section
variable {X : Cx}
theorem pe_lamG {T : List (Addr × Str)} {TT : (XK → Hp → VK → Prop) → Hp → VK → Prop} {x a : Str} {g c P : Addr} {k : Nat} {st : Stmt} {fd : FuncData} {Ng : List Str} {params : Arguments} {body : Expr} {scope : Scope} {t : XK → TE} {p lpos pos : Pos}
    (hg : Gl X x) (hm : X.mg x = some (.ref g)) (F : Fun X.K x x st g fd) (hb : L2.Binds X.K fd [a] []) (Sg : FnScope Ng [a] (defScope st)) (hNg : Ng[0]? = some a) (hva : Vis (defScope st) a)
    (hG : ∀ cdg, GivesH X Ng x (defScope st) g cdg (defBody st) a TT) (TB : LamX.TabB X.base X.mg c P) (hcode : X.env.code = .ref c) (hmT : (P, lamQ X) ∈ T) (hu : ∀ p ∈ T, p.1 = P → p.2 = lamQ X) (hr : Room (k + 2) X.A) (L : LamN X.env.scope scope [])
    (hdef : defaultsOf params X.env = ([], [])) (hbind : ∀ (q : Str) (cl : List (Str × Addr)) (pm cv ctv : Value), bindArgs (PySem.W.kla_fn "<lambda>" q params body scope cl pm cv ctv) ⟨[], []⟩ = pure [])
    (hbody : BodyOk X k scope body t) (hdb : (x == ("__debug__" : Str)) = false := by decide) (hd : (a == ("__debug__" : Str)) = false := by decide) (hcd : (a == ("__classdict__" : Str)) = false := by decide) :
    PE X (.Call (.Name x p) [.Lambda params body scope lpos] [] pos) (tLamG T TT t) := by
  obtain ⟨oc, od, kV, doc, pm, an, cdv, ct, osl, rfl, lk, hcg⟩ := F.ex
  constructor
  rintro pins s σ H Q I ⟨hT, h⟩
  apply wpAny_Call_Name_kw (ld_glob I hg hm ?_ hdb)
  apply PySem.W.callWith_K (h₀ := X.base) I.ok.mod.kin F.kp ?_ (by rfl) (by rfl)
  show wpAny _ _ (spliced ((false, eval (.Lambda params body scope lpos) X.env) :: backTo pos (starEach [] X.env))) _ _ s
  apply Calls.spliced_cons (lam_new L I TB hcode hmT hu hT hdef ?_)
  intro f cc H1 s1 I1 e1 T1 nf hf hc
  apply Calls.spliced_nil
  refine ⟨I1.kIn, ?_⟩
  refine callee_end (CX := L2.CX0) (E := L2.E0) (kw := []) I1 pass0 ?_
  refine LamX.run_ofS (N := Ng) (ps := [a]) (us := [.ref f]) (vs := [.ref f]) lk hcg Sg hr I1.env0 (hb s1 [.ref f] I1.kIn rfl) (.cons rfl .nil) rfl ?_
  intro hr'
  have call : ∀ (W : WX) (pn : List (Addr × Obj)) (xe : Value → Shared → Prop) (E : XK) (p1 p2 : Pos), Takes ((gCx X Ng x (defScope st) g cdv s1 H1).tr pn xe) W → (∀ cls d σ' H', E cls d H' → W cls d σ' H') →
      PE ((gCx X Ng x (defScope st) g cdv s1 H1).tr pn xe) (.Call (.Name a p1) [] [] p2) (fun σZ HZ Q => σZ[0]? = some (some (.ref f)) ∧ HZ = H1 ∧ t E σ HZ Q) := by
    intro W pn xe E p1 p2 tk hW
    constructor
    rintro pinsZ sZ σZ HZ QZ IZ ⟨h0, rfl, ht⟩
    apply wpAny_Call_Name_kw
    refine thn ((pe_var (pos := p1) (i := 0) hNg hva hd hcd).run pinsZ sZ σZ HZ (fun v H' => v = .ref f ∧ H' = HZ) IZ ⟨.ref f, h0, rfl, rfl⟩) ?_
    rintro u s2 ⟨v, H2, I2, ru, rfl, rfl⟩
    obtain rfl : u = Value.ref f := ru
    have of : ∃ pm ctv : Value, s2.heap.get? f = some (PySem.W.kla_obj "<lambda>" (lamQ X) params body scope (cloFrom X.env.cells scope.names []) pm cc ctv) := by
      have z : ObjOk X.prog X.w H2 s2.heap f (LamO X params body scope f cc) := I2.hok f _ hf
      exact z.1
    obtain ⟨pm', ctv', of⟩ := of
    refine PySem.W.callWith_F0 ⟨_, _, _, _, of⟩ ?_
    have un : Un (frs X.stack) [] H2 H2 s1.heap s2.heap := I2.base
    have cl : CellsOn X s1.heap s2.heap H2 := CellsOn.un I1 un
    refine callee_end (CX := L2.CX X.prog X.w) (E := E) (kw := []) I2 (passes_call tk hW) ?_
    refine lm_run (X := X) (pins := pins) (σ := σ) (H := H2) (s := s1) (HZ := H2) (s1 := s2) (ps := []) (vs := []) (us := []) (E := E) (Q := QZ) (k := k) (scope := scope) (params := params) (body := body) (f := f) (cc := cc) I1 L I2.env0 I2.nolimit cl hf hc hr' (fun p hp => nomatch hp) .nil rfl (fun q clo pm cv ctv => hbind q clo pm cv ctv) (fun j y v h => by simp at h) ?_
    intro s3 hr3 J
    have eσ : σ ++ ([] : List V).map some = σ := by simp
    rw [eσ] at J ⊢
    exact hbody pins σ H2 s1 (X.A.deeper (envOfC x (defScope st) s1.heap.objs.size g cdv)) _ s2 H2 E f cc I1 cl rfl hr3 s3 QZ J ht
  obtain ⟨t', ht', hq⟩ := hG cdv f s1 H1 Q (fun E H' Q' => t E σ H' Q') call (h H1 e1 T1)
  exact ⟨t', ht'.nox, hq⟩
end
end Lx

set_option Elab.async false
set_option linter.all false
set_option maxRecDepth 100000
set_option maxHeartbeats 1000000
/-! a def that makes lambdas; what stays but the tables -/
namespace Lx
open PySem PySem.Spec PyProof.Rows L2
/-- okG for a def whose code object stands at c -/
theorem okT {P : Program} {w : World} {K : PySem.W.Frag} {mg : Str → Option Value} {base : Heap} {x qual : Str} {st : Stmt} {f c : Addr} {fd : FuncData} {N ps : List Str} {k : Nat} {sp : Sp} (F : Fun K x qual st f fd) (hcode : fd.code = .ref c) (S : FnScope N ps (defScope st)) (len : ∀ vs H Q E, sp vs H Q E → vs.length = ps.length)
    (body : ∀ (A : Around) (outer : List Env) (s : Shared) (H : Hp) (vs : List V) (Q : VK) (E : XK), Room k (A.deeper (envOfC qual (defScope st) s.heap.objs.size f (.ref c))) → A.guards = some [] → sp vs H Q E →
      ∃ t, PSs (cxOf L2.CX0 P w K mg base N qual (defScope st) f (.ref c) A outer s H E).nox (defBody st) t ∧ t { nx := fun _ H' => Q .non H', rt := Q } (start N vs) H) : FnOkG P w K mg base L2.CX0 (k + 1) f fd ps sp := by
  obtain ⟨oc, od, kV, doc, pm, an, cdv, ct, osl, rfl, lk, hcd⟩ := F.ex
  obtain rfl : cdv = .ref c := hcode
  constructor
  · exact len
  · intro A outer s H args us vs Q E hr hg e0 hb r h
    apply LamX.run_ofS lk hcd S hr e0 hb r (len vs H Q E h)
    intro hr'
    obtain ⟨t, ht, hq⟩ := body A outer s H vs Q E hr' hg h
    exact ⟨t, ht.nox, hq⟩
/-- all but the box at b and the tables stay -/
def Ext (b : Addr) (H H' : Hp) : Prop := ∀ a o, H a = some o → a ≠ b → (∀ ps, o ≠ .tbl ps) → H' a = some o
theorem Ext.refl {b : Addr} (H : Hp) : Ext b H H := fun _ _ h _ _ => h
theorem Ext.trans {b : Addr} {H H1 H2 : Hp} (x : Ext b H H1) (y : Ext b H1 H2) : Ext b H H2 := fun a o h n t => y a o (x a o h n t) n t
theorem Ext.of {b : Addr} {H H' : Hp} (e : Same H H') : Ext b H H' := fun a o h _ _ => e a o h
theorem Ext.ofN {b : Addr} {H H' : Hp} (e : LamX.ExtN H H') : Ext b H H' := fun a o h _ t => e a o h t
theorem Ext.seq {K : PySem.W.Frag} {b a : Addr} {H H' : Hp} {xs : List V} (e : Ext b H H') (n : a ≠ b) (h : SqL K H a xs) : SqL K H' a xs := by
  rcases h with (h | ⟨o, h⟩) | h
  · exact .inl (.inl (e _ _ h n fun _ z => by cases z))
  · exact .inl (.inr ⟨o, e _ _ h n fun _ z => by cases z⟩)
  · exact .inr h
theorem Ext.tup {K : PySem.W.Frag} {b a : Addr} {H H' : Hp} {xs ys : List V} (e : Ext b H H') (hb : H b = some (.lst ys)) (h : SqT K H a xs) : SqT K H' a xs := by
  have ne : ∀ {o : HO}, H a = some o → o ≠ .lst ys → a ≠ b := fun {o} h1 h2 z => by
    rw [z, hb] at h1
    exact h2 (Option.some.inj h1).symm
  rcases h with (h | ⟨o, h⟩) | h
  · exact .inl (.inl (e _ _ h (ne h fun z => by cases z) fun _ z => by cases z))
  · exact .inl (.inr ⟨o, e _ _ h (ne h fun z => by cases z) fun _ z => by cases z⟩)
  · exact .inr h
theorem tabs_but {T : List (Addr × Str)} {b : Addr} {H H' : Hp} {ys : List V} (hb : H b = some (.lst ys)) (e : ∀ a o, H a = some o → a ≠ b → H' a = some o) (h : LamX.Tabs T H) : LamX.Tabs T H' := fun p hp => by
  obtain ⟨ps, h1, h2, h3⟩ := h p hp
  have ne : ∀ {a : Addr} {o : HO}, H a = some o → o ≠ .lst ys → a ≠ b := fun {a o} h1 h2 z => by
    rw [z, hb] at h1
    exact h2 (Option.some.inj h1).symm
  refine ⟨ps, e _ _ h1 (ne h1 fun z => by cases z), h2, fun pos cv hc => ?_⟩
  obtain ⟨c, e1, e2⟩ := h3 pos cv hc
  exact ⟨c, e1, e _ _ e2 (ne e2 fun z => by unfold LamX.CodeO at z; cases z)⟩
end Lx

set_option Elab.async false
set_option linter.all false
set_option maxRecDepth 100000
set_option maxHeartbeats 1000000
/-! a lambda that a lambda calls -/
namespace Lx
open PySem PySem.Spec PyProof.Rows L2
theorem PE.mono {X : Cx} {e : Expr} {t t' : TE} (h : PE X e t) (m : ∀ σ H Q, t' σ H Q → t σ H Q) : PE X e t' := ⟨fun pins s σ H Q I q => h.run pins s σ H Q I (m σ H Q q)⟩
/-- at f a lambda of one value that X's frame made and that does what sp says -/
def WorkAt (X : Cx) (k : Nat) (f : Addr) (H : Hp) (x : Str) (sp : XK → TE) : Prop := ∃ (params : Arguments) (body : Expr) (scope : Scope) (cc : Addr), H f = some (LamO X params body scope f cc) ∧ H cc = some (LamX.CodeO cc (lamQ X)) ∧ LamN X.env.scope scope [x] ∧
  (∀ (u : Value) (q : Str) (clo : List (Str × Addr)) (pm cv ctv : Value), bindArgs (PySem.W.kla_fn "<lambda>" q params body scope clo pm cv ctv) ⟨[u], []⟩ = pure [(x, u)]) ∧
  ∀ (A : Around) (outer : List Env) (s1 : Shared) (H1 : Hp) (E : XK) (f cc : Addr), Room k (A.deeper (lmEnv X scope s1.heap.objs.size f cc)) → PE (lmCx X [x] A outer s1 H1 E scope f cc) body (sp E)
theorem BodyOk.work {X : Cx} {k i : Nat} {scope : Scope} {wn x : Str} {arg : Expr} {ta : TE} {p pos : Pos} {sp : XK → TE} (hX : x ∉ X.N) (hN : (X.N ++ [])[i]? = some wn) (hv : Vis scope wn)
    (harg : ∀ (A : Around) (outer : List Env) (s1 : Shared) (H1 : Hp) (E : XK) (f cc : Addr), PE (lmCx X [] A outer s1 H1 E scope f cc) arg ta)
    (hm : ∀ σ H Q Q', (∀ v H, Q v H → Q' v H) → ta σ H Q → ta σ H Q') (he : ∀ env : Env, starEach [arg] env = (false, eval arg env) :: starEach [] env) (hd : (wn == ("__debug__" : Str)) = false := by decide) (hcd : (wn == ("__classdict__" : Str)) = false := by decide) :
    BodyOk X (k + 1) scope (.Call (.Name wn p) [arg] [] pos) (fun E σ H Q => ∃ f1, σ[i]? = some (some (.ref f1)) ∧ WorkAt X k f1 H x sp ∧ ta σ H fun v H2 => (∀ a o, H a = some o → H2 a = some o) ∧ sp E (σ ++ [some v]) H2 Q) := by
  intro pins σ H0 s0 A outer s1 H1 E f cc I cl hg hr s2 Q J ht
  obtain ⟨f1, h1, wk, ht⟩ := ht
  have fnat : ∀ {H : Hp} {s : Shared} {σ : L2.St}, Inv (lmCx X [] A outer s1 H1 E scope f cc) [] σ H s → WorkAt X k f1 H x sp → PySem.W.FnAt f1 s.heap := fun {H s σ} Iz ⟨params, body, sc, c1, hf, _⟩ => by
    have z : ObjOk X.prog X.w H s.heap f1 (LamO X params body sc f1 c1) := Iz.hok f1 _ hf
    obtain ⟨pm, ctv, of⟩ := z.1
    exact ⟨_, _, _, _, of⟩
  apply wpAny_Call_Name_kw
  refine thn ((pe_var (X := lmCx X [] A outer s1 H1 E scope f cc) (pos := p) (i := i) hN hv hd hcd).run [] s2 σ H1 (fun v H' => v = .ref f1 ∧ H' = H1) J ⟨.ref f1, h1, rfl, rfl⟩) ?_
  rintro u s3 ⟨v, H2, I2, ru, rfl, rfl⟩
  obtain rfl : u = Value.ref f1 := ru
  have pa : PA (lmCx X [] A outer s1 H2 E scope f cc) [arg] (tCons ta tNil) := pa_cons (harg A outer s1 H2 E f cc) pa_nil (he _)
  refine PySem.W.callWith_F (fnat I2 wk) (thn (pa.run pos [] s3 σ H2 (fun xs H3 => ∃ v, xs = [v] ∧ (∀ a o, H2 a = some o → H3 a = some o) ∧ sp E (σ ++ [some v]) H3 Q) I2 ?_) ?_) (he _) (by rfl)
  · exact hm σ H2 _ _ (fun v H3 q => ⟨v, rfl, q.1, q.2⟩) ht
  · rintro us s4 ⟨vs, H3, I3, rv, v, rfl, kp, q⟩
    obtain ⟨params, body, sc, c1, hf, hc, L, hb, hbody⟩ := wk
    refine ⟨fnat I3 ⟨params, body, sc, c1, kp _ _ hf, kp _ _ hc, L, hb, hbody⟩, ?_⟩
    obtain ⟨u, rfl, rx⟩ := vals1 rv
    have cl3 : CellsOn X s0.heap s4.heap H3 := cl.then (fun y c e => I.cell y c e) (show Un (lmCx X [] A outer s1 H2 E scope f cc).fs [] H2 H3 s1.heap s4.heap from I3.base)
    have tk : Takes (lmCx X [] A outer s1 H2 E scope f cc) (fun cls d _ H => E cls d H) := takes_of rfl rfl rfl rfl
    refine callee_end (CX := L2.CX X.prog X.w) (E := E) (kw := []) I3 (passes_call tk fun _ _ _ _ z => z) ?_
    refine lm_run (X := X) (pins := pins) (σ := σ) (H := H0) (s := s0) (HZ := H3) (s1 := s4) (ps := [x]) (vs := [v]) (us := [u]) (E := E) (Q := Q) (k := k) (scope := sc) (params := params) (body := body) (f := f1) (cc := c1) I L I3.env0 I3.nolimit cl3 (kp _ _ hf) (kp _ _ hc) hr (fun p hp => by
      obtain rfl : p = x := by simpa using hp
      exact hX) (.cons rx .nil) rfl (fun q clo pm cv ctv => hb u q clo pm cv ctv) (fun j y z e1 e2 => ?_) ?_
    · cases j with
      | succ j => simp at e1
      | zero =>
        simp at e1 e2
        subst e1 e2
        exact ⟨u, rx, by simp⟩
    · intro s5 hr5 J5
      exact (hbody _ _ _ _ _ _ _ hr5).run [] s5 _ H3 Q J5 q
end Lx

set_option Elab.async false
set_option linter.all false
set_option maxRecDepth 100000
set_option maxHeartbeats 1000000
/-! the end: a law whose promise asks that no guard stands around -/
namespace Lx
open PySem PySem.Spec PyProof.Rows L2
/-- what is told apart at the call: the tables, and the script where the frag does not hold it -/
def seed (K : PySem.W.Frag) (T : List Addr) (a : Addr) (vs : List Value) (ns : List Int) : Hp := fun b =>
  if b ∈ T then some (.tbl #[]) else if b = a ∧ K.lookup a = none then some (.frz { cls := .type "list", data := .seq vs.toArray } (.lst (ns.map V.int))) else none
section
variable {P : Program} {w : World} {K : PySem.W.Frag} {T : List Addr} {a : Addr} {vs : List Value} {ns : List Int} {h : Heap}
theorem seed_tab {b : Addr} (hb : b ∈ T) : seed K T a vs ns b = some (.tbl #[]) := by
  unfold seed
  rw [if_pos hb]
theorem seed_or (b : Addr) : seed K T a vs ns b = none ∨ (b ∈ T ∧ seed K T a vs ns b = some (.tbl #[])) ∨
    (b = a ∧ K.lookup a = none ∧ seed K T a vs ns b = some (.frz { cls := .type "list", data := .seq vs.toArray } (.lst (ns.map V.int)))) := by
  by_cases h1 : b ∈ T
  · exact .inr (.inl ⟨h1, seed_tab h1⟩)
  · by_cases h2 : b = a ∧ K.lookup a = none
    · refine .inr (.inr ⟨h2.1, h2.2, ?_⟩)
      unfold seed
      rw [if_neg h1, if_pos h2]
    · left
      unfold seed
      rw [if_neg h1, if_neg h2]
/-- an object that is no list and no empty table is not told apart -/
theorem seed_none {b : Addr} {o : Obj} (hT : ∀ p ∈ T, h.get? p = some { cls := .none, data := .fields #[] }) (ha : h.get? a = some { cls := .type "list", data := .seq vs.toArray }) (e : h.get? b = some o)
    (n1 : ∀ us n, o.data ≠ .seq us n) (n2 : o.data ≠ .fields #[]) : seed K T a vs ns b = none := by
  rcases seed_or (K := K) (T := T) (a := a) (vs := vs) (ns := ns) b with q | ⟨q, _⟩ | ⟨rfl, _⟩
  · exact q
  · rw [hT b q] at e
    cases e
    exact absurd rfl n2
  · rw [ha] at e
    cases e
    exact absurd rfl (n1 _ _)
theorem seed_script (hl : (ns.map V.int).length ≤ sizeLine) (rv : Vals (ns.map V.int) vs) (KX : K.In h) (aT : a ∉ T) (ha : h.get? a = some { cls := .type "list", data := .seq vs.toArray }) : SqL K (seed K T a vs ns) a (ns.map V.int) := by
  cases q : K.lookup a with
  | none =>
    refine .inl (.inr ⟨{ cls := .type "list", data := .seq vs.toArray }, ?_⟩)
    unfold seed
    rw [if_neg aT, if_pos ⟨rfl, q⟩]
  | some o =>
    have e := (KX a o q).symm.trans ha
    cases e
    exact .inr ⟨_, vs.toArray, _, q, rfl, rfl, rfl, by rw [List.size_toArray, ← rv.length]; exact hl, by simpa using rv⟩
theorem seed_ok (hl : (ns.map V.int).length ≤ sizeLine) (rv : Vals (ns.map V.int) vs) (hT : ∀ p ∈ T, h.get? p = some { cls := .none, data := .fields #[] }) (ha : h.get? a = some { cls := .type "list", data := .seq vs.toArray }) : HOk P w (seed K T a vs ns) h := by
  intro b u e
  rcases seed_or (K := K) (T := T) (a := a) (vs := vs) (ns := ns) b with q | ⟨m, q⟩ | ⟨rfl, _, q⟩
  · rw [q] at e
    cases e
  · rw [q] at e
    cases e
    exact hT b m
  · rw [q] at e
    cases e
    exact ⟨ha, hl, vs, _, rv, ha⟩
end
/-- the facts of the head's heap that the end asks for -/
structure Ground1 (K : PySem.W.Frag) (mg mb : Str → Option Value) (cs : List (Addr × Addr)) (st : Shared) : Prop where
  kin : K.In st.heap
  glob : st.heap.Ns mainGlobals mg
  blt : st.heap.Ns builtinsNs mb
  boot : ∀ x : Str, x ≠ "__name__" → mb x = bootBuiltins x
  lim : st.heap.NoLimit
  gens : st.gens = #[]
  tabs : ∀ p ∈ cs, st.heap.get? p.2 = some { cls := .none, data := .fields #[] }
  apart : ∀ p ∈ cs, K.lookup p.2 = none
  codes : ∀ p ∈ cs, PySem.W.CodeHd st.heap p.1 p.2
  main : ∃ (bm : Addr) (ob : Obj), mg "__builtins__" = some (.ref bm) ∧ bm ≠ builtinsNs ∧ st.heap.get? bm = some ob ∧ ob.cls = .type "module" ∧ ob.dict = some builtinsNs ∧ ob.data = .plain
theorem end_run {P : Program} {w : World} {K : PySem.W.Frag} {mg mb : Str → Option Value} {k : Nat} {fa a : Addr} {cs : List (Addr × Addr)} {fd : FuncData} {x : Str} {sp : Sp} {st : Shared} {vs : List Value} {ns : List Int} (G : Ground1 K mg mb cs st)
    (ha : st.heap.get? a = some { cls := .type "list", data := .seq vs.toArray }) (hi : IntsAre vs ns) (hl : ns.length ≤ sizeLine) (hr : Room k callerA)
    (F : ∀ base : Heap, K.In base → (∀ p ∈ cs, LamX.TabB base mg p.1 p.2) → FnOkG P w K mg base L2.CX0 k fa fd [x] sp) (bind : ∀ (s : Shared) (u : Value), BindsTo s fd ⟨[u], []⟩ [(x, u)])
    (hsp : ∀ H : Hp, (∀ p ∈ cs, H p.2 = some (.tbl #[])) → SqL K H a (ns.map V.int) → sp [.ref a] H (fun v _ => v = .bl true) fun _ _ _ => False) :
    codeAny (model P w) callerA (.call (.ref fa) ⟨[.ref a], []⟩) (fun r s' => r = .ok (.ret (.bool true)) ∧ OldK st.heap s'.heap ∧ s'.os = st.os ∧ AllBare s'.gens) st := by
  have rv := vals_ints hi
  have hl' : (ns.map V.int).length ≤ sizeLine := by rw [List.length_map]; exact hl
  have inT : ∀ {p}, p ∈ cs → p.2 ∈ cs.map (·.2) := fun hp => List.mem_map.mpr ⟨_, hp, rfl⟩
  have tabs : ∀ b ∈ cs.map (·.2), st.heap.get? b = some { cls := .none, data := .fields #[] } := fun b hb => by
    obtain ⟨p, hp, rfl⟩ := List.mem_map.mp hb
    exact G.tabs p hp
  have aT : a ∉ cs.map (·.2) := fun q => by
    have e := (tabs a q).symm.trans ha
    cases e
  have none_of : ∀ {b o}, st.heap.get? b = some o → (∀ us n, o.data ≠ .seq us n) → o.data ≠ .fields #[] → seed K (cs.map (·.2)) a vs ns b = none := fun e n1 n2 => seed_none tabs ha e n1 n2
  have nsOn : ∀ {b : Addr} {m : Str → Option Value}, st.heap.Ns b m → (hidT st.heap (seed K (cs.map (·.2)) a vs ns)).Ns b m := fun ⟨o, es, ep, e, d, r⟩ =>
    ⟨o, es, ep, hidT_get e (none_of e (fun us n q => by rw [d] at q; cases q) fun q => by rw [d] at q; cases q), d, r⟩
  have kin : K.In (hidT st.heap (seed K (cs.map (·.2)) a vs ns)) := fun b o e => by
    refine hidT_get (G.kin b o e) ?_
    rcases seed_or (K := K) (T := cs.map (·.2)) (a := a) (vs := vs) (ns := ns) b with q | ⟨m, _⟩ | ⟨rfl, q, _⟩
    · exact q
    · obtain ⟨p, hp, rfl⟩ := List.mem_map.mp m
      rw [G.apart p hp] at e
      cases e
    · rw [q] at e
      cases e
  have tb : ∀ p ∈ cs, LamX.TabB (hidT st.heap (seed K (cs.map (·.2)) a vs ns)) mg p.1 p.2 := fun p hp => by
    constructor
    · obtain ⟨o, us, f1, f2, f3, f4, f5, f6, f7, g1, g2, g3, g4⟩ := G.codes p hp
      refine ⟨o, us, f1, f2, f3, f4, f5, f6, f7, hidT_get g1 (none_of g1 (fun z n q => by rw [g3] at q; cases q) fun q => ?_), g2, g3, g4⟩
      rw [g3] at q
      cases q
      have := g4.1
      simp at this
    · obtain ⟨bm, ob, m1, m2, m3, m4, m5, m6⟩ := G.main
      refine ⟨bm, ob, m1, m2, fun q => ?_, fun q => ?_, hidT_get m3 (none_of m3 (fun z n q => by rw [m6] at q; cases q) fun q => by rw [m6] at q; cases q), m4, m5, m6⟩
      · obtain ⟨o, es, ep, e, d, _⟩ := G.glob
        subst q
        rw [m3] at e
        cases e
        rw [m6] at d
        cases d
      · subst q
        rw [G.tabs p hp] at m3
        cases m3
        cases m6
    · intro q
      obtain ⟨o, es, ep, e, d, _⟩ := G.glob
      rw [q, G.tabs p hp] at e
      cases e
      cases d
  have limit : (hidT st.heap (seed K (cs.map (·.2)) a vs ns)).NoLimit := by
    obtain ⟨mc, q1, q2⟩ := G.lim
    exact ⟨mc, nsOn q1, q2⟩
  have env : Env0 P w K mg (hidT st.heap (seed K (cs.map (·.2)) a vs ns)) callerA [] st (seed K (cs.map (·.2)) a vs ns) := {
    frames := rfl
    mod := ⟨kin, nsOn G.glob, ⟨mb, nsOn G.blt, G.boot⟩, limit⟩
    bs := fun b o e => of_hidT e
    bsz := Nat.le_of_eq (hidT_size _ _)
    funs := trivial
    frf := fun b hb => absurd (show b ∈ ([] : List Addr) from hb) (by simp)
    hok := seed_ok hl' rv tabs ha
    bare := .of_eq G.gens }
  have go := (F _ kin tb).run callerA [] st _ ⟨[.ref a], []⟩ [.ref a] [.ref a] _ _ hr rfl env (bind st (.ref a)) (.cons rfl .nil) (hsp _ (fun p hp => seed_tab (inT hp)) (seed_script hl' rv G.kin aT ha))
  refine codeAny_mono go fun r s' z => ?_
  match r, z with
  | .ok (.ret u), z =>
    obtain ⟨v, H', z1, z2, un, ok', ru, rfl⟩ := z
    obtain rfl : u = Value.bool true := ru
    have grew : ∀ p ∈ cs, ∃ more : Array Value, s'.heap.get? p.2 = some { cls := .none, data := .fields more } := fun p hp => by
      obtain ⟨more, q⟩ := un.tbls p.2 #[] (seed_tab (inT hp))
      exact ⟨_, ok' p.2 _ q⟩
    have stays : ∀ b o, b ∉ cs.map (·.2) → st.heap.get? b = some o → s'.heap.get? b = some o := fun b o nb e => by
      rcases seed_or (K := K) (T := cs.map (·.2)) (a := a) (vs := vs) (ns := ns) b with q | ⟨m, _⟩ | ⟨rfl, _, q⟩
      · exact un.keep b o e q (fun m => absurd (show b ∈ ([] : List Addr) from m) (by simp)) (by simp)
      · exact absurd m nb
      · have e2 := (ok' b _ (un.frzs b _ _ q)).1
        rw [ha] at e
        cases e
        exact e2
    refine ⟨rfl, ⟨fun b o e => ?_, fun b o e => ?_⟩, z1, z2⟩
    · by_cases m : b ∈ cs.map (·.2)
      · obtain ⟨p, hp, rfl⟩ := List.mem_map.mp m
        obtain ⟨more, q⟩ := grew p hp
        have t := G.tabs p hp
        rw [t] at e
        cases e
        exact .inr (.inl ⟨((G.codes p hp).tab t).isCodeTable, rfl, #[], more, rfl, by rw [Array.empty_append]; exact q⟩)
      · exact .inl (stays b o m e)
    · by_cases m : b ∈ cs.map (·.2)
      · obtain ⟨p, hp, rfl⟩ := List.mem_map.mp m
        obtain ⟨more, q⟩ := grew p hp
        exact ⟨_, q⟩
      · exact ⟨o, stays b o m e⟩
end Lx
namespace Lx
open PySem PySem.Spec PyProof.Rows L2
/-- what is known of the law's promise at the head's heap h -/
def LawG (l : PySem.W.OpenLaw) (w : World) (K : PySem.W.Frag) (k n : Nat) (x : Str) (mg : Str → Option Value) (fa : Addr) (h : Heap) : Prop :=
  ∃ (fd : FuncData) (cs : List (Addr × Addr)) (sp : Sp), (∀ p ∈ cs, h.get? p.2 = some { cls := .none, data := .fields #[] } ∧ K.lookup p.2 = none ∧ PySem.W.CodeHd h p.1 p.2) ∧ (∀ (s : Shared) (u : Value), BindsTo s fd ⟨[u], []⟩ [(x, u)]) ∧
    (∀ (H : Hp) (a : Addr) (ns : List Int), ns.length ≤ n → (∀ p ∈ cs, H p.2 = some (.tbl #[])) → SqL K H a (ns.map V.int) → sp [.ref a] H (fun v _ => v = .bl true) fun _ _ _ => False) ∧
    ∀ base : Heap, K.In base → (∀ p ∈ cs, LamX.TabB base mg p.1 p.2) → FnOkG l.prog w K mg base L2.CX0 k fa fd [x] sp
theorem end_walk {l : PySem.W.OpenLaw} {n k : Nat} {q : Program} {loose : List Str} {XP : (Str → Option Value) → Heap → Prop} {YP : World → Heap → Prop} {d : DefRec} {K : Params → PySem.W.Frag} {x : Str} (hn : l.most = some n) (hn2 : n ≤ sizeLine) (hdf : d.params.defaults = []) (hr : Room k callerA)
    (hY : ∀ (w : World) (h : Heap), YP w h → (K w.params).In h) (F : ∀ (w : World) (mg : Str → Option Value) (fa : Addr) (h : Heap), YP w h → (K w.params).In h → h.Ns mainGlobals mg → mg d.name = some (.ref fa) → LawG l w (K w.params) k n x mg fa h) :
    PySem.W.WalkO q loose XP YP l.row.toRowW d [] (fun f vs => PySem.call f vs) := by
  refine Att.attach_callB hn hdf ?_
  intro w s0 st mg mb fa o pm cd doc a vs ns G Y ho hd hcd hmg hobj hints hlen hbits hg
  have kin := hY w _ Y
  obtain ⟨fd, cs, sp, ht, hb, hs, hF⟩ := F w mg fa _ Y kin G.T.g hmg
  exact end_run ⟨kin, G.T.g, G.T.b, G.T.builtins, G.T.nolimit, hg, fun p hp => (ht p hp).1, fun p hp => (ht p hp).2.1, fun p hp => (ht p hp).2.2, G.T.bmain⟩ hobj hints (Nat.le_trans hlen hn2) hr hF hb fun H hH hS => hs H a ns hlen hH hS
end Lx

set_option Elab.async false
set_option linter.all false
set_option maxRecDepth 100000
set_option maxHeartbeats 4000000
namespace Pg
open PySem PySem.Spec PyProof.Rows L2 Lx
/-! ### the text -/
def topS (i : Nat) : Stmt := PySem.Challenge.pw_pagesagain_k02_whole_rows_that_repeat_an.main.body.getD i (.Pass ⟨0, 0, 0, 0⟩)
abbrev sIsNumber : Stmt := topS 1
abbrev sIsSequence : Stmt := topS 2
abbrev cPageError : Stmt := topS 4
abbrev cBadMachine : Stmt := topS 5
abbrev cBadRow : Stmt := topS 6
abbrev cRefused : Stmt := topS 7
abbrev cMachine : Stmt := topS 12
abbrev sIsTable : Stmt := topS 13
abbrev sIsDeed : Stmt := topS 14
abbrev sCheckRow : Stmt := topS 15
abbrev sRepeatEnd : Stmt := topS 17
abbrev sRepeatSteps : Stmt := topS 18
abbrev sNthRow : Stmt := topS 19
abbrev sRowPlace : Stmt := topS 20
abbrev sRowCount : Stmt := topS 21

/-- no global of the module bears this built-in's name -/
structure Bare (mg : Str → Option Value) : Prop where
  isinstance : mg "isinstance" = none
  int : mg "int" = none
  bool : mg "bool" = none
  list : mg "list" = none
  tuple : mg "tuple" = none
  len : mg "len" = none
  range : mg "range" = none
  enumerate : mg "enumerate" = none
  reversed : mg "reversed" = none
  divmod : mg "divmod" = none
  min : mg "min" = none
  all : mg "all" = none
  repr : mg "repr" = none
  abs : mg "abs" = none

section
variable {P : Program} {w : World} {K : PySem.W.Frag} {mg : Str → Option Value} {base : Heap}

/-! ### is_number -/
def spIsNumber (K : PySem.W.Frag) : Sp := fun vs H Q _ => ∃ v lo hi, vs = [v, .int lo, .int hi] ∧ Vk K H v ∧ Q (.bl (numV v lo hi)) H
theorem scIsNumber : FnScope ["value", "least", "greatest"] ["value", "least", "greatest"] (defScope sIsNumber) := ⟨rfl, rfl, rfl, by decide +kernel, rfl, by decide +kernel, by decide +kernel⟩
theorem ok_is_number {f : Addr} {fd : FuncData} (F : Fun K "is_number" "is_number" sIsNumber f fd) (B : Bare mg) : FnOk P w K mg base L2.CX0 1 f fd ["value", "least", "greatest"] (spIsNumber K) := by
  refine F.ok scIsNumber (fun vs H Q E h => ?_) (fun cdv A outer s H vs Q E hr h => ?_)
  · obtain ⟨v, lo, hi, rfl, _⟩ := h
    rfl
  · obtain ⟨v, lo, hi, rfl, hv, q⟩ := h
    refine ⟨_, pss_one (ps_ret (pe_and (pe_callB call_isi (by rfl) B.isinstance boot_isinstance (pa_cons (pv 0) (pa_cons (pe_bltn (v := .ty "int") (by rfl) B.int boot_int rfl) pa_nil)))
      (pe_and (pe_not (pe_callB call_isi (by rfl) B.isinstance boot_isinstance (pa_cons (pv 0) (pa_cons (pe_bltn (v := .ty "bool") (by rfl) B.bool boot_bool rfl) pa_nil))))
        (pe_one (pe_chain op_le op_le (pv 1) (pv 0) (pv 2)))))), ?_⟩
    obtain ⟨t1, y1, k1⟩ := hv.asInt
    obtain ⟨t2, y2, k2⟩ := hv.asBool
    refine ⟨v, rfl, v, .ty "int", t1, _, isI v, rfl, .ty "int", y1, k1, isI v, rfl, ite2 (fun c1 => ?_) (fun c1 => ?_)⟩
    · refine ⟨v, rfl, v, .ty "bool", t2, _, isB v, rfl, .ty "bool", y2, k2, isB v, rfl, !isB v, rfl, ite2 (fun c2 => ?_) (fun c2 => ?_)⟩
      · cases v with
        | int i =>
          refine ⟨.int lo, rfl, .int i, rfl, lo, i, rfl, rfl, decide (lo ≤ i), rfl, ite2 (fun c3 => ?_) (fun c3 => ?_)⟩
          · refine ⟨.int hi, rfl, i, hi, rfl, rfl, ?_⟩
            simpa [numV, c3] using q
          · have e : decide (lo ≤ i) = false := by simpa using c3
            simpa [numV, e] using q
        | bl b => exact absurd c2 Bool.false_ne_true
        | _ => exact absurd c1 Bool.false_ne_true
      · cases v with
        | bl b => exact q
        | int i => exact absurd rfl c2
        | _ => exact absurd c1 Bool.false_ne_true
    · cases v with
      | int i => exact absurd rfl c1
      | _ => exact q

/-! ### is_sequence -/
def spIsSequence (K : PySem.W.Frag) : Sp := fun vs H Q _ => ∃ v lo hi, vs = [v, .int lo, .int hi] ∧
  ((Sca v ∧ ∀ H', Same H H' → Q (.bl false) H') ∨ ∃ xs : List V, Seq K H v xs ∧ ∀ H', Same H H' → Q (.bl (decide (lo ≤ (xs.length : Int)) && decide ((xs.length : Int) ≤ hi))) H')
theorem scIsSequence : FnScope ["value", "fewest", "most"] ["value", "fewest", "most"] (defScope sIsSequence) := ⟨rfl, rfl, rfl, by decide +kernel, rfl, by decide +kernel, by decide +kernel⟩
theorem ok_is_sequence {f : Addr} {fd : FuncData} (F : Fun K "is_sequence" "is_sequence" sIsSequence f fd) (B : Bare mg) : FnOk P w K mg base L2.CX0 1 f fd ["value", "fewest", "most"] (spIsSequence K) := by
  refine F.ok scIsSequence (fun vs H Q E h => ?_) (fun cdv A outer s H vs Q E hr h => ?_)
  · obtain ⟨v, lo, hi, rfl, _⟩ := h
    rfl
  · obtain ⟨v, lo, hi, rfl, h⟩ := h
    refine ⟨_, pss_one (ps_ret (pe_and (pe_callB call_isiT (by rfl) B.isinstance boot_isinstance (pa_cons (pv 0) (pa_cons (pe_tup (pa_cons (pe_bltn (v := .ty "list") (by rfl) B.list boot_list rfl) (pa_cons (pe_bltn (v := .ty "tuple") (by rfl) B.tuple boot_tuple rfl) pa_nil))) pa_nil)))
      (pe_one (pe_chain op_le op_le (pv 1) (pe_callB call_len_seq (by rfl) B.len PySem.boot_len (pa_cons (pv 0) pa_nil)) (pv 2))))), ?_⟩
    refine ⟨v, rfl, by show 2 ≤ sizeLine; decide, fun tp np => ?_⟩
    have s1 : Same H (upd H tp (.tup [.ty "list", .ty "tuple"])) := same_new np
    have cls : Paired ClsV [.ty "list", .ty "tuple"] [.type "list", .type "tuple"] := .cons (.ty _) (.cons (.ty _) .nil)
    rcases h with ⟨hv, q⟩ | ⟨xs, hv, q⟩
    · obtain ⟨t, y, k⟩ := Sca.kit (K := K) (H := upd H tp (.tup [.ty "list", .ty "tuple"])) hv
      exact ⟨v, tp, _, t, _, false, rfl, upd_same, cls, y, k, false, rfl, iteF (q _ s1)⟩
    · obtain ⟨t, y, k⟩ := (hv.same s1).kit
      refine ⟨v, tp, _, t, _, true, rfl, upd_same, cls, y, k, true, rfl, iteT ?_⟩
      have hs := hv.same s1
      have ln : ∃ a : Addr, v = .ref a ∧ (SqL K (upd H tp (.tup [.ty "list", .ty "tuple"])) a xs ∨ SqT K (upd H tp (.tup [.ty "list", .ty "tuple"])) a xs) := by
        cases hs with
        | lst h => exact ⟨_, rfl, .inl h⟩
        | tup h => exact ⟨_, rfl, .inr h⟩
      obtain ⟨a, ev, hs⟩ := ln
      refine ⟨.int lo, rfl, v, rfl, a, xs, by rw [ev], hs, lo, _, rfl, rfl, decide (lo ≤ (xs.length : Int)), rfl, ite2 (fun c => ?_) (fun c => ?_)⟩
      · refine ⟨.int hi, rfl, _, hi, rfl, rfl, ?_⟩
        have z := q _ s1
        simpa [c] using z
      · have e : decide (lo ≤ (xs.length : Int)) = false := by simpa using c
        have z := q _ s1
        simpa [e] using z
end
end Pg

set_option Elab.async false
set_option linter.all false
set_option maxRecDepth 100000
set_option maxHeartbeats 4000000
namespace Pg
open PySem PySem.Spec PyProof.Rows L2 Lx
/-! ### machines -/
structure MachC (K : PySem.W.Frag) (C : Addr) : Prop where
  cl : Cls K C
  nD : NoAttr K C "deeds"
  nS : NoAttr K C "states"
  nT : NoAttr K C "tables"
/-- at m: the machine of the tables T, by deed -/
structure MachAt (K : PySem.W.Frag) (C : Addr) (H : Hp) (m : Addr) (T : List (List Int)) : Prop where
  ex : ∃ dx fs t, ∃ as : List Addr, H m = some (.ins C dx fs) ∧ List.lookup ("deeds" : Str) fs = some (V.int T.length) ∧ List.lookup ("states" : Str) fs = some (V.int (T.headD []).length) ∧ List.lookup ("tables" : Str) fs = some (V.ref t) ∧
    SqT K H t (as.map V.ref) ∧ Paired (fun (a : Addr) (row : List Int) => SqT K H a (row.map V.int)) as T
theorem paired_imp {α β : Type} {F G : α → β → Prop} : ∀ {l : List α} {r : List β}, Paired F l r → (∀ a b, F a b → G a b) → Paired G l r
  | _, _, .nil, _ => .nil
  | _, _, .cons h t, f => .cons (f _ _ h) (paired_imp t f)
theorem MachAt.same {K : PySem.W.Frag} {C : Addr} {H H' : Hp} {m : Addr} {T : List (List Int)} (h : MachAt K C H m T) (e : Same H H') : MachAt K C H' m T := by
  obtain ⟨dx, fs, t, as, h1, h2, h3, h4, h5, h6⟩ := h.ex
  exact ⟨dx, fs, t, as, e _ _ h1, h2, h3, h4, sameT e h5, paired_imp h6 fun a b z => sameT e z⟩
/-- the wish of an error of the class at C that keeps v -/
def ErrK (E : XK) (C : Addr) (v : V) (H : Hp) : Prop := ∀ d H', Same H H' → H d = none → H' d = some (.xd [("at", v)]) → E (.ref C) (some d) H'
theorem ErrK.on {E : XK} {C : Addr} {v : V} {H H1 : Hp} (h : ErrK E C v H) (e : Same H H1) : ErrK E C v H1 := fun d H' s n x => h d H' (e.trans s) (e.free n) x

section
variable {P : Program} {w : World} {K : PySem.W.Frag} {mg : Str → Option Value} {base : Heap} {CM : Addr}
def spIsDeed (K : PySem.W.Frag) (CM : Addr) : Sp := fun vs H Q _ => ∃ m v T, vs = [.ref m, v] ∧ MachAt K CM H m T ∧ Vk K H v ∧ Q (.bl (numV v 0 ((T.length : Int) - 1))) H
theorem scIsDeed : FnScope ["machine", "value"] ["machine", "value"] (defScope sIsDeed) := ⟨rfl, rfl, rfl, by decide +kernel, rfl, by decide +kernel, by decide +kernel⟩
theorem ok_is_deed {f : Addr} {fd : FuncData} (F : Fun K "is_deed" "is_deed" sIsDeed f fd) (M : MachC K CM) (G : Has P w K mg base L2.CX0 1 "is_number" ["value", "least", "greatest"] (spIsNumber K)) : FnOk P w K mg base L2.CX0 2 f fd ["machine", "value"] (spIsDeed K CM) := by
  refine F.ok scIsDeed (fun vs H Q E h => ?_) (fun cdv A outer s H vs Q E hr h => ?_)
  · obtain ⟨m, v, T, rfl, _⟩ := h
    rfl
  · obtain ⟨m, v, T, rfl, hm, hv, q⟩ := h
    refine ⟨_, pss_one (ps_ret (pe_has G hr (by rfl) (pa_cons (pv 1) (pa_cons pe_int (pa_cons (pe_op op_sub (pe_fld (pv 0) rfl) pe_int) pa_nil))))), ?_⟩
    obtain ⟨dx, fs, t, as, h1, h2, h3, h4, h5, h6⟩ := hm.ex
    exact ⟨v, rfl, .ref m, rfl, m, CM, dx, fs, _, rfl, h1, M.cl, M.nD, h2, _, _, rfl, rfl, v, 0, _, rfl, hv, q⟩

/-- deeds -/
def isD (n : Nat) (x : V) : Bool := numV x 0 ((n : Int) - 1)
/-- what check_row asks of its caller -/
def CheckRow (K : PySem.W.Frag) (CR : Addr) (n : Nat) (v : V) (H : Hp) (Q : VK) (E : XK) : Prop :=
  ((Sca v ∨ ∃ xs, Seq K H v xs ∧ 400 < xs.length) ∧ ErrK E CR (.int (-1)) H) ∨
  (∃ xs, Seq K H v xs ∧ xs.length ≤ 400 ∧ (∀ x ∈ xs, Vk K H x) ∧
    ((∃ i x, xs[i]? = some x ∧ isD n x = false ∧ (∀ j y, j < i → xs[j]? = some y → isD n y = true) ∧ ErrK E CR (.int (i : Nat)) H) ∨
     ((∀ x ∈ xs, isD n x = true) ∧ ∀ H' r, Same H H' → SqT K H' r xs → Q (.ref r) H')))
def spCheckRow (K : PySem.W.Frag) (CM CR : Addr) : Sp := fun vs H Q E => ∃ m v T, vs = [.ref m, v] ∧ MachAt K CM H m T ∧ CheckRow K CR T.length v H Q E
theorem scCheckRow : FnScope ["machine", "value", "at", "deed"] ["machine", "value"] (defScope sCheckRow) := ⟨rfl, rfl, rfl, by decide +kernel, rfl, by decide +kernel, by decide +kernel⟩
theorem ok_check_row {f CR : Addr} {fd : FuncData} {tk : Tok} (F : Fun K "check_row" "check_row" sCheckRow f fd) (B : Bare mg) (gL : mg "LONGEST_ROW" = some (.int 400 tk)) (Er : Err P w K mg base "BadRow" "at" CR)
    (Gs : Has P w K mg base L2.CX0 1 "is_sequence" ["value", "fewest", "most"] (spIsSequence K)) (Gd : Has P w K mg base L2.CX0 2 "is_deed" ["machine", "value"] (spIsDeed K CM)) :
    FnOk P w K mg base (L2.CX P w) 4 f fd ["machine", "value"] (spCheckRow K CM CR) := by
  refine F.okX scCheckRow (fun vs H Q E h => ?_) (fun cdv A outer s H vs Q E hr h => ?_)
  · obtain ⟨m, v, T, rfl, _⟩ := h
    rfl
  · obtain ⟨m, v, T, rfl, hm, h⟩ := h
    have tk : Takes (cxOf (L2.CX P w) P w K mg base ["machine", "value", "at", "deed"] "check_row" (defScope sCheckRow) f cdv A outer s H E) (fun cls d _ H => E cls d H) := takes_of rfl rfl rfl rfl
    refine ⟨_, pss_cons (ps_if (pt_not (pt_val (pe_has Gs (hr.mono (by decide)) (by rfl) (pa_cons (pv 1) (pa_cons pe_int (pa_cons (pe_glob (v := .int 400) rfl gL ⟨_, rfl⟩) pa_nil)))))) (pss_one (ps_raiseErr rfl Er (hr.mono (by decide)) tk (pe_un un_neg pe_int))) pss_nil)
      (pss_cons (ps_for (passes_of rfl) rfl (pi_enumS (by rfl) B.enumerate (pa_cons (pv 1) pa_nil)) (pg_tup rfl (pgs_cons (pg_name (i := 2) scCheckRow.nd rfl (Or.inl rfl)) (pgs_cons (pg_name (i := 3) scCheckRow.nd rfl (Or.inl rfl)) pgs_nil)))
        (pss_one (ps_if (pt_not (pt_val (pe_has Gd (hr.mono (by decide)) (by rfl) (pa_cons (pv 0) (pa_cons (pv 3) pa_nil))))) (pss_one (ps_raiseErr rfl Er (hr.mono (by decide)) tk (pv 2))) pss_nil)))
      (pss_one (ps_ret (pe_callTy call_tuple_of (by rfl) B.tuple boot_tuple (pa_cons (pv 1) pa_nil))))), ?_⟩
    refine ⟨v, rfl, v, 0, 400, rfl, ?_⟩
    rcases h with ⟨hb, er⟩ | ⟨xs, hs, hl, hk, h⟩
    · have bad : ∀ H', Same H H' → ErrK E CR (.int (-1)) H' := fun H' s => er.on s
      rcases hb with hb | ⟨xs, hs, hl⟩
      · exact .inl ⟨hb, fun H1 s1 => ⟨false, rfl, iteT ⟨1, rfl, err_in fun d H' s2 n x => bad H1 s1 d H' s2 n x⟩⟩⟩
      · refine .inr ⟨xs, hs, fun H1 s1 => ⟨_, rfl, ?_⟩⟩
        have e : (decide ((0 : Int) ≤ (xs.length : Int)) && decide ((xs.length : Int) ≤ 400)) = false := by
          rw [Bool.and_eq_false_iff]
          exact .inr (decide_eq_false (by omega))
        rw [e]
        exact iteT ⟨1, rfl, err_in fun d H' s2 n x => bad H1 s1 d H' s2 n x⟩
    · refine .inr ⟨xs, hs, fun H1 s1 => ⟨_, rfl, ?_⟩⟩
      have e : (decide ((0 : Int) ≤ (xs.length : Int)) && decide ((xs.length : Int) ≤ 400)) = true := by
        rw [Bool.and_eq_true]
        exact ⟨decide_eq_true (by omega), decide_eq_true (by omega)⟩
      rw [e]
      refine iteF ?_
      -- the walk, over a list and over a tuple alike
      have Pv0 : ∀ H', Same H H' → ∀ j y, j < 0 → xs[j]? = some y → isD T.length y = true := fun _ _ j y z => absurd z (Nat.not_lt_zero j)
      have ret : ∀ (H2 : Hp), Same H H2 → (∀ j y, j < xs.length → xs[j]? = some y → isD T.length y = true) → ((∀ x ∈ xs, isD T.length x = true) ∧ ∀ H' r, Same H H' → SqT K H' r xs → Q (.ref r) H') := fun H2 s2 al => by
        rcases h with ⟨i, x, hx, hf, _⟩ | h
        · have lt := (List.getElem?_eq_some_iff.mp hx).1
          rw [al i x lt hx] at hf
          cases hf
        · exact h
      have ln : ∃ a : Addr, v = .ref a ∧ (SqL K H a xs ∨ SqT K H a xs) := by
        cases hs with
        | lst h => exact ⟨_, rfl, .inl h⟩
        | tup h => exact ⟨_, rfl, .inr h⟩
      obtain ⟨a, rfl, hq⟩ := ln
      refine ⟨.ref a, rfl, a, xs, rfl, ?_⟩
      rcases hq with hq | hq
      case' inl => refine .inl ⟨s1.seq hq, for_it walk_enum (fun i σ H2 => (∃ y2 y3, σ = [some (.ref m), some (.ref a), y2, y3]) ∧ Same H H2 ∧ ∀ j y, j < i → xs[j]? = some y → isD T.length y = true) ⟨⟨none, none, rfl⟩, s1, Pv0 H1 s1⟩ (fun i σ H2 _ hp => hp.2.1.seq hq) ?turn1 ?fin1⟩
      case' inr => refine .inr ⟨sameT s1 hq, for_it walk_enumT (fun i σ H2 => (∃ y2 y3, σ = [some (.ref m), some (.ref a), y2, y3]) ∧ Same H H2 ∧ ∀ j y, j < i → xs[j]? = some y → isD T.length y = true) ⟨⟨none, none, rfl⟩, s1, Pv0 H1 s1⟩ (fun i σ H2 _ hp => sameT hp.2.1 hq) ?turn2 ?fin2⟩
      case turn1 | turn2 =>
           rintro i x σ H2 H3 hi ⟨⟨y2, y3, rfl⟩, s2, al⟩ ⟨Tp, x1, x2, rfl, nT, rfl, e1, e2⟩
           have ex1 : x1 = .int (i : Nat) := (Option.some.inj e1).symm
           subst ex1
           have s3 : Same H2 (upd H2 Tp (.tup [.int (i : Nat), x2])) := same_new nT
           have s4 := s2.trans s3
           have mem : x2 ∈ xs := List.mem_of_getElem? e2
           refine ⟨Tp, _, rfl, .inl (.inl upd_same), rfl, .int (i : Nat), [x2], rfl, x2, [], rfl, rfl, ?_⟩
           refine ⟨.ref m, rfl, x2, rfl, m, x2, T, rfl, hm.same s4, (hk x2 mem).same s4, _, rfl, ?_⟩
           refine ite2 (fun c => ?_) (fun c => ?_)
           · have bad : isD T.length x2 = false := by simpa [isD] using c
             rcases h with ⟨k, x, hx, hf, hb, er⟩ | ⟨h, _⟩
             · have ek : k = i := by
                 rcases Nat.lt_trichotomy k i with z | z | z
                 · rw [al k x z hx] at hf
                   cases hf
                 · exact z
                 · rw [hb i x2 z e2] at bad
                   cases bad
               subst ek
               exact ⟨.int (k : Nat), rfl, err_in fun d H' s5 n z => er.on s4 d H' s5 n z⟩
             · rw [h x2 mem] at bad
               cases bad
           · have good : isD T.length x2 = true := by simpa [isD] using c
             refine ⟨⟨_, _, rfl⟩, s4, fun j y hj hy => ?_⟩
             rcases Nat.lt_or_ge j i with z | z
             · exact al j y z hy
             · have ej : j = i := by omega
               subst ej
               have e3 : xs[j]? = some x2 := e2
               rw [hy] at e3
               cases e3
               exact good
      case fin1 | fin2 =>
           rintro σ H2 ⟨⟨y2, y3, rfl⟩, s2, al⟩
           obtain ⟨_, q⟩ := ret H2 s2 al
           refine ⟨.ref a, rfl, a, xs, rfl, ?_⟩
           first
             | exact .inl ⟨s2.seq hq, fun r nr => q _ r (s2.trans (same_new nr)) (.inl (.inl upd_same))⟩
             | exact .inr ⟨sameT s2 hq, q H2 a s2 (sameT s2 hq)⟩
end
end Pg

set_option Elab.async false
set_option linter.all false
set_option maxRecDepth 100000
set_option maxHeartbeats 4000000
namespace Pg
open PySem PySem.Spec PyProof.Rows L2 Lx
section
variable {P : Program} {w : World} {K : PySem.W.Frag} {mg : Str → Option Value} {base : Heap} {CM : Addr}
theorem Seq.cases {K : PySem.W.Frag} {H : Hp} {v : V} {xs : List V} (h : Lx.Seq K H v xs) : ∃ a : Addr, v = .ref a ∧ (SqL K H a xs ∨ SqT K H a xs) := by
  cases h with
  | lst h => exact ⟨_, rfl, .inl h⟩
  | tup h => exact ⟨_, rfl, .inr h⟩

/-! ### _is_table -/
def spIsTable (K : PySem.W.Frag) : Sp := fun vs H Q _ => ∃ v u, vs = [v, u] ∧
  ((Sca v ∧ ∀ H', Same H H' → Q (.bl false) H') ∨
   (∃ xs, Lx.Seq K H v xs ∧ ¬ (1 ≤ xs.length ∧ xs.length ≤ 8) ∧ ∀ H', Same H H' → Q (.bl false) H') ∨
   (∃ xs ys, Lx.Seq K H v xs ∧ Lx.Seq K H u ys ∧ 1 ≤ xs.length ∧ xs.length ≤ 8 ∧ (∀ x ∈ xs, Vk K H x) ∧
     ∀ H', Same H H' → Q (.bl (decide (xs.length = ys.length) && xs.all (fun x => isD xs.length x))) H'))
theorem scIsTable : FnScope ["value", "first", "state"] ["value", "first"] (defScope sIsTable) := ⟨rfl, rfl, rfl, by decide +kernel, rfl, by decide +kernel, by decide +kernel⟩
theorem ok_is_table {f : Addr} {fd : FuncData} {tk : Tok} (F : Fun K "_is_table" "_is_table" sIsTable f fd) (B : Bare mg) (gL : mg "MOST_STATES" = some (.int 8 tk))
    (Gs : Has P w K mg base L2.CX0 1 "is_sequence" ["value", "fewest", "most"] (spIsSequence K)) (Gn : Has P w K mg base L2.CX0 1 "is_number" ["value", "least", "greatest"] (spIsNumber K)) :
    FnOk P w K mg base L2.CX0 2 f fd ["value", "first"] (spIsTable K) := by
  refine F.ok scIsTable (fun vs H Q E h => ?_) (fun cdv A outer s H vs Q E hr h => ?_)
  · obtain ⟨v, u, rfl, _⟩ := h
    rfl
  · obtain ⟨v, u, rfl, h⟩ := h
    refine ⟨_, pss_cons (ps_if (PW.pt (pw_or (pt_not (pt_val (pe_has Gs hr (by rfl) (pa_cons (pv 0) (pa_cons pe_int (pa_cons (pe_glob (v := .int 8) rfl gL ⟨_, rfl⟩) pa_nil))))))
        (pw_or1 (pt_cmpR op_ne (pe_callB call_len_seq (by rfl) B.len PySem.boot_len (pa_cons (pv 0) pa_nil)) (pe_callB call_len_seq (by rfl) B.len PySem.boot_len (pa_cons (pv 1) pa_nil)) (nomark _)))))
        (pss_one (ps_ret pe_bl)) pss_nil)
      (pss_one (ps_ret (pe_callB (cr_all rfl) (by rfl) B.all (by decide +kernel) (pa_cons
        (pe_lc (own := [("state", 2)]) (g := gName 2) (tt := tYes) rfl scIsTable.nd (pi_seq (pv 0)) (blkOk_by (N := ["value", "first", "state"]) (sc := defScope sIsTable) (by decide +kernel))
          (fun _ _ _ _ _ => pg_name (i := 2) scIsTable.nd rfl (Or.inl rfl)) (fun _ _ _ _ _ => pts_nil)
          (fun _ _ _ _ _ => pe_has Gn hr (by rfl) (pa_cons (pv 2) (pa_cons pe_int (pa_cons (pe_op op_sub (pe_callB (r := rLenS K) lenS (by rfl) B.len PySem.boot_len (pa_cons (pv 0) pa_nil)) pe_int) pa_nil))))) pa_nil)))), ?_⟩
    refine ⟨v, rfl, v, 1, 8, rfl, ?_⟩
    rcases h with ⟨hv, q⟩ | ⟨xs, hs, hn, q⟩ | ⟨xs, ys, hs, hu, h1, h8, hk, q⟩
    · exact .inl ⟨hv, fun H1 s1 => ⟨_, rfl, iteT (iteT (q H1 s1))⟩⟩
    · refine .inr ⟨xs, hs, fun H1 s1 => ⟨_, rfl, ?_⟩⟩
      have e : (decide ((1 : Int) ≤ (xs.length : Int)) && decide ((xs.length : Int) ≤ 8)) = false := by
        rw [← Bool.not_eq_true, Bool.and_eq_true, decide_eq_true_eq, decide_eq_true_eq]
        omega
      rw [e]
      exact iteT (iteT (q H1 s1))
    · refine .inr ⟨xs, hs, fun H1 s1 => ⟨_, rfl, ?_⟩⟩
      have e : (decide ((1 : Int) ≤ (xs.length : Int)) && decide ((xs.length : Int) ≤ 8)) = true := by
        rw [Bool.and_eq_true, decide_eq_true_eq, decide_eq_true_eq]
        omega
      rw [e]
      refine iteF ?_
      obtain ⟨a, rfl, ha⟩ := Seq.cases (hs.same s1)
      obtain ⟨b, rfl, hb⟩ := Seq.cases (hu.same s1)
      refine ⟨.ref a, rfl, a, xs, rfl, ha, .ref b, rfl, b, ys, rfl, hb, rfl, _, rfl, ?_⟩
      refine ite2 (fun c => ?_) (fun c => ?_)
      · have ne : ¬ xs.length = ys.length := fun z => by
          rw [z] at c
          simp at c
        have z := q H1 s1
        rw [decide_eq_false ne] at z
        exact z
      · have eq : xs.length = ys.length := by
          by_cases z : xs.length = ys.length
          · exact z
          · have : (V.int (xs.length : Int)) ≠ V.int (ys.length : Int) := fun y => z (by injection y with y; omega)
            simp [this] at c
        refine ⟨.ref a, rfl, a, rfl, ?_⟩
        have fin : ∀ (D : Addr) (H2 : Hp), PvF (fun _ => true) (fun i => .bl (isD xs.length (xs.getD i .non))) H1 D xs.length H2 → ∃ (a : Addr) (bs : List Bool), [V.ref D] = [V.ref a] ∧ SqL K H2 a (bs.map V.bl) ∧ Q (.bl (bs.all id)) H2 := fun D H2 hp => by
          refine ⟨D, xs.map (fun x => isD xs.length x), rfl, .inl (.inl ?_), ?_⟩
          · rw [hp.2, filter_true]
            rw [range_get_map (fun x => V.bl (isD xs.length x)), List.map_map]
            rfl
          · have z := q H2 (s1.trans hp.1)
            rw [decide_eq_true eq, Bool.true_and] at z
            rw [List.all_map]
            exact z
        have turn : ∀ (i : Nat) (x : V), xs[i]? = some x → x = xs.getD i .non := fun i x e => by
          rw [List.getD_eq_getElem?_getD, e]
          rfl
        rcases ha with ha | ha
        case' inl =>
          refine .inl ⟨xs, ha, fun D nD => ?_⟩
          refine lc_it (walk_list (xs := xs)) (PvF (fun _ => true) (fun i => .bl (isD xs.length (xs.getD i .non))) H1 D) (pvf0 nD) (fun i H2 _ hp => hp.1.seq ha) ?t1 (fin D)
        case' inr =>
          refine .inr ⟨xs, ha, fun D nD => ?_⟩
          refine lc_it (walk_tup (xs := xs)) (PvF (fun _ => true) (fun i => .bl (isD xs.length (xs.getD i .non))) H1 D) (pvf0 nD) (fun i H2 _ hp => sameT hp.1 ha) ?t2 (fin D)
        case inl | inr =>
          rintro i x H2 H3 hi hp ⟨rfl, ex⟩
          have mem : x ∈ xs := List.mem_of_getElem? ex
          have lst : SqL K H3 a xs ∨ SqT K H3 a xs := by
            first
              | exact .inl (hp.1.seq ha)
              | exact .inr (sameT hp.1 ha)
          refine ⟨rfl, yes_in ?_⟩
          refine ⟨x, rfl, .ref a, rfl, a, xs, rfl, lst, _, _, rfl, rfl, x, 0, _, rfl, (hk x mem).same (s1.trans hp.1), ?_⟩
          exact pvf_put nD hp (Same.refl _) rfl (by rw [← turn i x ex]; rfl) (by omega)
end
end Pg

set_option Elab.async false
set_option linter.all false
set_option maxRecDepth 100000
set_option maxHeartbeats 4000000
namespace Pg
open PySem PySem.Spec PyProof.Rows L2 Lx
/-- tables that make a machine: by deed by state the next one -/
structure Tabs (T : List (List Int)) : Prop where
  some1 : 1 ≤ T.length
  most4 : T.length ≤ 4
  rows : ∃ n : Nat, 1 ≤ n ∧ n ≤ 8 ∧ ∀ row ∈ T, row.length = n ∧ ∀ z ∈ row, 0 ≤ z ∧ z < n
/-- all but the object at x -/
def SameBut (x : Addr) (H H' : Hp) : Prop := ∀ b o, H b = some o → b ≠ x → H' b = some o
theorem SameBut.of {x : Addr} {H H' : Hp} (e : Same H H') : SameBut x H H' := fun b o h _ => e b o h
theorem SameBut.trans {x : Addr} {H H1 H2 : Hp} (e : SameBut x H H1) (e' : SameBut x H1 H2) : SameBut x H H2 := fun b o h n => e' b o (e b o h n) n
theorem SameBut.put {x : Addr} {H : Hp} {o : HO} : SameBut x H (upd H x o) := fun b u h n => by rw [upd_ne n]; exact h
theorem SameBut.seq {K : PySem.W.Frag} {x a : Addr} {H H' : Hp} {v : V} {xs : List V} (e : SameBut x H H') (hx : ∃ C dx fs, H x = some (.ins C dx fs)) (h : Lx.Seq K H v xs) : Lx.Seq K H' v xs := by
  obtain ⟨C, dx, fs, hx⟩ := hx
  cases h with
  | lst h =>
    rcases h with (h | ⟨o, h⟩) | h
    · exact .lst (.inl (.inl (e _ _ h (ne_of h hx (fun z => by cases z)))))
    · exact .lst (.inl (.inr ⟨o, e _ _ h (ne_of h hx (fun z => by cases z))⟩))
    · exact .lst (.inr h)
  | tup h =>
    rcases h with (h | ⟨o, h⟩) | h
    · exact .tup (.inl (.inl (e _ _ h (ne_of h hx (fun z => by cases z)))))
    · exact .tup (.inl (.inr ⟨o, e _ _ h (ne_of h hx (fun z => by cases z))⟩))
    · exact .tup (.inr h)
theorem SameBut.tup {K : PySem.W.Frag} {x a : Addr} {H H' : Hp} {xs : List V} (e : SameBut x H H') (hx : ∃ C dx fs, H x = some (.ins C dx fs)) (h : SqT K H a xs) : SqT K H' a xs := by
  obtain ⟨C, dx, fs, hx⟩ := hx
  rcases h with (h | ⟨o, h⟩) | h
  · exact .inl (.inl (e _ _ h (ne_of h hx (fun z => by cases z))))
  · exact .inl (.inr ⟨o, e _ _ h (ne_of h hx (fun z => by cases z))⟩)
  · exact .inr h
theorem paired_len {α β : Type} {F : α → β → Prop} : ∀ {l : List α} {r : List β}, Paired F l r → l.length = r.length
  | _, _, .nil => rfl
  | _, _, .cons _ t => by simp [paired_len t]
theorem paired_get {α β : Type} {F : α → β → Prop} : ∀ {l : List α} {r : List β} {i : Nat} {x : α}, Paired F l r → l[i]? = some x → ∃ y, r[i]? = some y ∧ F x y
  | _, _, _, _, .nil, h => by simp at h
  | _, _, 0, _, .cons h t, e => by
    simp at e
    subst e
    exact ⟨_, rfl, h⟩
  | _, _, i + 1, _, .cons h t, e => by
    obtain ⟨y, h1, h2⟩ := paired_get (i := i) t (by simpa using e)
    exact ⟨y, by simpa using h1, h2⟩
theorem paired_snoc {α β : Type} {F : α → β → Prop} : ∀ {l : List α} {r : List β} {x : α} {y : β}, Paired F l r → F x y → Paired F (l ++ [x]) (r ++ [y])
  | _, _, _, _, .nil, h => .cons h .nil
  | _, _, _, _, .cons h t, k => .cons h (paired_snoc t k)
section
variable {P : Program} {w : World} {K : PySem.W.Frag} {mg : Str → Option Value} {base : Heap} {CM : Addr}
/-- v is a list or tuple of lists or tuples that make up the tables T -/
def TabV (K : PySem.W.Frag) (H : Hp) (v : V) (T : List (List Int)) : Prop := ∃ as : List Addr, Lx.Seq K H v (as.map V.ref) ∧ Paired (fun (a : Addr) (row : List Int) => Lx.Seq K H (.ref a) (row.map V.int)) as T
theorem TabV.same {H H' : Hp} {v : V} {T : List (List Int)} (h : TabV K H v T) (e : Same H H') : TabV K H' v T := by
  obtain ⟨as, h1, h2⟩ := h
  exact ⟨as, h1.same e, paired_imp h2 fun a b z => z.same e⟩
def spMachine (K : PySem.W.Frag) (CM : Addr) : Sp := fun vs H Q _ => ∃ x dx v T, vs = [.ref x, v] ∧ H x = some (.ins CM dx []) ∧ Tabs T ∧ TabV K H v T ∧ ∀ H', SameBut x H H' → MachAt K CM H' x T → Q .non H'
def PvM (K : PySem.W.Frag) (H2 : Hp) (D : Addr) (T : List (List Int)) (i : Nat) (H3 : Hp) : Prop :=
  Same H2 H3 ∧ ∃ bs : List Addr, H3 D = some (.lst (bs.map V.ref)) ∧ bs.length = i ∧ Paired (fun (b : Addr) (row : List Int) => SqT K H3 b (row.map V.int)) bs (T.take i)
abbrev sMachineInit : Stmt := inClass cMachine 0
theorem scMachineInit : FnScope ["self", "tables", "at", "table"] ["self", "tables"] (defScope sMachineInit) := ⟨rfl, rfl, rfl, by decide +kernel, rfl, by decide +kernel, by decide +kernel⟩
theorem ok_machine {f : Addr} {fd : FuncData} {tk : Tok} (F : Fun K "__init__" "Machine.__init__" sMachineInit f fd) (B : Bare mg) (M : MachC K CM) (gL : mg "MOST_DEEDS" = some (.int 4 tk))
    (Gs : Has P w K mg base L2.CX0 1 "is_sequence" ["value", "fewest", "most"] (spIsSequence K)) (Gt : Has P w K mg base L2.CX0 2 "_is_table" ["value", "first"] (spIsTable K)) :
    FnOk P w K mg base L2.CX0 3 f fd ["self", "tables"] (spMachine K CM) := by
  refine F.ok scMachineInit (fun vs H Q E h => ?_) (fun cdv A outer s H vs Q E hr h => ?_)
  · obtain ⟨x, dx, v, T, rfl, _⟩ := h
    rfl
  · obtain ⟨x, dx, v, T, rfl, hx, hT, hv, q⟩ := h
    refine ⟨_, pss_cons (ps_if (pt_not (pt_val (pe_has Gs (hr.mono (by decide)) (by rfl) (pa_cons (pv 1) (pa_cons pe_int (pa_cons (pe_glob (v := .int 4) rfl gL ⟨_, rfl⟩) pa_nil)))))) (pss_one ps_never) pss_nil)
      (pss_cons (ps_for PassesOwn.never rfl (pi_enumS (by rfl) B.enumerate (pa_cons (pv 1) pa_nil)) (pg_tup rfl (pgs_cons (pg_name (i := 2) scMachineInit.nd rfl (Or.inl rfl)) (pgs_cons (pg_name (i := 3) scMachineInit.nd rfl (Or.inl rfl)) pgs_nil)))
        (pss_one (ps_if (pt_not (pt_val (pe_has Gt hr (by rfl) (pa_cons (pv 3) (pa_cons (pe_ix ix_seq (pv 1) pe_int (fun _ _ => rfl)) pa_nil))))) (pss_one ps_never) pss_nil)))
      (pss_cons (ps_fld (pv 0) (pe_callTy call_tuple_of (by rfl) B.tuple boot_tuple (pa_cons
          (pe_lc (own := [("table", 3)]) (g := gName 3) (tt := tYes) rfl scMachineInit.nd (pi_seq (pv 1)) (blkOk_by (N := ["self", "tables", "at", "table"]) (sc := defScope sMachineInit) (by decide +kernel))
            (fun _ _ _ _ _ => pg_name (i := 3) scMachineInit.nd rfl (Or.inl rfl)) (fun _ _ _ _ _ => pts_nil)
            (fun _ _ _ _ _ => pe_callTy (r := rTupOf K) tupOf (by rfl) B.tuple boot_tuple (pa_cons (pv 3) pa_nil))) pa_nil)) rfl)
      (pss_cons (ps_fld (pv 0) (pe_callB lenS (by rfl) B.len PySem.boot_len (pa_cons (pe_fld (pv 0) rfl) pa_nil)) rfl)
      (pss_one (ps_fld (pv 0) (pe_callB lenS (by rfl) B.len PySem.boot_len (pa_cons (pe_ix ix_tup (pe_fld (pv 0) rfl) pe_int (fun _ _ => rfl)) pa_nil)) rfl))))), ?_⟩
    obtain ⟨as, hs, hp⟩ := hv
    obtain ⟨n, n1, n8, hrow⟩ := hT.rows
    have lenT : as.length = T.length := paired_len hp
    have lenM : ((as.map V.ref).length : Int) = T.length := by rw [List.length_map, lenT]
    refine ⟨v, rfl, v, 1, 4, rfl, .inr ⟨as.map V.ref, hs, fun H1 s1 => ⟨_, rfl, ?_⟩⟩⟩
    have e : (decide ((1 : Int) ≤ ((as.map V.ref).length : Int)) && decide (((as.map V.ref).length : Int) ≤ 4)) = true := by
      rw [lenM, Bool.and_eq_true, decide_eq_true_eq, decide_eq_true_eq]
      have := hT.some1
      have := hT.most4
      omega
    rw [e]
    refine iteF ?_
    have row_of : ∀ (i : Nat) (y : V), (as.map V.ref)[i]? = some y → ∃ (b : Addr) (row : List Int), y = .ref b ∧ T[i]? = some row ∧ Lx.Seq K H (.ref b) (row.map V.int) := fun i y h => by
      rw [List.getElem?_map] at h
      cases ei : as[i]? with
      | none =>
        rw [ei] at h
        cases h
      | some b =>
        rw [ei] at h
        cases h
        obtain ⟨row, h1, h2⟩ := paired_get hp ei
        exact ⟨b, row, rfl, h1, h2⟩
    obtain ⟨row0, T', eT⟩ : ∃ row0 T', T = row0 :: T' := by
      cases T with
      | nil => exact absurd hT.some1 (by decide)
      | cons a b => exact ⟨a, b, rfl⟩
    obtain ⟨b0, as', eA⟩ : ∃ b0 as', as = b0 :: as' := by
      cases as with
      | nil =>
        rw [eT] at lenT
        simp at lenT
      | cons a b => exact ⟨a, b, rfl⟩
    have at0 : (as.map V.ref)[0]? = some (.ref b0) := by rw [eA]; rfl
    have seq0 : Lx.Seq K H (.ref b0) (row0.map V.int) := by
      obtain ⟨b, row, h1, h2, h3⟩ := row_of 0 _ at0
      cases h1
      rw [eT] at h2
      cases h2
      exact h3
    have hr0 := hrow row0 (by rw [eT]; exact List.mem_cons_self)
    obtain ⟨a, rfl, hq⟩ := Seq.cases hs
    refine ⟨.ref a, rfl, a, as.map V.ref, rfl, ?_⟩
    rcases hq with hq | hq
    case' inl => refine .inl ⟨s1.seq hq, for_it walk_enum (fun i σ H2 => (∃ y2 y3, σ = [some (.ref x), some (.ref a), y2, y3]) ∧ Same H H2) ⟨⟨none, none, rfl⟩, s1⟩ (fun i σ H2 _ hp => hp.2.seq hq) ?turn1 ?fin1⟩
    case' inr => refine .inr ⟨sameT s1 hq, for_it walk_enumT (fun i σ H2 => (∃ y2 y3, σ = [some (.ref x), some (.ref a), y2, y3]) ∧ Same H H2) ⟨⟨none, none, rfl⟩, s1⟩ (fun i σ H2 _ hp => sameT hp.2 hq) ?turn2 ?fin2⟩
    case turn1 | turn2 =>
      rintro i y σ H2 H3 hi ⟨⟨y2, y3, rfl⟩, s2⟩ ⟨Tp, x1, x2, rfl, nT, rfl, e1, e2⟩
      have s4 : Same H (upd H2 Tp (.tup [x1, x2])) := s2.trans (same_new nT)
      obtain ⟨b, row, rfl, hb, hsb⟩ := row_of i x2 e2
      obtain ⟨hr1, hr2⟩ := hrow row (List.mem_of_getElem? hb)
      refine ⟨Tp, _, rfl, .inl (.inl upd_same), rfl, x1, [.ref b], rfl, .ref b, [], rfl, rfl, ?_⟩
      have ix0 : ∀ Qx : VK, Qx (.ref b0) (upd H2 Tp (.tup [x1, .ref b])) → rIx K (.ref a) (.int 0) (upd H2 Tp (.tup [x1, .ref b])) Qx := fun Qx z => by
        first
          | exact .inl ⟨a, _, 0, _, rfl, rfl, s4.seq hq, atI_nat (j := 0) at0, z⟩
          | exact .inr (.inl ⟨a, _, 0, _, rfl, rfl, sameT s4 hq, atI_nat (j := 0) at0, z⟩)
      refine ⟨.ref b, rfl, .ref a, rfl, ix0 _ ?_⟩
      refine ⟨.ref b, .ref b0, rfl, .inr (.inr ⟨row.map V.int, row0.map V.int, hsb.same s4, seq0.same s4, by rw [List.length_map]; omega, by rw [List.length_map]; omega, ?_, fun H5 s5 => ⟨_, rfl, ?_⟩⟩)⟩
      · intro z hz
        obtain ⟨k, _, rfl⟩ := List.mem_map.mp hz
        exact .int k
      · have ok : (decide ((row.map V.int).length = (row0.map V.int).length) && (row.map V.int).all (fun x => isD (row.map V.int).length x)) = true := by
          rw [Bool.and_eq_true, decide_eq_true_eq, List.all_eq_true]
          refine ⟨by rw [List.length_map, List.length_map]; omega, fun z hz => ?_⟩
          obtain ⟨k, hk, rfl⟩ := List.mem_map.mp hz
          have := hr2 k hk
          rw [List.length_map]
          simp only [isD, numV, Bool.and_eq_true, decide_eq_true_eq]
          omega
        rw [ok]
        exact iteF ⟨⟨_, _, rfl⟩, s4.trans s5⟩
    case fin1 | fin2 =>
      rintro σ H2 ⟨⟨y2, y3, rfl⟩, s2⟩
      refine ⟨.ref a, rfl, a, rfl, ?_⟩
      -- tuple([tuple(table) for table in tables])
      have elem : ∀ (D : Addr), H2 D = none → ∀ (i : Nat) (H3 : Hp) (b : Addr) (row : List Int), T[i]? = some row → Lx.Seq K H (.ref b) (row.map V.int) → Same H2 H3 → (bs : List Addr) → H3 D = some (.lst (bs.map V.ref)) → bs.length = i → Paired (fun (b : Addr) (row : List Int) => SqT K H3 b (row.map V.int)) bs (T.take i) →
          ∀ (c : Addr) (H4 : Hp), Same H3 H4 → SqT K H4 c (row.map V.int) → ∃ acc, H4 D = some (.lst acc) ∧ acc.length < sizeLine ∧ (Same H2 (upd H4 D (.lst (acc ++ [.ref c]))) ∧ ∃ bs : List Addr, upd H4 D (.lst (acc ++ [.ref c])) D = some (.lst (bs.map V.ref)) ∧ bs.length = i + 1 ∧
            Paired (fun (b : Addr) (row : List Int) => SqT K (upd H4 D (.lst (acc ++ [.ref c]))) b (row.map V.int)) bs (T.take (i + 1))) := by
        intro D nD i H3 b row hrow_i hsb s3 bs hD hl hpb c H4 s4 hc
        have lt : i < T.length := (List.getElem?_eq_some_iff.mp hrow_i).1
        have m4 := hT.most4
        refine ⟨_, s4 _ _ hD, by rw [List.length_map, sizeLine_eq]; omega, ?_, bs ++ [c], by rw [upd_same, List.map_append]; rfl, by simp [hl], ?_⟩
        · intro b' o' z
          rw [upd_ne (ne_of_none z nD)]
          exact s4 _ _ (s3 _ _ z)
        · have keep : ∀ (b' : Addr) (xs : List V), SqT K H4 b' xs → SqT K (upd H4 D (.lst (bs.map V.ref ++ [.ref c]))) b' xs := fun b' xs z => by
            rcases z with (z | ⟨o, z⟩) | z
            · exact .inl (.inl (by rw [upd_ne (ne_of z (s4 _ _ hD) (fun q => by cases q))]; exact z))
            · exact .inl (.inr ⟨o, by rw [upd_ne (ne_of z (s4 _ _ hD) (fun q => by cases q))]; exact z⟩)
            · exact .inr z
          have e : T.take (i + 1) = T.take i ++ [row] := by
            rw [List.take_add_one, hrow_i]
            rfl
          rw [e]
          exact paired_snoc (paired_imp hpb fun b' r z => keep b' _ (sameT s4 z)) (keep c _ hc)
      first
        | refine .inl ⟨_, s2.seq hq, fun D nD => ?_⟩
        | refine .inr ⟨_, sameT s2 hq, fun D nD => ?_⟩
      first
        | refine lc_it ((walk_list (K := K) (a := a) (xs := as.map V.ref)).mono (G' := fun H' => Same H2 H') (Y' := YAt (as.map V.ref)) (fun H' s3 => (s2.trans s3).seq hq) (fun _ _ _ _ _ _ y => y)) (PvM K H2 D T) ⟨same_new nD, [], upd_same, rfl, .nil⟩ (fun i H3 _ hp => hp.1) (fun i y H3 H4 hi hp hy => ?_) (fun H3 hp => ?_)
        | refine lc_it ((walk_tup (K := K) (a := a) (xs := as.map V.ref)).mono (G' := fun H' => Same H2 H') (Y' := YAt (as.map V.ref)) (fun H' s3 => sameT (s2.trans s3) hq) (fun _ _ _ _ _ _ y => y)) (PvM K H2 D T) ⟨same_new nD, [], upd_same, rfl, .nil⟩ (fun i H3 _ hp => hp.1) (fun i y H3 H4 hi hp hy => ?_) (fun H3 hp => ?_)
      · obtain ⟨s3, bs, hD, hl, hpb⟩ := hp
        obtain ⟨rfl, ey⟩ := hy
        obtain ⟨b, row, rfl, hb, hsb⟩ := row_of i y ey
        refine ⟨rfl, yes_in ?_⟩
        refine ⟨.ref b, rfl, ?_⟩
        cases hsb.same (s2.trans s3) with
        | lst h => exact ⟨b, row.map V.int, rfl, .inl ⟨h, fun l nl => elem D nD i H4 b row hb hsb s3 bs hD hl hpb l _ (same_new nl) (.inl (.inl upd_same))⟩⟩
        | tup h => exact ⟨b, row.map V.int, rfl, .inr ⟨h, elem D nD i H4 b row hb hsb s3 bs hD hl hpb b H4 (Same.refl _) h⟩⟩
      · obtain ⟨s3, bs, hD, hl, hpb⟩ := hp
        have eT2 : T.take (as.map V.ref).length = T := List.take_of_length_le (by rw [List.length_map]; omega)
        rw [eT2] at hpb
        refine ⟨D, bs.map V.ref, rfl, .inl ⟨.inl (.inl hD), fun t nt => ?_⟩⟩
        have hx3 := s3 _ _ (s2 _ _ hx)
        have s4 : Same H3 (upd H3 t (.tup (bs.map V.ref))) := same_new nt
        have ext : ∃ C dx fs, (upd H3 t (.tup (bs.map V.ref))) x = some (.ins C dx fs) := ⟨_, _, _, s4 _ _ hx3⟩
        have lb : bs.length = T.length := paired_len hpb
        have nxt : t ≠ x := fun z => by rw [z, hx3] at nt; cases nt
        -- self.tables
        refine ⟨.ref x, rfl, x, CM, dx, [], rfl, s4 _ _ hx3, M.cl, M.nT, by decide, ?_⟩
        -- self.deeds
        refine ⟨.ref x, rfl, x, CM, dx, _, .ref t, rfl, upd_same, M.cl, M.nT, rfl, t, bs.map V.ref, rfl, .inr (.inl (.inl (by rw [upd_ne nxt, upd_same]))), ?_⟩
        refine ⟨.ref x, rfl, x, CM, dx, _, rfl, upd_same, M.cl, M.nD, (show (1 : Nat) < 1000 by decide), ?_⟩
        -- self.states
        obtain ⟨c0, bs', eB⟩ : ∃ c0 bs', bs = c0 :: bs' := by
          cases bs with
          | nil =>
            rw [eT] at lb
            simp at lb
          | cons p q => exact ⟨p, q, rfl⟩
        have hc0 : SqT K H3 c0 (row0.map V.int) := by
          rw [eB, eT] at hpb
          cases hpb with
          | cons h _ => exact h
        have up3 : ∀ (o1 o2 : HO) (c : Addr) (xs : List V), SqT K H3 c xs → SqT K (upd (upd (upd H3 t (.tup (bs.map V.ref))) x o1) x o2) c xs := fun o1 o2 c xs z =>
          (SameBut.trans (SameBut.of s4) (SameBut.trans (x := x) SameBut.put SameBut.put)).tup ⟨_, _, _, hx3⟩ z
        refine ⟨.ref x, rfl, x, CM, dx, _, .ref t, rfl, upd_same, M.cl, M.nT, rfl, t, bs.map V.ref, 0, .ref c0, rfl, rfl, .inl (.inl (by rw [upd_ne nxt, upd_ne nxt, upd_same])), atI_nat (j := 0) (by rw [eB]; rfl), c0, row0.map V.int, rfl, .inr (up3 _ _ _ _ hc0), ?_⟩
        refine ⟨.ref x, rfl, x, CM, dx, _, rfl, upd_same, M.cl, M.nS, (show (2 : Nat) < 1000 by decide), ?_⟩
        refine q _ ?_ ⟨dx, _, t, bs, upd_same, ?_, ?_, ?_, .inl (.inl (by rw [upd_ne nxt, upd_ne nxt, upd_ne nxt, upd_same])), ?_⟩
        · exact (SameBut.of (s2.trans (s3.trans s4))).trans (SameBut.trans (SameBut.trans SameBut.put SameBut.put) SameBut.put)
        · show some (V.int ((bs.map V.ref).length : Nat)) = _
          rw [List.length_map, lb]
        · show some (V.int ((row0.map V.int).length : Nat)) = _
          rw [List.length_map, eT]
          rfl
        · rfl
        · exact paired_imp hpb fun c r z => (SameBut.put (x := x)).tup ⟨_, _, _, upd_same⟩ (up3 _ _ _ _ z)
end
end Pg

set_option Elab.async false
set_option linter.all false
set_option maxRecDepth 100000
set_option maxHeartbeats 4000000
namespace Pg
open PySem PySem.Spec PyProof.Rows L2 Lx
/-! ### rows, good and bad -/
/-- v is a row of the deeds ds, below n -/
structure GoodRow (K : PySem.W.Frag) (H : Hp) (n : Nat) (v : V) (ds : List Int) : Prop where
  seq : Lx.Seq K H v (ds.map V.int)
  len : ds.length ≤ 400
  rng : ∀ d ∈ ds, 0 ≤ d ∧ d < n
/-- v is none: the error of the class at C that tells where is wished for -/
def BadRowV (K : PySem.W.Frag) (CR : Addr) (n : Nat) (v : V) (H : Hp) (E : XK) : Prop :=
  ((Sca v ∨ ∃ xs, Lx.Seq K H v xs ∧ 400 < xs.length) ∧ ErrK E CR (.int (-1)) H) ∨
  (∃ xs, Lx.Seq K H v xs ∧ xs.length ≤ 400 ∧ (∀ x ∈ xs, Vk K H x) ∧ ∃ i x, xs[i]? = some x ∧ isD n x = false ∧ (∀ j y, j < i → xs[j]? = some y → isD n y = true) ∧ ErrK E CR (.int (i : Nat)) H)
theorem BadRowV.check {K : PySem.W.Frag} {CR : Addr} {n : Nat} {v : V} {H : Hp} {Q : VK} {E : XK} (h : BadRowV K CR n v H E) : CheckRow K CR n v H Q E := by
  rcases h with h | ⟨xs, h1, h2, h3, h4⟩
  · exact .inl h
  · exact .inr ⟨xs, h1, h2, h3, .inl h4⟩
theorem isD_int {n : Nat} {d : Int} : isD n (.int d) = true ↔ 0 ≤ d ∧ d < n := by
  simp only [isD, numV, Bool.and_eq_true, decide_eq_true_eq]
  omega
theorem GoodRow.check {K : PySem.W.Frag} {CR : Addr} {n : Nat} {v : V} {ds : List Int} {H : Hp} {Q : VK} {E : XK} (h : GoodRow K H n v ds) (q : ∀ H' r, Same H H' → SqT K H' r (ds.map V.int) → Q (.ref r) H') : CheckRow K CR n v H Q E := by
  refine .inr ⟨_, h.seq, by rw [List.length_map]; exact h.len, fun x hx => ?_, .inr ⟨fun x hx => ?_, q⟩⟩
  · obtain ⟨d, hd, rfl⟩ := List.mem_map.mp hx
    exact .int d
  · obtain ⟨d, hd, rfl⟩ := List.mem_map.mp hx
    exact isD_int.mpr (h.rng d hd)
theorem GoodRow.same {K : PySem.W.Frag} {n : Nat} {v : V} {ds : List Int} {H H' : Hp} (h : GoodRow K H n v ds) (e : Same H H') : GoodRow K H' n v ds := ⟨h.seq.same e, h.len, h.rng⟩

/-! ### repeats -/
/-- the last l of ds repeat with the step s -/
def EndRep (ds : List Int) (s l : Nat) : Prop := ∀ i, ds.length - l + s ≤ i → i < ds.length → ds[i]? = ds[i - s]?
/-- r is the longest of them -/
structure Longest (ds : List Int) (s r : Nat) : Prop where
  le : r ≤ ds.length
  rep : EndRep ds s r
  low : min s ds.length ≤ r
  most : ∀ l, l ≤ ds.length → EndRep ds s l → l ≤ r
theorem EndRep.short {ds : List Int} {s l : Nat} (h : l ≤ s) (hl : l ≤ ds.length) : EndRep ds s l := fun i h1 h2 => by omega
theorem EndRep.less {ds : List Int} {s l m : Nat} (h : EndRep ds s l) (hm : m ≤ l) : EndRep ds s m := fun i h1 h2 => h i (by omega) h2
theorem EndRep.more {ds : List Int} {s l : Nat} (h : EndRep ds s l) (hs : s ≤ l) (hl : l < ds.length) (e : ds[ds.length - 1 - l + s]? = ds[ds.length - 1 - l]?) : EndRep ds s (l + 1) := fun i h1 h2 => by
  by_cases z : i = ds.length - 1 - l + s
  · subst z
    rw [Nat.add_sub_cancel]
    exact e
  · exact h i (by omega) h2
theorem atI_neg {α : Type} {xs : List α} {k : Nat} {v : α} (hk : k < xs.length) (h : xs[xs.length - 1 - k]? = some v) : atI xs (-(k : Int) - 1) = some v := by
  have e : ixN xs.length (-(k : Int) - 1) = some (xs.length - 1 - k) := by
    unfold ixN
    rw [if_neg (by omega), if_pos (by omega)]
    congr 1
    omega
  unfold atI
  rw [e]
  exact h

section
variable {P : Program} {w : World} {K : PySem.W.Frag} {mg : Str → Option Value} {base : Heap} {CM CR CF : Addr}
def spRepeatEnd (K : PySem.W.Frag) (CM CR CF : Addr) : Sp := fun vs H Q E => ∃ m v st T, vs = [.ref m, v, st] ∧ MachAt K CM H m T ∧
  (BadRowV K CR T.length v H E ∨ (∃ ds, GoodRow K H T.length v ds ∧ Sca st ∧ ((numV st 1 400 = false ∧ ErrK E CF st H) ∨ (∃ s : Nat, st = .int s ∧ 1 ≤ s ∧ s ≤ 400 ∧ ∀ H' r, Same H H' → Longest ds s r → Q (.int (r : Nat)) H'))))
theorem scRepeatEnd : FnScope ["machine", "row", "step", "deeds", "length"] ["machine", "row", "step"] (defScope sRepeatEnd) := ⟨rfl, rfl, rfl, by decide +kernel, rfl, by decide +kernel, by decide +kernel⟩
theorem ok_repeat_end {f : Addr} {fd : FuncData} {tk : Tok} (F : Fun K "repeat_end" "repeat_end" sRepeatEnd f fd) (B : Bare mg) (gL : mg "LONGEST_ROW" = some (.int 400 tk)) (Er : Err P w K mg base "Refused" "at" CF)
    (Gn : Has P w K mg base L2.CX0 1 "is_number" ["value", "least", "greatest"] (spIsNumber K)) (Gc : Has P w K mg base (L2.CX P w) 4 "check_row" ["machine", "value"] (spCheckRow K CM CR)) :
    FnOk P w K mg base (L2.CX P w) 5 f fd ["machine", "row", "step"] (spRepeatEnd K CM CR CF) := by
  refine F.okX scRepeatEnd (fun vs H Q E h => ?_) (fun cdv A outer s H vs Q E hr h => ?_)
  · obtain ⟨m, v, st, T, rfl, _⟩ := h
    rfl
  · obtain ⟨m, v, st, T, rfl, hm, h⟩ := h
    have tk : Takes (cxOf (L2.CX P w) P w K mg base ["machine", "row", "step", "deeds", "length"] "repeat_end" (defScope sRepeatEnd) f cdv A outer s H E) (fun cls d _ H => E cls d H) := takes_of rfl rfl rfl rfl
    refine ⟨_, pss_cons (ps_set (i := 3) scRepeatEnd.nd rfl (Or.inl rfl) (pe_hasX (E := E) Gc hr tk (fun _ _ _ _ z => z) (by rfl) (pa_cons (pv 0) (pa_cons (pv 1) pa_nil))))
      (pss_cons (ps_if (pt_not (pt_val (pe_has Gn (hr.mono (by decide)) (by rfl) (pa_cons (pv 2) (pa_cons pe_int (pa_cons (pe_glob (v := .int 400) rfl gL ⟨_, rfl⟩) pa_nil)))))) (pss_one (ps_raiseErr rfl Er (hr.mono (by decide)) tk (pv 2))) pss_nil)
      (pss_cons (ps_set (i := 4) scRepeatEnd.nd rfl (Or.inl rfl) (pe_callB (call_min2 rfl) (by rfl) B.min (by decide +kernel) (pa_cons (pv 2) (pa_cons (pe_callB lenS (by rfl) B.len PySem.boot_len (pa_cons (pv 3) pa_nil)) pa_nil))))
      (pss_cons (ps_while (passes_of rfl) (PW.pt (pw_and (pt_cmpR op_lt (pv 4) (pe_callB lenS (by rfl) B.len PySem.boot_len (pa_cons (pv 3) pa_nil)) (nomark _))
          (pw_and1 (pt_cmpR op_eq (pe_ix ix_tup (pv 3) (pe_op op_sub (pe_un un_neg (pv 4)) pe_int) (fun _ _ => rfl)) (pe_ix ix_tup (pv 3) (pe_op op_sub (pe_op op_sub (pv 2) (pv 4)) pe_int) (fun _ _ => rfl)) (nomark _)))))
        (pss_one (ps_aug (i := 4) scRepeatEnd.nd rfl (Or.inl rfl) pe_int ip_add)))
      (pss_one (ps_ret (pv 4)))))), ?_⟩
    rcases h with h | ⟨ds, hd, hst, h⟩
    · exact ⟨.ref m, rfl, v, rfl, m, v, T, rfl, hm, h.check⟩
    · refine ⟨.ref m, rfl, v, rfl, m, v, T, rfl, hm, hd.check fun H1 r s1 hr1 => ?_⟩
      refine ⟨st, rfl, st, 1, 400, rfl, hst.vk, _, rfl, ?_⟩
      rcases h with ⟨hn, er⟩ | ⟨s, rfl, h1, h4, q⟩
      · rw [hn]
        exact iteT ⟨st, rfl, err_in fun d H' s2 n z => er.on s1 d H' s2 n z⟩
      · have e : numV (.int s) 1 400 = true := by
          simp only [numV, Bool.and_eq_true, decide_eq_true_eq]
          omega
        rw [e]
        refine iteF ?_
        have hl : ((ds.map V.int).length : Int) = ds.length := by rw [List.length_map]
        refine ⟨.int s, rfl, .ref r, rfl, r, ds.map V.int, rfl, .inr hr1, (s : Int), ((ds.map V.int).length : Nat), rfl, ?_⟩
        have em : (if ((ds.map V.int).length : Int) < (s : Int) then ((ds.map V.int).length : Int) else (s : Int)) = ((min s ds.length : Nat) : Int) := by
          rw [List.length_map]
          split <;> omega
        rw [em]
        have num : ∀ (i : Nat), i < ds.length → (ds.map V.int)[i]? = some (.int (ds.getD i 0)) := fun i hi => by
          rw [List.getElem?_map, List.getElem?_eq_getElem hi, List.getD_eq_getElem?_getD, List.getElem?_eq_getElem hi]
          rfl
        have same : ∀ i j : Nat, i < ds.length → j < ds.length → (ds[i]? = ds[j]? ↔ ds.getD i 0 = ds.getD j 0) := fun i j hi hj => by
          rw [List.getD_eq_getElem?_getD, List.getD_eq_getElem?_getD, List.getElem?_eq_getElem hi, List.getElem?_eq_getElem hj]
          simp
        refine ⟨fun k σ H2 => H2 = H1 ∧ ∃ l : Nat, l + k = ds.length ∧ min s ds.length ≤ l ∧ EndRep ds s l ∧ σ = [some (.ref m), some v, some (.int s), some (.ref r), some (.int l)], ⟨ds.length - min s ds.length, rfl, min s ds.length, by omega, Nat.le_refl _, EndRep.short (by omega) (by omega), rfl⟩, ?_⟩
        rintro k σ H2 ⟨rfl, l, hk, hlow, hrep, rfl⟩
        refine ⟨.int l, rfl, .ref r, rfl, r, ds.map V.int, rfl, .inr hr1, l, ((ds.map V.int).length : Nat), rfl, rfl, _, rfl, ?_⟩
        refine ite2 (fun c => ?_) (fun c => ?_)
        · have lt : l < ds.length := by
            rw [decide_eq_true_eq, hl] at c
            omega
          have sl : s ≤ l := by omega
          have i1 : ds.length - 1 - l < ds.length := by omega
          have i2 : ds.length - 1 - l + s < ds.length := by omega
          have a1 : atI (ds.map V.int) (-(l : Int) - 1) = some (.int (ds.getD (ds.length - 1 - l) 0)) := atI_neg (by rw [List.length_map]; exact lt) (by rw [List.length_map]; exact num _ i1)
          have a2 : atI (ds.map V.int) ((s : Int) - l - 1) = some (.int (ds.getD (ds.length - 1 - l + s) 0)) := by
            have z := atI_neg (xs := ds.map V.int) (k := l - s) (v := .int (ds.getD (ds.length - 1 - l + s) 0)) (by rw [List.length_map]; omega) (by
              rw [List.length_map, show ds.length - 1 - (l - s) = ds.length - 1 - l + s by omega]
              exact num _ i2)
            rw [show -((l - s : Nat) : Int) - 1 = (s : Int) - l - 1 by omega] at z
            exact z
          refine ⟨.ref r, rfl, .int l, rfl, l, rfl, -(l : Int), 1, rfl, rfl, r, _, _, _, rfl, rfl, hr1, a1, .ref r, rfl, .int s, rfl, .int l, rfl, s, l, rfl, rfl, _, 1, rfl, rfl, r, _, _, _, rfl, rfl, hr1, a2, rfl, _, rfl, ?_⟩
          refine ite2 (fun c2 => ?_) (fun c2 => ?_)
          · have eq : ds.getD (ds.length - 1 - l) 0 = ds.getD (ds.length - 1 - l + s) 0 := by
              have z := of_decide_eq_true c2
              injection z
            refine ⟨fun σ' H' => H' = H2 ∧ ∃ l' : Nat, l' + (k - 1) = ds.length ∧ min s ds.length ≤ l' ∧ EndRep ds s l' ∧ σ' = [some (.ref m), some v, some (.int s), some (.ref r), some (.int l')], fun σ' H' z => ⟨k - 1, by omega, z⟩, ?_⟩
            refine ⟨_, rfl, _, 1, rfl, rfl, rfl, l + 1, by omega, by omega, hrep.more sl lt ((same _ _ i2 i1).mpr eq.symm), ?_⟩
            rfl
          · refine ⟨.int l, rfl, q _ l s1 ⟨by omega, hrep, hlow, fun l' hl' hr' => ?_⟩⟩
            apply Nat.le_of_not_lt
            intro z
            have w := (hr'.less (m := l + 1) (by omega)) (ds.length - 1 - l + s) (by omega) i2
            rw [Nat.add_sub_cancel] at w
            have w2 := (same _ _ i2 i1).mp w
            exact c2 (decide_eq_true (by rw [w2]))
        · have ge : ds.length ≤ l := by
            rw [decide_eq_true_eq, hl] at c
            omega
          exact ⟨.int l, rfl, q _ l s1 ⟨by omega, hrep, hlow, fun l' hl' _ => by omega⟩⟩
end
end Pg

set_option Elab.async false
set_option linter.all false
set_option maxRecDepth 100000
set_option maxHeartbeats 4000000
namespace Pg
open PySem PySem.Spec PyProof.Rows L2 Lx
/-- all of ds repeats with the step s -/
def perB (ds : List Int) (s : Nat) : Bool := decide (ds.drop s = ds.take (ds.length - s))
def stepsOf (ds : List Int) : List Int := ((List.range (ds.length - 1)).filter (fun i => perB ds (i + 1))).map (fun (i : Nat) => ((i : Int) + 1))
section
variable {P : Program} {w : World} {K : PySem.W.Frag} {mg : Str → Option Value} {base : Heap} {CM CR CF : Addr}
def spRepeatSteps (K : PySem.W.Frag) (CM CR : Addr) : Sp := fun vs H Q E => ∃ m v T, vs = [.ref m, v] ∧ MachAt K CM H m T ∧
  (BadRowV K CR T.length v H E ∨ (∃ ds, GoodRow K H T.length v ds ∧ ∀ H' r, Same H H' → SqT K H' r ((stepsOf ds).map V.int) → Q (.ref r) H'))
theorem scRepeatSteps : FnScope ["machine", "row", "deeds", "many", "step"] ["machine", "row"] (defScope sRepeatSteps) := ⟨rfl, rfl, rfl, by decide +kernel, rfl, by decide +kernel, by decide +kernel⟩
theorem ok_repeat_steps {f : Addr} {fd : FuncData} (F : Fun K "repeat_steps" "repeat_steps" sRepeatSteps f fd) (B : Bare mg)
    (Gc : Has P w K mg base (L2.CX P w) 4 "check_row" ["machine", "value"] (spCheckRow K CM CR)) :
    FnOk P w K mg base (L2.CX P w) 5 f fd ["machine", "row"] (spRepeatSteps K CM CR) := by
  refine F.okX scRepeatSteps (fun vs H Q E h => ?_) (fun cdv A outer s H vs Q E hr h => ?_)
  · obtain ⟨m, v, T, rfl, _⟩ := h
    rfl
  · obtain ⟨m, v, T, rfl, hm, h⟩ := h
    have tk : Takes (cxOf (L2.CX P w) P w K mg base ["machine", "row", "deeds", "many", "step"] "repeat_steps" (defScope sRepeatSteps) f cdv A outer s H E) (fun cls d _ H => E cls d H) := takes_of rfl rfl rfl rfl
    refine ⟨_, pss_cons (ps_set (i := 2) scRepeatSteps.nd rfl (Or.inr rfl) (pe_hasX (E := E) Gc hr tk (fun _ _ _ _ z => z) (by rfl) (pa_cons (pv 0) (pa_cons (pv 1) pa_nil))))
      (pss_cons (ps_set (i := 3) scRepeatSteps.nd rfl (Or.inr rfl) (pe_callB lenS (by rfl) B.len PySem.boot_len (pa_cons (pv 2) pa_nil)))
      (pss_one (ps_ret (pe_callTy tupOf (by rfl) B.tuple boot_tuple (pa_cons
        (pe_lc (own := [("step", 4)]) (g := gName 4) rfl scRepeatSteps.nd (pi_range2 (by rfl) B.range (pa_cons pe_int (pa_cons (pv 3) pa_nil))) (blkOk_by (N := ["machine", "row", "deeds", "many", "step"]) (sc := defScope sRepeatSteps) (by decide +kernel))
          (fun _ _ _ _ _ => pg_name (i := 4) scRepeatSteps.nd rfl (Or.inl rfl))
          (fun _ _ _ _ _ => pts_one (pt_cmpR (r := rEqD K) (op_eqD hr.units) (pe_slice (r := rSlT K) sl_tup (pv 2) (po_some (pv 4)) po_none) (pe_slice (r := rSlT K) sl_tup (pv 2) po_none (po_some (pe_op op_sub (pv 3) (pv 4)))) (nomark _)))
          (fun _ _ _ _ _ => pv 4)) pa_nil))))), ?_⟩
    rcases h with h | ⟨ds, hd, q⟩
    · exact ⟨.ref m, rfl, v, rfl, m, v, T, rfl, hm, h.check⟩
    · refine ⟨.ref m, rfl, v, rfl, m, v, T, rfl, hm, hd.check fun H1 r s1 hr1 => ?_⟩
      refine ⟨.ref r, rfl, r, ds.map V.int, rfl, .inr hr1, ?_⟩
      have ln := hd.len
      have lm : (ds.map V.int).length = ds.length := List.length_map _
      refine ⟨.int ((ds.map V.int).length : Nat), rfl, 1, ((ds.map V.int).length : Nat), rfl, ⟨by decide, by decide, by rw [lm]; omega, by rw [lm]; omega⟩, fun D nD => ?_⟩
      have en : (((ds.map V.int).length : Nat) - (1 : Int)).toNat = ds.length - 1 := by rw [lm]; omega
      rw [en]
      refine lc_it walk_range (PvF (fun i => perB ds (i + 1)) (fun i => .int ((i : Int) + 1)) H1 D) (pvf0 nD) (fun i H2 _ _ => trivial) ?_ ?_
      · rintro i x H2 H3 hi hp ⟨rfl, rfl⟩
        refine ⟨rfl, ?_⟩
        have s2 := hp.1
        have e1 : (1 : Int) + (i : Int) = ((i + 1 : Nat) : Int) := by omega
        have e2 : (((ds.map V.int).length : Nat) : Int) - (1 + (i : Int)) = ((ds.length - (i + 1) : Nat) : Int) := by rw [lm]; omega
        refine ⟨.ref r, rfl, _, rfl, 1 + (i : Int), rfl, r, ds.map V.int, rfl, sameT s2 hr1, ?_, fun p1 n1 => ?_⟩
        · rw [e1, HT.sIx_nat, HT.sIx_none, lm]
          omega
        rw [e1, cut_from]
        have s3 : Same H3 (upd H3 p1 (.tup ((ds.map V.int).drop (i + 1)))) := same_new n1
        refine ⟨.ref r, rfl, _, rfl, _, rfl, _, _, rfl, rfl, _, rfl, r, ds.map V.int, rfl, sameT (s2.trans s3) hr1, ?_, fun p2 n2 => ?_⟩
        · rw [e2, HT.sIx_nat, HT.sIx_none, lm]
          omega
        rw [e2, cut_to]
        have s4 := same_new (o := .tup ((ds.map V.int).take (ds.length - (i + 1)))) n2
        have d1 : SqT K (upd (upd H3 p1 (.tup ((ds.map V.int).drop (i + 1)))) p2 (.tup ((ds.map V.int).take (ds.length - (i + 1))))) p1 ((ds.drop (i + 1)).map V.int) := by
          rw [List.map_drop]
          exact sameT s4 (.inl (.inl upd_same))
        have d2 : SqT K (upd (upd H3 p1 (.tup ((ds.map V.int).drop (i + 1)))) p2 (.tup ((ds.map V.int).take (ds.length - (i + 1))))) p2 ((ds.take (ds.length - (i + 1))).map V.int) := by
          rw [List.map_take]
          exact .inl (.inl upd_same)
        refine ⟨_, _, dp_tuple_ints d1, dp_tuple_ints d2, shaped_tuple_ints _, shaped_tuple_ints _, _, rfl, ?_⟩
        rw [eqv_tuple_ints]
        refine ite2 (fun c => ?_) (fun c => ?_)
        · refine ⟨_, rfl, ?_⟩
          exact pvf_put nD hp (s3.trans s4) c (by rw [Int.add_comm]) (by omega)
        · exact pvf_skip hp (s3.trans s4) (by simpa [perB] using c)
      · intro H2 hp
        refine ⟨D, _, rfl, .inl ⟨.inl (.inl hp.2), fun t nt => ?_⟩⟩
        refine q _ t (s1.trans (hp.1.trans (same_new nt))) (.inl (.inl ?_))
        rw [upd_same]
        unfold stepsOf
        rw [List.map_map]
        rfl
end
end Pg

set_option Elab.async false
set_option linter.all false
set_option maxRecDepth 100000
set_option maxHeartbeats 4000000
namespace Pg
open PySem PySem.Spec PyProof.Rows L2 Lx
section
variable {P : Program} {w : World} {K : PySem.W.Frag} {mg : Str → Option Value} {base : Heap} {CM CR CF : Addr}
theorem MachAt.dd {H : Hp} {m : Addr} {T : List (List Int)} (h : MachAt K CM H m T) : ∃ (dx : Addr) (fs : List (Str × V)), H m = some (.ins CM dx fs) ∧ List.lookup ("deeds" : Str) fs = some (V.int T.length) := by
  obtain ⟨dx, fs, t, as, h1, h2, _⟩ := h.ex
  exact ⟨dx, fs, h1, h2⟩

/-! ### _row_count -/
def spRowCount (K : PySem.W.Frag) (CM : Addr) : Sp := fun vs H Q _ => ∃ m, ∃ k : Nat, ∃ T, vs = [.ref m, .int k] ∧ MachAt K CM H m T ∧ T.length ≤ 4 ∧ k ≤ 400 ∧ Q (.int ((T.length ^ k : Nat) : Int)) H
theorem scRowCount : FnScope ["machine", "many", "count", "_"] ["machine", "many"] (defScope sRowCount) := ⟨rfl, rfl, rfl, by decide +kernel, rfl, by decide +kernel, by decide +kernel⟩
theorem ok_row_count {f : Addr} {fd : FuncData} (F : Fun K "_row_count" "_row_count" sRowCount f fd) (B : Bare mg) (M : MachC K CM) : FnOk P w K mg base L2.CX0 1 f fd ["machine", "many"] (spRowCount K CM) := by
  refine F.ok scRowCount (fun vs H Q E h => ?_) (fun cdv A outer s H vs Q E hr h => ?_)
  · obtain ⟨m, k, T, rfl, _⟩ := h
    rfl
  · obtain ⟨m, k, T, rfl, hm, h4, hk, q⟩ := h
    refine ⟨_, pss_cons (ps_set (i := 2) scRowCount.nd rfl (Or.inl rfl) pe_int)
      (pss_cons (ps_for PassesOwn.never rfl (pi_range1 (by rfl) B.range (pa_cons (pv 1) pa_nil)) (pg_name (i := 3) scRowCount.nd rfl (Or.inl rfl))
        (pss_one (ps_set (i := 2) scRowCount.nd rfl (Or.inl rfl) (pe_op op_mul (pv 2) (pe_fld (pv 0) rfl)))))
      (pss_one (ps_ret (pv 2)))), ?_⟩
    refine ⟨_, rfl, (k : Int), rfl, by omega, by omega, ?_⟩
    have ek : ((k : Int)).toNat = k := rfl
    refine for_range (lo := 0) (n := k) (fun i σ H2 => H2 = H ∧ ∃ y, σ = [some (.ref m), some (.int k), some (.int ((T.length ^ i : Nat) : Int)), y]) ⟨rfl, none, rfl⟩ ?_ ?_
    · rintro i σ H2 hi ⟨rfl, y, rfl⟩
      obtain ⟨dx, fs, g1, g2⟩ := hm.dd
      refine ⟨_, rfl, .ref m, rfl, m, CM, dx, fs, _, rfl, g1, M.cl, M.nD, g2, _, _, rfl, rfl, .inr ⟨by omega, by omega⟩, rfl, some (.int (0 + (i : Int))), ?_⟩
      rw [Nat.pow_succ, Int.natCast_mul]
      rfl
    · rintro σ H2 ⟨rfl, y, rfl⟩
      exact ⟨_, rfl, q⟩

/-! ### nth_row -/
def digits (n k x : Nat) : List Int := ((List.range k).map (fun i => ((x / n ^ i % n : Nat) : Int))).reverse
def spNthRow (K : PySem.W.Frag) (CM CF : Addr) : Sp := fun vs H Q E => ∃ m kv xv T, vs = [.ref m, kv, xv] ∧ MachAt K CM H m T ∧ 1 ≤ T.length ∧ T.length ≤ 4 ∧ Sca kv ∧
  ((numV kv 0 400 = false ∧ ErrK E CF kv H) ∨ (∃ k : Nat, kv = .int k ∧ k ≤ 400 ∧ Sca xv ∧
    ((numV xv 0 (((T.length ^ k : Nat) : Int) - 1) = false ∧ ErrK E CF xv H) ∨ (∃ x : Nat, xv = .int x ∧ x < T.length ^ k ∧ ∀ H' r, Same H H' → SqT K H' r ((digits T.length k x).map V.int) → Q (.ref r) H'))))
theorem scNthRow : FnScope ["machine", "many", "number", "deeds", "left", "_", "deed"] ["machine", "many", "number"] (defScope sNthRow) := ⟨rfl, rfl, rfl, by decide +kernel, rfl, by decide +kernel, by decide +kernel⟩
theorem ok_nth_row {f : Addr} {fd : FuncData} {tk : Tok} (F : Fun K "nth_row" "nth_row" sNthRow f fd) (B : Bare mg) (M : MachC K CM) (gL : mg "LONGEST_ROW" = some (.int 400 tk)) (Er : Err P w K mg base "Refused" "at" CF)
    (Gn : Has P w K mg base L2.CX0 1 "is_number" ["value", "least", "greatest"] (spIsNumber K)) (Gc : Has P w K mg base L2.CX0 1 "_row_count" ["machine", "many"] (spRowCount K CM)) :
    FnOk P w K mg base (L2.CX P w) 4 f fd ["machine", "many", "number"] (spNthRow K CM CF) := by
  refine F.okX scNthRow (fun vs H Q E h => ?_) (fun cdv A outer s H vs Q E hr h => ?_)
  · obtain ⟨m, kv, xv, T, rfl, _⟩ := h
    rfl
  · obtain ⟨m, kv, xv, T, rfl, hm, h1, h4, hkv, h⟩ := h
    have tk : Takes (cxOf (L2.CX P w) P w K mg base ["machine", "many", "number", "deeds", "left", "_", "deed"] "nth_row" (defScope sNthRow) f cdv A outer s H E) (fun cls d _ H => E cls d H) := takes_of rfl rfl rfl rfl
    refine ⟨_, pss_cons (ps_if (pt_not (pt_val (pe_has Gn (hr.mono (by decide)) (by rfl) (pa_cons (pv 1) (pa_cons pe_int (pa_cons (pe_glob (v := .int 400) rfl gL ⟨_, rfl⟩) pa_nil)))))) (pss_one (ps_raiseErr rfl Er (hr.mono (by decide)) tk (pv 1))) pss_nil)
      (pss_cons (ps_if (pt_not (pt_val (pe_has Gn (hr.mono (by decide)) (by rfl) (pa_cons (pv 2) (pa_cons pe_int (pa_cons (pe_op op_sub (pe_has Gc (hr.mono (by decide)) (by rfl) (pa_cons (pv 0) (pa_cons (pv 1) pa_nil))) pe_int) pa_nil)))))) (pss_one (ps_raiseErr rfl Er (hr.mono (by decide)) tk (pv 2))) pss_nil)
      (pss_cons (ps_set (i := 3) scNthRow.nd rfl (Or.inl rfl) (pe_lst pa_nil))
      (pss_cons (ps_set (i := 4) scNthRow.nd rfl (Or.inl rfl) (pv 2))
      (pss_cons (ps_for (passes_of rfl) rfl (pi_range1 (by rfl) B.range (pa_cons (pv 1) pa_nil)) (pg_name (i := 5) scNthRow.nd rfl (Or.inl rfl))
        (pss_cons (ps_asg (pe_callB call_divmod (by rfl) B.divmod (by decide +kernel) (pa_cons (pv 4) (pa_cons (pe_fld (pv 0) rfl) pa_nil))) (pg_tup rfl (pgs_cons (pg_name (i := 4) scNthRow.nd rfl (Or.inl rfl)) (pgs_cons (pg_name (i := 6) scNthRow.nd rfl (Or.inl rfl)) pgs_nil))))
          (pss_one (ps_expr (pe_bm PySem.F.plainAttrs_list PySem.F.slot_list_append PySem.F.type_list_append mt_append (pv 3) (pa_cons (pv 6) pa_nil))))))
      (pss_one (ps_ret (RT.pe_tupRev rfl (by rfl) B.tuple (by rfl) B.reversed (pv 3)))))))), ?_⟩
    refine ⟨kv, rfl, kv, 0, 400, rfl, hkv.vk, _, rfl, ?_⟩
    rcases h with ⟨hn, er⟩ | ⟨k, rfl, hk, hxv, h⟩
    · rw [hn]
      exact iteT ⟨kv, rfl, err_in fun d H' s2 n z => er d H' s2 n z⟩
    · have e : numV (.int k) 0 400 = true := by
        simp only [numV, Bool.and_eq_true, decide_eq_true_eq]
        omega
      rw [e]
      refine iteF ?_
      refine ⟨xv, rfl, .ref m, rfl, .int k, rfl, m, k, T, rfl, hm, h4, hk, _, 1, rfl, rfl, xv, 0, _, rfl, hxv.vk, _, rfl, ?_⟩
      rcases h with ⟨hn, er⟩ | ⟨x, rfl, hx, q⟩
      · rw [hn]
        exact iteT ⟨xv, rfl, err_in fun d H' s2 n z => er d H' s2 n z⟩
      · have e : numV (.int x) 0 (((T.length ^ k : Nat) : Int) - 1) = true := by
          simp only [numV, Bool.and_eq_true, decide_eq_true_eq]
          omega
        rw [e]
        refine iteF ⟨Nat.zero_le _, fun l nl => ?_⟩
        refine ⟨.int x, rfl, _, rfl, (k : Int), rfl, by omega, by omega, ?_⟩
        have s1 : Same H (upd H l (.lst [])) := same_new nl
        refine for_range (lo := 0) (n := k) (fun i σ H2 => Same H H2 ∧ H2 l = some (.lst ((List.range i).map (fun j => V.int ((x / T.length ^ j % T.length : Nat) : Int)))) ∧ ∃ y z, σ = [some (.ref m), some (.int k), some (.int x), some (.ref l), some (.int ((x / T.length ^ i : Nat) : Int)), y, z]) ⟨s1, upd_same, none, none, ?_⟩ ?_ ?_
        · rw [Nat.pow_zero, Nat.div_one]
          rfl
        · rintro i σ H2 hi ⟨s2, hl, y, z, rfl⟩
          obtain ⟨dx, fs, g1, g2⟩ := (hm.same s2).dd
          refine ⟨_, rfl, .ref m, rfl, m, CM, dx, fs, _, rfl, g1, M.cl, M.nD, g2, _, _, rfl, ⟨by omega, by omega⟩, fun p np => ?_⟩
          have s3 := same_new (o := .tup [V.int (((x / T.length ^ i : Nat) : Int) / (T.length : Int)), V.int (((x / T.length ^ i : Nat) : Int) % (T.length : Int))]) np
          refine ⟨p, _, rfl, .inl (.inl upd_same), rfl, _, _, rfl, _, _, rfl, rfl, ?_⟩
          have hl' := s3 _ _ hl
          refine ⟨.ref l, rfl, .inl ⟨rfl, _, .inl (.inl hl')⟩, _, rfl, l, _, _, rfl, rfl, hl', by rw [List.length_map, List.length_range, sizeLine_eq]; omega, ?_⟩
          refine ⟨fun b o h => ?_, ?_, some (.int (0 + (i : Int))), some (.int (((x / T.length ^ i : Nat) : Int) % (T.length : Int))), ?_⟩
          · rw [upd_ne (ne_of_none h nl)]
            exact s3 _ _ (s2 _ _ h)
          · rw [upd_same, List.range_succ, List.map_append]
            congr 2
          · rw [Nat.pow_succ, ← Nat.div_div_eq_div_mul]
            rfl
        · rintro σ H2 ⟨s2, hl, y, z, rfl⟩
          refine ⟨.ref l, rfl, l, _, rfl, .inl (.inl hl), fun r nr => q _ r (s2.trans (same_new nr)) (.inl (.inl ?_))⟩
          rw [upd_same]
          unfold digits
          rw [List.map_reverse, List.map_map]
          rfl

/-! ### row_place -/
def placeOf (n : Nat) (ds : List Int) : Int := ds.foldl (fun p d => p * n + d) 0
def spRowPlace (K : PySem.W.Frag) (CM CR : Addr) : Sp := fun vs H Q E => ∃ m v T, vs = [.ref m, v] ∧ MachAt K CM H m T ∧ T.length ≤ 4 ∧
  (BadRowV K CR T.length v H E ∨ (∃ ds, GoodRow K H T.length v ds ∧ ∀ H', Same H H' → Q (.int (placeOf T.length ds)) H'))
theorem scRowPlace : FnScope ["machine", "row", "place", "deed"] ["machine", "row"] (defScope sRowPlace) := ⟨rfl, rfl, rfl, by decide +kernel, rfl, by decide +kernel, by decide +kernel⟩
theorem ok_row_place {f : Addr} {fd : FuncData} (F : Fun K "row_place" "row_place" sRowPlace f fd) (M : MachC K CM) (Gc : Has P w K mg base (L2.CX P w) 4 "check_row" ["machine", "value"] (spCheckRow K CM CR)) :
    FnOk P w K mg base (L2.CX P w) 5 f fd ["machine", "row"] (spRowPlace K CM CR) := by
  refine F.okX scRowPlace (fun vs H Q E h => ?_) (fun cdv A outer s H vs Q E hr h => ?_)
  · obtain ⟨m, v, T, rfl, _⟩ := h
    rfl
  · obtain ⟨m, v, T, rfl, hm, h4, h⟩ := h
    have tk : Takes (cxOf (L2.CX P w) P w K mg base ["machine", "row", "place", "deed"] "row_place" (defScope sRowPlace) f cdv A outer s H E) (fun cls d _ H => E cls d H) := takes_of rfl rfl rfl rfl
    refine ⟨_, pss_cons (ps_set (i := 2) scRowPlace.nd rfl (Or.inl rfl) pe_int)
      (pss_cons (ps_for (passes_of rfl) rfl (pi_tup (pe_hasX (E := E) Gc hr tk (fun _ _ _ _ z => z) (by rfl) (pa_cons (pv 0) (pa_cons (pv 1) pa_nil)))) (pg_name (i := 3) scRowPlace.nd rfl (Or.inl rfl))
        (pss_one (ps_set (i := 2) scRowPlace.nd rfl (Or.inl rfl) (pe_op op_add (pe_op op_mul (pv 2) (pe_fld (pv 0) rfl)) (pv 3)))))
      (pss_one (ps_ret (pv 2)))), ?_⟩
    rcases h with h | ⟨ds, hd, q⟩
    · exact ⟨.ref m, rfl, v, rfl, m, v, T, rfl, hm, h.check⟩
    · refine ⟨.ref m, rfl, v, rfl, m, v, T, rfl, hm, hd.check fun H1 r s1 hr1 => ?_⟩
      refine ⟨r, rfl, ⟨_, hr1⟩, for_it walk_tup (fun i σ H2 => H2 = H1 ∧ ∃ y, σ = [some (.ref m), some v, some (.int (placeOf T.length (ds.take i))), y]) ⟨rfl, none, rfl⟩ (fun i σ H2 _ hp => by rw [hp.1]; exact hr1) ?_ ?_⟩
      · rintro i x σ H2 H3 hi ⟨rfl, y, rfl⟩ ⟨rfl, ex⟩
        rw [List.getElem?_map] at ex
        cases ei : ds[i]? with
        | none =>
          rw [ei] at ex
          cases ex
        | some d =>
          rw [ei] at ex
          cases ex
          obtain ⟨dx, fs, g1, g2⟩ := (hm.same s1).dd
          refine ⟨_, rfl, .ref m, rfl, m, CM, dx, fs, _, rfl, g1, M.cl, M.nD, g2, _, _, rfl, rfl, .inr ⟨by omega, by omega⟩, _, rfl, _, _, rfl, rfl, rfl, some (.int d), ?_⟩
          rw [List.take_add_one, ei]
          unfold placeOf
          rw [List.foldl_append]
          rfl
      · rintro σ H2 ⟨rfl, y, rfl⟩
        refine ⟨_, rfl, ?_⟩
        rw [List.length_map, List.take_of_length_le (Nat.le_refl _)]
        exact q _ s1
end
end Pg

set_option Elab.async false
set_option linter.all false
set_option maxRecDepth 100000
set_option maxHeartbeats 4000000
namespace Lw
open PySem PySem.Spec PyProof.Rows L2 Lx Pg
abbrev sLawBox : Stmt := topS 23
abbrev sLawTake : Stmt := topS 24
abbrev sLawPick : Stmt := topS 25
abbrev sLawIsRep : Stmt := topS 26
abbrev sLawRow : Stmt := topS 27
abbrev sLawHeard : Stmt := topS 28
abbrev sLawDivisor : Stmt := topS 29
abbrev sLawRepeats : Stmt := topS 30
abbrev sLawNumbers : Stmt := topS 31
abbrev sLaw : Stmt := topS 32
/-- the box of draws at b -/
def BoxAt (H : Hp) (b : Addr) : Prop := ∃ c0 c1 c2 : Int, H b = some (.lst [.int c0, .int c1, .int c2]) ∧ 0 ≤ c0
section
variable {P : Program} {w : World} {K : PySem.W.Frag} {mg : Str → Option Value} {base : Heap}
/-! ### _law_box -/
def spLawBox (K : PySem.W.Frag) : Sp := fun vs H Q _ => ∃ a, ∃ k : Nat, ∃ ns : List Int, vs = [.ref a, .int k] ∧ SqL K H a (ns.map V.int) ∧ ∀ H' p, Same H H' → H p = none → BoxAt H' p → Q (.ref p) H'
theorem scLawBox : FnScope ["script", "k", "cell"] ["script", "k"] (defScope sLawBox) := ⟨rfl, rfl, rfl, by decide +kernel, rfl, by decide +kernel, by decide +kernel⟩
theorem ok_law_box {f : Addr} {fd : FuncData} (F : Fun K "_law_box" "_law_box" sLawBox f fd) (B : Bare mg) : FnOk P w K mg base L2.CX0 1 f fd ["script", "k"] (spLawBox K) := by
  refine F.ok scLawBox (fun vs H Q E h => ?_) (fun cdv A outer s H vs Q E hr h => ?_)
  · obtain ⟨a, k, ns, rfl, _⟩ := h
    rfl
  · obtain ⟨a, k, ns, rfl, ha, q⟩ := h
    refine ⟨_, pss_cons (ps_set (i := 2) scLawBox.nd rfl (Or.inl rfl) (pe_op op_add (pe_op op_mul pe_int (pv 1)) pe_int))
      (pss_cons (ps_if (pt_cmpR op_lt (pv 1) (pe_callB lenS (by rfl) B.len PySem.boot_len (pa_cons (pv 0) pa_nil)) (nomark _))
        (pss_one (ps_set (i := 2) scLawBox.nd rfl (Or.inl rfl) (pe_callB call_abs (by rfl) B.abs (by decide +kernel) (pa_cons (pe_ix ix_list (pv 0) (pv 1) (fun _ _ => rfl)) pa_nil))))
        (pss_one (ps_if (pt_cmpR op_gt (pe_callB lenS (by rfl) B.len PySem.boot_len (pa_cons (pv 0) pa_nil)) pe_int (nomark _))
          (pss_one (ps_set (i := 2) scLawBox.nd rfl (Or.inl rfl) (pe_op op_add (pv 2) (pe_op op_mul (pe_op op_modN (pe_callTy call_int1 (by rfl) B.int boot_int (pa_cons (pe_callB call_abs (by rfl) B.abs (by decide +kernel)
            (pa_cons (pe_ix ix_list (pv 0) (pe_op op_modN (pe_callTy call_int1 (by rfl) B.int boot_int (pa_cons (pv 1) pa_nil)) (pe_callB lenS (by rfl) B.len PySem.boot_len (pa_cons (pv 0) pa_nil))) (fun _ _ => rfl)) pa_nil)) pa_nil)) pe_int) pe_int))))
          pss_nil)))
      (pss_one (ps_ret (pe_lst (pa_cons (pe_ix ix_list (pe_lst (pa_cons pe_int (pa_cons (pv 2) pa_nil))) (pe_callTy call_int1 (by rfl) B.int boot_int (pa_cons (pe_cmpR op_ge (pv 2) (pe_op op_pow pe_int pe_int) (nomark _)) pa_nil)) (fun _ _ => rfl))
        (pa_cons (pe_op op_add (pe_op op_modN (pe_callTy call_int1 (by rfl) B.int boot_int (pa_cons (pe_op op_add (pe_op op_mul (pe_op op_modN (pe_callTy call_int1 (by rfl) B.int boot_int (pa_cons (pv 2) pa_nil)) pe_int) pe_int) (pe_op op_mul pe_int (pv 1))) pa_nil)) pe_int) pe_int)
          (pa_cons pe_int pa_nil))))))), ?_⟩
    have lenk : (ns.map V.int).length = ns.length := List.length_map _
    have item : ∀ i : Nat, i < ns.length → (ns.map V.int)[i]? = some (.int (ns.getD i 0)) := fun i hi => by
      rw [List.getElem?_map, List.getElem?_eq_getElem hi, List.getD_eq_getElem?_getD, List.getElem?_eq_getElem hi]
      rfl
    refine ⟨_, rfl, _, _, rfl, rfl, .inl ⟨by decide, by decide⟩, _, _, rfl, rfl, ?_⟩
    have pick : ∀ (x : Int) (k : Bool), atI [V.int 0, V.int x] (if k = true then 1 else 0) = some (V.int (if k = true then x else 0)) := fun x k => by cases k <;> rfl
    have pos : ∀ (x : Int) (k : Bool), 0 ≤ x → 0 ≤ (if k = true then x else 0) := fun x k h => by
      cases k
      · exact Int.le_refl 0
      · exact h
    have h0 : (0 : Int) ≤ 9437 * (k : Int) + 449 := by omega
    have abs0 : ∀ z : Int, 0 ≤ (if z < 0 then -z else z) := fun z => by split <;> omega
    refine ⟨_, rfl, .ref a, rfl, a, _, rfl, .inl ha, _, _, rfl, rfl, _, rfl, ite2 (fun c => ?b1) (fun c => ?b2)⟩
    case' b1 =>
      have lt : k < ns.length := by
        rw [decide_eq_true_eq, lenk] at c
        omega
      refine ⟨.ref a, rfl, _, rfl, a, _, _, _, rfl, rfl, ha, atI_nat (item k lt), _, rfl, ?_⟩
      have hc : 0 ≤ (if ns.getD k 0 < 0 then -ns.getD k 0 else ns.getD k 0) := abs0 _
    case' b2 =>
      refine ⟨.ref a, rfl, a, _, rfl, .inl ha, _, _, rfl, rfl, _, rfl, ite2 (fun c2 => ?b3) (fun c2 => ?b4)⟩
    case' b3 =>
      have gt : 0 < ns.length := by
        rw [decide_eq_true_eq, lenk] at c2
        omega
      have ge : ¬ (k < ns.length) := by
        rw [decide_eq_true_eq, lenk] at c
        omega
      have em : (k : Int).fmod ((ns.map V.int).length : Nat) = ((k % ns.length : Nat) : Int) := by
        rw [lenk, Int.fmod_eq_emod_of_nonneg _ (by omega)]
        rfl
      have lt : k % ns.length < ns.length := Nat.mod_lt _ gt
      refine ⟨_, rfl, .ref a, rfl, _, rfl, .inl ⟨_, rfl, .ref a, rfl, a, _, rfl, .inl ha, _, _, rfl, rfl, by rw [lenk]; omega, a, _, _, .int (ns.getD (k % ns.length) 0), rfl, rfl, ha, by rw [em]; exact atI_nat (item _ lt), _, rfl, .inl ⟨_, rfl, _, _, rfl, rfl, (show (2147483477 : Int) ≠ 0 by decide), _, _, rfl, rfl, .inr ⟨by decide, by decide⟩, _, _, rfl, rfl, ?_⟩⟩⟩
      have hc : 0 ≤ 9437 * (k : Int) + 449 + (if ns.getD (k % ns.length) 0 < 0 then -ns.getD (k % ns.length) 0 else ns.getD (k % ns.length) 0).fmod 2147483477 * 46307 := by
        have z := Int.fmod_nonneg_of_pos (if ns.getD (k % ns.length) 0 < 0 then -ns.getD (k % ns.length) 0 else ns.getD (k % ns.length) 0) (show (0 : Int) < 2147483477 by decide)
        omega
    case' b4 =>
      have hc := h0
    all_goals
      refine ⟨_, rfl, by show 2 ≤ sizeLine; decide, fun p1 n1 => ?_⟩
      refine ⟨_, rfl, _, _, rfl, rfl, ⟨by decide, by decide, by decide⟩, _, _, rfl, rfl, .inr ⟨_, rfl, p1, _, _, _, rfl, rfl, .inl (.inl upd_same), pick _ _, ?_⟩⟩
      refine ⟨_, rfl, .inl ⟨_, rfl, _, _, rfl, rfl, (show (2147483477 : Int) ≠ 0 by decide), _, _, rfl, rfl, .inr ⟨by decide, by decide⟩, _, rfl, _, _, rfl, rfl, .inl ⟨by decide, by decide⟩, _, _, rfl, rfl, .inl ⟨_, rfl, _, _, rfl, rfl, (show (2147483477 : Int) ≠ 0 by decide), _, _, rfl, rfl, by show 3 ≤ sizeLine; decide, fun p2 n2 => ?_⟩⟩⟩
      refine q _ p2 ((same_new n1).trans (same_new n2)) ?_ ⟨_, _, _, upd_same, pos _ _ hc⟩
      exact (same_new n1).free n2

/-! ### _law_take -/
theorem sbFree {x p : Addr} {H H' : Hp} (e : SameBut x H H') (hx : ∃ o, H' x = some o) (h : H' p = none) : H p = none := by
  cases q : H p with
  | none => rfl
  | some o =>
    by_cases z : p = x
    · subst z
      obtain ⟨o', hx⟩ := hx
      rw [hx] at h
      cases h
    · rw [e p o q z] at h
      cases h
theorem boxSome {H : Hp} {b : Addr} (h : BoxAt H b) : ∃ o, H b = some o := by
  obtain ⟨c0, c1, c2, h, _⟩ := h
  exact ⟨_, h⟩
def spLawTake : Sp := fun vs H Q _ => ∃ b, ∃ n : Nat, vs = [.ref b, .int n] ∧ BoxAt H b ∧ 1 ≤ n ∧ n < 1073741824 ∧ ∀ H' (r : Nat), r < n → SameBut b H H' → BoxAt H' b → Q (.int r) H'
theorem scLawTake : FnScope ["box", "many", "digit", "raw"] ["box", "many"] (defScope sLawTake) := ⟨rfl, rfl, rfl, by decide +kernel, rfl, by decide +kernel, by decide +kernel⟩
theorem ok_law_take {f : Addr} {fd : FuncData} (F : Fun K "_law_take" "_law_take" sLawTake f fd) (B : Bare mg) : FnOk P w K mg base L2.CX0 1 f fd ["box", "many"] spLawTake := by
  refine F.ok scLawTake (fun vs H Q E h => ?_) (fun cdv A outer s H vs Q E hr h => ?_)
  · obtain ⟨b, n, rfl, _⟩ := h
    rfl
  · obtain ⟨b, n, rfl, ⟨c0, c1, c2, hb, h0⟩, h1, h2, q⟩ := h
    refine ⟨_, pss_cons (ps_if (pt_cmpR op_gt (pe_ix ix_list (pv 0) pe_int (fun _ _ => rfl)) pe_int (nomark _))
        (pss_cons (ps_set (i := 2) scLawTake.nd rfl (Or.inl rfl) (pe_op op_mod (pe_callTy call_int1 (by rfl) B.int boot_int (pa_cons (pe_ix ix_list (pv 0) pe_int (fun _ _ => rfl)) pa_nil)) (pv 1)))
        (pss_cons (ps_asg (pe_op op_fdiv (pe_ix ix_list (pv 0) pe_int (fun _ _ => rfl)) (pv 1)) (pg_sub (pv 0) pe_int set_list (fun _ => rfl)))
        (pss_one (ps_ret (pv 2))))) pss_nil)
      (pss_cons (ps_asg (pe_op op_add (pe_ix ix_list (pv 0) pe_int (fun _ _ => rfl)) pe_int) (pg_sub (pv 0) pe_int set_list (fun _ => rfl)))
      (pss_cons (ps_set (i := 3) scLawTake.nd rfl (Or.inl rfl) (pe_op op_mod (pe_callTy call_int1 (by rfl) B.int boot_int (pa_cons (pe_op op_add (pe_op op_mul (pe_op op_add (pe_ix ix_list (pv 0) pe_int (fun _ _ => rfl)) (pe_op op_mul pe_int (pe_ix ix_list (pv 0) pe_int (fun _ _ => rfl)))) pe_int) pe_int) pa_nil)) pe_int))
      (pss_cons (ps_asg (pe_op op_add (pe_op op_mod (pe_callTy call_int1 (by rfl) B.int boot_int (pa_cons (pe_op op_add (pe_op op_mul (pv 3) pe_int) pe_int) pa_nil)) pe_int) pe_int) (pg_sub (pv 0) pe_int set_list (fun _ => rfl)))
      (pss_one (ps_ret (pe_op op_mod (pe_callTy call_int1 (by rfl) B.int boot_int (pa_cons (pe_op op_fdiv (pe_op op_add (pe_op op_mul (pv 3) pe_int) (pe_ix ix_list (pv 0) pe_int (fun _ _ => rfl))) pe_int) pa_nil)) (pv 1))))))), ?_⟩
    have np : (0 : Int) < (n : Int) := by omega
    have sl : SqL K H b [.int c0, .int c1, .int c2] := .inl (.inl hb)
    have md : ∀ z : Int, ∃ r : Nat, z % (n : Int) = r ∧ r < n := fun z => by
      have z1 := Int.emod_nonneg z (show (n : Int) ≠ 0 by omega)
      have z2 := Int.emod_lt_of_pos z np
      exact ⟨(z % (n : Int)).toNat, by omega, by omega⟩
    refine ⟨.ref b, rfl, b, _, 0, .int c0, rfl, rfl, sl, rfl, _, _, rfl, rfl, _, rfl, ite2 (fun c => ?_) (fun c => ?_)⟩
    · refine ⟨.ref b, rfl, b, _, 0, .int c0, rfl, rfl, sl, rfl, .inl ⟨_, rfl, _, rfl, _, _, rfl, rfl, np, ?_⟩⟩
      obtain ⟨r, er, hr'⟩ := md c0
      refine ⟨.ref b, rfl, b, _, 0, .int c0, rfl, rfl, sl, rfl, _, rfl, _, _, rfl, rfl, ⟨np, by omega⟩, .ref b, rfl, b, _, 0, 0, rfl, rfl, hb, rfl, _, rfl, ?_⟩
      have z := q (upd H b (.lst ([V.int c0, .int c1, .int c2].set 0 (.int (c0 / n))))) r hr' SameBut.put ⟨_, _, _, upd_same, Int.ediv_nonneg h0 (by omega)⟩
      rw [← er] at z
      exact z
    · refine ⟨.ref b, rfl, b, _, 2, .int c2, rfl, rfl, sl, rfl, _, _, rfl, rfl, .ref b, rfl, b, _, 2, 2, rfl, rfl, hb, rfl, ?_⟩
      have k1 : (upd H b (.lst ([V.int c0, .int c1, .int c2].set 2 (.int (c2 + 1))))) b = some (.lst [.int c0, .int c1, .int (c2 + 1)]) := upd_same
      refine ⟨.ref b, rfl, b, _, 1, .int c1, rfl, rfl, .inl (.inl k1), rfl, .ref b, rfl, b, _, 2, .int (c2 + 1), rfl, rfl, .inl (.inl k1), rfl, _, _, rfl, rfl, .inl ⟨by decide, by decide⟩, _, _, rfl, rfl, _, _, rfl, rfl, .inr ⟨by decide, by decide⟩, _, _, rfl, rfl,
        .inl ⟨_, rfl, _, _, rfl, rfl, (show (0 : Int) < 2147483423 by decide), ?_⟩⟩
      refine ⟨_, rfl, _, _, rfl, rfl, .inr ⟨by decide, by decide⟩, _, _, rfl, rfl, .inl ⟨_, rfl, _, _, rfl, rfl, (show (0 : Int) < 2147483477 by decide), _, _, rfl, rfl, .ref b, rfl, b, _, 1, 1, rfl, rfl, k1, rfl, ?_⟩⟩
      refine ⟨_, rfl, _, _, rfl, rfl, .inr ⟨by decide, by decide⟩, .ref b, rfl, b, _, 1, _, rfl, rfl, .inl (.inl upd_same), rfl, _, _, rfl, rfl, _, _, rfl, rfl, ⟨by decide, by decide⟩, .inl ⟨_, rfl, _, rfl, _, _, rfl, rfl, np, ?_⟩⟩
      obtain ⟨r, er, hr'⟩ := md ((((c1 + 65027 * (c2 + 1)) * 56267 + 61) % 2147483423 * 2147483629 + ((((c1 + 65027 * (c2 + 1)) * 56267 + 61) % 2147483423 * 46133 + 15013) % 2147483477 + 1)) / 8191)
      have z := fun H' s h => q H' r hr' s h
      rw [← er] at z
      exact z _ (SameBut.trans (x := b) SameBut.put SameBut.put) ⟨_, _, _, upd_same, h0⟩

/-! ### _law_pick -/
def spLawPick (K : PySem.W.Frag) : Sp := fun vs H Q _ => ∃ b l xs, vs = [.ref b, .ref l] ∧ BoxAt H b ∧ b ≠ l ∧ SqL K H l xs ∧ 1 ≤ xs.length ∧ xs.length < 1000 ∧ ∀ H' v, v ∈ xs → SameBut b H H' → BoxAt H' b → Q v H'
theorem scLawPick : FnScope ["box", "some"] ["box", "some"] (defScope sLawPick) := ⟨rfl, rfl, rfl, by decide +kernel, rfl, by decide +kernel, by decide +kernel⟩
theorem sbList {K : PySem.W.Frag} {x a : Addr} {H H' : Hp} {xs : List V} (e : SameBut x H H') (n : a ≠ x) (h : SqL K H a xs) : SqL K H' a xs := by
  rcases h with (h | ⟨o, h⟩) | h
  · exact .inl (.inl (e _ _ h n))
  · exact .inl (.inr ⟨o, e _ _ h n⟩)
  · exact .inr h
theorem ok_law_pick {f : Addr} {fd : FuncData} (F : Fun K "_law_pick" "_law_pick" sLawPick f fd) (B : Bare mg) (Gt : Has P w K mg base L2.CX0 1 "_law_take" ["box", "many"] spLawTake) : FnOk P w K mg base L2.CX0 2 f fd ["box", "some"] (spLawPick K) := by
  refine F.ok scLawPick (fun vs H Q E h => ?_) (fun cdv A outer s H vs Q E hr h => ?_)
  · obtain ⟨b, l, xs, rfl, _⟩ := h
    rfl
  · obtain ⟨b, l, xs, rfl, hb, nbl, hl, h1, h2, q⟩ := h
    refine ⟨_, pss_one (ps_ret (pe_ix ix_list (pv 1) (pe_has Gt hr (by rfl) (pa_cons (pv 0) (pa_cons (pe_callB lenS (by rfl) B.len PySem.boot_len (pa_cons (pv 1) pa_nil)) pa_nil))) (fun _ _ => rfl))), ?_⟩
    refine ⟨.ref l, rfl, .ref b, rfl, .ref l, rfl, l, xs, rfl, .inl hl, b, xs.length, rfl, hb, h1, by omega, fun H' r hr' sb hb' => ?_⟩
    have e : xs[r]? = some xs[r] := List.getElem?_eq_getElem hr'
    exact ⟨l, xs, r, xs[r], rfl, rfl, sbList sb (fun z => nbl z.symm) hl, atI_nat e, q H' _ (List.getElem_mem hr') sb hb'⟩
end
end Lw

set_option Elab.async false
set_option linter.all false
set_option maxRecDepth 100000
set_option maxHeartbeats 4000000
namespace Lw
open PySem PySem.Spec PyProof.Rows L2 Lx Pg
theorem item_int {ds : List Int} {i : Nat} (h : i < ds.length) : (ds.map V.int)[i]? = some (V.int (ds.getD i 0)) := by
  rw [List.getElem?_map, List.getElem?_eq_getElem h, List.getD_eq_getElem?_getD, List.getElem?_eq_getElem h]
  rfl
/-! ### _law_is_repeating -/
def missB (ds : List Int) (s : Nat) (i : Nat) : Bool := !decide (V.int (ds.getD (s + i) 0) = V.int (ds.getD i 0))
def repB (ds : List Int) (s : Nat) : Bool := decide (((List.range (ds.length - s)).filter (missB ds s)).map (fun (i : Nat) => ((s : Int) + i)) = [])
theorem repB_iff {ds : List Int} {s : Nat} : repB ds s = true ↔ ∀ i, i + s < ds.length → ds.getD (s + i) 0 = ds.getD i 0 := by
  unfold repB
  rw [decide_eq_true_eq, List.map_eq_nil_iff, List.filter_eq_nil_iff]
  constructor
  · intro h i hi
    have z := h i (List.mem_range.mpr (by omega))
    simpa [missB] using z
  · intro h i hi
    have z := h i (by have := List.mem_range.mp hi; omega)
    unfold missB
    rw [z]
    simp
section
variable {P : Program} {w : World} {K : PySem.W.Frag} {mg : Str → Option Value} {base : Heap}
def spIsRep (K : PySem.W.Frag) : Sp := fun vs H Q _ => ∃ a, ∃ s : Nat, ∃ ds : List Int, vs = [.ref a, .int s] ∧ SqL K H a (ds.map V.int) ∧ ds.length ≤ 1000 ∧ s ≤ 1000 ∧ ∀ H', Same H H' → Q (.bl (repB ds s)) H'
theorem scIsRep : FnScope ["row", "step", "at"] ["row", "step"] (defScope sLawIsRep) := ⟨rfl, rfl, rfl, by decide +kernel, rfl, by decide +kernel, by decide +kernel⟩
theorem ok_is_rep {f : Addr} {fd : FuncData} (F : Fun K "_law_is_repeating" "_law_is_repeating" sLawIsRep f fd) (B : Bare mg) : FnOk P w K mg base L2.CX0 1 f fd ["row", "step"] (spIsRep K) := by
  refine F.ok scIsRep (fun vs H Q E h => ?_) (fun cdv A outer s H vs Q E hr h => ?_)
  · obtain ⟨a, s, ds, rfl, _⟩ := h
    rfl
  · obtain ⟨a, st, ds, rfl, ha, hl, hs, q⟩ := h
    refine ⟨_, pss_one (ps_ret (pe_cmpR (op_eqD hr.units)
      (pe_lc (own := [("at", 2)]) (g := gName 2) rfl scIsRep.nd (pi_range2 (by rfl) B.range (pa_cons (pv 1) (pa_cons (pe_callB lenS (by rfl) B.len PySem.boot_len (pa_cons (pv 0) pa_nil)) pa_nil))) (blkOk_by (N := ["row", "step", "at"]) (sc := defScope sLawIsRep) (by decide +kernel))
        (fun _ _ _ _ _ => pg_name (i := 2) scIsRep.nd rfl (Or.inl rfl))
        (fun _ _ _ _ _ => pts_one (pt_cmpR op_ne (pe_ix (r := rIxL K) ix_list (pv 0) (pv 2) (fun _ _ => rfl)) (pe_ix (r := rIxL K) ix_list (pv 0) (pe_op op_sub (pv 2) (pv 1)) (fun _ _ => rfl)) (nomark _)))
        (fun _ _ _ _ _ => pv 2))
      (pe_lst pa_nil) (nomark _))), ?_⟩
    have lm : (ds.map V.int).length = ds.length := List.length_map _
    refine ⟨.int st, rfl, .ref a, rfl, a, _, rfl, .inl ha, st, _, rfl, ⟨by omega, by omega, by rw [lm]; omega, by rw [lm]; omega⟩, fun D nD => ?_⟩
    have en : ((((ds.map V.int).length : Nat) : Int) - (st : Int)).toNat = ds.length - st := by rw [lm]; omega
    rw [en]
    refine lc_it walk_range (PvF (missB ds st) (fun i => .int ((st : Int) + i)) H D) (pvf0 nD) (fun i H2 _ _ => trivial) ?_ ?_
    · rintro i x H2 H3 hi hp ⟨rfl, rfl⟩
      have ha2 : SqL K H3 a (ds.map V.int) := hp.1.seq ha
      have i1 : st + i < ds.length := by omega
      have i2 : i < ds.length := by omega
      have e1 : (st : Int) + (i : Int) = ((st + i : Nat) : Int) := by omega
      refine ⟨rfl, ?_⟩
      refine ⟨.ref a, rfl, _, rfl, a, _, _, .int (ds.getD (st + i) 0), rfl, rfl, ha2, by rw [e1]; exact atI_nat (item_int i1), ?_⟩
      refine ⟨.ref a, rfl, _, rfl, _, rfl, _, _, rfl, rfl, a, _, _, .int (ds.getD i 0), rfl, rfl, ha2, ?_, rfl, _, rfl, ?_⟩
      · rw [show (st : Int) + (i : Int) - (st : Int) = ((i : Nat) : Int) by omega]
        exact atI_nat (item_int i2)
      refine ite2 (fun c => ?_) (fun c => ?_)
      · exact ⟨_, rfl, pvf_put nD hp (Same.refl _) c rfl (by omega)⟩
      · exact pvf_skip hp (Same.refl _) (by simpa [missB] using c)
    · intro H2 hp
      refine ⟨Nat.zero_le _, fun p np => ?_⟩
      have s2 : Same H2 (upd H2 p (.lst [])) := same_new np
      have d1 : SqL K (upd H2 p (.lst [])) D ((((List.range (ds.length - st)).filter (missB ds st)).map (fun (i : Nat) => ((st : Int) + i))).map V.int) := by
        refine .inl (.inl ?_)
        have z := s2 _ _ hp.2
        rw [List.map_map]
        exact z
      have d2 : SqL K (upd H2 p (.lst [])) p (([] : List Int).map V.int) := .inl (.inl upd_same)
      refine ⟨_, _, dp_list_ints d1, dp_list_ints d2, shaped_list_ints _, shaped_list_ints _, ?_⟩
      rw [eqv_list_ints]
      exact q _ (hp.1.trans s2)

/-! ### _law_divisor -/
def spDivisor : Sp := fun vs H Q _ => ∃ a b : Nat, vs = [.int a, .int b] ∧ 1 ≤ a ∧ a ≤ 1000 ∧ ∀ H', Same H H' → Q (.int (Nat.gcd a b : Nat)) H'
theorem scDivisor : FnScope ["one", "other", "number"] ["one", "other"] (defScope sLawDivisor) := ⟨rfl, rfl, rfl, by decide +kernel, rfl, by decide +kernel, by decide +kernel⟩
def divB (a b : Nat) (i : Nat) : Bool := decide ((i + 1) ∣ a) && decide ((i + 1) ∣ b)
theorem atI_last' {α : Type} {xs : List α} {v : α} (h : xs.getLast? = some v) : atI xs (-1) = some v := by
  obtain ⟨ys, rfl⟩ := List.getLast?_eq_some_iff.mp h
  exact atI_last ys v
theorem filter_last {n : Nat} {p : Nat → Bool} {g : Nat} (hg : g < n) (hp : p g = true) (hm : ∀ i, g < i → i < n → p i = false) : ((List.range n).filter p).getLast? = some g := by
  induction n with
  | zero => omega
  | succ n ih =>
    rw [List.range_succ, List.filter_append]
    by_cases e : g = n
    · subst e
      simp [hp]
    · have z := hm n (by omega) (by omega)
      have y := ih (by omega) fun i h1 h2 => hm i h1 (by omega)
      simpa [z] using y
theorem div_last {a b : Nat} (ha : 1 ≤ a) : ((List.range a).filter (divB a b)).getLast? = some (Nat.gcd a b - 1) := by
  have g1 : 1 ≤ Nat.gcd a b := Nat.gcd_pos_of_pos_left b ha
  have g2 : Nat.gcd a b ≤ a := Nat.le_of_dvd ha (Nat.gcd_dvd_left a b)
  apply filter_last
  · omega
  · unfold divB
    rw [Nat.sub_add_cancel g1, Bool.and_eq_true, decide_eq_true_eq, decide_eq_true_eq]
    exact ⟨Nat.gcd_dvd_left a b, Nat.gcd_dvd_right a b⟩
  · intro i h1 h2
    rw [← Bool.not_eq_true]
    intro h
    unfold divB at h
    rw [Bool.and_eq_true, decide_eq_true_eq, decide_eq_true_eq] at h
    have := Nat.le_of_dvd (by omega) (Nat.dvd_gcd h.1 h.2)
    omega
theorem ok_divisor {f : Addr} {fd : FuncData} (F : Fun K "_law_divisor" "_law_divisor" sLawDivisor f fd) (B : Bare mg) : FnOk P w K mg base L2.CX0 1 f fd ["one", "other"] spDivisor := by
  refine F.ok scDivisor (fun vs H Q E h => ?_) (fun cdv A outer s H vs Q E hr h => ?_)
  · obtain ⟨a, b, rfl, _⟩ := h
    rfl
  · obtain ⟨a, b, rfl, h1, h2, q⟩ := h
    refine ⟨_, pss_one (ps_ret (pe_ix ix_list
      (pe_lc (own := [("number", 2)]) (g := gName 2) rfl scDivisor.nd (pi_range2 (by rfl) B.range (pa_cons pe_int (pa_cons (pe_op op_add (pv 0) pe_int) pa_nil))) (blkOk_by (N := ["one", "other", "number"]) (sc := defScope sLawDivisor) (by decide +kernel))
        (fun _ _ _ _ _ => pg_name (i := 2) scDivisor.nd rfl (Or.inl rfl))
        (fun _ _ _ _ _ => pts_one (PW.pt (pw_and (pt_cmpR op_eq (pe_op op_mod (pe_callTy call_int1 (by rfl) B.int boot_int (pa_cons (pv 0) pa_nil)) (pv 2)) pe_int (nomark _)) (pw_and1 (pt_cmpR op_eq (pe_op op_mod (pe_callTy call_int1 (by rfl) B.int boot_int (pa_cons (pv 1) pa_nil)) (pv 2)) pe_int (nomark _))))))
        (fun _ _ _ _ _ => pv 2))
      (pe_un un_neg pe_int) (fun _ _ => rfl))), ?_⟩
    refine ⟨.int a, rfl, _, _, rfl, rfl, _, _, rfl, ⟨by decide, by decide, by omega, by omega⟩, fun D nD => ?_⟩
    have en : ((a : Int) + 1 - 1).toNat = a := by omega
    rw [en]
    have dv : ∀ (z i : Nat), (decide (V.int ((z : Int) % (1 + (i : Int))) = V.int 0)) = decide ((i + 1) ∣ z) := fun z i => by
      rw [Bool.eq_iff_iff, decide_eq_true_eq, decide_eq_true_eq]
      have e : (1 : Int) + (i : Int) = ((i + 1 : Nat) : Int) := by omega
      rw [e]
      constructor
      · intro h
        injection h with h
        exact Int.natCast_dvd_natCast.mp (Int.dvd_of_emod_eq_zero h)
      · intro h
        rw [Int.emod_eq_zero_of_dvd (Int.natCast_dvd_natCast.mpr h)]
    refine lc_it walk_range (PvF (divB a b) (fun i => .int (1 + (i : Int))) H D) (pvf0 nD) (fun i H2 _ _ => trivial) ?_ ?_
    · rintro i x H2 H3 hi hp ⟨rfl, rfl⟩
      refine ⟨rfl, ?_⟩
      refine ⟨.int a, rfl, .inl ⟨_, rfl, _, rfl, _, _, rfl, rfl, by omega, rfl, _, rfl, ?_⟩⟩
      rw [dv]
      refine ite2 (fun c => ?_) (fun c => ?_)
      · refine ⟨.int b, rfl, .inl ⟨_, rfl, _, rfl, _, _, rfl, rfl, by omega, rfl, _, rfl, ?_⟩⟩
        rw [dv]
        refine ite2 (fun c2 => ?_) (fun c2 => ?_)
        · exact ⟨_, rfl, pvf_put nD hp (Same.refl _) (by unfold divB; rw [c, c2]; rfl) rfl (by omega)⟩
        · exact pvf_skip hp (Same.refl _) (by unfold divB; rw [Bool.not_eq_true] at c2; rw [c2, Bool.and_false])
      · exact iteF (pvf_skip hp (Same.refl _) (by unfold divB; rw [Bool.not_eq_true] at c; rw [c, Bool.false_and]))
    · intro H2 hp
      have g1 : 1 ≤ Nat.gcd a b := Nat.gcd_pos_of_pos_left b h1
      refine ⟨1, rfl, D, _, -1, .int (Nat.gcd a b : Nat), rfl, rfl, .inl (.inl hp.2), atI_last' ?_, q _ hp.1⟩
      rw [List.getLast?_map, div_last h1]
      show some (V.int (1 + ((Nat.gcd a b - 1 : Nat) : Int))) = _
      congr 2
      omega
end
end Lw

set_option Elab.async false
set_option linter.all false
set_option maxRecDepth 100000
set_option maxHeartbeats 4000000
namespace Lw
open PySem PySem.Spec PyProof.Rows L2 Lx Pg
/-- deeds below n -/
def Deeds (n : Nat) (ds : List Int) : Prop := ∀ d ∈ ds, 0 ≤ d ∧ d < n
/-- behind i turns the new list at D holds i draws below n; only the box at b has changed -/
def PvT (b : Addr) (n : Nat) (H1 : Hp) (D : Addr) (i : Nat) (H : Hp) : Prop := SameBut b H1 H ∧ BoxAt H b ∧ ∃ ds : List Int, H D = some (.lst (ds.map V.int)) ∧ ds.length = i ∧ Deeds n ds
theorem pvt0 {b : Addr} {n : Nat} {H1 : Hp} {D : Addr} (hb : BoxAt H1 b) (nD : H1 D = none) : PvT b n H1 D 0 (upd H1 D (.lst [])) := by
  obtain ⟨c0, c1, c2, h, h0⟩ := hb
  exact ⟨SameBut.of (same_new nD), ⟨c0, c1, c2, same_new nD _ _ h, h0⟩, [], upd_same, rfl, fun _ h => nomatch h⟩
theorem pvt_put {b : Addr} {n : Nat} {H1 H H4 : Hp} {D : Addr} {i r : Nat} (hb : BoxAt H1 b) (nD : H1 D = none) (h : PvT b n H1 D i H) (s : SameBut b H H4) (hb4 : BoxAt H4 b) (hr : r < n) (hi : i < 1000000) :
    ∃ acc, H4 D = some (.lst acc) ∧ acc.length < sizeLine ∧ PvT b n H1 D (i + 1) (upd H4 D (.lst (acc ++ [.int (r : Nat)]))) := by
  obtain ⟨s1, _, ds, hD, hl, hd⟩ := h
  have nb : D ≠ b := by
    rintro rfl
    obtain ⟨o, z⟩ := boxSome hb
    rw [nD] at z
    cases z
  refine ⟨_, s _ _ hD nb, by rw [List.length_map, hl, sizeLine_eq]; omega, fun x o z nx => ?_, ?_, ds ++ [(r : Int)], by rw [upd_same, List.map_append]; rfl, by simp [hl], ?_⟩
  · rw [upd_ne (ne_of_none z nD)]
    exact s _ _ (s1 _ _ z nx) nx
  · obtain ⟨c0, c1, c2, z, h0⟩ := hb4
    exact ⟨c0, c1, c2, by rw [upd_ne nb.symm]; exact z, h0⟩
  · intro d hd'
    rcases List.mem_append.mp hd' with z | z
    · exact hd d z
    · have e : d = (r : Int) := by simpa using z
      subst e
      omega
theorem box_new {H : Hp} {b p : Addr} {o : HO} (h : BoxAt H b) (n : H p = none) : BoxAt (upd H p o) b := by
  obtain ⟨c0, c1, c2, z, h0⟩ := h
  exact ⟨c0, c1, c2, same_new n _ _ z, h0⟩
/-- a row under way: the box at b, the row ds at ra, new since H0 -/
structure RowSt (b : Addr) (n : Nat) (H0 H : Hp) (ra : Addr) (ds : List Int) (m : Nat) : Prop where
  sb : SameBut b H0 H
  box : BoxAt H b
  at_ : H ra = some (.lst (ds.map V.int))
  new : H0 ra = none
  ok : Deeds n ds
  len : ds.length ≤ m
theorem RowSt.take {b : Addr} {n m : Nat} {H0 H H1 : Hp} {ra : Addr} {ds : List Int} (h : RowSt b n H0 H ra ds m) (hb : BoxAt H0 b) (s : SameBut b H H1) (h1 : BoxAt H1 b) : RowSt b n H0 H1 ra ds m :=
  ⟨h.sb.trans s, h1, s _ _ h.at_ (by rintro rfl; obtain ⟨o, z⟩ := boxSome hb; rw [h.new] at z; cases z), h.new, h.ok, h.len⟩
theorem RowSt.step {b : Addr} {n m : Nat} {H0 H : Hp} {ra p : Addr} {ds : List Int} {o : HO} (h : RowSt b n H0 H ra ds m) (np : H p = none) : RowSt b n H0 (upd H p o) ra ds m :=
  ⟨h.sb.trans (SameBut.of (same_new np)), box_new h.box np, same_new np _ _ h.at_, h.new, h.ok, h.len⟩
theorem RowSt.put {b : Addr} {n m r v : Nat} {H0 H : Hp} {ra : Addr} {ds : List Int} (h : RowSt b n H0 H ra ds m) (hb : BoxAt H0 b) (hr : r < ds.length) (hv : v < n) : RowSt b n H0 (upd H ra (.lst ((ds.map V.int).set r (.int (v : Nat))))) ra (ds.set r (v : Nat)) m := by
  have nb : b ≠ ra := by
    rintro rfl
    obtain ⟨o, z⟩ := boxSome hb
    rw [h.new] at z
    cases z
  refine ⟨fun x o z nx => ?_, ?_, ?_, h.new, ?_, by rw [List.length_set]; exact h.len⟩
  · rw [upd_ne (ne_of_none z h.new)]
    exact h.sb _ _ z nx
  · obtain ⟨c0, c1, c2, z, h0⟩ := h.box
    exact ⟨c0, c1, c2, by rw [upd_ne nb]; exact z, h0⟩
  · rw [upd_same, List.map_set]
  · intro d hd
    rcases List.mem_or_eq_of_mem_set hd with z | z
    · exact h.ok d z
    · subst z
      omega
theorem flat8 (ds : List Int) : (List.replicate 8 (ds.map V.int)).flatten = (List.replicate 8 ds).flatten.map V.int := by
  rw [List.map_flatten, List.map_replicate]
theorem deeds_flat {n : Nat} {ds : List Int} (h : Deeds n ds) : Deeds n (List.replicate 8 ds).flatten := fun d hd => by
  obtain ⟨l, hl, hd⟩ := List.mem_flatten.mp hd
  rw [(List.mem_replicate.mp hl).2] at hd
  exact h d hd
theorem deeds_take {n k : Nat} {ds : List Int} (h : Deeds n ds) : Deeds n (ds.take k) := fun d hd => h d (List.mem_of_mem_take hd)
section
variable {P : Program} {w : World} {K : PySem.W.Frag} {mg : Str → Option Value} {base : Heap}
def spLawRow : Sp := fun vs H Q _ => ∃ b, ∃ n : Nat, vs = [.ref b, .int n] ∧ BoxAt H b ∧ 1 ≤ n ∧ n ≤ 4 ∧ ∀ H' p ds, Deeds n ds → ds.length ≤ 16 → SameBut b H H' → BoxAt H' b → H p = none → H' p = some (.lst (ds.map V.int)) → Q (.ref p) H'
theorem scLawRow : FnScope ["box", "deeds", "word", "row", "turn"] ["box", "deeds"] (defScope sLawRow) := ⟨rfl, rfl, rfl, by decide +kernel, rfl, by decide +kernel, by decide +kernel⟩
theorem ok_law_row {f : Addr} {fd : FuncData} (F : Fun K "_law_row" "_law_row" sLawRow f fd) (B : Bare mg) (Gt : Has P w K mg base L2.CX0 1 "_law_take" ["box", "many"] spLawTake) : FnOk P w K mg base L2.CX0 2 f fd ["box", "deeds"] spLawRow := by
  refine F.ok scLawRow (fun vs H Q E h => ?_) (fun cdv A outer s H vs Q E hr h => ?_)
  · obtain ⟨b, n, rfl, _⟩ := h
    rfl
  · obtain ⟨b, n, rfl, hb, h1, h4, q⟩ := h
    refine ⟨_, pss_cons (ps_setLc (i := 2) (own := [("turn", 4)]) (g := gName 4) (tt := tYes) rfl scLawRow.nd rfl rfl (sw_true rfl rfl rfl (by decide +kernel)) (pi_range1 (by rfl) B.range (pa_cons (pe_op op_add pe_int (pe_has Gt hr (by rfl) (pa_cons (pv 0) (pa_cons pe_int pa_nil)))) pa_nil))
          (blkOk_by (N := ["box", "deeds", "word", "row", "turn"]) (sc := defScope sLawRow) (by decide +kernel)) (fun _ _ _ _ _ => pg_name (i := 4) scLawRow.nd rfl (Or.inl rfl)) (fun _ _ _ _ _ => pts_nil)
          (fun _ _ _ _ _ => pe_has Gt hr (by rfl) (pa_cons (pv 0) (pa_cons (pv 1) pa_nil))))
      (pss_cons (ps_set (i := 3) scLawRow.nd rfl (Or.inl rfl) (pe_slice sl_list (pe_op op_rep (pv 2) pe_int) po_none (po_some (pe_has Gt hr (by rfl) (pa_cons (pv 0) (pa_cons pe_int pa_nil))))))
      (C8.pss_cut (ps_if (pt_cmpR op_eq (pe_has Gt hr (by rfl) (pa_cons (pv 0) (pa_cons pe_int pa_nil))) pe_int (nomark _))
        (pss_one (ps_setLc (i := 3) (own := [("turn", 4)]) (g := gName 4) (tt := tYes) rfl scLawRow.nd rfl rfl (sw_true rfl rfl rfl (by decide +kernel)) (pi_range1 (by rfl) B.range (pa_cons (pe_has Gt hr (by rfl) (pa_cons (pv 0) (pa_cons pe_int pa_nil))) pa_nil))
          (blkOk_by (N := ["box", "deeds", "word", "row", "turn"]) (sc := defScope sLawRow) (by decide +kernel)) (fun _ _ _ _ _ => pg_name (i := 4) scLawRow.nd rfl (Or.inl rfl)) (fun _ _ _ _ _ => pts_nil)
          (fun _ _ _ _ _ => pe_has Gt hr (by rfl) (pa_cons (pv 0) (pa_cons (pv 1) pa_nil))))) pss_nil)
      (C8.pss_cut (ps_if (PW.pt (pw_and (pt_cmpR (op_neD hr.units) (pv 3) (pe_lst pa_nil) (nomark _)) (pw_and1 (pt_cmpR op_eq (pe_has Gt hr (by rfl) (pa_cons (pv 0) (pa_cons pe_int pa_nil))) pe_int (nomark _)))))
        (pss_one (ps_asg (pe_has Gt hr (by rfl) (pa_cons (pv 0) (pa_cons (pv 1) pa_nil))) (pg_sub (pv 3) (pe_has Gt hr (by rfl) (pa_cons (pv 0) (pa_cons (pe_callB lenS (by rfl) B.len PySem.boot_len (pa_cons (pv 3) pa_nil)) pa_nil))) set_list (fun _ => rfl)))) pss_nil)
      (pss_one (ps_ret (pe_op op_cat (pe_lc (own := [("turn", 4)]) (g := gName 4) (tt := tYes) rfl scLawRow.nd (pi_range1 (by rfl) B.range (pa_cons (pe_has Gt hr (by rfl) (pa_cons (pv 0) (pa_cons pe_int pa_nil))) pa_nil))
          (blkOk_by (N := ["box", "deeds", "word", "row", "turn"]) (sc := defScope sLawRow) (by decide +kernel)) (fun _ _ _ _ _ => pg_name (i := 4) scLawRow.nd rfl (Or.inl rfl)) (fun _ _ _ _ _ => pts_nil)
          (fun _ _ _ _ _ => pe_has Gt hr (by rfl) (pa_cons (pv 0) (pa_cons (pv 1) pa_nil)))) (pv 3))))))), ?_⟩
    have turn : ∀ (H1 : Hp) (D : Addr) (k : Nat), BoxAt H1 b → H1 D = none → k ≤ 1000 → ∀ (i : Nat) (H3 : Hp), i < k → PvT b n H1 D i H3 → spLawTake [.ref b, .int n] H3 (fun y H4 => ∃ acc, H4 D = some (.lst acc) ∧ acc.length < sizeLine ∧ PvT b n H1 D (i + 1) (upd H4 D (.lst (acc ++ [y])))) (fun _ _ _ => False) := fun H1 D k hb1 nD hk i H3 hi hp =>
      ⟨b, n, rfl, hp.2.1, h1, by omega, fun H4 r hr s4 hb4 => pvt_put hb1 nD hp s4 hb4 hr (by omega)⟩
    -- word
    refine ⟨.ref b, rfl, b, 4, rfl, hb, by decide, by decide, fun H1 r1 hr1 sb1 hb1 => ?_⟩
    refine ⟨_, _, rfl, rfl, (1 : Int) + r1, rfl, by omega, by omega, fun D nD => ?_⟩
    rw [show ((1 : Int) + (r1 : Int)).toNat = 1 + r1 by omega]
    refine lc_it walk_range (PvT b n H1 D) (pvt0 hb1 nD) (fun _ _ _ _ => trivial) (fun i x H2 H3 hi hp hy => ?_) (fun H2 hp => ?_)
    · obtain ⟨rfl, rfl⟩ := hy
      exact ⟨rfl, yes_in ⟨.ref b, rfl, .int n, rfl, turn H1 D (1 + r1) hb1 nD (by omega) i H3 hi hp⟩⟩
    obtain ⟨s2, hb2, dw, hD, lw, ow⟩ := hp
    -- row
    refine ⟨.ref D, rfl, D, 8, _, rfl, rfl, hD, by decide, by decide, ?_, fun p1 np1 => ?_⟩
    · rw [List.length_map, lw, sizeLine_eq]
      show (1 + r1) * 8 ≤ _
      omega
    have hb3 : BoxAt (upd H2 p1 (.lst (List.replicate (8 : Int).toNat (dw.map V.int)).flatten)) b := box_new hb2 np1
    refine ⟨.ref b, rfl, b, 14, rfl, hb3, by decide, by decide, fun H4 r4 hr4 sb4 hb4 => ?_⟩
    have n1b : p1 ≠ b := by
      rintro rfl
      obtain ⟨o, z⟩ := boxSome hb2
      rw [np1] at z
      cases z
    have hp1 : H4 p1 = some (.lst ((List.replicate 8 dw).flatten.map V.int)) := by
      rw [← flat8]
      exact sb4 _ _ upd_same n1b
    refine ⟨(r4 : Int), rfl, p1, _, rfl, .inl (.inl hp1), fun p2 np2 => ?_⟩
    rw [cut_to, ← List.map_take]
    have sb04 : SameBut b H H4 := (sb1.trans s2).trans ((SameBut.of (same_new np1)).trans sb4)
    have R1 : RowSt b n H (upd H4 p2 (.lst (((List.replicate 8 dw).flatten.take r4).map V.int))) p2 ((List.replicate 8 dw).flatten.take r4) 13 :=
      ⟨sb04.trans (SameBut.of (same_new np2)), box_new hb4 np2, upd_same, sbFree sb04 (boxSome hb4) np2, deeds_take (deeds_flat ow), by rw [List.length_take]; omega⟩
    -- if _law_take(box, 3) == 0
    refine ⟨fun σ' H' => ∃ y2 ra y4 ds, σ' = [some (.ref b), some (.int n), y2, some (.ref ra), y4] ∧ RowSt b n H H' ra ds 13, ⟨.ref b, rfl, b, 3, rfl, R1.box, by decide, by decide, fun H5 r5 hr5 sb5 hb5 => ?_⟩, ?_⟩
    · have R2 := R1.take hb sb5 hb5
      refine ⟨rfl, _, rfl, ite2 (fun c => ?_) (fun c => ⟨_, _, _, _, rfl, R2⟩)⟩
      refine ⟨.ref b, rfl, b, 10, rfl, R2.box, by decide, by decide, fun H6 r6 hr6 sb6 hb6 => ?_⟩
      refine ⟨(r6 : Int), rfl, by omega, by omega, fun D2 nD2 => ?_⟩
      rw [show ((r6 : Int)).toNat = r6 by omega]
      refine lc_it walk_range (PvT b n H6 D2) (pvt0 hb6 nD2) (fun _ _ _ _ => trivial) (fun i x H2 H3 hi hp hy => ?_) (fun H7 hp7 => ?_)
      · obtain ⟨rfl, rfl⟩ := hy
        exact ⟨rfl, yes_in ⟨.ref b, rfl, .int n, rfl, turn H6 D2 r6 hb6 nD2 (by omega) i H3 hi hp⟩⟩
      · obtain ⟨s7, hb7, ds, hD7, l7, o7⟩ := hp7
        have sb06 := R2.sb.trans sb6
        exact ⟨_, _, _, _, rfl, ⟨sb06.trans s7, hb7, hD7, sbFree sb06 (boxSome hb6) nD2, o7, by omega⟩⟩
    rintro σ' Hc ⟨y2, ra, y4, ds, rfl, R⟩
    -- if row != [] and _law_take(box, 3) == 0
    refine ⟨fun σ' H' => ∃ y2 ra y4 ds, σ' = [some (.ref b), some (.int n), y2, some (.ref ra), y4] ∧ RowSt b n H H' ra ds 13, ⟨_, rfl, Nat.zero_le _, fun p np => ?_⟩, ?_⟩
    · have Rn := R.step (o := .lst []) np
      refine ⟨_, _, dp_list_ints (.inl (.inl Rn.at_)), dp_list_ints (xs := []) (.inl (.inl upd_same)), shaped_list_ints _, shaped_list_ints _, _, rfl, ?_⟩
      rw [eqv_list_ints]
      refine ite2 (fun c1 => ?_) (fun c1 => iteF ⟨_, _, _, _, rfl, Rn⟩)
      refine ⟨.ref b, rfl, b, 3, rfl, Rn.box, by decide, by decide, fun H8 r8 hr8 sb8 hb8 => ?_⟩
      have R8 := Rn.take hb sb8 hb8
      refine ⟨rfl, _, rfl, ite2 (fun c2 => ?_) (fun c2 => ⟨_, _, _, _, rfl, R8⟩)⟩
      refine ⟨.ref b, rfl, .int n, rfl, b, n, rfl, R8.box, h1, by omega, fun H9 r9 hr9 sb9 hb9 => ?_⟩
      have R9 := R8.take hb sb9 hb9
      have ne : 0 < ds.length := List.length_pos_iff.mpr (by simpa using c1)
      have ln9 := R9.len
      refine ⟨_, rfl, .ref b, rfl, _, rfl, _, _, rfl, .inl (.inl (.inl R9.at_)), b, _, rfl, R9.box, by rw [List.length_map]; exact ne, by rw [List.length_map]; omega, fun H10 r10 hr10 sb10 hb10 => ?_⟩
      have R10 := R9.take hb sb10 hb10
      rw [List.length_map] at hr10
      refine ⟨_, _, _, r10, rfl, rfl, R10.at_, by rw [List.length_map]; unfold ixN; rw [if_pos (by omega), if_pos (by omega)]; rfl, ?_⟩
      exact ⟨_, _, _, _, rfl, R10.put hb hr10 hr9⟩
    rintro σ' He ⟨y2, ra, y4, ds, rfl, R⟩
    -- the end
    refine ⟨.ref b, rfl, b, 4, rfl, R.box, by decide, by decide, fun H6 r6 hr6 sb6 hb6 => ?_⟩
    have R6 := R.take hb sb6 hb6
    refine ⟨(r6 : Int), rfl, by omega, by omega, fun D2 nD2 => ?_⟩
    rw [show ((r6 : Int)).toNat = r6 by omega]
    refine lc_it walk_range (PvT b n H6 D2) (pvt0 hb6 nD2) (fun _ _ _ _ => trivial) (fun i x H2 H3 hi hp hy => ?_) (fun H7 hp7 => ?_)
    · obtain ⟨rfl, rfl⟩ := hy
      exact ⟨rfl, yes_in ⟨.ref b, rfl, .int n, rfl, turn H6 D2 r6 hb6 nD2 (by omega) i H3 hi hp⟩⟩
    · obtain ⟨s7, hb7, ds3, hD7, l7, o7⟩ := hp7
      have R7 := R6.take hb s7 hb7
      have ln := R7.len
      refine ⟨_, rfl, _, _, _, _, rfl, rfl, hD7, R7.at_, by rw [List.length_map, List.length_map, sizeLine_eq]; omega, fun p np => ?_⟩
      rw [← List.map_append]
      refine q _ p (ds3 ++ ds) (fun d hd => ?_) (by rw [List.length_append]; omega) (R7.sb.trans (SameBut.of (same_new np))) (box_new R7.box np) (sbFree R7.sb (boxSome R7.box) np) upd_same
      rcases List.mem_append.mp hd with z | z
      · exact o7 d z
      · exact R7.ok d z
end
end Lw

set_option Elab.async false
set_option linter.all false
set_option maxRecDepth 100000
set_option maxHeartbeats 4000000
namespace Lw
open PySem PySem.Spec PyProof.Rows L2 Lx Pg
/-! ### two steps with which a row repeats -/
def Per (x : Nat → Int) (n p : Nat) : Prop := ∀ i, i + p < n → x (i + p) = x i
theorem Per.mod {x : Nat → Int} {n p : Nat} (h : Per x n p) (hp : 0 < p) : ∀ j, j < n → x j = x (j % p) := by
  intro j
  induction j using Nat.strongRecOn with
  | _ j ih =>
    intro hj
    by_cases z : j < p
    · rw [Nat.mod_eq_of_lt z]
    · have e : j - p + p = j := by omega
      have a := h (j - p) (by omega)
      rw [e] at a
      have c : j % p = (j - p) % p := Nat.mod_eq_sub_mod (by omega)
      rw [a, c]
      exact ih (j - p) (by omega) (by omega)
theorem per_common (x : Nat → Int) : ∀ (N p q n : Nat), p + q ≤ N → 0 < p → 0 < q → Per x n p → Per x n q → p + q ≤ n + Nat.gcd p q → Per x n (Nat.gcd p q) := by
  intro N
  induction N with
  | zero => intro p q n h1 h2; omega
  | succ N ih =>
    -- the greater step first
    have main : ∀ p q n : Nat, p + q ≤ N + 1 → q < p → 0 < q → Per x n p → Per x n q → p + q ≤ n + Nat.gcd p q → Per x n (Nat.gcd p q) := by
      intro p q n hN hlt hq hp hqq hlen
      have eg : Nat.gcd (p - q) q = Nat.gcd p q := Nat.gcd_sub_self_left (by omega)
      have g0 : 0 < Nat.gcd p q := Nat.gcd_pos_of_pos_right p hq
      have gq : Nat.gcd p q ∣ q := Nat.gcd_dvd_right p q
      have gp : Nat.gcd p q ∣ p := Nat.gcd_dvd_left p q
      have far : q + Nat.gcd p q ≤ p := by
        have z := Nat.dvd_sub gp gq
        have := Nat.le_of_dvd (by omega) z
        omega
      have sub : Per x (n - q) (Nat.gcd (p - q) q) := by
        apply ih (p - q) q (n - q) (by omega) (by omega) hq
        · intro i hi
          have a := hp i (by omega)
          have b := hqq (i + (p - q)) (by omega)
          rw [show i + (p - q) + q = i + p by omega] at b
          rw [← b, a]
        · intro i hi
          exact hqq i (by omega)
        · rw [eg]
          omega
      rw [eg] at sub
      have small : ∀ j, j < n → x j = x (j % Nat.gcd p q) := by
        intro j hj
        rw [hqq.mod hq j hj, sub.mod g0 (j % q) (by have := Nat.mod_lt j hq; omega), Nat.mod_mod_of_dvd _ gq]
      intro i hi
      rw [small _ hi, small i (by omega), Nat.add_mod_right]
    intro p q n hN hp0 hq0 hp hq hlen
    rcases Nat.lt_trichotomy p q with z | z | z
    · have := main q p n (by omega) z hp0 hq hp (by rw [Nat.gcd_comm]; omega)
      rwa [Nat.gcd_comm] at this
    · subst z
      rwa [Nat.gcd_self]
    · exact main p q n hN z hq0 hp hq hlen

/-! ### the law's own words against the program's -/
theorem repB_per {ds : List Int} {s : Nat} : repB ds s = true ↔ Per (fun i => ds.getD i 0) ds.length s := by
  rw [repB_iff]
  constructor
  · intro h i hi
    have := h i hi
    rwa [Nat.add_comm] at this
  · intro h i hi
    have := h i hi
    rwa [Nat.add_comm] at this
theorem getD_eq_iff {ds : List Int} {i j : Nat} (hi : i < ds.length) (hj : j < ds.length) : ds[i]? = ds[j]? ↔ ds.getD i 0 = ds.getD j 0 := by
  rw [List.getD_eq_getElem?_getD, List.getD_eq_getElem?_getD, List.getElem?_eq_getElem hi, List.getElem?_eq_getElem hj]
  simp
theorem repB_perB {ds : List Int} {s : Nat} : repB ds s = perB ds s := by
  rw [Bool.eq_iff_iff, repB_iff]
  unfold perB
  rw [decide_eq_true_eq]
  constructor
  · intro h
    apply List.ext_getElem?
    intro i
    rw [List.getElem?_drop, List.getElem?_take]
    by_cases z : i + s < ds.length
    · rw [if_pos (by omega), getD_eq_iff (by omega) (by omega), h i z]
    · rw [if_neg (by omega), List.getElem?_eq_none (by omega)]
  · intro h i hi
    have z := congrArg (fun l => l[i]?) h
    simp only [List.getElem?_drop, List.getElem?_take] at z
    rw [if_pos (by omega)] at z
    exact (getD_eq_iff (by omega) (by omega)).mp z
theorem drop_getD {ds : List Int} {k i : Nat} : (ds.drop k).getD i 0 = ds.getD (k + i) 0 := by
  rw [List.getD_eq_getElem?_getD, List.getD_eq_getElem?_getD, List.getElem?_drop]
theorem repB_end {ds : List Int} {s l : Nat} (hl : l ≤ ds.length) : repB (ds.drop (ds.length - l)) s = true ↔ EndRep ds s l := by
  rw [repB_iff]
  have e : (ds.drop (ds.length - l)).length = l := by rw [List.length_drop]; omega
  rw [e]
  constructor
  · intro h i h1 h2
    have z := h (i - (ds.length - l) - s) (by omega)
    rw [drop_getD, drop_getD, show ds.length - l + (s + (i - (ds.length - l) - s)) = i by omega, show ds.length - l + (i - (ds.length - l) - s) = i - s by omega] at z
    exact (getD_eq_iff h2 (by omega)).mpr z
  · intro h i hi
    rw [drop_getD, drop_getD]
    have z := h (ds.length - l + (s + i)) (by omega) (by omega)
    rw [show ds.length - l + (s + i) - s = ds.length - l + i by omega] at z
    exact (getD_eq_iff (by omega) (by omega)).mp z
/-- the last of all numbers whose end repeats is the longest -/
theorem due_last {ds : List Int} {s r : Nat} (h : Longest ds s r) : ((List.range (ds.length + 1)).filter (fun m => repB (ds.drop (ds.length - m)) s)).getLast? = some r := by
  have le := h.le
  apply filter_last (by omega)
  · exact (repB_end le).mpr h.rep
  · intro i h1 h2
    rw [← Bool.not_eq_true]
    intro z
    have := h.most i (by omega) ((repB_end (by omega)).mp z)
    omega
theorem mem_steps {ds : List Int} {z : Int} : z ∈ stepsOf ds ↔ ∃ s : Nat, z = s ∧ 1 ≤ s ∧ s < ds.length ∧ perB ds s = true := by
  unfold stepsOf
  rw [List.mem_map]
  constructor
  · rintro ⟨i, hi, rfl⟩
    rw [List.mem_filter, List.mem_range] at hi
    exact ⟨i + 1, by omega, by omega, by omega, hi.2⟩
  · rintro ⟨s, rfl, h1, h2, h3⟩
    refine ⟨s - 1, ?_, by omega⟩
    rw [List.mem_filter, List.mem_range]
    exact ⟨by omega, by rw [Nat.sub_add_cancel h1]; exact h3⟩
theorem steps_common {ds : List Int} {a b : Nat} (ha : ((a : Nat) : Int) ∈ stepsOf ds) (hb : ((b : Nat) : Int) ∈ stepsOf ds) (h : a + b ≤ ds.length + Nat.gcd a b) : ((Nat.gcd a b : Nat) : Int) ∈ stepsOf ds := by
  obtain ⟨a', ea, a1, a2, a3⟩ := mem_steps.mp ha
  obtain ⟨b', eb, b1, b2, b3⟩ := mem_steps.mp hb
  have ea : a = a' := by omega
  have eb : b = b' := by omega
  subst ea eb
  have g1 : 1 ≤ Nat.gcd a b := Nat.gcd_pos_of_pos_left b a1
  have g2 : Nat.gcd a b ≤ a := Nat.le_of_dvd a1 (Nat.gcd_dvd_left a b)
  refine mem_steps.mpr ⟨Nat.gcd a b, rfl, g1, by omega, ?_⟩
  rw [← repB_perB] at a3 b3 ⊢
  exact repB_per.mpr (per_common _ _ a b ds.length (Nat.le_refl _) a1 b1 (repB_per.mp a3) (repB_per.mp b3) h)
end Lw

set_option Elab.async false
set_option linter.all false
set_option maxRecDepth 100000
set_option maxHeartbeats 4000000
namespace Lw
open PySem PySem.Spec PyProof.Rows L2 Lx Pg
theorem most_of {p : Nat → Prop} (h0 : p 0) (n : Nat) : ∃ r, r ≤ n ∧ p r ∧ ∀ l, l ≤ n → p l → l ≤ r := by
  induction n with
  | zero => exact ⟨0, Nat.le_refl _, h0, fun l h _ => h⟩
  | succ n ih =>
    rcases Classical.em (p (n + 1)) with h | h
    · exact ⟨n + 1, Nat.le_refl _, h, fun l hl _ => hl⟩
    · obtain ⟨r, h1, h2, h3⟩ := ih
      refine ⟨r, by omega, h2, fun l hl hp => ?_⟩
      by_cases e : l = n + 1
      · subst e
        exact absurd hp h
      · exact h3 l (by omega) hp
theorem longest_ex (ds : List Int) (s : Nat) : ∃ r, Longest ds s r := by
  obtain ⟨r, h1, h2, h3⟩ := most_of (p := EndRep ds s) (EndRep.short (Nat.zero_le _) (Nat.zero_le _)) ds.length
  exact ⟨r, h1, h2, h3 _ (by omega) (EndRep.short (by omega) (by omega)), h3⟩
theorem longest_one {ds : List Int} {s r r' : Nat} (h : Longest ds s r) (h' : Longest ds s r') : r = r' := Nat.le_antisymm (h'.most r h.le h.rep) (h.most r' h'.le h'.rep)
theorem neSelf {x : V} {A B : Prop} (h : B) : if (!decide (x = x)) = true then A else B := by
  rw [decide_eq_true rfl]
  exact iteF h
theorem small_of_lt {i : Int} {n : Nat} (h0 : 0 ≤ i) (h : i < n) (hn : n ≤ 1000000) : i.natAbs < 10 ^ 12 := by omega
theorem steps_eq {ds : List Int} : ((List.range (ds.length - 1)).filter (fun k => repB ds (1 + k))).map (fun (k : Nat) => V.int ((1 : Int) + k)) = (stepsOf ds).map V.int := by
  unfold stepsOf
  rw [List.map_map]
  have e : (fun k => repB ds (1 + k)) = fun i => perB ds (i + 1) := by
    funext k
    rw [repB_perB, Nat.add_comm]
  rw [e]
  apply List.map_congr_left
  intro k _
  show V.int (1 + (k : Int)) = V.int ((k : Int) + 1)
  rw [Int.add_comm]
theorem steps_len {ds : List Int} : (stepsOf ds).length ≤ ds.length := by
  unfold stepsOf
  rw [List.length_map]
  have := List.length_filter_le (fun i => perB ds (i + 1)) (List.range (ds.length - 1))
  rw [List.length_range] at this
  omega
theorem steps_rep {ds : List Int} (h : ds.length ≤ 16) : RepOk (.tuple ((stepsOf ds).map PyData.int)) := by
  have n := neat_tuple (ds := (stepsOf ds).map PyData.int) (a := 0) (b := 40) (neat_ints fun d hd => by
    obtain ⟨s, rfl, h1, h2, _⟩ := mem_steps.mp hd
    omega)
  have l := steps_len (ds := ds)
  exact ⟨_, _, n, by decide, by rw [List.length_map]; omega⟩
theorem step_item {ds : List Int} {i : Nat} {x : V} (h : ((stepsOf ds).map V.int)[i]? = some x) : ∃ a : Nat, x = .int a ∧ ((a : Nat) : Int) ∈ stepsOf ds ∧ 1 ≤ a ∧ a < ds.length := by
  obtain ⟨z, hz, rfl⟩ := List.mem_map.mp (List.mem_of_getElem? h)
  obtain ⟨s, rfl, h1, h2, _⟩ := mem_steps.mp hz
  exact ⟨s, rfl, hz, h1, h2⟩
theorem flat_ints (xs : List Int) : (xs.map V.int).all flatV = true := by
  rw [List.all_eq_true]
  intro x hx
  obtain ⟨z, _, rfl⟩ := List.mem_map.mp hx
  rfl
theorem in_ints {xs : List Int} {z : Int} (h : z ∈ xs) : (if true = true then !inV (.int z) (xs.map V.int) else inV (.int z) (xs.map V.int)) = false := by
  rw [if_pos rfl]
  have e : inV (.int z) (xs.map V.int) = true := by
    unfold inV
    rw [List.any_eq_true]
    exact ⟨.int z, List.mem_map.mpr ⟨z, h, rfl⟩, by simp [eqV]⟩
  rw [e]
  rfl
section
variable {P : Program} {w : World} {K : PySem.W.Frag} {mg : Str → Option Value} {base : Heap} {CM CR CF : Addr}
def spRepeats (K : PySem.W.Frag) (CM : Addr) : Sp := fun vs H Q _ => ∃ b m ra T ds, vs = [.ref b, .ref m, .ref ra] ∧ MachAt K CM H m T ∧ H ra = some (.lst (ds.map V.int)) ∧ Deeds T.length ds ∧ ds.length ≤ 16 ∧ T.length ≤ 4 ∧ ∀ H', Same H H' → Q (.bl true) H'
def nRepeats : List Str := ["box", "machine", "row", "step", "due", "many", "steps", "one", "other", "common"]
theorem scRepeats : FnScope nRepeats ["box", "machine", "row"] (defScope sLawRepeats) := ⟨rfl, rfl, rfl, by decide +kernel, rfl, by decide +kernel, by decide +kernel⟩
theorem ok_repeats {f : Addr} {fd : FuncData} (F : Fun K "_law_repeats_right" "_law_repeats_right" sLawRepeats f fd) (B : Bare mg)
    (GI : Has P w K mg base L2.CX0 1 "_law_is_repeating" ["row", "step"] (spIsRep K)) (GD : Has P w K mg base L2.CX0 1 "_law_divisor" ["one", "other"] spDivisor)
    (GE : Has P w K mg base (L2.CX P w) 5 "repeat_end" ["machine", "row", "step"] (spRepeatEnd K CM CR CF)) (GEr : HasR P w K mg base (L2.CX P w) 5 "repeat_end" ["machine", "row", "step"] ["step", "row", "machine"] (spRepeatEnd K CM CR CF))
    (GS : Has P w K mg base (L2.CX P w) 5 "repeat_steps" ["machine", "row"] (spRepeatSteps K CM CR)) (GSr : HasR P w K mg base (L2.CX P w) 5 "repeat_steps" ["machine", "row"] ["row", "machine"] (spRepeatSteps K CM CR)) :
    FnOkG P w K mg base L2.CX0 6 f fd ["box", "machine", "row"] (spRepeats K CM) := by
  refine okG F scRepeats (fun vs H Q E h => ?_) (fun cdv A outer s H vs Q E hr hgd h => ?_)
  · obtain ⟨b, m, ra, T, ds, rfl, _⟩ := h
    rfl
  · obtain ⟨b, m, ra, T, ds, rfl, hm, hra, ok, len, t4, q⟩ := h
    have hu : (A.deeper (envOfC "_law_repeats_right" (defScope sLawRepeats) s.heap.objs.size f cdv)).units + 200 < cLine := by have := hr.un; omega
    refine ⟨_, pss_cons (ps_for PassesOwn.never rfl (pi_range2 (by rfl) B.range (pa_cons pe_int (pa_cons (pe_op op_add (pe_callB lenS (by rfl) B.len PySem.boot_len (pa_cons (pv 2) pa_nil)) pe_int) pa_nil))) (pg_name (i := 3) scRepeats.nd rfl (Or.inr rfl))
        (pss_cons (ps_set (i := 4) scRepeats.nd rfl (Or.inl rfl) (pe_ix ix_list
            (pe_lc (own := [("many", 5)]) (g := gName 5) rfl scRepeats.nd (pi_range1 (by rfl) B.range (pa_cons (pe_op op_add (pe_callB lenS (by rfl) B.len PySem.boot_len (pa_cons (pv 2) pa_nil)) pe_int) pa_nil)) (blkOk_by (N := nRepeats) (sc := defScope sLawRepeats) (by decide +kernel))
              (fun _ _ _ _ _ => pg_name (i := 5) scRepeats.nd rfl (Or.inl rfl))
              (fun _ _ _ _ _ => pts_one (pt_val (pe_has GI (hr.mono (by decide)) (by rfl) (pa_cons (pe_slice (r := rSlL K) sl_list (pv 2) (po_some (pe_op op_sub (pe_callB (r := rLenS K) lenS (by rfl) B.len PySem.boot_len (pa_cons (pv 2) pa_nil)) (pv 5))) po_none) (pa_cons (pv 3) pa_nil)))))
              (fun _ _ _ _ _ => pv 5))
            (pe_un un_neg pe_int) (fun _ _ => rfl)))
        (pss_cons (ps_if (PW.pt (pw_or (pt_cmpR op_ne (pe_callB (call_reprS hu hgd) (by rfl) B.repr (by decide +kernel) (pa_cons (pe_hasN GE hr (by rfl) (pa_cons (pv 1) (pa_cons (pv 2) (pa_cons (pv 3) pa_nil)))) pa_nil))
              (pe_callB (call_reprS hu hgd) (by rfl) B.repr (by decide +kernel) (pa_cons (pv 4) pa_nil)) (nomark _))
            (pw_or1 (pt_cmpR op_ne (pe_hasR GEr hr (by rfl) (pk_cons (pv 3) (pk_cons (pe_callTy tupOf (by rfl) B.tuple boot_tuple (pa_cons (pv 2) pa_nil)) (pk_cons (pv 1) pk_nil)))) (pv 4) (nomark _)))))
          (pss_one (ps_ret pe_bl)) pss_nil)
        (pss_one (ps_if (pt_cmpR op_lt (pv 4) (pe_callB (call_min2 rfl) (by rfl) B.min (by decide +kernel) (pa_cons (pv 3) (pa_cons (pe_callB lenS (by rfl) B.len PySem.boot_len (pa_cons (pv 2) pa_nil)) pa_nil))) (nomark _)) (pss_one (ps_ret pe_bl)) pss_nil)))))
      (pss_cons (ps_setLc (i := 6) (own := [("step", 3)]) (g := gName 3) rfl scRepeats.nd rfl rfl (sw_true rfl rfl rfl (by decide +kernel)) (pi_range2 (by rfl) B.range (pa_cons pe_int (pa_cons (pe_callB lenS (by rfl) B.len PySem.boot_len (pa_cons (pv 2) pa_nil)) pa_nil)))
          (blkOk_by (N := nRepeats) (sc := defScope sLawRepeats) (by decide +kernel)) (fun _ _ _ _ _ => pg_name (i := 3) scRepeats.nd rfl (Or.inl rfl))
          (fun _ _ _ _ _ => pts_one (pt_val (pe_has GI (hr.mono (by decide)) (by rfl) (pa_cons (pv 2) (pa_cons (pv 3) pa_nil)))))
          (fun _ _ _ _ _ => pv 3))
      (pss_cons (ps_if (PW.pt (pw_or (pt_cmpR op_ne (pe_callB (call_reprS hu hgd) (by rfl) B.repr (by decide +kernel) (pa_cons (pe_hasN GS hr (by rfl) (pa_cons (pv 1) (pa_cons (pv 2) pa_nil))) pa_nil))
              (pe_callB (call_reprS hu hgd) (by rfl) B.repr (by decide +kernel) (pa_cons (pe_callTy tupOf (by rfl) B.tuple boot_tuple (pa_cons (pv 6) pa_nil)) pa_nil)) (nomark _))
            (pw_or1 (pt_cmpR (op_neD hr.units) (pe_hasR GSr hr (by rfl) (pk_cons (pe_callTy tupOf (by rfl) B.tuple boot_tuple (pa_cons (pv 2) pa_nil)) (pk_cons (pv 1) pk_nil))) (pe_callTy tupOf (by rfl) B.tuple boot_tuple (pa_cons (pv 6) pa_nil)) (nomark _)))))
          (pss_one (ps_ret pe_bl)) pss_nil)
      (pss_cons (ps_for PassesOwn.never rfl (pi_list (pv 6)) (pg_name (i := 7) scRepeats.nd rfl (Or.inl rfl))
        (pss_one (ps_for PassesOwn.never rfl (pi_list (pv 6)) (pg_name (i := 8) scRepeats.nd rfl (Or.inl rfl))
          (pss_cons (ps_set (i := 9) scRepeats.nd rfl (Or.inl rfl) (pe_has GD (hr.mono (by decide)) (by rfl) (pa_cons (pv 7) (pa_cons (pv 8) pa_nil))))
          (pss_one (ps_if (PW.pt (pw_and (pt_cmpR op_ge (pe_callB lenS (by rfl) B.len PySem.boot_len (pa_cons (pv 2) pa_nil)) (pe_op op_sub (pe_op op_add (pv 7) (pv 8)) (pv 9)) (nomark _))
              (pw_and1 (pt_cmpR op_notIn_seq (pv 9) (pv 6) (by rfl))))) (pss_one (ps_ret pe_bl)) pss_nil))))))
      (pss_one (ps_ret pe_bl))))), ?_⟩
    have lm : (ds.map V.int).length = ds.length := List.length_map _
    have good : ∀ H', Same H H' → GoodRow K H' T.length (.ref ra) ds := fun H' s1 => ⟨.lst (.inl (.inl (s1 _ _ hra))), by omega, ok⟩
    have goodT : ∀ H' t, SqT K H' t (ds.map V.int) → GoodRow K H' T.length (.ref t) ds := fun H' t h => ⟨.tup h, by omega, ok⟩
    have lst : ∀ H', Same H H' → SqL K H' ra (ds.map V.int) := fun H' s1 => .inl (.inl (s1 _ _ hra))
    refine ⟨.ref ra, rfl, ra, _, rfl, .inl (lst H (Same.refl _)), _, _, rfl, rfl, 1, _, rfl, ⟨by decide, by decide, by rw [lm]; omega, by rw [lm]; omega⟩, ?_⟩
    have en : ((((ds.map V.int).length : Nat) : Int) + 3 - 1).toNat = ds.length + 2 := by rw [lm]; omega
    rw [en]
    refine for_range (lo := 1) (n := ds.length + 2) (fun i σ H2 => Same H H2 ∧ ∃ y3 y4, σ = [some (.ref b), some (.ref m), some (.ref ra), y3, y4, none, none, none, none, none]) ⟨Same.refl _, none, none, rfl⟩ ?_ ?_
    · -- one step
      rintro i σ H2 hi ⟨s2, y3, y4, rfl⟩
      obtain ⟨r, hr0⟩ := longest_ex ds (1 + i)
      have rle := hr0.le
      refine ⟨.ref ra, rfl, ra, _, rfl, .inl (lst H2 s2), _, _, rfl, rfl, _, rfl, by rw [lm]; omega, by rw [lm]; omega, fun D nD => ?_⟩
      rw [show ((((ds.map V.int).length : Nat) : Int) + 1).toNat = ds.length + 1 by rw [lm]; omega]
      refine lc_it walk_range (PvF (fun k => repB (ds.drop (ds.length - k)) (1 + i)) (fun k => .int ((0 : Int) + k)) H2 D) (pvf0 nD) (fun k H3 _ _ => trivial) ?_ ?_
      · rintro k x H3 H4 hk hp ⟨rfl, rfl⟩
        have s4 := s2.trans hp.1
        refine ⟨rfl, ?_⟩
        refine ⟨.ref ra, rfl, .ref ra, rfl, ra, _, rfl, .inl (lst _ s4), _, rfl, _, _, rfl, rfl, _, rfl, ra, _, rfl, lst _ s4, fun p np => ?_⟩
        rw [show (((ds.map V.int).length : Nat) : Int) - (0 + (k : Int)) = ((ds.length - k : Nat) : Int) by rw [lm]; omega, cut_from, ← List.map_drop]
        have s5 := same_new (o := .lst ((ds.drop (ds.length - k)).map V.int)) np
        refine ⟨_, rfl, p, 1 + i, ds.drop (ds.length - k), rfl, .inl (.inl upd_same), by rw [List.length_drop]; omega, by omega, fun H6 s6 => ⟨_, rfl, ?_⟩⟩
        refine ite2 (fun c => ?_) (fun c => ?_)
        · exact ⟨_, rfl, pvf_put nD hp (s5.trans s6) c rfl (by omega)⟩
        · exact pvf_skip hp (s5.trans s6) (by simpa using c)
      · intro H3 hp
        have s3 := s2.trans hp.1
        refine ⟨1, rfl, D, _, -1, .int (r : Nat), rfl, rfl, .inl (.inl hp.2), atI_last' ?_, ?_⟩
        · rw [List.getLast?_map, due_last hr0]
          show some (V.int ((0 : Int) + (r : Nat))) = _
          rw [Int.zero_add]
        -- the first test
        refine ⟨.ref m, rfl, .ref ra, rfl, .int (1 + (i : Int)), rfl, m, .ref ra, _, T, rfl, hm.same s3, .inr ⟨ds, good _ s3, .int _, .inr ⟨1 + i, by rw [Int.natCast_add]; rfl, by omega, by omega, fun H4 r' s4 hr' => ?_⟩⟩⟩
        have er := longest_one hr0 hr'
        subst er
        have nr : RepOk (.int ((r : Nat) : Int)) := (neat_int (by omega)).rep
        refine ⟨_, _, rfl, .int _, nr, _, rfl, _, _, rfl, .int _, nr, rfl, _, rfl, neSelf ?_⟩
        -- by names
        refine ⟨_, rfl, .ref ra, rfl, ra, _, rfl, .inl ⟨lst _ (s3.trans s4), fun t nt => ?_⟩⟩
        have s5 := (s3.trans s4).trans (same_new (o := .tup (ds.map V.int)) nt)
        refine ⟨.ref m, rfl, m, .ref t, _, T, rfl, hm.same s5, .inr ⟨ds, goodT _ t (.inl (.inl upd_same)), .int _, .inr ⟨1 + i, by rw [Int.natCast_add]; rfl, by omega, by omega, fun H6 r'' s6 hr'' => ?_⟩⟩⟩
        have er2 := longest_one hr0 hr''
        subst er2
        refine ⟨_, rfl, rfl, _, rfl, neSelf ?_⟩
        have s7 := s5.trans s6
        -- due is not below the lesser one
        refine ⟨_, rfl, _, rfl, .ref ra, rfl, ra, _, rfl, .inl (lst _ s7), _, _, rfl, _, _, rfl, rfl, _, rfl, ?_⟩
        have low := hr0.low
        refine ite2 (fun c => ?_) (fun c => ?_)
        · exfalso
          rw [decide_eq_true_eq, lm] at c
          split at c <;> omega
        · exact ⟨s7, _, _, rfl⟩
    · rintro σ H2 ⟨s2, y3, y4, rfl⟩
      -- steps
      refine ⟨.ref ra, rfl, ra, _, rfl, .inl (lst H2 s2), 1, _, rfl, ⟨by decide, by decide, by rw [lm]; omega, by rw [lm]; omega⟩, fun D nD => ?_⟩
      rw [show ((((ds.map V.int).length : Nat) : Int) - 1).toNat = ds.length - 1 by rw [lm]; omega]
      refine lc_it walk_range (PvF (fun k => repB ds (1 + k)) (fun k => .int ((1 : Int) + k)) H2 D) (pvf0 nD) (fun k H3 _ _ => trivial) ?_ ?_
      · rintro k x H3 H4 hk hp ⟨rfl, rfl⟩
        have s4 := s2.trans hp.1
        refine ⟨rfl, ?_⟩
        refine ⟨.ref ra, rfl, _, rfl, ra, 1 + k, ds, by rw [Int.natCast_add]; rfl, lst _ s4, by omega, by omega, fun H6 s6 => ⟨_, rfl, ?_⟩⟩
        refine ite2 (fun c => ?_) (fun c => ?_)
        · exact ⟨_, rfl, pvf_put nD hp s6 c rfl (by omega)⟩
        · exact pvf_skip hp s6 (by simpa using c)
      · intro H3 hp
        have s3 := s2.trans hp.1
        have hD : H3 D = some (.lst ((stepsOf ds).map V.int)) := by
          rw [hp.2, steps_eq]
        have nT : RepOk (.tuple ((stepsOf ds).map PyData.int)) := steps_rep len
        -- by repr, and by names
        refine ⟨.ref m, rfl, .ref ra, rfl, m, .ref ra, T, rfl, hm.same s3, .inr ⟨ds, good _ s3, fun H4 t s4 ht => ?_⟩⟩
        have D4 : SqL K H4 D ((stepsOf ds).map V.int) := .inl (.inl (s4 _ _ hD))
        refine ⟨_, _, rfl, dp_tuple_ints ht, nT, _, rfl, D, _, rfl, .inl ⟨D4, fun t2 nt2 => ?_⟩⟩
        have s5 := same_new (o := .tup ((stepsOf ds).map V.int)) nt2
        refine ⟨_, _, rfl, dp_tuple_ints (.inl (.inl upd_same)), nT, rfl, _, rfl, neSelf ?_⟩
        have s05 := (s3.trans s4).trans s5
        refine ⟨_, rfl, ra, _, rfl, .inl ⟨lst _ s05, fun t6 nt6 => ?_⟩⟩
        have s6 := same_new (o := .tup (ds.map V.int)) nt6
        refine ⟨.ref m, rfl, m, .ref t6, T, rfl, hm.same (s05.trans s6), .inr ⟨ds, goodT _ t6 (.inl (.inl upd_same)), fun H7 t7 s7 ht7 => ?_⟩⟩
        have s47 := (s5.trans s6).trans s7
        have s07 := (s3.trans s4).trans s47
        refine ⟨_, rfl, D, _, rfl, .inl ⟨s47.seq D4, fun t8 nt8 => ?_⟩⟩
        have s8 := same_new (o := .tup ((stepsOf ds).map V.int)) nt8
        refine ⟨_, _, dp_tuple_ints (sameT s8 ht7), dp_tuple_ints (.inl (.inl upd_same)), shaped_tuple_ints _, shaped_tuple_ints _, _, rfl, ?_⟩
        rw [eqv_tuple_ints, decide_eq_true rfl]
        refine iteF ?_
        have s08 := s07.trans s8
        have D8 : SqL K _ D ((stepsOf ds).map V.int) := (s47.trans s8).seq D4
        generalize hH8 : upd H7 t8 (.tup ((stepsOf ds).map V.int)) = H8 at s08 D8
        refine ⟨_, rfl, D, rfl, ⟨_, D8⟩, for_it walk_list (fun i σ H' => Same H8 H' ∧ ∃ y7 y8 y9, σ = [some (.ref b), some (.ref m), some (.ref ra), y3, y4, none, some (.ref D), y7, y8, y9]) ⟨Same.refl _, none, none, none, rfl⟩ (fun i σ H' _ hq => hq.1.seq D8) ?_ ?_⟩
        · rintro i x σ H9 H9' hi ⟨s9, y7, y8, y9, rfl⟩ ⟨rfl, ex⟩
          refine ⟨_, rfl, D, rfl, ⟨_, s9.seq D8⟩, for_it walk_list (fun i σ H' => Same H8 H' ∧ ∃ y8 y9, σ = [some (.ref b), some (.ref m), some (.ref ra), y3, y4, none, some (.ref D), some x, y8, y9]) ⟨s9, y8, y9, rfl⟩ (fun i σ H' _ hq => hq.1.seq D8) ?_ ?_⟩
          · rintro j y σ Ha Ha' hj ⟨sa, y8, y9, rfl⟩ ⟨rfl, ey⟩
            obtain ⟨a1, e1, m1, l1, l2⟩ := step_item ex
            obtain ⟨a2, e2, m2, l3, l4⟩ := step_item ey
            subst e1 e2
            refine ⟨_, rfl, _, rfl, a1, a2, rfl, l1, by omega, fun Hb sb => ?_⟩
            have sab := sa.trans sb
            refine ⟨_, rfl, ra, _, rfl, .inl (lst _ (s08.trans sab)), _, rfl, _, rfl, _, _, rfl, rfl, _, rfl, _, _, rfl, rfl, _, _, rfl, rfl, _, rfl, ?_⟩
            refine ite2 (fun c => ?_) (fun c => iteF ⟨sab, _, _, rfl⟩)
            have cm : a1 + a2 ≤ ds.length + Nat.gcd a1 a2 := by
              rw [decide_eq_true_eq, lm] at c
              omega
            have mem := steps_common m1 m2 cm
            refine ⟨_, rfl, _, rfl, D, _, rfl, .inl (sab.seq D8), rfl, flat_ints _, _, rfl, ?_⟩
            rw [in_ints mem]
            exact iteF ⟨sab, _, _, rfl⟩
          · rintro σ Ha ⟨sa, y8, y9, rfl⟩
            exact ⟨sa, _, _, _, rfl⟩
        · rintro σ Ha ⟨sa, y7, y8, y9, rfl⟩
          exact q _ (s08.trans sa)
end
end Lw

set_option Elab.async false
set_option linter.all false
set_option maxRecDepth 100000
set_option maxHeartbeats 1000000
namespace Lx
open PySem PySem.Spec PyProof.Rows L2
/-- isinstance(e, c) of the error that the suite holds: cls its class, d its dict -/
def rIsG (K : PySem.W.Frag) (a : Addr) (cls : Value) (d : Option Addr) : List V → Hp → VK → Prop := fun xs H Q => ∃ (D dd : Addr), cls = .ref D ∧ d = some dd ∧ ExcC K D ∧ rIsF K D a dd xs H Q
theorem call_isG {X : Cx} {a : Addr} {cls : Value} {d : Option Addr} {oe : Obj} {pn : List (Addr × Obj)} (hz : Zc cls d oe) (hf : ∃ vs, oe.data = .fields vs) : CallR (X.suite a ((a, oe) :: pn)) (.builtin "isinstance") (rIsG X.K a cls d) := by
  rintro pins s σ H xs us Q I r ⟨D, dd, rfl, rfl, C, h⟩
  exact call_isF C hz hf pins s σ H xs us Q I r h
end Lx
namespace Lw
open PySem PySem.Spec PyProof.Rows L2 Lx Pg
/-- the error classes of the law's ears -/
structure Ears (K : PySem.W.Frag) (mg : Str → Option Value) (CR CF CP : Addr) : Prop where
  gR : mg "BadRow" = some (.ref CR)
  gF : mg "Refused" = some (.ref CF)
  gP : mg "PageError" = some (.ref CP)
  rr : PySem.W.exmOne K (.ref CR) (.ref CR) = some true
  fr : PySem.W.exmOne K (.ref CF) (.ref CR) = some false
  ff : PySem.W.exmOne K (.ref CF) (.ref CF) = some true
  pr : PySem.W.kitOne K (.ref CR) (.ref CP) = some true
  pf : PySem.W.kitOne K (.ref CF) (.ref CP) = some true
  xr : XfC K CR
  xf : XfC K CF
  er : ExcC K CR
  ef : ExcC K CF
  nr : PySem.W.findIn K (.ref CR) "at" = some none
  nf : PySem.W.findIn K (.ref CF) "at" = some none
/-- what _law_heard makes of what its lambda does -/
def heardE (K : PySem.W.Frag) (CR CF : Addr) (Q : VK) : XK := fun cls d H' =>
  (cls = .ref CR ∧ ∃ dd v, d = some dd ∧ H' dd = some (.xd [("at", v)]) ∧ ∀ p H'', Same H' H'' → H' p = none → H'' p = some (.tup [.str "row", v, .bl true]) → Q (.ref p) H'') ∨
  (cls = .ref CF ∧ ∃ dd v dv, d = some dd ∧ H' dd = some (.xd [("at", v)]) ∧ Dp K H' v dv ∧ RepOk dv ∧ ∀ p H'', Same H' H'' → H' p = none → H'' p = some (.tup [.str "refused", .str dv.shown, .bl true]) → Q (.ref p) H'')
def heardT (K : PySem.W.Frag) (CR CF : Addr) : (XK → Hp → VK → Prop) → Hp → VK → Prop := fun tl H Q => tl (heardE K CR CF Q) H fun _ H' => Q .non H'
theorem scHeard : FnScope ["ask", "e"] ["ask"] (defScope sLawHeard) := ⟨rfl, rfl, rfl, by decide +kernel, rfl, by decide +kernel, by decide +kernel⟩
theorem heard_gives {X : Cx} {g CR CF CP : Addr} {cdg : Value} (B : Bare X.mg) (ea : Ears X.K X.mg CR CF CP) (hu : X.A.units + 300 < cLine) (hgd : X.A.guards = some []) :
    GivesH X ["ask", "e"] "_law_heard" (defScope sLawHeard) g cdg (defBody sLawHeard) "ask" (heardT X.K CR CF) := by
  intro f s H Q tl act h
  have hu2 : (X.A.deeper (envOfC "_law_heard" (defScope sLawHeard) s.heap.objs.size g cdg)).units + 200 < cLine := by
    show X.A.units + 3 + 200 < cLine
    omega
  refine ⟨_, pss_cons (ps_try_clauses (Wout := fun _ _ _ _ => False)
      (tb := fun W D σ H' => ∃ Ech : XK, (∀ cls d σ' H'', Ech cls d H'' → σ'.length = 2 → W cls d σ' H'') ∧ σ[0]? = some (some (.ref f)) ∧ H' = H ∧ tl Ech H' fun _ H'' => D.nx σ H'')
      rfl rfl scHeard.nd L2.takes0 (fun W pn xe tk _ => ?_)
      (.cons (i := 1) ⟨rfl, by decide, .inl ea.gR⟩ rfl rfl (fun a oe cls d pn hz hf => pss_one (ps_ret (pe_tup (pa_cons pe_str (pa_cons (pe_xf ea.xr ea.nr hz hf (pv 1)) (pa_cons (pe_callB (r := rIsG X.K a cls d) (call_isG hz hf) (by rfl) B.isinstance boot_isinstance (pa_cons (pv 1) (pa_cons (pe_glob (v := .ref CP) rfl ea.gP rfl) pa_nil))) pa_nil))))))
      (.cons (i := 1) ⟨rfl, by decide, .inl ea.gF⟩ rfl rfl (fun a oe cls d pn hz hf => pss_one (ps_ret (pe_tup (pa_cons pe_str (pa_cons (pe_callB (r := rRepr X.K) (call_reprS hu2 hgd) (by rfl) B.repr (by decide +kernel) (pa_cons (pe_xf ea.xf ea.nf hz hf (pv 1)) pa_nil)) (pa_cons (pe_callB (r := rIsG X.K a cls d) (call_isG hz hf) (by rfl) B.isinstance boot_isinstance (pa_cons (pv 1) (pa_cons (pe_glob (v := .ref CP) rfl ea.gP rfl) pa_nil))) pa_nil)))))) .nil)))
    (pss_one (ps_ret pe_non)), ?_⟩
  · constructor
    rintro pins s' σ H' D I ⟨Ech, hW, h1, rfl, h2⟩
    have tk2 : Takes ((gCx X ["ask", "e"] "_law_heard" (defScope sLawHeard) g cdg s H').tr pn xe) (fun cls d σ H => σ.length = 2 → W cls d σ H) := fun u s' ⟨a, B, sI, pins, σ, H, cls, d, e, I, nb, up, sky, na, os, ag, w⟩ => tk u s' ⟨a, B, sI, pins, σ, H, cls, d, e, I, nb, up, sky, na, os, ag, w I.len⟩
    exact (pss_one (ps_expr (act _ pn xe Ech _ _ tk2 hW))).run pins s' σ H' D I ⟨h1, rfl, h2⟩
  · refine ⟨heardE X.K CR CF Q, ?_, rfl, rfl, h⟩
    rintro cls d σ' H' (⟨rfl, dd, v, rfl, hd, q⟩ | ⟨rfl, dd, v, dv, rfl, hd, hv, rep, q⟩) hl
    all_goals
      obtain ⟨y0, y1, rfl⟩ : ∃ y0 y1, σ' = [y0, y1] := by
        match σ', hl with
        | [y0, y1], _ => exact ⟨y0, y1, rfl⟩
    · refine ⟨true, ea.rr, fun _ a na => ?_, fun z => Bool.noConfusion z⟩
      exact ⟨.ref a, rfl, rfl, rfl, dd, [("at", v)], v, rfl, hd, rfl, .ref a, rfl, CR, dd, rfl, rfl, ea.er, .ref CP, .ref CP, true, [("at", v)], rfl, fun u h => h, ea.pr, hd, by show 3 ≤ sizeLine; decide, fun p np => q p _ (same_new np) np upd_same⟩
    · refine ⟨false, ea.fr, fun z => Bool.noConfusion z, fun _ => ⟨true, ea.ff, fun _ a na => ?_, fun z => Bool.noConfusion z⟩⟩
      exact ⟨.ref a, rfl, rfl, rfl, dd, [("at", v)], v, rfl, hd, rfl, v, dv, rfl, hv, rep, .ref a, rfl, CF, dd, rfl, rfl, ea.ef, .ref CP, .ref CP, true, [("at", v)], rfl, fun u h => h, ea.pf, hd, by show 3 ≤ sizeLine; decide, fun p np => q p _ (same_new np) np upd_same⟩
end Lw

set_option Elab.async false
set_option linter.all false
set_option maxRecDepth 100000
set_option maxHeartbeats 4000000
/-! rows by number: the counting; what stays of a box, a machine, a list of rows -/
namespace Lw
open PySem PySem.Spec PyProof.Rows L2 Lx Pg
theorem digits_len (n k x : Nat) : (digits n k x).length = k := by
  unfold digits
  rw [List.length_reverse, List.length_map, List.length_range]
theorem digits_more {n k j d : Nat} (hd : d < n) : digits n (k + 1) (j * n + d) = digits n k j ++ [(d : Int)] := by
  have n0 : 0 < n := by omega
  have e0 : (j * n + d) % n = d := by rw [Nat.mul_comm, Nat.mul_add_mod, Nat.mod_eq_of_lt hd]
  have e1 : (j * n + d) / n = j := by rw [Nat.mul_comm, Nat.mul_add_div n0, Nat.div_eq_of_lt hd, Nat.add_zero]
  unfold digits
  rw [List.range_succ_eq_map, List.map_cons, List.reverse_cons, List.map_map]
  congr 1
  · congr 1
    apply List.map_congr_left
    intro i _
    show (((j * n + d) / n ^ (i + 1) % n : Nat) : Int) = ((j / n ^ i % n : Nat) : Int)
    rw [Nat.pow_succ, Nat.mul_comm (n ^ i) n, ← Nat.div_div_eq_div_mul, e1]
  · rw [Nat.pow_zero, Nat.div_one, e0]
theorem digits_ok {n k x : Nat} (hn : 1 ≤ n) : ∀ d ∈ digits n k x, 0 ≤ d ∧ d < n := by
  intro d hd
  unfold digits at hd
  rw [List.mem_reverse] at hd
  obtain ⟨i, _, rfl⟩ := List.mem_map.mp hd
  have := Nat.mod_lt (x / n ^ i) (show n > 0 by omega)
  omega
theorem place_digits {n : Nat} (hn : 1 ≤ n) : ∀ (k x : Nat), x < n ^ k → Pg.placeOf n (digits n k x) = (x : Int)
  | 0, x, h => by
    have : x = 0 := by simpa using h
    subst this
    rfl
  | k + 1, x, h => by
    have hd := Nat.mod_lt x (show n > 0 by omega)
    have hx : x = x / n * n + x % n := by
      have := Nat.div_add_mod x n
      rw [Nat.mul_comm] at this
      exact this.symm
    have hq : x / n < n ^ k := by
      rw [Nat.div_lt_iff_lt_mul (by omega), ← Nat.pow_succ]
      exact h
    have ih := place_digits hn k (x / n) hq
    rw [hx, digits_more hd]
    unfold Pg.placeOf at ih ⊢
    rw [List.foldl_append, ih]
    show ((x / n : Nat) : Int) * (n : Int) + ((x % n : Nat) : Int) = _
    rw [← hx]
    omega
/-- the first m rows of k deeds -/
def rowsOf (n k m : Nat) : List (List Int) := (List.range m).map (digits n k)
theorem rowsOf_len (n k m : Nat) : (rowsOf n k m).length = m := by
  unfold rowsOf
  rw [List.length_map, List.length_range]
theorem rowsOf_get {n k m i : Nat} (h : i < m) : (rowsOf n k m)[i]? = some (digits n k i) := by
  unfold rowsOf
  rw [List.getElem?_map, List.getElem?_range h]
  rfl
theorem rowsOf_more (n k j : Nat) : rowsOf n (k + 1) ((j + 1) * n) = rowsOf n (k + 1) (j * n) ++ (List.range n).map (fun d => digits n k j ++ [((d : Nat) : Int)]) := by
  unfold rowsOf
  rw [Nat.add_mul, Nat.one_mul, List.range_add, List.map_append, List.map_map]
  congr 1
  apply List.map_congr_left
  intro d hd
  exact digits_more (List.mem_range.mp hd)
theorem rowsOf_zero (n : Nat) : rowsOf n 0 1 = [[]] := rfl

/-! what stays -/
theorem BoxAt.same {H H' : Hp} {b : Addr} (h : BoxAt H b) (e : Same H H') : BoxAt H' b := by
  obtain ⟨c0, c1, c2, z, h0⟩ := h
  exact ⟨c0, c1, c2, e _ _ z, h0⟩
theorem BoxAt.ext {H H' : Hp} {b : Addr} (h : BoxAt H b) (e : LamX.ExtN H H') : BoxAt H' b := by
  obtain ⟨c0, c1, c2, z, h0⟩ := h
  exact ⟨c0, c1, c2, e _ _ z (fun _ q => by cases q), h0⟩
theorem BoxAt.ne {H : Hp} {b p : Addr} (h : BoxAt H b) (n : H p = none) : p ≠ b := by
  rintro rfl
  obtain ⟨c0, c1, c2, z, h0⟩ := h
  rw [n] at z
  cases z
theorem sb_ext {b : Addr} {H H' : Hp} (e : SameBut b H H') : Ext b H H' := fun a o h n _ => e a o h n
theorem _root_.Pg.MachAt.ext {K : PySem.W.Frag} {C b : Addr} {H H' : Hp} {m : Addr} {T : List (List Int)} (h : MachAt K C H m T) (e : Ext b H H') (hb : BoxAt H b) : MachAt K C H' m T := by
  obtain ⟨c0, c1, c2, z, _⟩ := hb
  obtain ⟨dx, fs, t, as, h1, h2, h3, h4, h5, h6⟩ := h.ex
  have nb : m ≠ b := by
    rintro rfl
    rw [z] at h1
    cases h1
  exact ⟨dx, fs, t, as, e _ _ h1 nb (fun _ q => by cases q), h2, h3, h4, e.tup z h5, paired_imp h6 fun a r q => e.tup z q⟩
theorem tabs_sb {T : List (Addr × Str)} {b : Addr} {H H' : Hp} (h : LamX.Tabs T H) (e : SameBut b H H') (hb : BoxAt H b) : LamX.Tabs T H' := by
  obtain ⟨c0, c1, c2, z, _⟩ := hb
  exact tabs_but z e h
/-- at l a list of tuples of these numbers -/
def RowsAt (K : PySem.W.Frag) (H : Hp) (l : Addr) (rs : List (List Int)) : Prop := ∃ bs : List Addr, H l = some (.lst (bs.map V.ref)) ∧ Paired (fun (a : Addr) (r : List Int) => SqT K H a (r.map V.int)) bs rs
theorem RowsAt.ext {K : PySem.W.Frag} {b l : Addr} {H H' : Hp} {rs : List (List Int)} (h : RowsAt K H l rs) (e : Ext b H H') (hb : BoxAt H b) (n : l ≠ b) : RowsAt K H' l rs := by
  obtain ⟨c0, c1, c2, z, _⟩ := hb
  obtain ⟨bs, h1, h2⟩ := h
  exact ⟨bs, e _ _ h1 n (fun _ q => by cases q), paired_imp h2 fun a r q => e.tup z q⟩
theorem RowsAt.same {K : PySem.W.Frag} {l : Addr} {H H' : Hp} {rs : List (List Int)} (h : RowsAt K H l rs) (e : Same H H') : RowsAt K H' l rs := by
  obtain ⟨bs, h1, h2⟩ := h
  exact ⟨bs, e _ _ h1, paired_imp h2 fun a r q => sameT e q⟩
theorem RowsAt.get {K : PySem.W.Frag} {l : Addr} {H : Hp} {rs : List (List Int)} {i : Nat} (h : RowsAt K H l rs) (hi : i < rs.length) : ∃ (bs : List Addr) (a : Addr), H l = some (.lst (bs.map V.ref)) ∧ bs.length = rs.length ∧ (bs.map V.ref)[i]? = some (V.ref a) ∧ SqT K H a ((rs[i]'hi).map V.int) := by
  obtain ⟨bs, h1, h2⟩ := h
  have hl := paired_len h2
  have hb : bs[i]? = some (bs[i]'(by omega)) := List.getElem?_eq_getElem _
  obtain ⟨r, e1, e2⟩ := Pg.paired_get h2 hb
  rw [List.getElem?_eq_getElem hi] at e1
  cases e1
  exact ⟨bs, _, h1, hl, by rw [List.getElem?_map, hb]; rfl, e2⟩
def rowsD (rs : List (List Int)) : PyData := .list (rs.map fun r => .tuple (r.map PyData.int))
theorem dps_rows {K : PySem.W.Frag} {H : Hp} : ∀ {bs : List Addr} {rs : List (List Int)}, Paired (fun (a : Addr) (r : List Int) => SqT K H a (r.map V.int)) bs rs → DpAll K H (bs.map V.ref) (rs.map fun r => PyData.tuple (r.map PyData.int))
  | _, _, .nil => .nil
  | _, _, .cons h t => .cons (dp_tuple_ints h) (dps_rows t)
theorem RowsAt.dp {K : PySem.W.Frag} {l : Addr} {H : Hp} {rs : List (List Int)} (h : RowsAt K H l rs) : Dp K H (.ref l) (rowsD rs) := by
  obtain ⟨bs, h1, h2⟩ := h
  exact .lst (.inl (.inl h1)) (dps_rows h2)
theorem rows_rep {n k m : Nat} (hn : 1 ≤ n) (h4 : n ≤ 4) (hk : k ≤ 4) (hm : m ≤ 256) : RepOk (rowsD (rowsOf n k m)) := by
  have z := neat_list (ds := (rowsOf n k m).map fun r => PyData.tuple (r.map PyData.int)) (a := 1) (b := 4 * 41) fun d hd => by
    obtain ⟨r, hr, rfl⟩ := List.mem_map.mp hd
    unfold rowsOf at hr
    obtain ⟨x, _, rfl⟩ := List.mem_map.mp hr
    have t := neat_tuple (ds := (digits n k x).map PyData.int) (a := 0) (b := 40) (neat_ints fun d hd => by
      have := digits_ok (k := k) (x := x) hn d hd
      omega)
    refine t.mono (Nat.le_refl _) ?_
    rw [List.length_map, digits_len]
    omega
  exact z.rep (by decide) (by rw [List.length_map, rowsOf_len]; omega)
theorem ints_rep {m : Nat} (hm : m ≤ 256) : RepOk (.list (((List.range m).map fun (i : Nat) => (i : Int)).map PyData.int)) := by
  have z := neat_list (ds := ((List.range m).map fun (i : Nat) => (i : Int)).map PyData.int) (a := 0) (b := 40) (neat_ints fun d hd => by
    obtain ⟨i, hi, rfl⟩ := List.mem_map.mp hd
    have := List.mem_range.mp hi
    omega)
  exact z.rep (by decide) (by rw [List.length_map, List.length_map, List.length_range]; omega)
theorem pow_most {n k : Nat} (h4 : n ≤ 4) (hk : k ≤ 4) : n ^ k ≤ 256 := by
  have a : n ^ k ≤ 4 ^ k := Nat.pow_le_pow_left h4 k
  have b : 4 ^ k ≤ 4 ^ 4 := Nat.pow_le_pow_right (by decide) hk
  omega
end Lw
namespace Lw
open PySem PySem.Spec PyProof.Rows L2 Lx Pg
/-- where a def stands: what stays since H, the box, the tables -/
structure Lv (b : Addr) (Tb : List (Addr × Str)) (H H' : Hp) : Prop where
  ext : Ext b H H'
  box : BoxAt H' b
  tabs : LamX.Tabs Tb H'
theorem Lv.same {b : Addr} {Tb : List (Addr × Str)} {H H1 H2 : Hp} (l : Lv b Tb H H1) (e : Same H1 H2) : Lv b Tb H H2 := ⟨l.ext.trans (Ext.of e), l.box.same e, l.tabs.ext e⟩
theorem Lv.new {b p : Addr} {Tb : List (Addr × Str)} {H H1 : Hp} {o : HO} (l : Lv b Tb H H1) (n : H1 p = none) : Lv b Tb H (upd H1 p o) := l.same (same_new n)
theorem Lv.draw {b : Addr} {Tb : List (Addr × Str)} {H H1 H2 : Hp} (l : Lv b Tb H H1) (e : SameBut b H1 H2) (hb : BoxAt H2 b) : Lv b Tb H H2 := ⟨l.ext.trans (sb_ext e), hb, tabs_sb l.tabs e l.box⟩
theorem Lv.lam {b : Addr} {Tb : List (Addr × Str)} {H H1 H2 : Hp} (l : Lv b Tb H H1) (e : LamX.ExtN H1 H2) (t : LamX.Tabs Tb H2) : Lv b Tb H H2 := ⟨l.ext.trans (Ext.ofN e), l.box.ext e, t⟩
theorem ext_put {D : Addr} {H : Hp} {o : HO} : Ext D H (upd H D o) := fun a u h n _ => by rw [upd_ne n]; exact h
theorem rows_nil {K : PySem.W.Frag} {H : Hp} {l : Addr} : RowsAt K (upd H l (.lst [])) l [] := ⟨[], upd_same, .nil⟩
theorem rows_put {K : PySem.W.Frag} {H2 H3 H5 : Hp} {D c : Addr} {rs : List (List Int)} {r : List Int} (nD : H2 D = none) (s0 : Same H2 H3) (h : RowsAt K H3 D rs) (s : Same H3 H5) (hc : SqT K H5 c (r.map V.int)) (hl : rs.length < 1000000) :
    ∃ acc, H5 D = some (.lst acc) ∧ acc.length < sizeLine ∧ Same H2 (upd H5 D (.lst (acc ++ [.ref c]))) ∧ RowsAt K (upd H5 D (.lst (acc ++ [.ref c]))) D (rs ++ [r]) := by
  obtain ⟨bs, h1, h2⟩ := h
  have lb := paired_len h2
  have h5 := s _ _ h1
  refine ⟨_, h5, by rw [List.length_map, lb, sizeLine_eq]; omega, fun a o z => ?_, bs ++ [c], by rw [upd_same, List.map_append]; rfl, ?_⟩
  · rw [upd_ne (ne_of_none z nD)]
    exact s _ _ (s0 _ _ z)
  · exact Pg.paired_snoc (paired_imp h2 fun a q z => ext_put.tup h5 (sameT s z)) (ext_put.tup h5 hc)
theorem paired_app {α β : Type} {F : α → β → Prop} : ∀ {l l2 : List α} {r r2 : List β}, Paired F l r → Paired F l2 r2 → Paired F (l ++ l2) (r ++ r2)
  | _, _, _, _, .nil, h => h
  | _, _, _, _, .cons h t, k => .cons h (paired_app t k)
/-- its characters are characters -/
def Chars (x : Str) : Prop := (PyData.str x).canLay0 = true
instance (x : Str) : Decidable (Chars x) := inferInstanceAs (Decidable (_ = true))
theorem rep0 : RepOk (.str "0") := ⟨0, 1, ⟨by decide +kernel, Nat.le_refl _, by decide +kernel, by decide +kernel, rfl, by decide +kernel⟩, by decide, by decide⟩
theorem rep1 : RepOk (.str "1") := ⟨0, 1, ⟨by decide +kernel, Nat.le_refl _, by decide +kernel, by decide +kernel, rfl, by decide +kernel⟩, by decide, by decide⟩
theorem chars_int : ∀ M : Fin 402, Chars (PyData.int ((M.val : Nat) : Int)).shown := by decide +kernel
/-- what is picked as a wrong number -/
theorem bad_pick {K : PySem.W.Frag} {v : V} {M : Nat} {hi : Int} {x : Str} (hx : RepOk (.str x)) (hc : Chars (PyData.str x).shown) (hM : M ≤ 401) (h : hi < M) (hv : v ∈ [V.int (M : Nat), V.int (0 - 1), V.non, V.bl true, V.str x]) :
    Sca v ∧ numV v 0 hi = false ∧ ∃ d, RepOk d ∧ Chars d.shown ∧ ∀ H, Dp K H v d := by
  simp only [List.mem_cons, List.not_mem_nil, or_false] at hv
  rcases hv with rfl | rfl | rfl | rfl | rfl
  · refine ⟨.int _, ?_, _, (neat_int (i := ((M : Nat) : Int)) (by omega)).rep, chars_int ⟨M, by omega⟩, fun H => .int _⟩
    simp only [numV, Bool.and_eq_false_iff, decide_eq_false_iff_not]
    omega
  · refine ⟨.int _, ?_, _, (neat_int (i := 0 - 1) (by decide)).rep, by decide +kernel, fun H => .int _⟩
    simp [numV]
  · exact ⟨.non, rfl, _, neat_none.rep, by decide +kernel, fun H => .non⟩
  · exact ⟨.bl _, rfl, _, (neat_bool true).rep, by decide +kernel, fun H => .bl _⟩
  · exact ⟨.str _, rfl, _, hx, hc, fun H => .str _⟩
theorem shaped_told {a b : Str} (ha : Chars a) (hb : Chars b) : SeqAt.shaped (.tuple [.str a, .str b, .bool true]) = true := by
  show ((PyData.str a).canLay0 && ((PyData.str b).canLay0 && (true && true)) && true) = true
  rw [ha, hb]
  rfl
theorem eqv_told (a b : Str) : PyData.eqv (.tuple [.str a, .str b, .bool true]) (.tuple [.str a, .str b, .bool true]) = true := by
  simp [PyData.eqv, PyData.eqvAll]
theorem dp_told {K : PySem.W.Frag} {H : Hp} {p : Addr} {a b : Str} (h : H p = some (.tup [.str a, .str b, .bl true])) : Dp K H (.ref p) (.tuple [.str a, .str b, .bool true]) :=
  .tup (.inl (.inl h)) (.cons (.str _) (.cons (.str _) (.cons (.bl _) .nil)))
end Lw

set_option Elab.async false
set_option linter.all false
set_option maxRecDepth 100000
set_option maxHeartbeats 4000000
namespace Lw
open PySem PySem.Spec PyProof.Rows L2 Lx Pg
section
variable {P : Program} {w : World} {K : PySem.W.Frag} {mg : Str → Option Value} {base : Heap} {CM CR CF : Addr}
def spNumbers (K : PySem.W.Frag) (CM : Addr) (Tb : List (Addr × Str)) : Sp := fun vs H Q _ => ∃ b m T, vs = [.ref b, .ref m, .int (T.length : Nat)] ∧ BoxAt H b ∧ MachAt K CM H m T ∧ 1 ≤ T.length ∧ T.length ≤ 4 ∧ LamX.Tabs Tb H ∧
  ∀ H', Ext b H H' → BoxAt H' b → LamX.Tabs Tb H' → Q (.bl true) H'
def nNumbers : List Str := ["box", "machine", "deeds", "many", "rows", "turn", "longer", "row", "deed", "number", "at", "bad"]
theorem scNumbers : FnScope nNumbers ["box", "machine", "deeds"] (defScope sLawNumbers) := ⟨rfl, rfl, rfl, by decide +kernel, rfl, by decide +kernel, by decide +kernel⟩
/-- the def of the ear -/
structure EarDef (K : PySem.W.Frag) (mg : Str → Option Value) : Prop where
  ex : ∃ g fd, mg "_law_heard" = some (.ref g) ∧ Fun K "_law_heard" "_law_heard" sLawHeard g fd ∧ L2.Binds K fd ["ask"] []
/-- what nth_row(machine, i-th name, j-th name) does in a lambda -/
def tNth (K : PySem.W.Frag) (CM CF : Addr) (t : TA) (E : XK) : TE := tCall (spNthRow K CM CF) [] E t
theorem ok_numbers {f c Pt : Addr} {fd : FuncData} {Tb : List (Addr × Str)} (F : Fun K "_law_numbers_right" "_law_numbers_right" sLawNumbers f fd) (hcode : fd.code = .ref c) (TB : LamX.TabB base mg c Pt) (hmT : ∀ X : Cx, X.env.qual = ("_law_numbers_right" : Str) ++ ".<locals>." → (Pt, lamQ X) ∈ Tb) (hu : ∀ X : Cx, X.env.qual = ("_law_numbers_right" : Str) ++ ".<locals>." → ∀ p ∈ Tb, p.1 = Pt → p.2 = lamQ X)
    (B : Bare mg) (ear : EarDef K mg) {CP : Addr} (ea : ∃ CP, Ears K mg CR CF CP)
    (GT : Has P w K mg base L2.CX0 1 "_law_take" ["box", "many"] spLawTake) (GK : Has P w K mg base L2.CX0 2 "_law_pick" ["box", "some"] (spLawPick K))
    (GN : Has P w K mg base (L2.CX P w) 4 "nth_row" ["machine", "many", "number"] (spNthRow K CM CF)) (GNr : HasR P w K mg base (L2.CX P w) 4 "nth_row" ["machine", "many", "number"] ["number", "many", "machine"] (spNthRow K CM CF))
    (GP : Has P w K mg base (L2.CX P w) 5 "row_place" ["machine", "row"] (spRowPlace K CM CR)) (GPr : HasR P w K mg base (L2.CX P w) 5 "row_place" ["machine", "row"] ["row", "machine"] (spRowPlace K CM CR)) :
    FnOkG P w K mg base L2.CX0 8 f fd ["box", "machine", "deeds"] (spNumbers K CM Tb) := by
  obtain ⟨CP, ea⟩ := ea
  obtain ⟨ge, fde, mge, Fe, be⟩ := ear.ex
  refine okT F hcode scNumbers (fun vs H Q E h => ?_) (fun A outer s H vs Q E hr hgd h => ?_)
  · obtain ⟨b, m, T, rfl, _⟩ := h
    rfl
  · obtain ⟨b, m, T, rfl, hb, hm, t1, t4, hT, q⟩ := h
    have hu3 : (A.deeper (envOfC "_law_numbers_right" (defScope sLawNumbers) s.heap.objs.size f (.ref c))).units + 300 < cLine := by have := hr.un; omega
    have hu2 : (A.deeper (envOfC "_law_numbers_right" (defScope sLawNumbers) s.heap.objs.size f (.ref c))).units + 200 < cLine := by omega
    have nd : nNumbers.Nodup := scNumbers.nd
    refine ⟨_, pss_cons (ps_asg (pe_tup (pa_cons (pe_has GT (hr.mono (by decide)) (by rfl) (pa_cons (pv 0) (pa_cons pe_int pa_nil))) (pa_cons (pe_lst (pa_cons (pe_tup pa_nil) pa_nil)) pa_nil))) (pg_tup (by rfl) (pgs_cons (pg_name (i := 3) nd rfl (Or.inr rfl)) (pgs_cons (pg_name (i := 4) nd rfl (Or.inl rfl)) pgs_nil))))
      (pss_cons (ps_for PassesOwn.never rfl (pi_range1 (by rfl) B.range (pa_cons (pv 3) pa_nil)) (pg_name (i := 5) nd rfl (Or.inl rfl))
        (pss_cons (ps_set (i := 6) nd rfl (Or.inl rfl) (pe_lst pa_nil))
        (pss_cons (ps_for PassesOwn.never rfl (pi_list (pv 4)) (pg_name (i := 7) nd rfl (Or.inr rfl))
          (pss_one (ps_set (i := 6) nd rfl (Or.inl rfl) (pe_op op_cat (pv 6) (pe_lc (own := [("deed", 8)]) (g := gName 8) (tt := tYes) rfl nd (pi_range1 (by rfl) B.range (pa_cons (pv 2) pa_nil)) (blkOk_by (N := nNumbers) (sc := defScope sLawNumbers) (by decide +kernel))
            (fun _ _ _ _ _ => pg_name (i := 8) nd rfl (Or.inl rfl)) (fun _ _ _ _ _ => pts_nil)
            (fun _ _ _ _ _ => pe_op (r := rCatA K) op_catA (pv 7) (pe_tup (pa_cons (pv 8) pa_nil))))))))
        (pss_one (ps_set (i := 4) nd rfl (Or.inl rfl) (pv 6))))))
      (pss_cons (ps_set (i := 9) nd rfl (Or.inl rfl) (pe_has GT (hr.mono (by decide)) (by rfl) (pa_cons (pv 0) (pa_cons (pe_callB lenS (by rfl) B.len PySem.boot_len (pa_cons (pv 4) pa_nil)) pa_nil))))
      (pss_cons (ps_if (pt_cmpR op_ne (pe_callB (call_reprS hu2 hgd) (by rfl) B.repr (by decide +kernel) (pa_cons (pe_lc (own := [("at", 10)]) (g := gName 10) (tt := tYes) rfl nd (pi_range1 (by rfl) B.range (pa_cons (pe_callB lenS (by rfl) B.len PySem.boot_len (pa_cons (pv 4) pa_nil)) pa_nil))
            (blkOk_by (N := nNumbers) (sc := defScope sLawNumbers) (by decide +kernel)) (fun _ _ _ _ _ => pg_name (i := 10) nd rfl (Or.inl rfl)) (fun _ _ _ _ _ => pts_nil)
            (fun _ _ _ _ _ => pe_hasN GN (hr.mono (by decide)) (by rfl) (pa_cons (pv 1) (pa_cons (pv 3) (pa_cons (pv 10) pa_nil))))) pa_nil))
          (pe_callB (call_reprS hu2 hgd) (by rfl) B.repr (by decide +kernel) (pa_cons (pv 4) pa_nil)) (nomark _)) (pss_one (ps_ret pe_bl)) pss_nil)
      (pss_cons (ps_if (pt_cmpR (op_neD hr.units) (pe_hasR GNr (hr.mono (by decide)) (by rfl) (pk_cons (pv 9) (pk_cons (pv 3) (pk_cons (pv 1) pk_nil)))) (pe_ix ix_list (pv 4) (pv 9) (fun _ _ => rfl)) (nomark _)) (pss_one (ps_ret pe_bl)) pss_nil)
      (pss_cons (ps_if (pt_cmpR op_ne (pe_callB (call_reprS hu2 hgd) (by rfl) B.repr (by decide +kernel) (pa_cons (pe_lc (own := [("row", 7)]) (g := gName 7) (tt := tYes) rfl nd (pi_list (pv 4))
            (blkOk_by (N := nNumbers) (sc := defScope sLawNumbers) (by decide +kernel)) (fun _ _ _ _ _ => pg_name (i := 7) nd rfl (Or.inl rfl)) (fun _ _ _ _ _ => pts_nil)
            (fun _ _ _ _ _ => pe_hasN GP (hr.mono (by decide)) (by rfl) (pa_cons (pv 1) (pa_cons (pv 7) pa_nil)))) pa_nil))
          (pe_callB (call_reprS hu2 hgd) (by rfl) B.repr (by decide +kernel) (pa_cons (pe_listRg rfl (by rfl) B.list (prg_1 (by rfl) B.range (pe_callB lenS (by rfl) B.len PySem.boot_len (pa_cons (pv 4) pa_nil)))) pa_nil)) (nomark _)) (pss_one (ps_ret pe_bl)) pss_nil)
      (pss_cons (ps_if (pt_cmpR op_ne (pe_hasR GPr (hr.mono (by decide)) (by rfl) (pk_cons (pe_callTy call_list_of (by rfl) B.list boot_list (pa_cons (pe_ix ix_list (pv 4) (pv 9) (fun _ _ => rfl)) pa_nil)) (pk_cons (pv 1) pk_nil))) (pv 9) (nomark _)) (pss_one (ps_ret pe_bl)) pss_nil)
      (pss_cons (ps_set (i := 11) nd rfl (Or.inr rfl) (pe_has GK (hr.mono (by decide)) (by rfl) (pa_cons (pv 0) (pa_cons (pe_lst (pa_cons (pe_callB lenS (by rfl) B.len PySem.boot_len (pa_cons (pv 4) pa_nil)) (pa_cons (pe_op op_sub pe_int pe_int) (pa_cons pe_non (pa_cons pe_bl (pa_cons pe_str pa_nil)))))) pa_nil))))
      (pss_cons (ps_if (pt_cmpR (op_neD hr.units) (pe_lamG (TT := heardT K CR CF) (k := 4) (t := tNth K CM CF (tCons (tVar 1) (tCons (tVar 3) (tCons (tVar 11) tNil)))) (by rfl) mge Fe be scHeard rfl (Or.inl rfl) (fun _ => heard_gives B ea hu3 hgd) TB rfl (hmT _ (by rfl)) (hu _ (by rfl)) (hr.mono (by decide)) (lamN_by (sc := defScope sLawNumbers) (by decide +kernel)) (by rfl) (fun _ _ _ _ _ => rfl)
            (BodyOk.of fun A2 outer2 s2 H2 E2 f2 c2 hr2 => pe_hasX (E := E2) GN hr2 (takes_of rfl rfl rfl rfl) (fun _ _ _ _ z => z) (by rfl) (pa_cons (pv 1) (pa_cons (pv 3) (pa_cons (pv 11) pa_nil)))))
          (pe_tup (pa_cons pe_str (pa_cons (pe_callB (call_reprS hu2 hgd) (by rfl) B.repr (by decide +kernel) (pa_cons (pv 11) pa_nil)) (pa_cons pe_bl pa_nil)))) (nomark _)) (pss_one (ps_ret pe_bl)) pss_nil)
      (pss_cons (ps_set (i := 11) nd rfl (Or.inr rfl) (pe_has GK (hr.mono (by decide)) (by rfl) (pa_cons (pv 0) (pa_cons (pe_lst (pa_cons pe_int (pa_cons (pe_op op_sub pe_int pe_int) (pa_cons pe_non (pa_cons pe_bl (pa_cons pe_str pa_nil)))))) pa_nil))))
      (pss_cons (ps_if (pt_cmpR (op_neD hr.units) (pe_lamG (TT := heardT K CR CF) (k := 4) (t := tNth K CM CF (tCons (tVar 1) (tCons (tVar 11) (tCons (tC .non) tNil)))) (by rfl) mge Fe be scHeard rfl (Or.inl rfl) (fun _ => heard_gives B ea hu3 hgd) TB rfl (hmT _ (by rfl)) (hu _ (by rfl)) (hr.mono (by decide)) (lamN_by (sc := defScope sLawNumbers) (by decide +kernel)) (by rfl) (fun _ _ _ _ _ => rfl)
            (BodyOk.of fun A2 outer2 s2 H2 E2 f2 c2 hr2 => pe_hasX (E := E2) GN hr2 (takes_of rfl rfl rfl rfl) (fun _ _ _ _ z => z) (by rfl) (pa_cons (pv 1) (pa_cons (pv 11) (pa_cons pe_non pa_nil)))))
          (pe_tup (pa_cons pe_str (pa_cons (pe_callB (call_reprS hu2 hgd) (by rfl) B.repr (by decide +kernel) (pa_cons (pv 11) pa_nil)) (pa_cons pe_bl pa_nil)))) (nomark _)) (pss_one (ps_ret pe_bl)) pss_nil)
      (pss_one (ps_ret (pe_cmpR op_eq (pe_callB lenS (by rfl) B.len PySem.boot_len (pa_cons (pe_hasN GN (hr.mono (by decide)) (by rfl) (pa_cons (pv 1) (pa_cons pe_int (pa_cons pe_int pa_nil)))) pa_nil)) pe_int (nomark _)))))))))))))), ?_⟩
    have l0 : Lv b Tb H H := ⟨Ext.refl H, hb, hT⟩
    refine ⟨.ref b, rfl, b, 5, rfl, hb, by decide, by decide, fun H1 r hr1 sb1 hb1 => ?_⟩
    have l1 := l0.draw sb1 hb1
    refine ⟨Nat.zero_le _, fun pe ne => ⟨by show 1 ≤ sizeLine; decide, fun l nl => ⟨by show 2 ≤ sizeLine; decide, fun pt nt => ?_⟩⟩⟩
    have l2 := ((l1.new (o := .tup []) ne).new (o := .lst [.ref pe]) nl).new (o := .tup [.int (r : Nat), .ref l]) nt
    have nlb : l ≠ b := (l1.new (o := .tup []) ne).box.ne nl
    have rw0 : RowsAt K (upd (upd (upd H1 pe (.tup [])) l (.lst [.ref pe])) pt (.tup [.int (r : Nat), .ref l])) l (rowsOf T.length 0 (T.length ^ 0)) := by
      refine RowsAt.same (H := upd (upd H1 pe (.tup [])) l (.lst [.ref pe])) ⟨[pe], upd_same, .cons (.inl (.inl ?_)) .nil⟩ (same_new nt)
      exact same_new nl _ _ upd_same
    refine ⟨pt, _, rfl, .inl (.inl upd_same), rfl, _, _, rfl, _, _, rfl, rfl, ?_⟩
    generalize upd (upd (upd H1 pe (.tup [])) l (.lst [.ref pe])) pt (.tup [.int (r : Nat), .ref l]) = H2 at l2 rw0 ⊢
    have r4 : r ≤ 4 := by omega
    refine ⟨_, rfl, (r : Int), rfl, by omega, by omega, ?_⟩
    refine for_range (lo := 0) (n := r) (fun i σ H' => Same H2 H' ∧ ∃ l y5 y6 y7, l ≠ b ∧ RowsAt K H' l (rowsOf T.length i (T.length ^ i)) ∧ σ = [some (.ref b), some (.ref m), some (.int (T.length : Nat)), some (.int (r : Nat)), some (.ref l), y5, y6, y7, none, none, none, none]) ⟨Same.refl _, l, none, none, none, nlb, rw0, rfl⟩ ?_ ?_
    · rintro i σ H3 hi ⟨s3, l, y5, y6, y7, nlb, rw3, rfl⟩
      refine ⟨Nat.zero_le _, fun lg nlg => ?_⟩
      have s34 : Same H3 (upd H3 lg (.lst [])) := same_new nlg
      have b3 := l2.box.same s3
      have nlgb : lg ≠ b := b3.ne nlg
      have rwl := rw3.same s34
      have rwg : RowsAt K (upd H3 lg (.lst [])) lg (rowsOf T.length (i + 1) (0 * T.length)) := by
        rw [Nat.zero_mul]
        exact rows_nil
      generalize upd H3 lg (.lst []) = H4 at s34 rwl rwg ⊢
      have s4 := s3.trans s34
      obtain ⟨bs, hl, hbs⟩ := rwl
      have lbs := paired_len hbs
      rw [rowsOf_len] at lbs
      have M3 : T.length ^ i ≤ 256 := pow_most t4 (by omega)
      refine ⟨.ref l, rfl, l, rfl, ⟨_, .inl (.inl hl)⟩, for_it walk_list (fun j σ H' => Same H4 H' ∧ ∃ lg y7, lg ≠ b ∧ RowsAt K H' lg (rowsOf T.length (i + 1) (j * T.length)) ∧ σ = [some (.ref b), some (.ref m), some (.int (T.length : Nat)), some (.int (r : Nat)), some (.ref l), some (.int (0 + (i : Int))), some (.ref lg), y7, none, none, none, none]) ⟨Same.refl _, lg, y7, nlgb, rwg, rfl⟩ (fun j σ H' _ hq => .inl (.inl (hq.1 _ _ hl))) ?_ ?_⟩
      · rintro j x σ Ho H5 hj ⟨s5, lg, y7, nlgb, rwg, rfl⟩ ⟨rfl, ex⟩
        rw [List.length_map, lbs] at hj
        obtain ⟨a, rfl, ea, ha⟩ : ∃ a, x = V.ref a ∧ bs[j]? = some a ∧ SqT K H5 a ((digits T.length i j).map V.int) := by
          rw [List.getElem?_map] at ex
          cases ei : bs[j]? with
          | none =>
            rw [ei] at ex
            cases ex
          | some a =>
            rw [ei] at ex
            cases ex
            obtain ⟨rr, g1, g2⟩ := Pg.paired_get hbs ei
            rw [rowsOf_get hj] at g1
            cases g1
            exact ⟨a, rfl, rfl, sameT s5 g2⟩
        refine ⟨.ref lg, rfl, .int (T.length : Nat), rfl, (T.length : Int), rfl, by omega, by omega, fun D nD => ?_⟩
        rw [show ((T.length : Int)).toNat = T.length from rfl]
        refine lc_it walk_range (fun k H' => Same H5 H' ∧ RowsAt K H' D ((List.range k).map (fun d => digits T.length i j ++ [((d : Nat) : Int)]))) ⟨same_new nD, rows_nil⟩ (fun k H3 _ _ => trivial) ?_ ?_
        · rintro k x H6 H6' hk ⟨s6, rwk⟩ ⟨rfl, rfl⟩
          refine ⟨rfl, yes_in ?_⟩
          have ha6 := sameT s6 ha
          refine ⟨.ref a, rfl, _, rfl, by show 1 ≤ sizeLine; decide, fun p np => ?_⟩
          have s7 := same_new (o := .tup [V.int (0 + (k : Int))]) np
          have wk : ((List.range k).map (fun d => digits T.length i j ++ [((d : Nat) : Int)])).length < 1000000 := by
            rw [List.length_map, List.length_range]
            omega
          have ek : (List.range (k + 1)).map (fun d => digits T.length i j ++ [((d : Nat) : Int)]) = (List.range k).map (fun d => digits T.length i j ++ [((d : Nat) : Int)]) ++ [digits T.length i j ++ [((k : Nat) : Int)]] := by
            rw [List.range_succ, List.map_append]
            rfl
          refine ⟨a, p, _, [V.int (0 + (k : Int))], rfl, rfl, sameT s7 ha6, .inl (.inl upd_same), ?_, fun e => ?_, fun _ e => (by cases e), fun _ _ p2 np2 => ?_⟩
          · rw [List.length_map, digits_len, List.length_singleton, sizeLine_eq]
            omega
          · have ed : digits T.length i j = [] := List.map_eq_nil_iff.mp e
            rw [ek]
            refine rows_put nD s6 rwk s7 (.inl (.inl ?_)) wk
            rw [upd_same, ed]
            show some (HO.tup [V.int (0 + (k : Int))]) = some (HO.tup [V.int (k : Int)])
            rw [Int.zero_add]
          · rw [ek]
            refine rows_put nD s6 rwk (s7.trans (same_new np2)) (.inl (.inl ?_)) wk
            rw [upd_same, List.map_append]
            show some (HO.tup ((digits T.length i j).map V.int ++ [V.int (0 + (k : Int))])) = some (HO.tup ((digits T.length i j).map V.int ++ [V.int (k : Int)]))
            rw [Int.zero_add]
        · rintro H6 ⟨s6, rwk⟩
          obtain ⟨xs, g1, g2⟩ := rwg.same s6
          obtain ⟨zs, g3, g4⟩ := rwk
          have e1 := paired_len g2
          have e2 := paired_len g4
          rw [rowsOf_len] at e1
          rw [List.length_map, List.length_range] at e2
          have jn : j * T.length ≤ 256 * 4 := Nat.mul_le_mul (by omega) t4
          refine ⟨lg, D, _, _, rfl, rfl, g1, g3, ?_, fun p np => ?_⟩
          · rw [List.length_map, List.length_map, e1, e2, sizeLine_eq]
            omega
          · have s7 := same_new (o := .lst (xs.map V.ref ++ zs.map V.ref)) np
            have b6 := ((l2.box.same s4).same s5).same s6
            refine ⟨(s5.trans s6).trans s7, p, _, b6.ne np, ⟨xs ++ zs, by rw [upd_same, List.map_append], ?_⟩, rfl⟩
            rw [rowsOf_more]
            exact paired_imp (paired_app g2 g4) fun a r z => sameT s7 z
      · rintro σ H5 ⟨s5, lg, y7, nlgb, rwg, rfl⟩
        refine ⟨_, rfl, s4.trans s5, lg, _, _, _, nlgb, ?_, rfl⟩
        rw [List.length_map, lbs, ← Nat.pow_succ] at rwg
        exact rwg
    · rintro σ H3 ⟨s3, l, y5, y6, y7, nlb, rw3, rfl⟩
      have l3 := l2.same s3
      have Mm : T.length ^ r ≤ 256 := pow_most t4 r4
      have M1 : 1 ≤ T.length ^ r := Nat.one_le_pow _ _ t1
      have lenR : ∀ {H' : Hp}, RowsAt K H' l (rowsOf T.length r (T.length ^ r)) → ∃ bs : List Addr, H' l = some (.lst (bs.map V.ref)) ∧ (bs.map V.ref).length = T.length ^ r ∧ Paired (fun (a : Addr) (q : List Int) => SqT K H' a (q.map V.int)) bs (rowsOf T.length r (T.length ^ r)) := fun ⟨bs, h1, h2⟩ => by
        have e := paired_len h2
        rw [rowsOf_len] at e
        exact ⟨bs, h1, by rw [List.length_map, e], h2⟩
      have goodR : ∀ (x : Nat), Deeds T.length (digits T.length r x) := fun x => digits_ok t1
      -- the number
      obtain ⟨bs, hl, lbs, hbs⟩ := lenR rw3
      refine ⟨.ref b, rfl, .ref l, rfl, l, _, rfl, .inl (.inl (.inl hl)), b, (bs.map V.ref).length, rfl, l3.box, by omega, by omega, fun H4 x hx sb4 hb4 => ?_⟩
      rw [lbs] at hx
      have l4 := l3.draw sb4 hb4
      have rw4 := rw3.ext (sb_ext sb4) l3.box nlb
      clear hl hbs lbs
      obtain ⟨bs, hl, lbs, hbs⟩ := lenR rw4
      -- all rows by their numbers
      refine ⟨.ref l, rfl, l, _, rfl, .inl (.inl (.inl hl)), ((bs.map V.ref).length : Nat), rfl, by omega, by omega, fun D nD => ?_⟩
      rw [show (((bs.map V.ref).length : Nat) : Int).toNat = T.length ^ r from lbs]
      refine lc_it walk_range (fun k H' => Same H4 H' ∧ RowsAt K H' D (rowsOf T.length r k)) ⟨same_new nD, rows_nil⟩ (fun k H3 _ _ => trivial) ?_ ?_
      · rintro k y H5 H5' hk ⟨s5, rwk⟩ ⟨rfl, rfl⟩
        refine ⟨rfl, yes_in ?_⟩
        refine ⟨.ref m, rfl, .int (r : Nat), rfl, .int (0 + (k : Int)), rfl, m, .int (r : Nat), .int (0 + (k : Int)), T, rfl, hm.ext (l4.same s5).ext hb, t1, t4, .int _, .inr ⟨r, rfl, by omega, .int _, .inr ⟨k, by rw [Int.zero_add], hk, fun H7 a s7 ha => ?_⟩⟩⟩
        have ek : rowsOf T.length r (k + 1) = rowsOf T.length r k ++ [digits T.length r k] := by
          unfold rowsOf
          rw [List.range_succ, List.map_append]
          rfl
        rw [ek]
        exact rows_put nD s5 rwk s7 ha (by rw [rowsOf_len]; omega)
      · rintro H5 ⟨s5, rwD⟩
        have l5 := l4.same s5
        have rp := rows_rep (k := r) (m := T.length ^ r) t1 t4 r4 Mm
        refine ⟨_, _, rfl, rwD.dp, rp, _, rfl, _, _, rfl, (rw4.same s5).dp, rp, rfl, _, rfl, neSelf ?_⟩
        have rw5 := rw4.same s5
        have hl5 := s5 _ _ hl
        have atx : ∃ a, (bs.map V.ref)[x]? = some (V.ref a) ∧ SqT K H5 a ((digits T.length r x).map V.int) := by
          have lb : bs.length = T.length ^ r := by rw [← lbs, List.length_map]
          obtain ⟨rr, g1, g2⟩ := Pg.paired_get hbs (List.getElem?_eq_getElem (show x < bs.length by omega))
          rw [rowsOf_get hx] at g1
          cases g1
          exact ⟨_, by rw [List.getElem?_map, List.getElem?_eq_getElem (show x < bs.length by omega)]; rfl, sameT s5 g2⟩
        obtain ⟨a, atx, ha⟩ := atx
        -- one row by its number, by names
        refine ⟨.int (x : Nat), rfl, .int (r : Nat), rfl, .ref m, rfl, m, .int (r : Nat), .int (x : Nat), T, rfl, hm.ext l5.ext hb, t1, t4, .int _, .inr ⟨r, rfl, by omega, .int _, .inr ⟨x, rfl, hx, fun H7 a2 s7 ha2 => ?_⟩⟩⟩
        refine ⟨.ref l, rfl, .int (x : Nat), rfl, l, _, (x : Int), _, rfl, rfl, .inl (.inl (s7 _ _ hl5)), atI_nat atx, ?_⟩
        refine ⟨_, _, dp_tuple_ints ha2, dp_tuple_ints (sameT s7 ha), shaped_tuple_ints _, shaped_tuple_ints _, _, rfl, ?_⟩
        rw [eqv_tuple_ints, decide_eq_true rfl]
        refine iteF ?_
        have l7 := l5.same s7
        have hl7 := s7 _ _ hl5
        have hbs7 : Paired (fun (a : Addr) (q : List Int) => SqT K H7 a (q.map V.int)) bs (rowsOf T.length r (T.length ^ r)) := paired_imp hbs fun a q z => sameT s7 (sameT s5 z)
        have ha7 := sameT s7 ha
        have lbs2 : bs.length = T.length ^ r := by rw [← lbs, List.length_map]
        clear rw0 rw3 rw4 rw5 rwD
        -- the places of all rows
        refine ⟨.ref l, rfl, l, rfl, ⟨_, .inl (.inl hl7)⟩, fun D2 nD2 => ?_⟩
        refine lc_it walk_list (PvF (fun _ => true) (fun k => .int (k : Int)) H7 D2) (pvf0 nD2) (fun k H3 _ hp => .inl (.inl (hp.1 _ _ hl7))) ?_ ?_
        · rintro k y Ho H8 hk hp ⟨rfl, ey⟩
          rw [lbs] at hk
          obtain ⟨a3, rfl, ha3⟩ : ∃ a, y = V.ref a ∧ SqT K H7 a ((digits T.length r k).map V.int) := by
            rw [List.getElem?_map] at ey
            cases ei : bs[k]? with
            | none =>
              rw [ei] at ey
              cases ey
            | some a =>
              rw [ei] at ey
              cases ey
              obtain ⟨rr, g1, g2⟩ := Pg.paired_get hbs7 ei
              rw [rowsOf_get hk] at g1
              cases g1
              exact ⟨a, rfl, g2⟩
          refine ⟨rfl, yes_in ?_⟩
          refine ⟨.ref m, rfl, .ref a3, rfl, m, .ref a3, T, rfl, hm.ext (l7.same hp.1).ext hb, t4, .inr ⟨digits T.length r k, ⟨.tup (sameT hp.1 ha3), by rw [digits_len]; omega, goodR k⟩, fun H9 s9 => ?_⟩⟩
          refine pvf_put nD2 hp s9 rfl ?_ (by omega)
          rw [place_digits t1 r k hk]
        · intro H8 hp
          have l8 := l7.same hp.1
          have hD2 : H8 D2 = some (.lst (((List.range (T.length ^ r)).map fun (i : Nat) => (i : Int)).map V.int)) := by
            rw [hp.2, lbs, List.filter_eq_self.mpr fun _ _ => rfl, List.map_map]
            rfl
          have hl8 := hp.1 _ _ hl7
          have rp2 := ints_rep Mm
          refine ⟨_, _, rfl, dp_list_ints (.inl (.inl hD2)), rp2, .ref l, rfl, l, _, rfl, .inl (.inl (.inl hl8)), ((bs.map V.ref).length : Nat), rfl, RgOk.of_le (by omega) (by omega) (by omega) (by omega), fun D3 nD3 => ?_⟩
          have s9 := same_new (o := .lst (rgV 0 ((bs.map V.ref).length : Nat))) nD3
          have er : rgV 0 ((bs.map V.ref).length : Nat) = ((List.range (T.length ^ r)).map fun (i : Nat) => (i : Int)).map V.int := by
            unfold rgV
            rw [lbs, List.map_map, Int.sub_zero, Int.toNat_natCast]
            apply List.map_congr_left
            intro i _
            show V.int (0 + (i : Int)) = V.int (i : Int)
            rw [Int.zero_add]
          refine ⟨_, _, rfl, dp_list_ints (.inl (.inl ?_)), rp2, rfl, _, rfl, neSelf ?_⟩
          · rw [upd_same, er]
          have l9 := l8.same s9
          have hl9 := s9 _ _ hl8
          have ha9 := sameT s9 (sameT hp.1 ha7)
          generalize upd H8 D3 (.lst (rgV 0 ((bs.map V.ref).length : Nat))) = H9 at l9 hl9 ha9 ⊢
          -- the place of one, by names, as a list
          refine ⟨.ref l, rfl, .int (x : Nat), rfl, l, _, (x : Int), _, rfl, rfl, .inl (.inl hl9), atI_nat atx, a, _, rfl, .inr ha9, fun l2 nl2 => ?_⟩
          refine ⟨.ref m, rfl, m, .ref l2, T, rfl, hm.ext (l9.new nl2).ext hb, t4, .inr ⟨digits T.length r x, ⟨.lst (.inl (.inl upd_same)), by rw [digits_len]; omega, goodR x⟩, fun H10 s10 => ?_⟩⟩
          rw [place_digits t1 r x hx]
          refine ⟨.int (x : Nat), rfl, rfl, _, rfl, neSelf ?_⟩
          have l10 := (l9.new (o := .lst ((digits T.length r x).map V.int)) nl2).same s10
          have hl10 := s10 _ _ (same_new (o := .lst ((digits T.length r x).map V.int)) nl2 _ _ hl9)
          -- a wrong number
          refine ⟨.ref b, rfl, .ref l, rfl, l, _, rfl, .inl (.inl (.inl hl10)), _, _, rfl, rfl, by show 5 ≤ sizeLine; decide, fun pl npl => ?_⟩
          refine ⟨b, pl, _, rfl, (l10.new npl).box, fun e => l10.box.ne npl e.symm, .inl (.inl upd_same), by show 1 ≤ 5; decide, by show 5 < 1000; decide, fun H11 v hv sb11 hb11 => ?_⟩
          have l11 := (l10.new (o := .lst [V.int ((bs.map V.ref).length : Nat), V.int (0 - 1), V.non, V.bl true, V.str "0"]) npl).draw sb11 hb11
          rw [lbs] at hv
          obtain ⟨sv, nv, dv, rv, cv, pv⟩ := bad_pick (hi := (((T.length ^ r : Nat) : Int) - 1)) rep0 (by decide +kernel) (by omega) (by omega) hv
          refine ⟨l11.tabs, fun H12 e12 t12 => ?_⟩
          have l12 := l11.lam e12 t12
          refine ⟨.ref m, rfl, .int (r : Nat), rfl, v, rfl, m, .int (r : Nat), v, T, rfl, hm.ext l12.ext hb, t1, t4, .int _, .inr ⟨r, rfl, by omega, sv, .inl ⟨nv, fun d H13 s13 nd13 hd13 => ?_⟩⟩⟩
          refine .inr ⟨rfl, d, v, dv, rfl, hd13, pv _, rv, fun p14 H14 s14 np14 hp14 => ?_⟩
          have l14 := (l12.same s13).same s14
          refine ⟨v, rfl, v, dv, rfl, pv _, rv, by show 3 ≤ sizeLine; decide, fun p15 np15 => ?_⟩
          have l15 := l14.new (o := .tup [V.str "refused", V.str dv.shown, V.bl true]) np15
          refine ⟨_, _, dp_told (same_new np15 _ _ hp14), dp_told upd_same, shaped_told (by decide +kernel) cv, shaped_told (by decide +kernel) cv, _, rfl, ?_⟩
          rw [eqv_told]
          refine iteF ?_
          -- wrong lengths
          refine ⟨.ref b, rfl, _, _, rfl, rfl, by show 5 ≤ sizeLine; decide, fun pl2 npl2 => ?_⟩
          refine ⟨b, pl2, _, rfl, (l15.new npl2).box, fun e => l15.box.ne npl2 e.symm, .inl (.inl upd_same), by show 1 ≤ 5; decide, by show 5 < 1000; decide, fun H16 v2 hv2 sb16 hb16 => ?_⟩
          have l16 := (l15.new npl2).draw sb16 hb16
          obtain ⟨sv2, nv2, dv2, rv2, cv2, pv2⟩ := bad_pick (M := 401) (hi := 400) rep0 (by decide +kernel) (by omega) (by omega) hv2
          refine ⟨l16.tabs, fun H17 e17 t17 => ?_⟩
          have l17 := l16.lam e17 t17
          refine ⟨.ref m, rfl, v2, rfl, m, v2, .non, T, rfl, hm.ext l17.ext hb, t1, t4, sv2, .inl ⟨nv2, fun d2 H18 s18 nd18 hd18 => ?_⟩⟩
          refine .inr ⟨rfl, d2, v2, dv2, rfl, hd18, pv2 _, rv2, fun p19 H19 s19 np19 hp19 => ?_⟩
          have l19 := (l17.same s18).same s19
          refine ⟨v2, rfl, v2, dv2, rfl, pv2 _, rv2, by show 3 ≤ sizeLine; decide, fun p20 np20 => ?_⟩
          have l20 := l19.new (o := .tup [V.str "refused", V.str dv2.shown, V.bl true]) np20
          refine ⟨_, _, dp_told (same_new np20 _ _ hp19), dp_told upd_same, shaped_told (by decide +kernel) cv2, shaped_told (by decide +kernel) cv2, _, rfl, ?_⟩
          rw [eqv_told]
          refine iteF ?_
          -- the longest row
          refine ⟨.ref m, rfl, m, .int 400, .int 0, T, rfl, hm.ext l20.ext hb, t1, t4, .int _, .inr ⟨400, rfl, by decide, .int _, .inr ⟨0, rfl, Nat.pow_pos t1, fun H21 a21 s21 ha21 => ?_⟩⟩⟩
          refine ⟨a21, _, rfl, .inr ha21, ?_⟩
          have l21 := l20.same s21
          refine ⟨rfl, ?_⟩
          rw [List.length_map, digits_len, decide_eq_true (show V.int ((400 : Nat) : Int) = V.int 400 from rfl)]
          exact q _ l21.ext l21.box l21.tabs
end
end Lw

set_option Elab.async false
set_option linter.all false
set_option maxRecDepth 100000
set_option maxHeartbeats 4000000
/-! what law needs besides: a machine of one table, a bent row, the told pair -/
namespace Lw
open PySem PySem.Spec PyProof.Rows L2 Lx Pg
theorem flat_one {α : Type} (n : Nat) (a : α) : (List.replicate n [a]).flatten = List.replicate n a := by
  induction n with
  | zero => rfl
  | succ n ih => rw [List.replicate_succ, List.flatten_cons, ih, List.replicate_succ]; rfl
theorem paired_rep {α β : Type} {F : α → β → Prop} {a : α} {b : β} (h : F a b) : ∀ n : Nat, Paired F (List.replicate n a) (List.replicate n b)
  | 0 => .nil
  | n + 1 => .cons h (paired_rep h n)
theorem tabs_rep {n m : Nat} (h1 : 1 ≤ n) (h4 : n ≤ 4) (m1 : 1 ≤ m) (m8 : m ≤ 8) : Pg.Tabs (List.replicate n (List.replicate m 0)) := by
  refine ⟨by rw [List.length_replicate]; exact h1, by rw [List.length_replicate]; exact h4, m, m1, m8, fun row hr => ?_⟩
  obtain rfl := (List.mem_replicate.mp hr).2
  refine ⟨List.length_replicate, fun z hz => ?_⟩
  obtain rfl := (List.mem_replicate.mp hz).2
  omega
theorem tabV_rep {K : PySem.W.Frag} {H : Hp} {lt li : Addr} {n m : Nat} (h : H lt = some (.lst (List.replicate n (V.ref li)))) (hr : H li = some (.lst ((List.replicate m (0 : Int)).map V.int))) : TabV K H (.ref lt) (List.replicate n (List.replicate m 0)) :=
  ⟨List.replicate n li, by rw [List.map_replicate]; exact .lst (.inl (.inl h)), paired_rep (.lst (.inl (.inl hr))) n⟩
/-- a row that is wrong at i -/
theorem bent_bad {K : PySem.W.Frag} {CR : Addr} {n i : Nat} {ds : List Int} {x : V} {H : Hp} {E : XK} {t : Addr} (hd : Deeds n ds) (hi : i ≤ ds.length) (hl : ds.length ≤ 399) (hx : Sca x) (bad : isD n x = false)
    (ht : H t = some (.lst (((ds.map V.int).take i ++ [x]) ++ (ds.map V.int).drop i))) (e : ErrK E CR (.int (i : Nat)) H) : BadRowV K CR n (.ref t) H E := by
  have lt : ((ds.map V.int).take i).length = i := by rw [List.length_take, List.length_map]; omega
  refine .inr ⟨_, .lst (.inl (.inl ht)), ?_, fun y hy => ?_, i, x, ?_, bad, fun j y hj ey => ?_, e⟩
  · simp
    omega
  · rcases List.mem_append.mp hy with h | h
    · rcases List.mem_append.mp h with h | h
      · obtain ⟨z, _, rfl⟩ := List.mem_map.mp (List.mem_of_mem_take h)
        exact .int z
      · obtain rfl : y = x := by simpa using h
        exact hx.vk
    · obtain ⟨z, _, rfl⟩ := List.mem_map.mp (List.mem_of_mem_drop h)
      exact .int z
  · rw [List.append_assoc, List.getElem?_append_right (by omega), lt, Nat.sub_self]
    rfl
  · rw [List.append_assoc, List.getElem?_append_left (by omega), List.getElem?_take_of_lt hj, List.getElem?_map] at ey
    cases ed : ds[j]? with
    | none =>
      rw [ed] at ey
      cases ey
    | some d =>
      rw [ed] at ey
      cases ey
      exact isD_int.mpr (hd d (List.mem_of_getElem? ed))
theorem shaped_row (i : Int) : SeqAt.shaped (.tuple [.str "row", .int i, .bool true]) = true := by
  show ((PyData.str "row").canLay0 && (true && (true && true)) && true) = true
  rw [show (PyData.str "row").canLay0 = true by decide +kernel]
  rfl
theorem eqv_row (i : Int) : PyData.eqv (.tuple [.str "row", .int i, .bool true]) (.tuple [.str "row", .int i, .bool true]) = true := by
  simp [PyData.eqv, PyData.eqvAll]
theorem dp_row {K : PySem.W.Frag} {H : Hp} {p : Addr} {i : Int} (h : H p = some (.tup [.str "row", .int i, .bl true])) : Dp K H (.ref p) (.tuple [.str "row", .int i, .bool true]) :=
  .tup (.inl (.inl h)) (.cons (.str _) (.cons (.int _) (.cons (.bl _) .nil)))
theorem work_ext {X : Cx} {k : Nat} {f b : Addr} {H H' : Hp} {x : Str} {sp : XK → TE} (h : WorkAt X k f H x sp) (e : Ext b H H') (hb : ∃ ys, H b = some (.lst ys)) : WorkAt X k f H' x sp := by
  obtain ⟨ys, z⟩ := hb
  obtain ⟨params, body, sc, cc, h1, h2, h3, h4, h5⟩ := h
  have ne : ∀ {a : Addr} {o : HO}, H a = some o → o ≠ .lst ys → a ≠ b := fun {a o} g1 g2 g3 => by
    rw [g3, z] at g1
    exact g2 (Option.some.inj g1).symm
  exact ⟨params, body, sc, cc, e _ _ h1 (ne h1 fun q => by unfold LamO at q; cases q) (fun ps q => LamO.not_tbl ps q), e _ _ h2 (ne h2 fun q => by unfold LamX.CodeO at q; cases q) (fun ps q => LamX.codeO_nt ps q), h3, h4, h5⟩
theorem box_lst {H : Hp} {b : Addr} (h : BoxAt H b) : ∃ ys, H b = some (.lst ys) := by
  obtain ⟨c0, c1, c2, z, _⟩ := h
  exact ⟨_, z⟩
theorem Lv.start {b : Addr} {Tb : List (Addr × Str)} {H H' : Hp} (l : Lv b Tb H H') : Lv b Tb H' H' := ⟨Ext.refl _, l.box, l.tabs⟩
theorem Lv.trans {b : Addr} {Tb : List (Addr × Str)} {H H1 H2 : Hp} (l : Lv b Tb H H1) (m : Lv b Tb H1 H2) : Lv b Tb H H2 := ⟨l.ext.trans m.ext, m.box, m.tabs⟩
theorem Lv.put {b la : Addr} {Tb : List (Addr × Str)} {H H1 : Hp} {ys : List V} {o : HO} (l : Lv b Tb H H1) (n : H la = none) (h : H1 la = some (.lst ys)) (nb : la ≠ b) : Lv b Tb H (upd H1 la o) := by
  refine ⟨fun a u z n2 t => ?_, ?_, tabs_but h (fun a u z n2 => by rw [upd_ne n2]; exact z) l.tabs⟩
  · rw [upd_ne (ne_of_none z n)]
    exact l.ext _ _ z n2 t
  · obtain ⟨c0, c1, c2, z, h0⟩ := l.box
    exact ⟨c0, c1, c2, by rw [upd_ne nb.symm]; exact z, h0⟩
theorem law_pick {n : Nat} {v : V} (hv : v ∈ [V.int (n : Nat), V.int (0 - 1), V.bl true, V.non]) : Sca v ∧ isD n v = false := by
  simp only [List.mem_cons, List.not_mem_nil, or_false] at hv
  rcases hv with rfl | rfl | rfl | rfl
  · refine ⟨.int _, ?_⟩
    unfold isD
    simp only [numV, Bool.and_eq_false_iff, decide_eq_false_iff_not]
    omega
  · refine ⟨.int _, ?_⟩
    unfold isD
    simp [numV]
  · exact ⟨.bl _, rfl⟩
  · exact ⟨.non, rfl⟩
/-- a wrong step -/
theorem step_pick {K : PySem.W.Frag} {v : V} (hv : v ∈ [V.int 0, V.int 401, V.int (0 - 1), V.non, V.bl true, V.str "1"]) : Sca v ∧ numV v 1 400 = false ∧ ∃ d, RepOk d ∧ Chars d.shown ∧ ∀ H, Dp K H v d := by
  simp only [List.mem_cons, List.not_mem_nil, or_false] at hv
  rcases hv with rfl | rfl | rfl | rfl | rfl | rfl
  · exact ⟨.int _, rfl, _, (neat_int (i := 0) (by decide)).rep, by decide +kernel, fun H => .int _⟩
  · exact ⟨.int _, rfl, _, (neat_int (i := 401) (by decide)).rep, by decide +kernel, fun H => .int _⟩
  · exact ⟨.int _, rfl, _, (neat_int (i := 0 - 1) (by decide)).rep, by decide +kernel, fun H => .int _⟩
  · exact ⟨.non, rfl, _, neat_none.rep, by decide +kernel, fun H => .non⟩
  · exact ⟨.bl _, rfl, _, (neat_bool true).rep, by decide +kernel, fun H => .bl _⟩
  · exact ⟨.str _, rfl, _, rep1, by decide +kernel, fun H => .str _⟩
end Lw

set_option Elab.async false
set_option linter.all false
set_option maxRecDepth 100000
set_option maxHeartbeats 4000000
namespace Lw
open PySem PySem.Spec PyProof.Rows L2 Lx Pg
section
variable {P : Program} {w : World} {K : PySem.W.Frag} {mg : Str → Option Value} {base : Heap} {CM CR CF : Addr}
def spLaw (K : PySem.W.Frag) (Tb : List (Addr × Str)) : Sp := fun vs H Q _ => ∃ a, ∃ ns : List Int, vs = [.ref a] ∧ SqL K H a (ns.map V.int) ∧ LamX.Tabs Tb H ∧ ∀ H', Q (.bl true) H'
def nLaw : List Str := ["script", "k", "box", "deeds", "machine", "row", "at", "bent", "asks", "work", "bad"]
theorem scLaw : FnScope nLaw ["script"] (defScope sLaw) := ⟨rfl, rfl, rfl, by decide +kernel, rfl, by decide +kernel, by decide +kernel⟩
theorem noValue : ("value" : Str) ∉ nLaw := by decide +kernel
/-- a wrong row for the machine in the i-th name, the row in the j-th -/
def badSp (K : PySem.W.Frag) (CM CR : Addr) (i j : Nat) (E : XK) : TE := fun σ H _ => ∃ m v T, σ[i]? = some (some (.ref m)) ∧ σ[j]? = some (some v) ∧ MachAt K CM H m T ∧ T.length ≤ 4 ∧ BadRowV K CR T.length v H E
theorem var_mono (i : Nat) : ∀ (σ : L2.St) (H : Hp) (Q Q' : VK), (∀ v H, Q v H → Q' v H) → tVar i σ H Q → tVar i σ H Q' := fun σ H Q Q' m ⟨v, h1, h2⟩ => ⟨v, h1, m _ _ h2⟩
theorem con_mono (x : V) : ∀ (σ : L2.St) (H : Hp) (Q Q' : VK), (∀ v H, Q v H → Q' v H) → tC x σ H Q → tC x σ H Q' := fun σ H Q Q' m h => m _ _ h
/-- Machine(..) -/
structure MkM (P : Program) (w : World) (K : PySem.W.Frag) (mg : Str → Option Value) (base : Heap) (CM : Addr) : Prop where
  ex : ∃ f fd, Mk K CM f ∧ FnOk P w K mg base L2.CX0 3 f fd ["self", "tables"] (spMachine K CM) ∧ mg "Machine" = some (.ref CM) ∧ L2.Binds K fd ["self", "tables"] []
theorem ok_law {f c Pt : Addr} {fd : FuncData} {Tb : List (Addr × Str)} (F : Fun K "law" "law" sLaw f fd) (hcode : fd.code = .ref c) (TB : LamX.TabB base mg c Pt) (hmT : ∀ X : Cx, X.env.qual = ("law" : Str) ++ ".<locals>." → (Pt, lamQ X) ∈ Tb) (hu : ∀ X : Cx, X.env.qual = ("law" : Str) ++ ".<locals>." → ∀ p ∈ Tb, p.1 = Pt → p.2 = lamQ X)
    (B : Bare mg) (ear : EarDef K mg) (ea : ∃ CP, Ears K mg CR CF CP) (MM : MkM P w K mg base CM)
    (GB : Has P w K mg base L2.CX0 1 "_law_box" ["script", "k"] (spLawBox K)) (GT : Has P w K mg base L2.CX0 1 "_law_take" ["box", "many"] spLawTake) (GK : Has P w K mg base L2.CX0 2 "_law_pick" ["box", "some"] (spLawPick K)) (GW : Has P w K mg base L2.CX0 2 "_law_row" ["box", "deeds"] spLawRow)
    (GR : HasG P w K mg base 6 "_law_repeats_right" ["box", "machine", "row"] (spRepeats K CM)) (GNu : HasG P w K mg base 8 "_law_numbers_right" ["box", "machine", "deeds"] (spNumbers K CM Tb))
    (GE : Has P w K mg base (L2.CX P w) 5 "repeat_end" ["machine", "row", "step"] (spRepeatEnd K CM CR CF)) (GS : Has P w K mg base (L2.CX P w) 5 "repeat_steps" ["machine", "row"] (spRepeatSteps K CM CR)) (GP : Has P w K mg base (L2.CX P w) 5 "row_place" ["machine", "row"] (spRowPlace K CM CR)) :
    FnOkG P w K mg base L2.CX0 9 f fd ["script"] (spLaw K Tb) := by
  obtain ⟨CP, ea⟩ := ea
  obtain ⟨ge, fde, mge, Fe, be⟩ := ear.ex
  obtain ⟨fm, fdm, mk, okM, mgM, bM⟩ := MM.ex
  refine okT F hcode scLaw (fun vs H Q E h => ?_) (fun A outer s H vs Q E hr hgd h => ?_)
  · obtain ⟨a, ns, rfl, _⟩ := h
    rfl
  · obtain ⟨a, ns, rfl, ha, hT, q⟩ := h
    have hu3 : (A.deeper (envOfC "law" (defScope sLaw) s.heap.objs.size f (.ref c))).units + 300 < cLine := by have := hr.un; omega
    have hu2 : (A.deeper (envOfC "law" (defScope sLaw) s.heap.objs.size f (.ref c))).units + 200 < cLine := by omega
    have nd : nLaw.Nodup := scLaw.nd
    refine ⟨_, pss_cons (ps_for PassesOwn.never rfl (pi_range1 (by rfl) B.range (pa_cons pe_int pa_nil)) (pg_name (i := 1) nd rfl (Or.inl rfl))
        (pss_cons (ps_set (i := 2) nd rfl (Or.inl rfl) (pe_has GB (hr.mono (by decide)) (by rfl) (pa_cons (pv 0) (pa_cons (pv 1) pa_nil))))
        (pss_cons (ps_set (i := 3) nd rfl (Or.inl rfl) (pe_op op_add pe_int (pe_has GT (hr.mono (by decide)) (by rfl) (pa_cons (pv 2) (pa_cons pe_int pa_nil)))))
        (pss_cons (ps_asg (pe_tup (pa_cons (pe_make (E := L2.E0) (dvs := []) (ds := []) mk okM (hr.mono (by decide)) (by rfl) mgM bM .nil pass0 (pa_cons (pe_op op_rep (pe_lst (pa_cons (pe_lst (pa_cons pe_int (pa_cons pe_int pa_nil))) pa_nil)) (pv 3)) pa_nil)) (pa_cons (pe_has GW (hr.mono (by decide)) (by rfl) (pa_cons (pv 2) (pa_cons (pv 3) pa_nil))) pa_nil)))
          (pg_tup (by rfl) (pgs_cons (pg_name (i := 4) nd rfl (Or.inr rfl)) (pgs_cons (pg_name (i := 5) nd rfl (Or.inr rfl)) pgs_nil))))
        (pss_cons (ps_if (PW.pt (pw_or (pt_not (pt_val (pe_hasG GR (hr.mono (by decide)) hgd (by rfl) (pa_cons (pv 2) (pa_cons (pv 4) (pa_cons (pv 5) pa_nil))))))
            (pw_or1 (pt_not (pt_val (pe_hasG GNu (hr.mono (by decide)) hgd (by rfl) (pa_cons (pv 2) (pa_cons (pv 4) (pa_cons (pv 3) pa_nil))))))))) (pss_one (ps_ret pe_bl)) pss_nil)
        (pss_cons (ps_set (i := 6) nd rfl (Or.inl rfl) (pe_has GT (hr.mono (by decide)) (by rfl) (pa_cons (pv 2) (pa_cons (pe_op op_add (pe_callB lenS (by rfl) B.len PySem.boot_len (pa_cons (pv 5) pa_nil)) pe_int) pa_nil))))
        (pss_cons (ps_set (i := 7) nd rfl (Or.inr rfl) (pe_op op_cat (pe_op op_cat (pe_slice (r := rSlL K) sl_list (pv 5) po_none (po_some (pv 6))) (pe_lst (pa_cons (pe_has GK (hr.mono (by decide)) (by rfl) (pa_cons (pv 2) (pa_cons (pe_lst (pa_cons (pv 3) (pa_cons (pe_op op_sub pe_int pe_int) (pa_cons pe_bl (pa_cons pe_non pa_nil))))) pa_nil))) pa_nil)))
            (pe_slice (r := rSlL K) sl_list (pv 5) (po_some (pv 6)) po_none)))
        (pss_cons (ps_set (i := 8) nd rfl (Or.inl rfl) (pe_lst (pa_cons (pe_lamV (ps := ["value"]) (lamN_by (sc := defScope sLaw) (by decide +kernel)) TB rfl (hmT _ (by rfl)) (hu _ (by rfl)) (by rfl)) pa_nil)))
        (pss_cons (ps_expr (pe_bm PySem.F.plainAttrs_list PySem.F.slot_list_append PySem.F.type_list_append mt_append (pv 8) (pa_cons (pe_lamV (ps := ["value"]) (lamN_by (sc := defScope sLaw) (by decide +kernel)) TB rfl (hmT _ (by rfl)) (hu _ (by rfl)) (by rfl)) pa_nil)))
        (pss_cons (ps_expr (pe_bm PySem.F.plainAttrs_list PySem.F.slot_list_append PySem.F.type_list_append mt_append (pv 8) (pa_cons (pe_lamV (ps := ["value"]) (lamN_by (sc := defScope sLaw) (by decide +kernel)) TB rfl (hmT _ (by rfl)) (hu _ (by rfl)) (by rfl)) pa_nil)))
        (pss_cons (ps_for PassesOwn.never rfl (pi_list (pv 8)) (pg_name (i := 9) nd rfl (Or.inr rfl))
          (pss_cons (ps_if (pt_cmpR (op_neD hr.units) (pe_lamG (TT := heardT K CR CF) (k := 6) (by rfl) mge Fe be scHeard rfl (Or.inl rfl) (fun _ => heard_gives B ea hu3 hgd) TB rfl (hmT _ (by rfl)) (hu _ (by rfl)) (hr.mono (by decide)) (lamN_by (sc := defScope sLaw) (by decide +kernel)) (by rfl) (fun _ _ _ _ _ => rfl)
                (BodyOk.work (k := 5) (i := 9) (ta := tVar 7) (sp := badSp K CM CR 4 11) noValue rfl (by exact Or.inr (Or.inr rfl)) (fun _ _ _ _ _ _ _ => pv 7) (var_mono 7) (fun _ => rfl)))
              (pe_tup (pa_cons pe_str (pa_cons (pv 6) (pa_cons pe_bl pa_nil)))) (nomark _)) (pss_one (ps_ret pe_bl)) pss_nil)
          (pss_one (ps_if (pt_cmpR (op_neD hr.units) (pe_lamG (TT := heardT K CR CF) (k := 6) (by rfl) mge Fe be scHeard rfl (Or.inl rfl) (fun _ => heard_gives B ea hu3 hgd) TB rfl (hmT _ (by rfl)) (hu _ (by rfl)) (hr.mono (by decide)) (lamN_by (sc := defScope sLaw) (by decide +kernel)) (by rfl) (fun _ _ _ _ _ => rfl)
                (BodyOk.work (k := 5) (i := 9) (ta := tC .non) (sp := badSp K CM CR 4 11) noValue rfl (by exact Or.inr (Or.inr rfl)) (fun _ _ _ _ _ _ _ => pe_non) (con_mono .non) (fun _ => rfl)))
              (pe_tup (pa_cons pe_str (pa_cons (pe_op op_sub pe_int pe_int) (pa_cons pe_bl pa_nil)))) (nomark _)) (pss_one (ps_ret pe_bl)) pss_nil))))
        (pss_cons (ps_set (i := 10) nd rfl (Or.inr rfl) (pe_has GK (hr.mono (by decide)) (by rfl) (pa_cons (pv 2) (pa_cons (pe_lst (pa_cons pe_int (pa_cons pe_int (pa_cons (pe_op op_sub pe_int pe_int) (pa_cons pe_non (pa_cons pe_bl (pa_cons pe_str pa_nil))))))) pa_nil))))
        (pss_one (ps_if (pt_cmpR (op_neD hr.units) (pe_lamG (TT := heardT K CR CF) (k := 5) (t := fun E => tCall (spRepeatEnd K CM CR CF) [] E (tCons (tVar 4) (tCons (tVar 5) (tCons (tVar 10) tNil)))) (by rfl) mge Fe be scHeard rfl (Or.inl rfl) (fun _ => heard_gives B ea hu3 hgd) TB rfl (hmT _ (by rfl)) (hu _ (by rfl)) (hr.mono (by decide)) (lamN_by (sc := defScope sLaw) (by decide +kernel)) (by rfl) (fun _ _ _ _ _ => rfl)
                (BodyOk.of fun A2 outer2 s2 H2 E2 f2 c2 hr2 => pe_hasX (E := E2) GE hr2 (takes_of rfl rfl rfl rfl) (fun _ _ _ _ z => z) (by rfl) (pa_cons (pv 4) (pa_cons (pv 5) (pa_cons (pv 10) pa_nil)))))
              (pe_tup (pa_cons pe_str (pa_cons (pe_callB (call_reprS hu2 hgd) (by rfl) B.repr (by decide +kernel) (pa_cons (pv 10) pa_nil)) (pa_cons pe_bl pa_nil)))) (nomark _)) (pss_one (ps_ret pe_bl)) pss_nil))))))))))))))
      (pss_one (ps_ret (pe_cmpR op_eq (pe_hasN GE (hr.mono (by decide)) (by rfl) (pa_cons (pe_make (E := L2.E0) (dvs := []) (ds := []) mk okM (hr.mono (by decide)) (by rfl) mgM bM .nil pass0 (pa_cons (pe_lst (pa_cons (pe_lst (pa_cons pe_int pa_nil)) pa_nil)) pa_nil)) (pa_cons (pe_op op_rep (pe_lst (pa_cons pe_int pa_nil)) pe_int) (pa_cons pe_int pa_nil)))) pe_int (nomark _)))), ?_⟩
    refine ⟨(4 : Int), rfl, by omega, by omega, ?_⟩
    refine for_range (lo := 0) (n := 4) (fun i σ H' => LamX.ExtN H H' ∧ LamX.Tabs Tb H' ∧ ∃ y1 y2 y3 y4 y5 y6 y7 y8 y9 y10, σ = [some (.ref a), y1, y2, y3, y4, y5, y6, y7, y8, y9, y10]) ⟨LamX.ExtN.refl H, hT, none, none, none, none, none, none, none, none, none, none, rfl⟩ ?_ ?_
    · rintro i σ H1 hi ⟨e1, t1, y1, y2, y3, y4, y5, y6, y7, y8, y9, y10, rfl⟩
      have sc1 : SqL K H1 a (ns.map V.int) := by
        rcases ha with (h | ⟨o, h⟩) | h
        · exact .inl (.inl (e1 _ _ h fun _ z => by cases z))
        · exact .inl (.inr ⟨o, e1 _ _ h fun _ z => by cases z⟩)
        · exact .inr h
      refine ⟨.ref a, rfl, _, rfl, a, i, ns, by rw [Int.zero_add]; rfl, sc1, fun Hs b ss nb box => ?_⟩
      have l0 : Lv b Tb Hs Hs := ⟨Ext.refl Hs, box, t1.ext ss⟩
      have back : ∀ {H' : Hp}, Lv b Tb Hs H' → LamX.ExtN H H' := fun {H'} l x o hx no => by
        have h1 := e1 x o hx no
        refine l.ext x o (ss x o h1) (fun z => ?_) no
        rw [z, nb] at h1
        cases h1
      -- the deeds
      refine ⟨.ref b, rfl, b, 4, rfl, box, by decide, by decide, fun H2 r hr2 sb2 box2 => ⟨_, _, rfl, rfl, ?_⟩⟩
      have l2 := l0.draw sb2 box2
      -- the machine
      refine ⟨by show 2 ≤ sizeLine; decide, fun li nli => ⟨by show 1 ≤ sizeLine; decide, fun lo nlo => ?_⟩⟩
      refine ⟨.int ((1 + r : Nat) : Int), rfl, lo, ((1 + r : Nat) : Int), _, rfl, rfl, upd_same, by omega, by omega, by rw [Int.toNat_natCast, sizeLine_eq]; show 1 * (1 + r) ≤ _; omega, fun lt nlt => ?_⟩
      rw [Int.toNat_natCast, flat_one]
      have l3 := (l2.new (o := .lst [V.int 0, V.int 0]) nli).new (o := .lst [V.ref li]) nlo
      have hli := same_new (o := .lst [V.ref li]) nlo _ _ (upd_same (H := H2) (a := li) (o := .lst [V.int 0, V.int 0]))
      have l4 := l3.new (o := .lst (List.replicate (1 + r) (V.ref li))) nlt
      have hli4 := same_new (o := .lst (List.replicate (1 + r) (V.ref li))) nlt _ _ hli
      have hlt : upd (upd (upd H2 li (.lst [V.int 0, V.int 0])) lo (.lst [V.ref li])) lt (.lst (List.replicate (1 + r) (V.ref li))) lt = some (.lst (List.replicate (1 + r) (V.ref li))) := upd_same
      generalize upd (upd (upd H2 li (.lst [V.int 0, V.int 0])) lo (.lst [V.ref li])) lt (.lst (List.replicate (1 + r) (V.ref li))) = H4 at l4 hli4 hlt ⊢
      intro m dm nm ndm nem
      have s5 : Same H4 (upd (upd H4 dm (.own m)) m (.ins CM dm [])) := (same_new ndm).trans (same_new (by rw [upd_ne nem.symm]; exact nm))
      generalize hT0 : List.replicate (1 + r) (List.replicate 2 (0 : Int)) = T at *
      have lenT : T.length = 1 + r := by rw [← hT0, List.length_replicate]
      refine ⟨m, dm, .ref lt, T, rfl, upd_same, by rw [← hT0]; exact tabs_rep (by omega) (by omega) (by decide) (by decide), by rw [← hT0]; exact tabV_rep (s5 _ _ hlt) (s5 _ _ hli4), fun H6 sb6 hm6 => ⟨rfl, ?_⟩⟩
      have s46 : Same H4 H6 := fun x o hx => sb6 x o (s5 x o hx) fun z => by rw [z, nm] at hx; cases hx
      have l6 := l4.same s46
      -- the row
      refine ⟨.ref b, rfl, .int ((1 + r : Nat) : Int), rfl, b, 1 + r, rfl, l6.box, by omega, by omega, fun H7 ra ds dok dlen sb7 box7 nra hra => ?_⟩
      have l7 := l6.draw sb7 box7
      have hm7 := hm6.ext (sb_ext sb7) l6.box
      have nrab : ra ≠ b := l6.box.ne nra
      refine ⟨by show 2 ≤ sizeLine; decide, fun pt nt => ?_⟩
      have l8 := l7.new (o := .tup [.ref m, .ref ra]) nt
      have hm8 := hm7.same (same_new (o := .tup [.ref m, .ref ra]) nt)
      have hra8 := same_new (o := .tup [.ref m, .ref ra]) nt _ _ hra
      refine ⟨pt, _, rfl, .inl (.inl upd_same), rfl, _, _, rfl, _, _, rfl, rfl, ?_⟩
      generalize upd H7 pt (.tup [.ref m, .ref ra]) = H8 at l8 hm8 hra8 ⊢
      rw [← lenT] at dok
      have t1' : 1 ≤ T.length := by omega
      have t4' : T.length ≤ 4 := by omega
      -- repeats, numbers
      refine ⟨.ref b, rfl, .ref m, rfl, .ref ra, rfl, b, m, ra, T, ds, rfl, hm8, hra8, dok, dlen, t4', fun H9 s9 => ⟨_, rfl, ?_⟩⟩
      refine iteF ?_
      have l9 := l8.same s9
      refine ⟨.ref b, rfl, .ref m, rfl, .int ((1 + r : Nat) : Int), rfl, b, m, T, by rw [lenT]; rfl, l9.box, hm8.same s9, t1', t4', l9.tabs, fun H10 x10 box10 tabs10 => ⟨_, rfl, ?_⟩⟩
      refine iteF ?_
      have l10 : Lv b Tb Hs H10 := ⟨l9.ext.trans x10, box10, tabs10⟩
      have hm10 := (hm8.same s9).ext x10 l9.box
      have hra10 := x10 _ _ (s9 _ _ hra8) nrab fun _ z => by cases z
      have lds : (ds.map V.int).length = ds.length := List.length_map _
      -- the place of the bend
      refine ⟨.ref b, rfl, .ref ra, rfl, ra, _, rfl, .inl (.inl (.inl hra10)), _, _, rfl, rfl, b, (ds.map V.int).length + 1, rfl, l10.box, by omega, by rw [lds]; omega, fun H11 at_ hat sb11 box11 => ?_⟩
      rw [lds] at hat
      have l11 := l10.draw sb11 box11
      have hm11 := hm10.ext (sb_ext sb11) l10.box
      have hra11 := sb11 _ _ hra10 nrab
      -- the bent row
      refine ⟨.ref ra, rfl, .int (at_ : Int), rfl, _, rfl, ra, _, rfl, .inl (.inl hra11), fun c1 nc1 => ?_⟩
      rw [cut_to]
      have l12 := l11.new (o := .lst ((ds.map V.int).take at_)) nc1
      have hm12 := hm11.same (same_new (o := .lst ((ds.map V.int).take at_)) nc1)
      have hra12 := same_new (o := .lst ((ds.map V.int).take at_)) nc1 _ _ hra11
      have hc12 : upd H11 c1 (.lst ((ds.map V.int).take at_)) c1 = some (.lst ((ds.map V.int).take at_)) := upd_same
      have nc1b : c1 ≠ b := l11.box.ne nc1
      generalize upd H11 c1 (.lst ((ds.map V.int).take at_)) = H12 at l12 hm12 hra12 hc12 ⊢
      refine ⟨.ref b, rfl, .int ((1 + r : Nat) : Int), rfl, _, _, rfl, rfl, by show 4 ≤ sizeLine; decide, fun pl npl => ?_⟩
      refine ⟨b, pl, _, rfl, (l12.new npl).box, fun e => l12.box.ne npl e.symm, .inl (.inl upd_same), by show 1 ≤ 4; decide, by show 4 < 1000; decide, fun H13 xb hxb sb13 box13 => ?_⟩
      have l13 := (l12.new (o := .lst [V.int ((1 + r : Nat) : Int), V.int (0 - 1), V.bl true, V.non]) npl).draw sb13 box13
      have e13 : Ext b H12 H13 := (Ext.of (same_new npl)).trans (sb_ext sb13)
      have hm13 := hm12.ext e13 l12.box
      have hra13 := e13 _ _ hra12 nrab fun _ z => by cases z
      have hc13 := e13 _ _ hc12 nc1b fun _ z => by cases z
      obtain ⟨sxb, bxb⟩ := law_pick (n := T.length) (v := xb) (by rw [lenT]; exact hxb)
      refine ⟨by show 1 ≤ sizeLine; decide, fun c2 nc2 => ?_⟩
      have s14 := same_new (o := .lst [xb]) nc2
      refine ⟨c1, c2, _, [xb], rfl, rfl, s14 _ _ hc13, upd_same, by rw [List.length_take, lds, sizeLine_eq]; show min at_ ds.length + 1 ≤ _; omega, fun c3 nc3 => ?_⟩
      have s15 := same_new (o := .lst ((ds.map V.int).take at_ ++ [xb])) nc3
      refine ⟨.ref ra, rfl, .int (at_ : Int), rfl, _, rfl, ra, _, rfl, .inl (.inl (s15 _ _ (s14 _ _ hra13))), fun c4 nc4 => ?_⟩
      rw [cut_from]
      have s16 := same_new (o := .lst ((ds.map V.int).drop at_)) nc4
      refine ⟨c3, c4, _, _, rfl, rfl, s16 _ _ upd_same, upd_same, by rw [List.length_append, List.length_take, List.length_drop, lds, sizeLine_eq]; show min at_ ds.length + 1 + (ds.length - at_) ≤ _; omega, fun tb ntb => ?_⟩
      have s17 := same_new (o := .lst ((ds.map V.int).take at_ ++ [xb] ++ (ds.map V.int).drop at_)) ntb
      have s18 := ((s14.trans s15).trans s16).trans s17
      have l18 := l13.same s18
      have hm18 := hm13.same s18
      have hra18 := s18 _ _ hra13
      have ntbb : tb ≠ b := (((l13.new nc2).new nc3).new nc4).box.ne ntb
      have htb : upd (upd (upd (upd H13 c2 (.lst [xb])) c3 (.lst ((ds.map V.int).take at_ ++ [xb]))) c4 (.lst ((ds.map V.int).drop at_))) tb (.lst ((ds.map V.int).take at_ ++ [xb] ++ (ds.map V.int).drop at_)) tb = some (.lst ((ds.map V.int).take at_ ++ [xb] ++ (ds.map V.int).drop at_)) := upd_same
      generalize upd (upd (upd (upd H13 c2 (.lst [xb])) c3 (.lst ((ds.map V.int).take at_ ++ [xb]))) c4 (.lst ((ds.map V.int).drop at_))) tb (.lst ((ds.map V.int).take at_ ++ [xb] ++ (ds.map V.int).drop at_)) = H18 at l18 hm18 hra18 htb ⊢
      clear s18 s17 s16 s15 s14
      -- what is asked
      refine ⟨l18.tabs, fun f1 k1 H19 e19 t19 nf1 hf1 hk1 => ⟨by show 1 ≤ sizeLine; decide, fun la nla => ?_⟩⟩
      have w1 := (show WorkAt _ 5 f1 H19 "value" (badSp K CM CR 4 11) from ⟨_, _, _, k1, hf1, hk1, lamN_by (sc := defScope sLaw) (by decide +kernel), fun _ _ _ _ _ _ => rfl, fun A2 outer2 s2 H2 E2 f2 c2 hr2 => PE.mono (pe_hasX (E := E2) GE hr2 (takes_of rfl rfl rfl rfl) (fun _ _ _ _ z => z) (by rfl) (pa_cons (pv 4) (pa_cons (pv 11) (pa_cons pe_non pa_nil)))) fun σ H Q ⟨m, v, T, g4, g11, hm, h4, bad⟩ => ⟨.ref m, g4, v, g11, m, v, .non, T, rfl, hm, .inl bad⟩⟩)
      have l19 := l18.start.lam e19 t19
      have nlab := l19.box.ne nla
      have m20 := l19.start.new (o := .lst [.ref f1]) nla
      have w1 := work_ext w1 (Ext.of (same_new (o := .lst [.ref f1]) nla)) (box_lst l19.box)
      have hla20 : upd H19 la (.lst [.ref f1]) la = some (.lst [.ref f1]) := upd_same
      generalize upd H19 la (.lst [.ref f1]) = H20 at m20 w1 hla20 ⊢
      refine ⟨.ref la, rfl, .inl ⟨rfl, _, .inl (.inl hla20)⟩, m20.tabs, fun f2 k2 H21 e21 t21 nf2 hf2 hk2 => ?_⟩
      have w2 := (show WorkAt _ 5 f2 H21 "value" (badSp K CM CR 4 11) from ⟨_, _, _, k2, hf2, hk2, lamN_by (sc := defScope sLaw) (by decide +kernel), fun _ _ _ _ _ _ => rfl, fun A2 outer2 s2 H2 E2 f2 c2 hr2 => PE.mono (pe_hasX (E := E2) GS hr2 (takes_of rfl rfl rfl rfl) (fun _ _ _ _ z => z) (by rfl) (pa_cons (pv 4) (pa_cons (pv 11) pa_nil))) fun σ H Q ⟨m, v, T, g4, g11, hm, h4, bad⟩ => ⟨.ref m, g4, v, g11, m, v, T, rfl, hm, .inl bad⟩⟩)
      have m21 := m20.lam e21 t21
      have hla21 := e21 _ _ hla20 fun _ z => by cases z
      refine ⟨la, _, _, rfl, rfl, hla21, by show 1 < sizeLine; decide, ?_⟩
      have m22 := m21.put (o := .lst ([.ref f1] ++ [.ref f2])) nla hla21 nlab
      have x22 : Ext la H21 (upd H21 la (.lst ([.ref f1] ++ [.ref f2]))) := ext_put
      have hla22 : upd H21 la (.lst ([.ref f1] ++ [.ref f2])) la = some (.lst ([.ref f1] ++ [.ref f2])) := upd_same
      generalize upd H21 la (.lst ([.ref f1] ++ [.ref f2])) = H22 at m22 x22 hla22 ⊢
      refine ⟨.ref la, rfl, .inl ⟨rfl, _, .inl (.inl hla22)⟩, m22.tabs, fun f3 k3 H23 e23 t23 nf3 hf3 hk3 => ?_⟩
      have w3 := (show WorkAt _ 5 f3 H23 "value" (badSp K CM CR 4 11) from ⟨_, _, _, k3, hf3, hk3, lamN_by (sc := defScope sLaw) (by decide +kernel), fun _ _ _ _ _ _ => rfl, fun A2 outer2 s2 H2 E2 f2 c2 hr2 => PE.mono (pe_hasX (E := E2) GP hr2 (takes_of rfl rfl rfl rfl) (fun _ _ _ _ z => z) (by rfl) (pa_cons (pv 4) (pa_cons (pv 11) pa_nil))) fun σ H Q ⟨m, v, T, g4, g11, hm, h4, bad⟩ => ⟨.ref m, g4, v, g11, m, v, T, rfl, hm, h4, .inl bad⟩⟩)
      have m23 := m22.lam e23 t23
      have hla23 := e23 _ _ hla22 fun _ z => by cases z
      refine ⟨la, _, _, rfl, rfl, hla23, by show 2 < sizeLine; decide, ?_⟩
      have m24 := m23.put (o := .lst ([.ref f1] ++ [.ref f2] ++ [.ref f3])) nla hla23 nlab
      have x24 : Ext la H23 (upd H23 la (.lst ([.ref f1] ++ [.ref f2] ++ [.ref f3]))) := ext_put
      have hla24 : upd H23 la (.lst ([.ref f1] ++ [.ref f2] ++ [.ref f3])) la = some (.lst ([.ref f1] ++ [.ref f2] ++ [.ref f3])) := upd_same
      generalize upd H23 la (.lst ([.ref f1] ++ [.ref f2] ++ [.ref f3])) = H24 at m24 x24 hla24 ⊢
      have w3 := work_ext w3 x24 ⟨_, hla23⟩
      have w2 := work_ext w2 ((x22.trans (Ext.ofN e23)).trans x24) ⟨_, hla21⟩
      have w1 := work_ext w1 ((((Ext.ofN e21).trans x22).trans (Ext.ofN e23)).trans x24) ⟨_, hla20⟩
      have l1824 := l19.trans m24
      have l24 := l18.trans l1824
      have hm24 := hm18.ext l1824.ext l18.box
      have hra24 := l1824.ext _ _ hra18 nrab fun _ z => by cases z
      have htb24 := l1824.ext _ _ htb ntbb fun _ z => by cases z
      clear x24 m23 hla23 m22 x22 hla22 m21 hla21 m20 hla20 hf1 hf2 hf3 hk1 hk2 hk3
      refine ⟨.ref la, rfl, la, rfl, ⟨_, .inl (.inl hla24)⟩, for_it walk_list (fun j σ H' => Lv b Tb H24 H' ∧ ∃ y9, σ = [some (.ref a), some (.int (0 + (i : Int))), some (.ref b), some (.int ((1 + r : Nat) : Int)), some (.ref m), some (.ref ra), some (.int (at_ : Int)), some (.ref tb), some (.ref la), y9, y10]) ⟨l24.start, y9, rfl⟩ (fun j σ H' _ hq => .inl (.inl (hq.1.ext _ _ hla24 nlab (fun _ z => by cases z)))) ?_ ?_⟩
      · rintro j x σ Ho H25 hj ⟨l25, y9, rfl⟩ ⟨rfl, ex⟩
        obtain ⟨fx, rfl, wx⟩ : ∃ fx, x = V.ref fx ∧ WorkAt (cxOf L2.CX0 P w K mg base nLaw "law" (defScope sLaw) f (.ref c) A outer s H E).nox 5 fx H24 "value" (badSp K CM CR 4 11) := by
          have hx := List.mem_of_getElem? ex
          simp only [List.cons_append, List.nil_append, List.mem_cons, List.not_mem_nil, or_false] at hx
          rcases hx with rfl | rfl | rfl
          · exact ⟨f1, rfl, w1⟩
          · exact ⟨f2, rfl, w2⟩
          · exact ⟨f3, rfl, w3⟩
        -- the bent row
        refine ⟨l25.tabs, fun H26 e26 t26 => ?_⟩
        have l26 := l25.lam e26 t26
        have htb26 := l26.ext _ _ htb24 ntbb fun _ z => by cases z
        refine ⟨fx, rfl, work_ext wx l26.ext (box_lst l24.box), .ref tb, rfl, fun _ _ z => z, m, .ref tb, T, rfl, rfl, hm24.ext l26.ext l24.box, t4', bent_bad dok (by omega) (by omega) sxb bxb htb26 fun d H27 s27 nd27 hd27 => ?_⟩
        refine .inl ⟨rfl, d, .int (at_ : Int), rfl, hd27, fun p28 H28 s28 np28 hp28 => ?_⟩
        have l28 := (l26.same s27).same s28
        refine ⟨.int (at_ : Int), rfl, by show 3 ≤ sizeLine; decide, fun p29 np29 => ?_⟩
        have l29 := l28.new (o := .tup [V.str "row", V.int (at_ : Int), V.bl true]) np29
        refine ⟨_, _, dp_row (same_new np29 _ _ hp28), dp_row upd_same, shaped_row _, shaped_row _, _, rfl, ?_⟩
        rw [eqv_row]
        refine iteF ?_
        generalize upd H28 p29 (.tup [V.str "row", V.int (at_ : Int), V.bl true]) = H29 at l29 ⊢
        -- none
        refine ⟨l29.tabs, fun H30 e30 t30 => ?_⟩
        have l30 := l29.lam e30 t30
        refine ⟨fx, rfl, work_ext wx l30.ext (box_lst l24.box), fun _ _ z => z, m, .non, T, rfl, rfl, hm24.ext l30.ext l24.box, t4', .inl ⟨.inl .non, fun d2 H31 s31 nd31 hd31 => ?_⟩⟩
        refine .inl ⟨rfl, d2, .int (-1), rfl, hd31, fun p32 H32 s32 np32 hp32 => ?_⟩
        have l32 := (l30.same s31).same s32
        refine ⟨_, _, rfl, rfl, by show 3 ≤ sizeLine; decide, fun p33 np33 => ?_⟩
        have l33 := l32.new (o := .tup [V.str "row", V.int (0 - 1), V.bl true]) np33
        refine ⟨_, _, dp_row (same_new np33 _ _ hp32), dp_row (i := 0 - 1) upd_same, shaped_row _, shaped_row _, _, rfl, ?_⟩
        rw [show PyData.eqv (.tuple [.str "row", .int (-1), .bool true]) (.tuple [.str "row", .int (0 - 1), .bool true]) = true from eqv_row (-1)]
        refine iteF ?_
        exact ⟨l33, _, rfl⟩
      · rintro σ H25 ⟨l25, y9, rfl⟩
        -- a wrong step
        refine ⟨.ref b, rfl, _, _, rfl, rfl, by show 6 ≤ sizeLine; decide, fun pl2 npl2 => ?_⟩
        refine ⟨b, pl2, _, rfl, (l25.new npl2).box, fun e => l25.box.ne npl2 e.symm, .inl (.inl upd_same), by show 1 ≤ 6; decide, by show 6 < 1000; decide, fun H26 v hv sb26 hb26 => ?_⟩
        have l26 := (l25.new (o := .lst [V.int 0, V.int 401, V.int (0 - 1), V.non, V.bl true, V.str "1"]) npl2).draw sb26 hb26
        obtain ⟨sv, nv, dv, rv, cv, pv⟩ := step_pick (K := K) hv
        refine ⟨l26.tabs, fun H27 e27 t27 => ?_⟩
        have l27 := l26.lam e27 t27
        refine ⟨.ref m, rfl, .ref ra, rfl, v, rfl, m, .ref ra, v, T, rfl, hm24.ext l27.ext l24.box, .inr ⟨ds, ⟨.lst (.inl (.inl (l27.ext _ _ hra24 nrab fun _ z => by cases z))), by omega, dok⟩, sv, .inl ⟨nv, fun d H28 s28 nd28 hd28 => ?_⟩⟩⟩
        refine .inr ⟨rfl, d, v, dv, rfl, hd28, pv _, rv, fun p29 H29 s29 np29 hp29 => ?_⟩
        have l29 := (l27.same s28).same s29
        refine ⟨v, rfl, v, dv, rfl, pv _, rv, by show 3 ≤ sizeLine; decide, fun p30 np30 => ?_⟩
        have l30 := l29.new (o := .tup [V.str "refused", V.str dv.shown, V.bl true]) np30
        refine ⟨_, _, dp_told (same_new np30 _ _ hp29), dp_told upd_same, shaped_told (by decide +kernel) cv, shaped_told (by decide +kernel) cv, _, rfl, ?_⟩
        rw [eqv_told]
        refine iteF ?_
        exact ⟨back (l24.trans l30), l30.tabs, _, _, _, _, _, _, _, _, _, _, rfl⟩
    · rintro σ H1 ⟨e1, t1, y1, y2, y3, y4, y5, y6, y7, y8, y9, y10, rfl⟩
      refine ⟨by show 1 ≤ sizeLine; decide, fun li nli => ⟨by show 1 ≤ sizeLine; decide, fun lo nlo => ?_⟩⟩
      have hli := same_new (o := .lst [V.ref li]) nlo _ _ (upd_same (H := H1) (a := li) (o := .lst [V.int 0]))
      have hlo : upd (upd H1 li (.lst [V.int 0])) lo (.lst [V.ref li]) lo = some (.lst [V.ref li]) := upd_same
      generalize upd (upd H1 li (.lst [V.int 0])) lo (.lst [V.ref li]) = H4 at hli hlo ⊢
      intro m dm nm ndm nem
      have s5 : Same H4 (upd (upd H4 dm (.own m)) m (.ins CM dm [])) := (same_new ndm).trans (same_new (by rw [upd_ne nem.symm]; exact nm))
      refine ⟨m, dm, .ref lo, List.replicate 1 (List.replicate 1 0), rfl, upd_same, tabs_rep (by decide) (by decide) (by decide) (by decide), tabV_rep (s5 _ _ hlo) (s5 _ _ hli), fun H6 sb6 hm6 => ⟨rfl, ?_⟩⟩
      refine ⟨by show 1 ≤ sizeLine; decide, fun lz nlz => ?_⟩
      refine ⟨lz, 400, [V.int 0], rfl, rfl, upd_same, by decide, by decide, by show 1 * 400 ≤ sizeLine; decide, fun lw nlw => ?_⟩
      have s7 := (same_new (o := .lst [V.int 0]) nlz).trans (same_new (o := .lst (List.replicate (400 : Int).toNat [V.int 0]).flatten) nlw)
      refine ⟨m, .ref lw, .int 400, _, rfl, hm6.same s7, .inr ⟨List.replicate 400 0, ⟨.lst (.inl (.inl ?_)), by rw [List.length_replicate]; exact Nat.le_refl _, fun d hd => ?_⟩, .int _, .inr ⟨400, rfl, by decide, by decide, fun H8 r8 s8 lr => ⟨rfl, ?_⟩⟩⟩⟩
      · rw [upd_same, flat_one, List.map_replicate]
        rfl
      · obtain rfl := (List.mem_replicate.mp hd).2
        rw [List.length_replicate]
        omega
      · have g1 := lr.le
        have g2 := lr.low
        rw [List.length_replicate] at g1 g2
        have er : r8 = 400 := by omega
        subst er
        rw [decide_eq_true (show V.int ((400 : Nat) : Int) = V.int 400 from rfl)]
        exact q _
end
end Lw

set_option Elab.async false
set_option linter.all false
set_option maxRecDepth 100000
set_option maxHeartbeats 4000000
/-! what the top has left, and the law's promise from it -/
namespace Lw
open PySem PySem.Spec PyProof.Rows L2 Lx Pg
/-- the def x of the text st stands in the module -/
structure DefK (K : PySem.W.Frag) (mg : Str → Option Value) (x : Str) (st : Stmt) : Prop where
  ex : ∃ f fd, mg x = some (.ref f) ∧ Fun K x x st f fd
theorem defK {K : PySem.W.Frag} {h : Heap} {mg : Str → Option Value} (X : K.In h) (G : h.Ns mainGlobals mg) {x : Str} {st : Stmt} {f : Addr} {od an : Option Addr} {sl : Array (Option Value)} {oc kV doc pm cd ct : Value}
    (a : PySem.W.nsIn K mainGlobals x = some (some (.ref f))) (l : K.lookup f = some ⟨oc, od, .func (PySem.W.fnOf x x (defArgs st) (defBody st) (defScope st) .none kV doc pm an cd ct), sl⟩) (c : PySem.W.codeIn K cd x = true) (k : PySem.W.keepIn K (.ref f) = true) : DefK K mg x st :=
  ⟨f, _, PySem.W.mg_of X G a, fun_mk l c k⟩
/-- .. that makes lambdas: its code object and its table -/
structure DefT (K : PySem.W.Frag) (h : Heap) (mg : Str → Option Value) (x : Str) (st : Stmt) (c T : Addr) : Prop where
  ex : ∃ f fd, mg x = some (.ref f) ∧ Fun K x x st f fd ∧ fd.code = .ref c
  hd : PySem.W.CodeHd h c T
  no : K.lookup T = none
  at_ : h.get? T = some { cls := .none, data := .fields #[] }
theorem defT {K : PySem.W.Frag} {h : Heap} {mg : Str → Option Value} (X : K.In h) (G : h.Ns mainGlobals mg) {x : Str} {st : Stmt} {f c0 T : Addr} {od an : Option Addr} {sl : Array (Option Value)} {oc kV doc pm ct : Value}
    (a : PySem.W.nsIn K mainGlobals x = some (some (.ref f))) (l : K.lookup f = some ⟨oc, od, .func (PySem.W.fnOf x x (defArgs st) (defBody st) (defScope st) .none kV doc pm an (.ref c0) ct), sl⟩) (c : PySem.W.codeIn K (.ref c0) x = true) (k : PySem.W.keepIn K (.ref f) = true)
    (e : PySem.W.codeHdIn K c0 T = true) (n : K.lookup T = none) (t : h.get? T = some { cls := .none, data := .fields #[] }) : DefT K h mg x st c0 T :=
  ⟨⟨f, _, PySem.W.mg_of X G a, fun_mk l c k, rfl⟩, PySem.W.codeHd_of_K X e, n, t⟩
theorem DefK.has {P : Program} {w : World} {K : PySem.W.Frag} {mg : Str → Option Value} {base : Heap} {CX : CXT} {k : Nat} {x : Str} {st : Stmt} {ps : List Str} {sp : Sp} (D : DefK K mg x st) (hb : ∀ f fd, Fun K x x st f fd → L2.Binds K fd ps []) (ok : ∀ f fd, Fun K x x st f fd → FnOk P w K mg base CX k f fd ps sp) : Has P w K mg base CX k x ps sp := by
  obtain ⟨f, fd, hm, F⟩ := D.ex
  exact ⟨f, fd, hm, F.kp, hb f fd F, ok f fd F⟩
/-- an error class of one field -/
structure ErrK1 (K : PySem.W.Frag) (mg : Str → Option Value) (x qual : Str) (st : Stmt) (C : Addr) : Prop where
  T : OexC K C
  xf : XfC K C
  ec : ExcC K C
  no : PySem.W.findIn K (.ref C) "at" = some none
  gC : mg x = some (.ref C)
  ini : ∃ fI fd, PySem.W.findIn K (.ref C) "__init__" = some (some (.ref fI)) ∧ PySem.W.typeIn K (.ref fI) = some (.type "function") ∧ Fun K "__init__" qual st fI fd
theorem errK1 {K : PySem.W.Frag} {h : Heap} {mg : Str → Option Value} (X : K.In h) (G : h.Ns mainGlobals mg) {x qual : Str} {st : Stmt} {C f : Addr} {od an : Option Addr} {sl : Array (Option Value)} {oc kV doc pm cd ct : Value} (T : OexC K C) (ec : ExcC K C) (no : PySem.W.findIn K (.ref C) "at" = some none)
    (a : PySem.W.nsIn K mainGlobals x = some (some (.ref C))) (i : PySem.W.findIn K (.ref C) "__init__" = some (some (.ref f))) (t : PySem.W.typeIn K (.ref f) = some (.type "function"))
    (l : K.lookup f = some ⟨oc, od, .func (PySem.W.fnOf "__init__" qual (defArgs st) (defBody st) (defScope st) .none kV doc pm an cd ct), sl⟩) (c : PySem.W.codeIn K cd qual = true) (k : PySem.W.keepIn K (.ref f) = true) : ErrK1 K mg x qual st C :=
  ⟨T, ⟨ec.hg, ec.hk, ec.hs, ec.hd⟩, ec, no, PySem.W.mg_of X G a, f, _, i, t, fun_mk l c k⟩
abbrev sBadRowInit : Stmt := inClass cBadRow 0
abbrev sRefusedInit : Stmt := inClass cRefused 0
theorem scBadRowInit : FnScope ["self", "at"] ["self", "at"] (defScope sBadRowInit) := ⟨rfl, rfl, rfl, by decide +kernel, rfl, by decide +kernel, by decide +kernel⟩
theorem scRefusedInit : FnScope ["self", "at"] ["self", "at"] (defScope sRefusedInit) := ⟨rfl, rfl, rfl, by decide +kernel, rfl, by decide +kernel, by decide +kernel⟩
theorem ErrK1.badRow {P : Program} {w : World} {K : PySem.W.Frag} {mg : Str → Option Value} {base : Heap} {C : Addr} (D : ErrK1 K mg "BadRow" "BadRow.__init__" sBadRowInit C) : Err P w K mg base "BadRow" "at" C := by
  obtain ⟨fI, fd, h1, h2, F⟩ := D.ini
  refine ⟨D.T, D.xf, D.ec, D.no, D.gC, fI, fd, 1, ["self", "at"], h1, h2, Nat.le_refl _, ok_errInit (k0 := 0) D.T D.no F scBadRowInit rfl (by decide) (by decide) (Or.inl rfl) (Or.inl rfl) (fun _ => rfl), F.binds (ps := ["self", "at"]) fun _ _ _ _ _ _ us hl => match us, hl with | [_, _], _ => rfl⟩
theorem ErrK1.refused {P : Program} {w : World} {K : PySem.W.Frag} {mg : Str → Option Value} {base : Heap} {C : Addr} (D : ErrK1 K mg "Refused" "Refused.__init__" sRefusedInit C) : Err P w K mg base "Refused" "at" C := by
  obtain ⟨fI, fd, h1, h2, F⟩ := D.ini
  refine ⟨D.T, D.xf, D.ec, D.no, D.gC, fI, fd, 1, ["self", "at"], h1, h2, Nat.le_refl _, ok_errInit (k0 := 0) D.T D.no F scRefusedInit rfl (by decide) (by decide) (Or.inl rfl) (Or.inl rfl) (fun _ => rfl), F.binds (ps := ["self", "at"]) fun _ _ _ _ _ _ us hl => match us, hl with | [_, _], _ => rfl⟩
/-- what the module's top has left -/
structure Top2 (K : PySem.W.Frag) (h : Heap) (mg : Str → Option Value) (CM CR CF CP c1 c2 T1 T2 fm : Addr) : Prop where
  B : Bare mg
  M : MachC K CM
  mkm : Mk K CM fm
  mi : ∃ fd, Fun K "__init__" "Machine.__init__" sMachineInit fm fd
  mM : mg "Machine" = some (.ref CM)
  gR : ∃ tk, mg "LONGEST_ROW" = some (.int 400 tk)
  gD : ∃ tk, mg "MOST_DEEDS" = some (.int 4 tk)
  gS : ∃ tk, mg "MOST_STATES" = some (.int 8 tk)
  eR : ErrK1 K mg "BadRow" "BadRow.__init__" sBadRowInit CR
  eF : ErrK1 K mg "Refused" "Refused.__init__" sRefusedInit CF
  mP : mg "PageError" = some (.ref CP)
  rr : PySem.W.exmOne K (.ref CR) (.ref CR) = some true
  fr : PySem.W.exmOne K (.ref CF) (.ref CR) = some false
  ff : PySem.W.exmOne K (.ref CF) (.ref CF) = some true
  pr : PySem.W.kitOne K (.ref CR) (.ref CP) = some true
  pf : PySem.W.kitOne K (.ref CF) (.ref CP) = some true
  d1 : DefK K mg "is_number" sIsNumber
  d2 : DefK K mg "is_sequence" sIsSequence
  d3 : DefK K mg "_is_table" sIsTable
  d4 : DefK K mg "is_deed" sIsDeed
  d5 : DefK K mg "check_row" sCheckRow
  d6 : DefK K mg "repeat_end" sRepeatEnd
  d7 : DefK K mg "repeat_steps" sRepeatSteps
  d8 : DefK K mg "nth_row" sNthRow
  d9 : DefK K mg "row_place" sRowPlace
  d10 : DefK K mg "_row_count" sRowCount
  l1 : DefK K mg "_law_box" sLawBox
  l2 : DefK K mg "_law_take" sLawTake
  l3 : DefK K mg "_law_pick" sLawPick
  l4 : DefK K mg "_law_is_repeating" sLawIsRep
  l5 : DefK K mg "_law_row" sLawRow
  l6 : DefK K mg "_law_heard" sLawHeard
  l7 : DefK K mg "_law_divisor" sLawDivisor
  l8 : DefK K mg "_law_repeats_right" sLawRepeats
  l9 : DefT K h mg "_law_numbers_right" sLawNumbers c2 T2
  l10 : DefT K h mg "law" sLaw c1 T1
  ne : T1 ≠ T2
theorem law_top {l : PySem.W.OpenLaw} {w : World} {K : PySem.W.Frag} {mg : Str → Option Value} {fa : Addr} {h : Heap} {CM CR CF CP c1 c2 T1 T2 fm : Addr} (T : Top2 K h mg CM CR CF CP c1 c2 T1 T2 fm) (hfa : mg "law" = some (.ref fa)) : LawG l w K 9 63 "script" mg fa h := by
  obtain ⟨f, fd, hm, F, hcode⟩ := T.l10.ex
  rw [hfa] at hm
  cases hm
  refine ⟨fd, [(c1, T1), (c2, T2)], spLaw K [(T1, (("law" : Str) ++ ".<locals>.") ++ "<lambda>"), (T2, (("_law_numbers_right" : Str) ++ ".<locals>.") ++ "<lambda>")], ?_, ?_, ?_, ?_⟩
  · intro p hp
    simp only [List.mem_cons, List.not_mem_nil, or_false] at hp
    rcases hp with rfl | rfl
    · exact ⟨T.l10.at_, T.l10.no, T.l10.hd⟩
    · exact ⟨T.l9.at_, T.l9.no, T.l9.hd⟩
  · intro s u
    obtain ⟨oc, od, kV, doc, pm, an, cdv, ct, osl, rfl, _, _⟩ := F.ex
    exact .of_eq rfl
  · intro H a ns hl hH hS
    refine ⟨a, ns, rfl, hS, fun p hp => ?_, fun _ => rfl⟩
    simp only [List.mem_cons, List.not_mem_nil, or_false] at hp
    rcases hp with rfl | rfl
    · exact LamX.TabS.nil (hH (c1, T1) List.mem_cons_self)
    · exact LamX.TabS.nil (hH (c2, T2) (List.mem_cons_of_mem _ List.mem_cons_self))
  · intro base KB TB
    have tb1 := TB (c1, T1) List.mem_cons_self
    have tb2 := TB (c2, T2) (List.mem_cons_of_mem _ List.mem_cons_self)
    have ErR : Err l.prog w K mg base "BadRow" "at" CR := T.eR.badRow
    have ErF : Err l.prog w K mg base "Refused" "at" CF := T.eF.refused
    obtain ⟨tkR, gR⟩ := T.gR
    obtain ⟨tkD, gD⟩ := T.gD
    obtain ⟨tkS, gS⟩ := T.gS
    have G1 : Has l.prog w K mg base L2.CX0 1 "is_number" ["value", "least", "greatest"] (spIsNumber K) := T.d1.has (fun f fd F => F.binds fun _ _ _ _ _ _ us hl => match us, hl with | [_, _, _], _ => rfl) fun f fd F => ok_is_number F T.B
    have G2 : Has l.prog w K mg base L2.CX0 1 "is_sequence" ["value", "fewest", "most"] (spIsSequence K) := T.d2.has (fun f fd F => F.binds fun _ _ _ _ _ _ us hl => match us, hl with | [_, _, _], _ => rfl) fun f fd F => ok_is_sequence F T.B
    have G3 : Has l.prog w K mg base L2.CX0 2 "_is_table" ["value", "first"] (spIsTable K) := T.d3.has (fun f fd F => F.binds fun _ _ _ _ _ _ us hl => match us, hl with | [_, _], _ => rfl) fun f fd F => ok_is_table F T.B gS G2 G1
    have G4 : Has l.prog w K mg base L2.CX0 2 "is_deed" ["machine", "value"] (spIsDeed K CM) := T.d4.has (fun f fd F => F.binds fun _ _ _ _ _ _ us hl => match us, hl with | [_, _], _ => rfl) fun f fd F => ok_is_deed F T.M G1
    have G5 : Has l.prog w K mg base (L2.CX l.prog w) 4 "check_row" ["machine", "value"] (spCheckRow K CM CR) := T.d5.has (fun f fd F => F.binds fun _ _ _ _ _ _ us hl => match us, hl with | [_, _], _ => rfl) fun f fd F => ok_check_row F T.B gR ErR G2 G4
    have G6 : Has l.prog w K mg base (L2.CX l.prog w) 5 "repeat_end" ["machine", "row", "step"] (spRepeatEnd K CM CR CF) := T.d6.has (fun f fd F => F.binds fun _ _ _ _ _ _ us hl => match us, hl with | [_, _, _], _ => rfl) fun f fd F => ok_repeat_end F T.B gR ErF G1 G5
    have G7 : Has l.prog w K mg base (L2.CX l.prog w) 5 "repeat_steps" ["machine", "row"] (spRepeatSteps K CM CR) := T.d7.has (fun f fd F => F.binds fun _ _ _ _ _ _ us hl => match us, hl with | [_, _], _ => rfl) fun f fd F => ok_repeat_steps F T.B G5
    have G10 : Has l.prog w K mg base L2.CX0 1 "_row_count" ["machine", "many"] (spRowCount K CM) := T.d10.has (fun f fd F => F.binds fun _ _ _ _ _ _ us hl => match us, hl with | [_, _], _ => rfl) fun f fd F => ok_row_count F T.B T.M
    have G8 : Has l.prog w K mg base (L2.CX l.prog w) 4 "nth_row" ["machine", "many", "number"] (spNthRow K CM CF) := T.d8.has (fun f fd F => F.binds fun _ _ _ _ _ _ us hl => match us, hl with | [_, _, _], _ => rfl) fun f fd F => ok_nth_row F T.B T.M gR ErF G1 G10
    have G9 : Has l.prog w K mg base (L2.CX l.prog w) 5 "row_place" ["machine", "row"] (spRowPlace K CM CR) := T.d9.has (fun f fd F => F.binds fun _ _ _ _ _ _ us hl => match us, hl with | [_, _], _ => rfl) fun f fd F => ok_row_place F T.M G5
    have R6 : HasR l.prog w K mg base (L2.CX l.prog w) 5 "repeat_end" ["machine", "row", "step"] ["step", "row", "machine"] (spRepeatEnd K CM CR CF) := by
      obtain ⟨f, fd, hm, F⟩ := T.d6.ex
      refine ⟨f, fd, hm, F.kp, kb3 fun s u v x _ => ?_, ok_repeat_end F T.B gR ErF G1 G5⟩
      obtain ⟨oc, od, kV, doc, pm, an, cdv, ct, osl, rfl, _, _⟩ := F.ex
      exact .of_eq rfl
    have R7 : HasR l.prog w K mg base (L2.CX l.prog w) 5 "repeat_steps" ["machine", "row"] ["row", "machine"] (spRepeatSteps K CM CR) := by
      obtain ⟨f, fd, hm, F⟩ := T.d7.ex
      refine ⟨f, fd, hm, F.kp, kb2 fun s u v _ => ?_, ok_repeat_steps F T.B G5⟩
      obtain ⟨oc, od, kV, doc, pm, an, cdv, ct, osl, rfl, _, _⟩ := F.ex
      exact .of_eq rfl
    have R8 : HasR l.prog w K mg base (L2.CX l.prog w) 4 "nth_row" ["machine", "many", "number"] ["number", "many", "machine"] (spNthRow K CM CF) := by
      obtain ⟨f, fd, hm, F⟩ := T.d8.ex
      refine ⟨f, fd, hm, F.kp, kb3 fun s u v x _ => ?_, ok_nth_row F T.B T.M gR ErF G1 G10⟩
      obtain ⟨oc, od, kV, doc, pm, an, cdv, ct, osl, rfl, _, _⟩ := F.ex
      exact .of_eq rfl
    have R9 : HasR l.prog w K mg base (L2.CX l.prog w) 5 "row_place" ["machine", "row"] ["row", "machine"] (spRowPlace K CM CR) := by
      obtain ⟨f, fd, hm, F⟩ := T.d9.ex
      refine ⟨f, fd, hm, F.kp, kb2 fun s u v _ => ?_, ok_row_place F T.M G5⟩
      obtain ⟨oc, od, kV, doc, pm, an, cdv, ct, osl, rfl, _, _⟩ := F.ex
      exact .of_eq rfl
    have MM : MkM l.prog w K mg base CM := by
      obtain ⟨fd, F⟩ := T.mi
      exact ⟨fm, fd, T.mkm, ok_machine F T.B T.M gD G2 G3, T.mM, F.binds fun _ _ _ _ _ _ us hl => match us, hl with | [_, _], _ => rfl⟩
    have ea : ∃ CP, Ears K mg CR CF CP := ⟨CP, T.eR.gC, T.eF.gC, T.mP, T.rr, T.fr, T.ff, T.pr, T.pf, T.eR.xf, T.eF.xf, T.eR.ec, T.eF.ec, T.eR.no, T.eF.no⟩
    have ear : EarDef K mg := by
      obtain ⟨f, fd, hm, F⟩ := T.l6.ex
      exact ⟨f, fd, hm, F, F.binds fun _ _ _ _ _ _ us hl => match us, hl with | [_], _ => rfl⟩
    have L1 : Has l.prog w K mg base L2.CX0 1 "_law_box" ["script", "k"] (spLawBox K) := T.l1.has (fun f fd F => F.binds fun _ _ _ _ _ _ us hl => match us, hl with | [_, _], _ => rfl) fun f fd F => ok_law_box F T.B
    have L2' : Has l.prog w K mg base L2.CX0 1 "_law_take" ["box", "many"] spLawTake := T.l2.has (fun f fd F => F.binds fun _ _ _ _ _ _ us hl => match us, hl with | [_, _], _ => rfl) fun f fd F => ok_law_take F T.B
    have L3 : Has l.prog w K mg base L2.CX0 2 "_law_pick" ["box", "some"] (spLawPick K) := T.l3.has (fun f fd F => F.binds fun _ _ _ _ _ _ us hl => match us, hl with | [_, _], _ => rfl) fun f fd F => ok_law_pick F T.B L2'
    have L4 : Has l.prog w K mg base L2.CX0 1 "_law_is_repeating" ["row", "step"] (spIsRep K) := T.l4.has (fun f fd F => F.binds fun _ _ _ _ _ _ us hl => match us, hl with | [_, _], _ => rfl) fun f fd F => ok_is_rep F T.B
    have L5 : Has l.prog w K mg base L2.CX0 2 "_law_row" ["box", "deeds"] spLawRow := T.l5.has (fun f fd F => F.binds fun _ _ _ _ _ _ us hl => match us, hl with | [_, _], _ => rfl) fun f fd F => ok_law_row F T.B L2'
    have L7 : Has l.prog w K mg base L2.CX0 1 "_law_divisor" ["one", "other"] spDivisor := T.l7.has (fun f fd F => F.binds fun _ _ _ _ _ _ us hl => match us, hl with | [_, _], _ => rfl) fun f fd F => ok_divisor F T.B
    have L8 : HasG l.prog w K mg base 6 "_law_repeats_right" ["box", "machine", "row"] (spRepeats K CM) := by
      obtain ⟨f, fd, hm, F⟩ := T.l8.ex
      exact ⟨f, fd, hm, F.kp, F.binds fun _ _ _ _ _ _ us hl => match us, hl with | [_, _, _], _ => rfl, ok_repeats F T.B L4 L7 G6 R6 G7 R7⟩
    have two : ∀ {p : Addr × Str} {q1 q2 : Str}, p ∈ [(T1, q1), (T2, q2)] → (p.1 = T1 → p.2 = q1) ∧ (p.1 = T2 → p.2 = q2) := fun {p q1 q2} hp => by
      simp only [List.mem_cons, List.not_mem_nil, or_false] at hp
      rcases hp with rfl | rfl
      · exact ⟨fun _ => rfl, fun e => absurd e T.ne⟩
      · exact ⟨fun e => absurd e.symm T.ne, fun _ => rfl⟩
    have L9 : HasG l.prog w K mg base 8 "_law_numbers_right" ["box", "machine", "deeds"] (spNumbers K CM [(T1, (("law" : Str) ++ ".<locals>.") ++ "<lambda>"), (T2, (("_law_numbers_right" : Str) ++ ".<locals>.") ++ "<lambda>")]) := by
      obtain ⟨f, fd, hm, F, hc⟩ := T.l9.ex
      refine ⟨f, fd, hm, F.kp, F.binds fun _ _ _ _ _ _ us hl => match us, hl with | [_, _, _], _ => rfl, ok_numbers (CP := CP) F hc tb2 (fun X e => ?_) (fun X e p hp e1 => ?_) T.B ear ea L2' L3 G8 R8 G9 R9⟩
      · show (T2, X.env.qual ++ "<lambda>") ∈ _
        rw [e]
        exact List.mem_cons_of_mem _ List.mem_cons_self
      · show p.2 = X.env.qual ++ "<lambda>"
        rw [e]
        exact (two hp).2 e1
    refine ok_law F hcode tb1 (fun X e => ?_) (fun X e p hp e1 => ?_) T.B ear ea MM L1 L2' L3 L5 L8 L9 G6 G7 G9
    · show (T1, X.env.qual ++ "<lambda>") ∈ _
      rw [e]
      exact List.mem_cons_self
    · show p.2 = X.env.qual ++ "<lambda>"
      rw [e]
      exact (two hp).1 e1
end Lw

set_option Elab.async false
set_option linter.all false
set_option maxRecDepth 100000
set_option maxHeartbeats 4000000
namespace Lw
open PySem PySem.Spec PyProof.Rows L2 Lx Pg
theorem err_mk {K : PySem.W.Frag} {h : Heap} {mg : Str → Option Value} (X : K.In h) (G : h.Ns mainGlobals mg) {x qual : Str} {st : Stmt} {C f : Addr} {od an : Option Addr} {sl : Array (Option Value)} {oc kV doc pm cd ct : Value}
    {nm q : Str} {N : Addr} {bs bm : List Value} {sn : List Str} {sub : List Value} {ab : Bool} {col : Option Bool} {dd : Option Addr} {m0 m1 m2 m3 m5 : Option Value}
    (a : PySem.W.nsIn K mainGlobals x = some (some (.ref C))) (xl : K.lookup C = some (excClassObj nm q C N bs bm true sn sub ab col dd m0 m1 m2 m3 m5 "ValueError.__new__")) (rv : PySem.HandSPX.refsVE bm = true) (sa : PySem.W.findIn K (.ref C) "__setattr__" = some (some (.builtin "object.__setattr__")))
    (ga : PySem.W.findIn K (.ref C) "__getattribute__" = some (some (.builtin "BaseException.__getattribute__"))) (gg : PySem.W.findIn K (.ref C) "__getattr__" = some none) (no : PySem.W.findIn K (.ref C) "at" = some none)
    (kC : PySem.W.keepIn K (.ref C) = true) (eC : PySem.W.subIn K (.ref C) (.type "BaseException") = some true) (tC : PySem.W.typeIn K (.ref C) = some (.type "type")) (hC : PySem.W.hasDictIn K C = true)
    (ha : PySem.W.findIn K (.ref C) "__class__" = some (some (.builtin "object.__class__"))) (hn : PySem.W.specialIn K (.builtin "object.__class__") "__get__" = some (some (.builtin "getset_descriptor.__get__"))) (ht : PySem.W.takesIn K (.builtin "object.__class__") = some true) (hm : PySem.W.mroIn K C (.type "object") = some true)
    (i : PySem.W.findIn K (.ref C) "__init__" = some (some (.ref f))) (t : PySem.W.typeIn K (.ref f) = some (.type "function"))
    (l : K.lookup f = some ⟨oc, od, .func (PySem.W.fnOf "__init__" qual (defArgs st) (defBody st) (defScope st) .none kV doc pm an cd ct), sl⟩) (c : PySem.W.codeIn K cd qual = true) (k : PySem.W.keepIn K (.ref f) = true) : ErrK1 K mg x qual st C :=
  errK1 X G ⟨⟨nm, q, N, bs, bm, sn, sub, ab, col, dd, m0, m1, m2, m3, m5, xl, rv⟩, sa, eC, tC, kC⟩ ⟨ga, gg, eC, hC, ha, hn, ht, hm⟩ no a i t l c k
theorem bare_mk {K : PySem.W.Frag} {h : Heap} {mg : Str → Option Value} (X : K.In h) (G : h.Ns mainGlobals mg) (z : ∀ x ∈ (["isinstance", "int", "bool", "list", "tuple", "len", "range", "enumerate", "reversed", "divmod", "min", "all", "repr", "abs"] : List Str), PySem.W.nsIn K mainGlobals x = some none) : Bare mg := by
  have m : ∀ x ∈ (["isinstance", "int", "bool", "list", "tuple", "len", "range", "enumerate", "reversed", "divmod", "min", "all", "repr", "abs"] : List Str), mg x = none := fun x hx => PySem.W.mg_none_of X G (z x hx)
  exact ⟨m _ (by simp), m _ (by simp), m _ (by simp), m _ (by simp), m _ (by simp), m _ (by simp), m _ (by simp), m _ (by simp), m _ (by simp), m _ (by simp), m _ (by simp), m _ (by simp), m _ (by simp), m _ (by simp)⟩
theorem mgInt {K : PySem.W.Frag} {h : Heap} {mg : Str → Option Value} (X : K.In h) (G : h.Ns mainGlobals mg) {x : Str} {n : Int} {t : Tok} (a : PySem.W.nsIn K mainGlobals x = some (some (.int n t))) : ∃ tk, mg x = some (.int n tk) := ⟨t, PySem.W.mg_of X G a⟩
theorem kit_ref {K : PySem.W.Frag} {C D : Addr} (hd : PySem.W.hasDictIn K C = true) (ht : PySem.W.typeIn K (.ref C) = some (.type "type")) (h : PySem.W.subIn K (.ref D) (.ref C) = some true) : PySem.W.kitOne K (.ref D) (.ref C) = some true := by
  obtain ⟨cd, hc, _⟩ := PySem.W.any_some hd
  have e : ((PySem.W.clsIn K C).isSome && PySem.W.typeIn K (.ref C) == some (.type "type")) = true := by rw [hc, ht] <;> rfl
  show (if ((Value.ref D) == (Value.ref C)) = true then some true else (if ((PySem.W.clsIn K C).isSome && PySem.W.typeIn K (.ref C) == some (.type "type")) = true then PySem.W.subIn K (.ref D) (.ref C) else none)) = some true
  rw [if_pos e, h]
  split <;> rfl
theorem mach_mk {K : PySem.W.Frag} {C : Addr} (a : PySem.W.plainGet K C Str.empty = true) (b : PySem.W.hasDictIn K C = true) (c : PySem.W.plainOver K C = true) (d : PySem.W.findIn K (.ref C) "__setattr__" = some (some (.builtin "object.__setattr__")))
    (e : PySem.W.findIn K (.ref C) "deeds" = some none) (f : PySem.W.findIn K (.ref C) "states" = some none) (g : PySem.W.findIn K (.ref C) "tables" = some none) : MachC K C := ⟨⟨a, b, c, d⟩, e, f, g⟩
end Lw
open PySem PySem.W PyProof.Rows
set_option maxRecDepth 100000
set_option maxHeartbeats 0
theorem PySem.Challenge.cw_pagesagain_k02_whole_rows_that_repeat_an_holds : PySem.Challenge.rw_pagesagain_k02_whole_rows_that_repeat_an.Holds := by
  w_on; o_law; k_head; (case hw => w_witness2)
  k_fill
  refine Lx.end_walk (l := PySem.Challenge.rw_pagesagain_k02_whole_rows_that_repeat_an) (n := 63) (k := 9) (x := "script") rfl (by decide) rfl ⟨rfl, by decide, by decide⟩ (fun w h Y => PySem.W.km_in_of Y) ?F
  case F =>
    intro w mg fa h Y KX G hmg
    refine' Lw.law_top (T1 := 231) (T2 := 226) ⟨?qB, ?qM, ?qmkm, ?qmi, ?qmM, ?qgR, ?qgD, ?qgS, ?qeR, ?qeF, ?qmP, ?qrr, ?qfr, ?qff, ?qpr, ?qpf, ?qd1, ?qd2, ?qd3, ?qd4, ?qd5, ?qd6, ?qd7, ?qd8, ?qd9, ?qd10, ?ql1, ?ql2, ?ql3, ?ql4, ?ql5, ?ql6, ?ql7, ?ql8, ?ql9, ?ql10, ?qne⟩ hmg
    (case qmM =>
      refine' PySem.W.mg_of KX G ?qz
      (case qz => k_is))
    (case qM =>
      refine' Lw.mach_mk ?qa ?qb ?qc ?qd ?qe ?qf ?qg
      (case qa => k_is); (case qb => k_is); (case qc => k_is); (case qd => k_is); (case qe => k_is); (case qf => k_is); (case qg => k_is))
    (case qmkm =>
      refine' ⟨?qa, ?qb, ?qc, ?qd⟩
      (case qa => k_is); (case qb => k_is); (case qc => k_is); (case qd => k_is))
    (case qmi =>
      refine' ⟨_, L2.fun_mk ?ql ?qc ?qk⟩
      (case ql => k_is); (case qc => k_is); (case qk => k_is))
    (case qgR =>
      refine' Lw.mgInt KX G ?qz
      (case qz => k_is))
    (case qgD =>
      refine' Lw.mgInt KX G ?qz
      (case qz => k_is))
    (case qgS =>
      refine' Lw.mgInt KX G ?qz
      (case qz => k_is))
    (case qeR =>
      refine' Lw.err_mk KX G ?qa ?qxl ?qrv ?qsa ?qga ?qgg ?qno ?qkC ?qeC ?qtC ?qhC ?qha ?qhn ?qht ?qhm ?qi ?qt ?ql ?qc ?qk
      (case qa => k_is); (case qxl => k_is); (case qrv => decide +kernel); (case qsa => k_is); (case qga => k_is); (case qgg => k_is); (case qno => k_is); (case qkC => k_is); (case qeC => k_is); (case qtC => k_is); (case qhC => k_is); (case qha => k_is); (case qhn => k_is); (case qht => k_is); (case qhm => k_is); (case qi => k_is); (case qt => k_is); (case ql => k_is); (case qc => k_is); (case qk => k_is))
    (case qeF =>
      refine' Lw.err_mk KX G ?qa ?qxl ?qrv ?qsa ?qga ?qgg ?qno ?qkC ?qeC ?qtC ?qhC ?qha ?qhn ?qht ?qhm ?qi ?qt ?ql ?qc ?qk
      (case qa => k_is); (case qxl => k_is); (case qrv => decide +kernel); (case qsa => k_is); (case qga => k_is); (case qgg => k_is); (case qno => k_is); (case qkC => k_is); (case qeC => k_is); (case qtC => k_is); (case qhC => k_is); (case qha => k_is); (case qhn => k_is); (case qht => k_is); (case qhm => k_is); (case qi => k_is); (case qt => k_is); (case ql => k_is); (case qc => k_is); (case qk => k_is))
    (case qmP =>
      refine' PySem.W.mg_of KX G ?qz
      (case qz => k_is))
    (case qrr =>
      refine' PySem.W.exm_ref ?qa ?qb ?qc ?qd
      (case qa => k_is); (case qb => k_is); (case qc => k_is); (case qd => first | rfl | k_is))
    (case qfr =>
      refine' PySem.W.exm_ref ?qa ?qb ?qc ?qd
      (case qa => k_is); (case qb => k_is); (case qc => k_is); (case qd => k_is))
    (case qff =>
      refine' PySem.W.exm_ref ?qa ?qb ?qc ?qd
      (case qa => k_is); (case qb => k_is); (case qc => k_is); (case qd => first | rfl | k_is))
    (case qpr =>
      refine' Lw.kit_ref ?qa ?qb ?qc
      (case qa => k_is); (case qb => k_is); (case qc => k_is))
    (case qpf =>
      refine' Lw.kit_ref ?qa ?qb ?qc
      (case qa => k_is); (case qb => k_is); (case qc => k_is))
    (case qd1 =>
      refine' Lw.defK KX G ?qa ?ql ?qc ?qk
      (case qa => k_is); (case ql => k_is); (case qc => k_is); (case qk => k_is))
    (case qd2 =>
      refine' Lw.defK KX G ?qa ?ql ?qc ?qk
      (case qa => k_is); (case ql => k_is); (case qc => k_is); (case qk => k_is))
    (case qd3 =>
      refine' Lw.defK KX G ?qa ?ql ?qc ?qk
      (case qa => k_is); (case ql => k_is); (case qc => k_is); (case qk => k_is))
    (case qd4 =>
      refine' Lw.defK KX G ?qa ?ql ?qc ?qk
      (case qa => k_is); (case ql => k_is); (case qc => k_is); (case qk => k_is))
    (case qd5 =>
      refine' Lw.defK KX G ?qa ?ql ?qc ?qk
      (case qa => k_is); (case ql => k_is); (case qc => k_is); (case qk => k_is))
    (case qd6 =>
      refine' Lw.defK KX G ?qa ?ql ?qc ?qk
      (case qa => k_is); (case ql => k_is); (case qc => k_is); (case qk => k_is))
    (case qd7 =>
      refine' Lw.defK KX G ?qa ?ql ?qc ?qk
      (case qa => k_is); (case ql => k_is); (case qc => k_is); (case qk => k_is))
    (case qd8 =>
      refine' Lw.defK KX G ?qa ?ql ?qc ?qk
      (case qa => k_is); (case ql => k_is); (case qc => k_is); (case qk => k_is))
    (case qd9 =>
      refine' Lw.defK KX G ?qa ?ql ?qc ?qk
      (case qa => k_is); (case ql => k_is); (case qc => k_is); (case qk => k_is))
    (case qd10 =>
      refine' Lw.defK KX G ?qa ?ql ?qc ?qk
      (case qa => k_is); (case ql => k_is); (case qc => k_is); (case qk => k_is))
    (case ql1 =>
      refine' Lw.defK KX G ?qa ?ql ?qc ?qk
      (case qa => k_is); (case ql => k_is); (case qc => k_is); (case qk => k_is))
    (case ql2 =>
      refine' Lw.defK KX G ?qa ?ql ?qc ?qk
      (case qa => k_is); (case ql => k_is); (case qc => k_is); (case qk => k_is))
    (case ql3 =>
      refine' Lw.defK KX G ?qa ?ql ?qc ?qk
      (case qa => k_is); (case ql => k_is); (case qc => k_is); (case qk => k_is))
    (case ql4 =>
      refine' Lw.defK KX G ?qa ?ql ?qc ?qk
      (case qa => k_is); (case ql => k_is); (case qc => k_is); (case qk => k_is))
    (case ql5 =>
      refine' Lw.defK KX G ?qa ?ql ?qc ?qk
      (case qa => k_is); (case ql => k_is); (case qc => k_is); (case qk => k_is))
    (case ql6 =>
      refine' Lw.defK KX G ?qa ?ql ?qc ?qk
      (case qa => k_is); (case ql => k_is); (case qc => k_is); (case qk => k_is))
    (case ql7 =>
      refine' Lw.defK KX G ?qa ?ql ?qc ?qk
      (case qa => k_is); (case ql => k_is); (case qc => k_is); (case qk => k_is))
    (case ql8 =>
      refine' Lw.defK KX G ?qa ?ql ?qc ?qk
      (case qa => k_is); (case ql => k_is); (case qc => k_is); (case qk => k_is))
    (case ql9 =>
      refine' Lw.defT KX G ?qa ?ql ?qc ?qk ?qe ?qn ?qt
      (case qa => k_is); (case ql => k_is); (case qc => k_is); (case qk => k_is); (case qe => kernel_rfl); (case qn => kernel_rfl)
      (case qt => exact PySem.W.km_tabs_of Y _ (by decide)))
    (case ql10 =>
      refine' Lw.defT KX G ?qa ?ql ?qc ?qk ?qe ?qn ?qt
      (case qa => k_is); (case ql => k_is); (case qc => k_is); (case qk => k_is); (case qe => kernel_rfl); (case qn => kernel_rfl)
      (case qt => exact PySem.W.km_tabs_of Y _ (by decide)))
    (case qne => decide)
    (case qB =>
      refine' Lw.bare_mk KX G ?qz
      (case qz =>
        intro x hx
        simp only [List.mem_cons, List.not_mem_nil, or_false] at hx
        rcases hx with rfl | rfl | rfl | rfl | rfl | rfl | rfl | rfl | rfl | rfl | rfl | rfl | rfl | rfl <;> k_is))
