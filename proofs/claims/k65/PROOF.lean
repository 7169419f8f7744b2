import PyProof.Rows.All
import Wide.All
import OpenK.AllK
import Wide.FinOn
import HandS.ForMost
import HandS.ForExc
import HandS.EndTab
import HandS.Nested
import PyProof.ReprRoads
import PyProof.ReprBulk
import PyProof.ReprText
import KE.KNestM
import HandS.Conv
import HandS.Style
import HandS.Zip
import HandS.IsInst
import HandS.WideBits
import HandS.SetFor
import KE.KSuper
import HandS.ExcSuper
import HandS.More
import HandS.Head0
import HandS.Head1
import HandS.Head2
import HandS.HeadHook4
import HandS.Defaults
import HandS.MakeKwOnly
import HandS.Deep
import HandS.ListItems
import HandS.Walk
import HandS.Strs
import HandS.ExcIs
import HandS.Rev
import HandS.Iter
import PySem.Challenge.RW_noaslong_k65_which_heap_is_later
set_option Elab.async false
set_option linter.all false
set_option maxRecDepth 100000
set_option maxHeartbeats 4000000
/-! Defs whose promise leans on it that no repr is under way around them (repr of a list looks down the stack): the promise FnG, its body, its call, the law's end. -/
namespace Nal
open PySem PySem.Spec PyProof.Rows L2 LamX
/-- as FnOk, where no guard stands on the stack -/
structure FnG (P : Program) (w : World) (K : PySem.W.Frag) (mg : Str → Option Value) (base : Heap) (CX : CXT)
    (k : Nat) (f : Addr) (fd : FuncData) (ps : List Str) (sp : Sp) : Prop where
  len : ∀ vs H Q E, sp vs H Q E → vs.length = ps.length
  go : ∀ (A : Around) (outer : List Env) (s : Shared) (H : Hp) (args : Args) (us : List Value) (vs : List V) (Q : VK) (E : XK),
    A.guards = some [] → Room k A → Env0 P w K mg base A outer s H → BindsTo s fd args (ps.zip us) → Vals vs us →
    sp vs H Q E → codeAny (model P w) A (.call (.ref f) args) (CR CX outer P w H s Q E) s
section
variable {P : Program} {w : World} {K : PySem.W.Frag} {mg : Str → Option Value} {base : Heap}
/-- a def by its body, the guards told -/
theorem okG {x qual : Str} {st : Stmt} {f : Addr} {fd : FuncData} {N ps : List Str} {k : Nat} {sp : Sp}
    (F : Fun K x qual st f fd) (S : FnScope N ps (defScope st)) (len : ∀ vs H Q E, sp vs H Q E → vs.length = ps.length)
    (hbody : ∀ (cdv : Value) (A : Around) (outer : List Env) (s : Shared) (H : Hp) (vs : List V) (Q : VK) (E : XK), A.guards = some [] →
      Room k (A.deeper (envOfC qual (defScope st) s.heap.objs.size f cdv)) → sp vs H Q E →
      ∃ t, PSs (cxOf CX0 P w K mg base N qual (defScope st) f cdv A outer s H E).nox (defBody st) t ∧
        t { nx := fun _ H' => Q .non H', rt := Q } (start N vs) H) :
    FnG P w K mg base CX0 (k + 1) f fd ps sp := by
  obtain ⟨oc, od, kV, doc, pm, an, cdv, ct, osl, rfl, lk, hcd⟩ := F.ex
  refine ⟨len, fun A outer s H args us vs Q E hgd hr e0 hb r hsp => ?_⟩
  refine run_ofS lk hcd S hr e0 hb r (len _ _ _ _ hsp) fun hr' => ?_
  obtain ⟨t, h, q⟩ := hbody cdv A outer s H vs Q E hgd hr' hsp
  exact ⟨t, h.nox, q⟩
end
/-- a plain promise is one here, too -/
theorem FnG.of {P : Program} {w : World} {K : PySem.W.Frag} {mg : Str → Option Value} {base : Heap} {CX : CXT} {k : Nat} {f : Addr}
    {fd : FuncData} {ps : List Str} {sp : Sp} (F : FnOk P w K mg base CX k f fd ps sp) : FnG P w K mg base CX k f fd ps sp :=
  ⟨F.len, fun A outer s H args us vs Q E _ hr => F.run A outer s H args us vs Q E hr⟩
section
variable {X : Cx} {CX : CXT} {k : Nat} {f : Addr} {fd : FuncData} {ps : List Str} {sp : Sp} {dvs : List V} {ds : List Value} {E : XK}
variable {x : Str} {p pos : Pos} {e : Expr} {es : List Expr} {t : TA}
theorem goG {pins : List (Addr × Obj)} {σ : L2.St} {H : Hp} {s : Shared} {Q : VK} {us : List Value} {vs : List V}
    (F : FnG X.prog X.w X.K X.mg X.base CX k f fd ps sp) (hgd : X.A.guards = some []) (hr : Room k X.A)
    (hb : Binds X.K fd ps ds) (hd : Vals dvs ds) (hx : Passes CX X E) (I : Inv X pins σ H s) (r : Vals vs us)
    (h : sp (vs ++ dvs) H Q E) : wpAny (model X.prog X.w) X.A (call (.ref f) us) (EP X pins σ Q) X.xe s := by
  have both : Vals (vs ++ dvs) (us ++ ds) := r.append hd
  have many : (us ++ ds).length = ps.length := by
    rw [← both.length]
    exact F.len _ _ _ _ h
  have run := F.go X.A X.stack s H ⟨us, []⟩ (us ++ ds) (vs ++ dvs) Q E hgd hr I.env0 (hb s us I.kIn many) both h
  refine wpAny_call (codeAny_mono run fun res s' z => ?_)
  match res, z with
  | .error e, z => exact hx pins σ H s e s' I z
  | .ok (.ret u), z => exact I.after z
  | .ok .next, z => exact False.elim z
  | .ok .brk, z => exact False.elim z
  | .ok .cont, z => exact False.elim z
/-- f(e, ..) -/
theorem pe_callG (F : FnG X.prog X.w X.K X.mg X.base CX k f fd ps sp) (hgd : X.A.guards = some []) (hr : Room k X.A)
    (hg : Gl X x) (hm : X.mg x = some (.ref f)) (hk : PySem.W.keepIn X.K (.ref f) = true) (hb : Binds X.K fd ps ds)
    (hd : Vals dvs ds) (hx : Passes CX X E) (ha : PA X (e :: es) t) (hdb : (x == ("__debug__" : Str)) = false := by decide)
    (he : starEach (e :: es) X.env = (false, eval e X.env) :: starEach es X.env := by rfl)
    (hpl : (backTo pos (starEach es X.env)).any (·.1) = false := by rfl) :
    PE X (.Call (.Name x p) (e :: es) [] pos) (tCall sp dvs E t) := by
  refine ⟨fun pins s σ H Q I h => wpAny_Call_Name_kw (ld_glob I hg hm ?_ hdb)⟩
  have args := ha.run pos pins s σ H _ I h
  refine PySem.W.callWith_K (h₀ := X.base) I.ok.mod.kin hk (thn args fun us s1 z => ?_) he hpl
  obtain ⟨vs, H1, I1, r, q⟩ := z
  exact ⟨I1.kIn, goG F hgd hr hb hd hx I1 r q⟩
end
end Nal

/-! repr of data (None, truths, whole numbers, texts, lists, tuples at any depth) by what is shown of them. -/
namespace Nal
open PySem PySem.Spec PyProof.Rows L2
/-- data whose repr is short enough: n its bulk at most, dp its depth at most -/
structure Showy (n dp : Nat) (d : PyData) : Prop where
  show_ : d.showable = true
  nod : d.hasDict = false
  dep : d.depth ≤ dp
  leaf : d.leavesShort 64 = true
  blk : d.bulk ≤ n
structure ShowyAll (n dp : Nat) (ds : List PyData) : Prop where
  show_ : PyData.showableAll ds = true
  nod : PyData.hasDictAll ds = false
  dep : PyData.depthAll ds ≤ dp
  leaf : PyData.leavesShortAll 64 ds = true
  blk : PyData.bulkAll ds ≤ n
theorem log2_lt {m : Nat} (h : m < 2 ^ 200) : m.log2 < 1920 := by
  by_cases e : m = 0
  · subst e
    decide
  · have : m.log2 < 200 := (Nat.log2_lt e).mpr h
    omega
theorem shown_int64 {i : Int} (h : i.natAbs < 10 ^ 40) : (PyData.shown (.int i)).length ≤ 64 := by
  have e := int_text_length_le10 (k := 40) (by decide) h
  have q : (Str.ofString (toString i)).length ≤ 41 := by
    rw [PySem.ofString_length]
    exact e
  rw [PyData.shown_int]
  exact Nat.le_trans q (by decide)
theorem Showy.none {n dp : Nat} : Showy n dp .none := ⟨by simp only [PyData.showable], by simp only [PyData.hasDict], by simp [PyData.depth], by simp only [PyData.leavesShort], by simp [PyData.bulk]⟩
theorem Showy.bool {n dp : Nat} (b : Bool) : Showy n dp (.bool b) := ⟨by simp only [PyData.showable], by simp only [PyData.hasDict], by simp [PyData.depth], by simp only [PyData.leavesShort], by simp [PyData.bulk]⟩
theorem Showy.int {n dp : Nat} {i : Int} (h : i.natAbs < 10 ^ 40) : Showy n dp (.int i) := by
  refine ⟨?_, by simp only [PyData.hasDict], by simp [PyData.depth], ?_, by simp [PyData.bulk]⟩
  · simp only [PyData.showable]
    exact decide_eq_true (log2_lt (Nat.lt_of_lt_of_le h (by decide)))
  · simp only [PyData.leavesShort]
    exact decide_eq_true (shown_int64 h)
theorem Showy.str {n dp : Nat} {x : Str} (h : ∀ c ∈ x.cps.toList, c < 16 ^ 8) (hl : x.cps.size ≤ n) : Showy n dp (.str x) := by
  refine ⟨by simp only [PyData.showable], by simp only [PyData.hasDict], by simp [PyData.depth], ?_, by simpa [PyData.bulk] using hl⟩
  simp only [PyData.leavesShort, List.all_eq_true, decide_eq_true_eq]
  exact h
theorem Showy.list {n dp : Nat} {ds : List PyData} (h : ShowyAll n dp ds) : Showy n (dp + 1) (.list ds) :=
  ⟨by simpa only [PyData.showable] using h.show_, by simpa only [PyData.hasDict] using h.nod, by simpa only [PyData.depth] using Nat.succ_le_succ h.dep,
    by simpa only [PyData.leavesShort] using h.leaf, by simpa only [PyData.bulk] using h.blk⟩
theorem Showy.tuple {n dp : Nat} {ds : List PyData} (h : ShowyAll n dp ds) : Showy n (dp + 1) (.tuple ds) :=
  ⟨by simpa only [PyData.showable] using h.show_, by simpa only [PyData.hasDict] using h.nod, by simpa only [PyData.depth] using Nat.succ_le_succ h.dep,
    by simpa only [PyData.leavesShort] using h.leaf, by simpa only [PyData.bulk] using h.blk⟩
theorem ShowyAll.nil {n dp : Nat} : ShowyAll n dp [] :=
  ⟨by simp only [PyData.showableAll], by simp only [PyData.hasDictAll], by simp [PyData.depthAll], by simp only [PyData.leavesShortAll], by simp [PyData.bulkAll]⟩
theorem ShowyAll.cons {m n dp : Nat} {d : PyData} {ds : List PyData} (h : Showy m dp d) (hs : ShowyAll n dp ds) : ShowyAll (m + 1 + n) dp (d :: ds) := by
  refine ⟨?_, ?_, ?_, ?_, ?_⟩
  · simp only [PyData.showableAll, h.show_, hs.show_, Bool.and_self]
  · simp only [PyData.hasDictAll, h.nod, hs.nod, Bool.or_self]
  · simp only [PyData.depthAll]
    exact Nat.max_le.mpr ⟨h.dep, hs.dep⟩
  · simp only [PyData.leavesShortAll, h.leaf, hs.leaf, Bool.and_self]
  · simp only [PyData.bulkAll]
    have := h.blk
    have := hs.blk
    omega
theorem Showy.mono {m n dp dq : Nat} {d : PyData} (h : Showy m dp d) (hm : m ≤ n) (hd : dp ≤ dq) : Showy n dq d :=
  ⟨h.show_, h.nod, Nat.le_trans h.dep hd, h.leaf, Nat.le_trans h.blk hm⟩
theorem ShowyAll.mono {m n dp dq : Nat} {d : List PyData} (h : ShowyAll m dp d) (hm : m ≤ n) (hd : dp ≤ dq) : ShowyAll n dq d :=
  ⟨h.show_, h.nod, Nat.le_trans h.dep hd, h.leaf, Nat.le_trans h.blk hm⟩
/-- all items alike -/
theorem ShowyAll.of {m dp : Nat} : ∀ {ds : List PyData}, (∀ d ∈ ds, Showy m dp d) → ShowyAll ((m + 1) * ds.length) dp ds
  | [], _ => .nil
  | d :: r, h => (ShowyAll.cons (h d List.mem_cons_self) (ShowyAll.of (fun x hx => h x (List.mem_cons_of_mem _ hx)))).mono
      (by rw [List.length_cons, Nat.mul_succ]; omega) (Nat.le_refl _)
theorem ShowyAll.ints {ns : List Int} (h : ∀ z ∈ ns, z.natAbs < 10 ^ 40) : ShowyAll ns.length 0 (ns.map PyData.int) := by
  have q := ShowyAll.of (m := 0) (dp := 0) (ds := ns.map PyData.int) fun d hd => by
    obtain ⟨z, hz, rfl⟩ := List.mem_map.mp hd
    exact Showy.int (h z hz)
  rw [List.length_map] at q
  exact q.mono (by omega) (Nat.le_refl _)
theorem Showy.fits {n dp : Nat} {d : PyData} (h : Showy n dp d) (hn : n ≤ 200000) : d.shown.length ≤ sizeLine := by
  have q := PyData.shown_le_bulk 64 (by decide) d h.leaf
  have b := h.blk
  rw [sizeLine_eq]
  have : (64 + 2) * d.bulk ≤ 66 * 200000 := Nat.mul_le_mul_left _ (Nat.le_trans b hn)
  omega
/-- repr(x), x a list or a tuple of data -/
def rRepr (K : PySem.W.Frag) : List V → Hp → VK → Prop := fun xs H Q =>
  ∃ (a : Addr) (d : PyData), xs = [.ref a] ∧ Dp K H (.ref a) d ∧ Showy 200000 60 d ∧ Q (.str d.shown) H
theorem call_repr {X : Cx} {k : Nat} (hgd : X.A.guards = some []) (hr : Room k X.A) : CallR X (.builtin "repr") (rRepr X.K) := by
  intro pins s σ H xs us Q I r h
  obtain ⟨a, d, rfl, hd, hs, q⟩ := h
  cases r with
  | cons ra rn =>
    cases rn
    cases ra
    obtain ⟨as, rd⟩ := Dp.reads I d (.ref a) (.ref a) hd rfl
    have hu : X.A.units + (d.depth + 1) < cLine := by
      have h1 := hr.units
      have h2 := hs.dep
      omega
    refine repr_of_reads' rd hs.show_ (PyData.noDict_hsm hs.nod) hgd hu (fun _ _ e => e) (fun h' u tk hk => ?_) (hs.fits (Nat.le_refl _))
    exact ⟨.str d.shown, H, I.kept hk, ⟨_, rfl⟩, q⟩
end Nal

/-! g(e, lambda a: body): a lambda of one parameter, made in a def's body (captured names read), handed to a def of two parameters that calls it. -/
namespace Nal
open PySem PySem.Spec PyProof.Rows L2 LamX NdefX
/-- the lambda's words -/
def lamF (X : Cx) (params : Arguments) (scope : Scope) (c' : Addr) : NF :=
  ⟨"<lambda>", X.env.qual ++ "<lambda>", params, [], scope, cloFrom X.env.cells scope.names [], c'⟩
section
variable {X : Cx} {pins : List (Addr × Obj)} {σ : L2.St} {H : Hp} {s : Shared}
/-- the context of the def that got the lambda, entered at s -/
abbrev gotCx (X : Cx) (Ng : List Str) (qg : Str) (sg : Scope) (g : Addr) (cdg : Value) (s : Shared) (H : Hp) : Cx :=
  (cxOf CX0 X.prog X.w X.K X.mg X.base Ng qg sg g cdg X.A X.stack s H E0).nox
theorem cells_off (I : Inv X pins σ H s) (hfn : ∀ y, X.fn y = true) {y : Str} {c : Addr} (e : X.env.cells.lookup y = some c) : c ∉ frs X.stack := fun z => by
  rcases List.mem_cons.mp (I.stkSub c z) with q | q
  · exact I.cne y c e q
  · obtain ⟨_, o, ho, _⟩ := I.ok.funs.mem q
    exact Nat.lt_irrefl _ (Nat.lt_of_lt_of_le (Heap.lt_size ho) (I.ok.cab y c (hfn y) e))
/-- a(e) in the def that got the lambda by its parameter a (slot i) -/
theorem pe_act1 {Ng N fr : List Str} {js : List Nat} {qg x : Str} {sg : Scope} {g f c' : Addr} {cdg pm ctv : Value} {params : Arguments} {body e : Expr}
    {scope : Scope} {k i : Nat} {a : Str} {tb te : TE} {p1 p2 : Pos} (I : Inv X pins σ H s) (hfn : ∀ y, X.fn y = true)
    (S : NScope N [x] fr scope) (cp : Caps X (cloFrom X.env.cells scope.names []) fr js)
    (hf : s.heap.get? f = some (PySem.W.kla_obj "<lambda>" (X.env.qual ++ "<lambda>") params body scope (cloFrom X.env.cells scope.names []) pm c' ctv))
    (hn : H f = none) (hfr : f ∉ frs X.stack)
    (hbind : ∀ u : Value, bindArgs (PySem.W.kla_fn "<lambda>" (X.env.qual ++ "<lambda>") params body scope (cloFrom X.env.cells scope.names []) pm (.ref c') ctv) ⟨[u], []⟩ = pure [(x, u)])
    (hr : Room (k + 1) (X.A.deeper (envOfC qg sg s.heap.objs.size g cdg)))
    (hbody : ∀ (A : Around) (outer : List Env) (s : Shared) (H : Hp), Room k (A.deeper (envF (lamF X params scope c') f s.heap.objs.size)) →
      PE (ncx CX0 X.prog X.w X.K X.mg X.base N (lamF X params scope c') f A outer s H E0).nox body tb)
    (hN : Ng[i]? = some a) (hv : Vis sg a) (he : PE (gotCx X Ng qg sg g cdg s H) e te) (hd : (a == ("__debug__" : Str)) = false := by decide)
    (hcd : (a == ("__classdict__" : Str)) = false := by decide)
    (hst : starEach [e] (gotCx X Ng qg sg g cdg s H).env = (false, eval e (gotCx X Ng qg sg g cdg s H).env) :: starEach [] (gotCx X Ng qg sg g cdg s H).env := by rfl) :
    PE (gotCx X Ng qg sg g cdg s H) (.Call (.Name a p1) [e] [] p2)
      (fun σZ HZ Q => σZ[i]? = some (some (.ref f)) ∧ te σZ HZ fun v H1 => H1 c' = some (CodeO c' (X.env.qual ++ "<lambda>")) ∧ tb (startF N [v] (js.map (slotAt σ))) H1 Q) := by
  refine ⟨fun pinsZ sZ σZ HZ Q IZ h => ?_⟩
  obtain ⟨hs, ht⟩ := h
  have nm := (pe_var (X := gotCx X Ng qg sg g cdg s H) (pos := p1) (i := i) hN hv hd hcd).run pinsZ sZ σZ HZ (fun v H1 => v = .ref f ∧ H1 = HZ) IZ ⟨.ref f, hs, rfl, rfl⟩
  refine wpAny_Call_Name_kw (thn nm fun u s1 z => ?_)
  obtain ⟨v, H1, I1, r1, ev, eH⟩ := z
  subst ev
  rw [eH] at I1
  obtain rfl : u = Value.ref f := r1
  have stands : ∀ {sY : Shared} {σY : L2.St} {HY : Hp}, Inv (gotCx X Ng qg sg g cdg s H) pinsZ σY HY sY →
      sY.heap.get? f = some (PySem.W.kla_obj "<lambda>" (X.env.qual ++ "<lambda>") params body scope (cloFrom X.env.cells scope.names []) pm c' ctv) :=
    fun J => J.base.keep f _ hf hn hfr (fun z => nomatch (show f ∈ ([] : List Addr) from z))
  have at_ : ∀ {sY : Shared} {σY : L2.St} {HY : Hp}, Inv (gotCx X Ng qg sg g cdg s H) pinsZ σY HY sY → PySem.W.FnAt f sY.heap := fun J => ⟨_, _, _, _, stands J⟩
  have args := (pa_cons he (pa_nil (X := gotCx X Ng qg sg g cdg s H)) hst).run p2 pinsZ s1 σZ HZ (fun vs H1 => ∃ v, vs = [v] ∧ H1 c' = some (CodeO c' (X.env.qual ++ "<lambda>")) ∧ tb (startF N [v] (js.map (slotAt σ))) H1 Q) I1
    (by
      show te σZ HZ _
      have e0 : (fun (x : V) (H1 : Hp) => tNil σZ H1 fun xs H2 => ∃ v, x :: xs = [v] ∧ H2 c' = some (CodeO c' (X.env.qual ++ "<lambda>")) ∧ tb (startF N [v] (js.map (slotAt σ))) H2 Q)
          = fun v H1 => H1 c' = some (CodeO c' (X.env.qual ++ "<lambda>")) ∧ tb (startF N [v] (js.map (slotAt σ))) H1 Q := by
        funext v H1
        refine propext ⟨fun z => ?_, fun z => ⟨v, rfl, z⟩⟩
        obtain ⟨v', e1, z⟩ := z
        cases e1
        exact z
      rw [e0]
      exact ht)
  refine PySem.W.callWith_F (first := []) (at_ I1) (thn args fun us s2 z => ?_) hst rfl
  obtain ⟨vs, H2, I2, r2, v, ev, hc, hq⟩ := z
  subst ev
  refine ⟨at_ I2, ?_⟩
  cases r2 with
  | cons rv rn =>
    rename_i uv us'
    cases rn
    show wpAny _ _ (call (.ref f) [uv]) _ _ _
    have C0 : CellsAt (cloFrom X.env.cells scope.names []) fr (js.map (slotAt σ)) s.heap H := cells_of I cp
    have C2 : CellsAt (cloFrom X.env.cells scope.names []) fr (js.map (slotAt σ)) s2.heap H2 :=
      CellsAt.later (X := gotCx X Ng qg sg g cdg s H) C0 (fun y c e => cells_off I hfn (cp.sub y c e)) (fun y c e z => nomatch (show c ∈ ([] : List Addr) from z)) I2
    have cd := codeO_at I2.hok hc
    have run : codeAny (model X.prog X.w) (X.A.deeper (envOfC qg sg s.heap.objs.size g cdg)) (.call (.ref f) ⟨[uv], []⟩)
        (CR CX0 (envOfC qg sg s.heap.objs.size g cdg :: X.stack) X.prog X.w H2 s2 Q E0) s2 := by
      refine PySem.W.kla_callFunE hr.depth (stands I2) rfl S.co S.gen rfl cd ?_
      rw [hbind uv]
      refine wpAny_pure (wpAny_newFunctionEnv S.nocell (fun y hy => ?_) (fun h₁ hns hsb => ⟨I2.nolimit.fresh _ hsb, ?_⟩) S.kind)
      · have hy' : y = (x, uv) := by simpa using hy
        rw [hy']
        exact S.par x List.mem_cons_self
      show codeAny _ _ (.expr body (envF (lamF X params scope c') f s2.heap.objs.size)) _ _
      have kp : ∀ b o, s2.heap.get? b = some o → h₁.get? b = some o := fun b o q => hsb.extBut b o (Nat.ne_of_lt (Heap.lt_size q)) (Heap.get?_push_of_some _ q)
      have J : Inv (ncx CX0 X.prog X.w X.K X.mg X.base N (lamF X params scope c') f (X.A.deeper (envOfC qg sg s.heap.objs.size g cdg)) (envOfC qg sg s.heap.objs.size g cdg :: X.stack) s2 H2 E0) []
          (startF N [v] (js.map (slotAt σ))) H2 { s2 with heap := h₁, toks := s2.toks + ([(x, uv)] : List (Str × Value)).length } :=
        inv_startN (F := lamF X params scope c') (ps := [x]) (us := [uv]) S hr.hd I2.env0 rfl (.cons rv .nil) C2 hns kp
      refine PySem.W.kla_codeExpr (wpAny_mono ((hbody _ _ s2 H2 (hr.deeper _)).run [] _ _ H2 Q (J.wish _) hq) (fun u' s' z => ?_) fun e' s' z => False.elim z)
      obtain ⟨w', H', J', rw', q'⟩ := z
      exact ⟨w', H', J'.os, J'.bare, J'.base, J'.hok, rw', q'⟩
    refine wpAny_call (codeAny_mono run fun res s' z => ?_)
    match res, z with
    | .error e, z => exact False.elim z
    | .ok (.ret u), z => exact I2.after z
    | .ok .next, z => exact False.elim z
    | .ok .brk, z => exact False.elim z
    | .ok .cont, z => exact False.elim z
end
/-- the def that calls what it got by its second parameter: TT, what it makes of the lambda's reading tl -/
def Gives2 (X : Cx) (Ng : List Str) (x : Str) (sg : Scope) (g : Addr) (cdg : Value) (bg : List Stmt) (a q : Str) (k : Nat)
    (TT : (V → Hp → VK → Prop) → V → Hp → VK → Prop) : Prop :=
  ∀ (f c' : Addr) (s : Shared) (H : Hp) (Q : VK) (tl : V → Hp → VK → Prop) (v1 : V),
    Room k (X.A.deeper (envOfC x sg s.heap.objs.size g cdg)) →
    (∀ (p1 p2 : Pos) (e : Expr) (te : TE), PE (gotCx X Ng x sg g cdg s H) e te →
      starEach [e] (gotCx X Ng x sg g cdg s H).env = (false, eval e (gotCx X Ng x sg g cdg s H).env) :: starEach [] (gotCx X Ng x sg g cdg s H).env →
      PE (gotCx X Ng x sg g cdg s H) (.Call (.Name a p1) [e] [] p2)
        (fun σZ HZ Q => σZ[1]? = some (some (.ref f)) ∧ te σZ HZ fun v H1 => H1 c' = some (CodeO c' q) ∧ tl v H1 Q)) →
    H c' = some (CodeO c' q) → TT tl v1 H Q →
    ∃ t, PSs (gotCx X Ng x sg g cdg s H) bg t ∧ t { nx := fun _ H' => Q .non H', rt := Q } (L2.start Ng [v1, .ref f]) H
/-- the reading of g(e1, lambda y: body) -/
def tLam2 (T : List (Addr × Str)) (TT : (V → Hp → VK → Prop) → V → Hp → VK → Prop) (N : List Str) (js : List Nat) (te : TE) (tb : TE) : TE := fun σ H Q =>
  te σ H fun v1 H0 => Tabs T H0 ∧ ∀ H1, ExtN H0 H1 → Tabs T H1 → TT (fun v H' Q' => tb (startF N [v] (js.map (slotAt σ))) H' Q') v1 H1 Q
section
variable {X : Cx}
theorem pe_lam2 {T : List (Addr × Str)} {TT : (V → Hp → VK → Prop) → V → Hp → VK → Prop} {x a y : Str} {g c P : Addr} {k : Nat} {pg : Arguments} {bg : List Stmt}
    {sg : Scope} {dV kV doc pm cdv ct oc : Value} {an od : Option Addr} {osl : Array (Option Value)} {Ng N fr : List Str} {js : List Nat} {b1 : Str}
    {params : Arguments} {body e1 : Expr} {scope : Scope} {te tb : TE} {p lpos pos : Pos} (hg : Gl X x) (hm : X.mg x = some (.ref g))
    (hk : PySem.W.keepIn X.K (.ref g) = true) (lk : X.K.lookup g = some ⟨oc, od, .func (PySem.W.fnOf x x pg bg sg dV kV doc pm an cdv ct), osl⟩)
    (hcg : PySem.W.codeIn X.K cdv x = true) (hb : L2.Binds X.K (PySem.W.fnOf x x pg bg sg dV kV doc pm an cdv ct) [b1, a] []) (Sg : FnScope Ng [b1, a] sg)
    (hNg : Ng[1]? = some a) (hva : Vis sg a) (hG : Gives2 X Ng x sg g cdv bg a (X.env.qual ++ "<lambda>") (k + 1) TT) (TB : TabB X.base X.mg c P)
    (hcode : X.env.code = .ref c) (hmT : (P, X.env.qual ++ "<lambda>") ∈ T) (hu : ∀ p ∈ T, p.1 = P → p.2 = X.env.qual ++ "<lambda>")
    (hr : Room (k + 2) X.A) (hfn : ∀ y, X.fn y = true) (S : NScope N [y] fr scope) (hnd : ndefB X.env.scope scope fr = true)
    (hjs : js.map (fun j => X.N[j]?) = fr.map some) (hdef : defaultsOf params X.env = ([], []))
    (hbind : ∀ (q : Str) (cl : List (Str × Addr)) (pm cv ctv u : Value), bindArgs (PySem.W.kla_fn "<lambda>" q params body scope cl pm cv ctv) ⟨[u], []⟩ = pure [(y, u)])
    (hbody : ∀ (A : Around) (outer : List Env) (s : Shared) (H : Hp) (f c' : Addr), Room k (A.deeper (envF (lamF X params scope c') f s.heap.objs.size)) →
      PE (ncx CX0 X.prog X.w X.K X.mg X.base N (lamF X params scope c') f A outer s H E0).nox body tb) (he1 : PE X e1 te)
    (hdb : (x == ("__debug__" : Str)) = false := by decide) (hd : (a == ("__debug__" : Str)) = false := by decide)
    (hcd : (a == ("__classdict__" : Str)) = false := by decide)
    (hst : starEach (e1 :: [.Lambda params body scope lpos]) X.env = (false, eval e1 X.env) :: starEach [.Lambda params body scope lpos] X.env := by rfl) :
    PE X (.Call (.Name x p) [e1, .Lambda params body scope lpos] [] pos) (tLam2 T TT N js te tb) := by
  have hfree := ndef_free hnd
  refine ⟨fun pins s σ H Q I h => wpAny_Call_Name_kw (ld_glob I hg hm ?_ hdb)⟩
  refine PySem.W.callWith_K (h₀ := X.base) I.ok.mod.kin hk ?_ hst (by rfl)
  rw [hst]
  show wpAny _ _ (spliced ((false, eval e1 X.env) :: backTo pos (starEach [.Lambda params body scope lpos] X.env))) _ _ s
  refine Calls.spliced_cons (thn (he1.run pins s σ H _ I h) fun u1 s0 z => ?_)
  obtain ⟨v1, H0, I0, r1, hT, hh⟩ := z
  show wpAny _ _ (spliced ((false, eval (.Lambda params body scope lpos) X.env) :: backTo pos (starEach [] X.env))) _ _ s0
  have has : ∀ z ∈ scope.names, z.2 = .free → ∃ c, X.env.cells.lookup z.1 = some c := fun z hz e => (hfree z hz e).elim (fun q => I.ok.has _ (.inl q)) fun q => I.ok.has _ (.inr q)
  refine Calls.spliced_cons (lam_make2 I0 TB hcode hmT hu hT hdef has fun f c' pm' ctv H1 s' I1 eN T1 hf hn hfr hco => ?_)
  refine Calls.spliced_nil ⟨I1.kIn, ?_⟩
  have cp : Caps X (cloFrom X.env.cells scope.names []) fr js := Caps.made I1.ok hfree (ndef_fr hnd) hjs
  have run : codeAny (model X.prog X.w) X.A (.call (.ref g) ⟨[u1, .ref f], []⟩) (CR CX0 X.stack X.prog X.w H1 s' Q E0) s' := by
    refine run_ofS (N := Ng) (ps := [b1, a]) (us := [u1, .ref f]) (vs := [v1, .ref f]) lk hcg Sg hr I1.env0 (hb s' [u1, .ref f] I1.kIn rfl) (.cons r1 (.cons rfl .nil)) rfl fun hr' => ?_
    obtain ⟨t', ht', hq'⟩ := hG f c' s' H1 Q (fun v H' Q' => tb (startF N [v] (js.map (slotAt σ))) H' Q') v1 hr'
      (fun p1 p2 e te pe hst' => pe_act1 (i := 1) I1 hfn S cp hf hn hfr (fun u => hbind _ _ _ _ _ u) hr' (fun A outer s H hr2 => hbody A outer s H f c' hr2) hNg hva pe hd hcd hst') hco (hh H1 eN T1)
    exact ⟨t', ht'.nox, hq'⟩
  refine wpAny_call (codeAny_mono run fun res s2 z => ?_)
  match res, z with
  | .error e, z => exact False.elim z
  | .ok (.ret u), z => exact I1.after z
  | .ok .next, z => exact False.elim z
  | .ok .brk, z => exact False.elim z
  | .ok .cont, z => exact False.elim z
end
end Nal

/-! len(o), repr(o): o an instance of an own class, by its own __len__, __repr__. -/
namespace Nal
open PySem PySem.Spec PyProof.Rows L2
section
variable {X : Cx} {C f : Addr} {fd : FuncData} {sp : Sp} {k : Nat} {x : Str}
/-- the call of the own method in the built-in -/
theorem goO {pins : List (Addr × Obj)} {σ : L2.St} {H : Hp} {s : Shared} {Q : VK} {a : Addr} (F : FnG X.prog X.w X.K X.mg X.base CX0 k f fd [x] sp)
    (hgd : X.A.guards = some []) (hr : Room (k + 1) X.A) (hb : Binds X.K fd [x] []) (I : Inv X pins σ H s) (h : sp [.ref a] H Q E0)
    {R : Value → Shared → Prop} (hR : ∀ u s', EP X pins σ Q u s' → R u s') : wpAny (model X.prog X.w) X.A.in1 (call (.ref f) [.ref a]) R X.xe s := by
  have one : Vals [V.ref a] [Value.ref a] := .cons rfl .nil
  have run := F.go X.A.in1 X.stack s H ⟨[.ref a], []⟩ [.ref a] [.ref a] Q E0 hgd hr.in1 I.env0.in1 (hb s [.ref a] I.kIn rfl) one h
  refine wpAny_call (codeAny_mono run fun res s' z => ?_)
  match res, z with
  | .error e, z => exact False.elim z
  | .ok (.ret u), z => exact hR u s' (I.after z)
  | .ok .next, z => exact False.elim z
  | .ok .brk, z => exact False.elim z
  | .ok .cont, z => exact False.elim z
def rLenO (C : Addr) (sp : Sp) : List V → Hp → VK → Prop := fun xs H Q => ∃ (a dx : Addr) (fs : List (Str × V)), xs = [.ref a] ∧ H a = some (.ins C dx fs) ∧
  sp [.ref a] H (fun v H' => ∃ n : Nat, v = .int n ∧ n < 2 ^ 63 ∧ Q (.int n) H') E0
theorem call_lenO (hm : PySem.W.findIn X.K (.ref C) "__len__" = some (some (.ref f))) (hf : PySem.W.isFn X.K (.ref f) = true)
    (F : FnOk X.prog X.w X.K X.mg X.base CX0 k f fd [x] sp) (hr : Room (k + 1) X.A) (hb : Binds X.K fd [x] []) : CallR X (.builtin "len") (rLenO C sp) := by
  intro pins s σ H xs us Q I r h
  obtain ⟨a, dx, fs, rfl, ea, hq⟩ := h
  cases r with
  | cons ra rn =>
    cases rn
    cases ra
    obtain ⟨mA, O, _⟩ := ins_get I.hok ea
    obtain ⟨od, J, _⟩ := O.look
    obtain ⟨m, fr⟩ := I.fr
    refine PySem.W.len_K fr I.ok.mod.kin J hm hf ?_
    have one : Vals [V.ref a] [Value.ref a] := .cons rfl .nil
    have run := F.run X.A.in1 X.stack s H ⟨[.ref a], []⟩ [.ref a] [.ref a] _ E0 hr.in1 I.env0.in1 (hb s [.ref a] I.kIn rfl) one hq
    refine wpAny_call (codeAny_mono run fun res s' z => ?_)
    match res, z with
    | .error e, z => exact False.elim z
    | .ok .next, z => exact False.elim z
    | .ok .brk, z => exact False.elim z
    | .ok .cont, z => exact False.elim z
    | .ok (.ret u), z =>
      obtain ⟨v, H', I', rv, n, rfl, hn, q⟩ := I.after z
      obtain ⟨t, rfl⟩ := rv
      exact ⟨⟨Int.natCast_nonneg _, by omega⟩, ⟨.int n, H', I'.tok _, ⟨_, rfl⟩, q⟩⟩
def rReprO (C : Addr) (sp : Sp) : List V → Hp → VK → Prop := fun xs H Q => ∃ (a dx : Addr) (fs : List (Str × V)), xs = [.ref a] ∧ H a = some (.ins C dx fs) ∧
  sp [.ref a] H (fun v H' => ∃ z : Str, v = .str z ∧ Q (.str z) H') E0
theorem call_reprO (hm : PySem.W.findIn X.K (.ref C) "__repr__" = some (some (.ref f))) (hf : PySem.W.isFn X.K (.ref f) = true)
    (F : FnG X.prog X.w X.K X.mg X.base CX0 k f fd [x] sp) (hgd : X.A.guards = some []) (hr : Room (k + 1) X.A) (hb : Binds X.K fd [x] []) : CallR X (.builtin "repr") (rReprO C sp) := by
  intro pins s σ H xs us Q I r h
  obtain ⟨a, dx, fs, rfl, ea, hq⟩ := h
  cases r with
  | cons ra rn =>
    cases rn
    cases ra
    obtain ⟨mA, O, _⟩ := ins_get I.hok ea
    obtain ⟨od, J, _⟩ := O.look
    obtain ⟨m, fr⟩ := I.fr
    have hu : X.A.in1.units < cLine := hr.in1.units0
    refine PySem.W.repr_K hu fr I.ok.mod.kin J hm hf (goO F hgd hr hb I hq fun u s' z => ?_)
    obtain ⟨v, H', I', rv, y, rfl, q⟩ := z
    obtain ⟨t, rfl⟩ := rv
    exact ⟨.str y, H', I', ⟨_, rfl⟩, q⟩
end
end Nal

namespace Nal
open PySem PySem.Spec PyProof.Rows L2 LamX
section
variable {P : Program} {w : World} {K : PySem.W.Frag} {mg mb : Str → Option Value} {CX : CXT} {k : Nat} {fa a : Addr}
variable {ts : List (Addr × Addr)} {fd : FuncData} {x : Str} {sp : Sp} {s₁ : Shared} {vs : List Value} {ns : List Int}
/-- the abstract heap at the law's entry: the script, locked, and the empty tables -/
def entryH (a : Addr) (lock : Bool) (ob : Obj) (ns : List Int) (ts : List (Addr × Addr)) : Hp := fun b =>
  if b ∈ ts.map (·.2) then some (.tbl #[]) else if lock = true ∧ b = a then some (.frz ob (.lst (ns.map V.int))) else none
/-- the law's def called at the head's heap; its promise may lean on it that no guard stands on the stack -/
theorem lawG (KX : K.In s₁.heap) (gl : s₁.heap.Ns mainGlobals mg) (bl : s₁.heap.Ns builtinsNs mb)
    (bb : ∀ y : Str, y ≠ "__name__" → mb y = bootBuiltins y) (lim : s₁.heap.NoLimit) (gs : s₁.gens = #[])
    (tE : ∀ p ∈ ts, s₁.heap.get? p.2 = some { cls := .none, data := .fields #[] }) (tK : ∀ p ∈ ts, K.lookup p.2 = none)
    (tC : ∀ p ∈ ts, PySem.W.CodeHd s₁.heap p.1 p.2)
    (bmod : ∃ (bm : Addr) (ob : Obj), mg "__builtins__" = some (.ref bm) ∧ bm ≠ builtinsNs ∧ s₁.heap.get? bm = some ob ∧
      ob.cls = .type "module" ∧ ob.dict = some builtinsNs ∧ ob.data = .plain)
    (ha : s₁.heap.get? a = some { cls := .type "list", data := .seq vs.toArray }) (hi : IntsAre vs ns) (hl : ns.length ≤ sizeLine)
    (hr : Room k callerA)
    (F : ∀ base : Heap, K.In base → base.Ns mainGlobals mg → (∀ p ∈ ts, TabB base mg p.1 p.2) → FnG P w K mg base CX k fa fd [x] sp)
    (hbind : ∀ (s : Shared) (u : Value), BindsTo s fd ⟨[u], []⟩ [(x, u)])
    (hsp : ∀ H : Hp, (∀ p ∈ ts, H p.2 = some (.tbl #[])) → SqL K H a (ns.map V.int) → sp [.ref a] H (fun v _ => v = .bl true) fun _ _ _ => False)
    (hCX : ∀ H e s', CX [] H s₁ (fun _ _ _ => False) e s' → False) :
    codeAny (model P w) callerA (.call (.ref fa) ⟨[.ref a], []⟩)
      (fun r s' => r = .ok (.ret (.bool true)) ∧ OldK s₁.heap s'.heap ∧ s'.os = s₁.os ∧ AllBare s'.gens) s₁ := by
  have tab : ∀ b, b ∈ ts.map (·.2) → s₁.heap.get? b = some { cls := .none, data := .fields #[] } ∧ K.lookup b = none := by
    intro b hb
    obtain ⟨p, hp, rfl⟩ := List.mem_map.mp hb
    exact ⟨tE p hp, tK p hp⟩
  have mem : ∀ p ∈ ts, p.2 ∈ ts.map (·.2) := fun p hp => List.mem_map.mpr ⟨p, hp, rfl⟩
  have aN : a ∉ ts.map (·.2) := fun z => by
    have q := (tab a z).1.symm.trans ha
    cases Option.some.inj q
  -- whether the script stands in the written part
  obtain ⟨lock, hlock⟩ : ∃ lock : Bool, (lock = true ↔ K.lookup a = none) := ⟨decide (K.lookup a = none), by simp⟩
  let ob : Obj := { cls := .type "list", data := .seq vs.toArray }
  let H : Hp := entryH a lock ob ns ts
  have Ht : ∀ b, b ∈ ts.map (·.2) → H b = some (.tbl #[]) := fun b hb => if_pos hb
  have Hn : ∀ b, b ∉ ts.map (·.2) → (b ≠ a ∨ K.lookup a ≠ none) → H b = none := fun b hb hq => by
    show (if b ∈ ts.map (·.2) then _ else _) = _
    rw [if_neg hb, if_neg]
    rintro ⟨z1, z2⟩
    rcases hq with q | q
    · exact q z2
    · exact q (hlock.mp z1)
  have Ha : K.lookup a = none → H a = some (.frz ob (.lst (ns.map V.int))) := fun q => by
    show (if a ∈ ts.map (·.2) then _ else _) = _
    rw [if_neg aN, if_pos ⟨hlock.mpr q, rfl⟩]
  -- what is tracked is one of the three
  have three : ∀ b, H b = none ∨ (b ∈ ts.map (·.2) ∧ H b = some (.tbl #[])) ∨ (b = a ∧ K.lookup a = none ∧ H b = some (.frz ob (.lst (ns.map V.int)))) := fun b => by
    by_cases h1 : b ∈ ts.map (·.2)
    · exact .inr (.inl ⟨h1, Ht b h1⟩)
    · by_cases h2 : b = a
      · by_cases h3 : K.lookup a = none
        · refine .inr (.inr ⟨h2, h3, ?_⟩)
          rw [h2]
          exact Ha h3
        · exact .inl (Hn b h1 (.inr h3))
      · exact .inl (Hn b h1 (.inl h2))
  have vi := vals_ints hi
  have vl := hi.length
  have hok : HOk P w H s₁.heap := fun b u e => by
    rcases three b with z | ⟨z1, z2⟩ | ⟨z1, _, z2⟩
    · rw [z] at e
      cases e
    · rw [z2] at e
      cases e
      exact (tab b z1).1
    · rw [z2] at e
      cases e
      rw [z1]
      refine ⟨ha, ?_, vs, _, vi, ha⟩
      rw [List.length_map]
      exact hl
  have sq : SqL K H a (ns.map V.int) := by
    cases q : K.lookup a with
    | none => exact .inl (.inr ⟨ob, Ha q⟩)
    | some o =>
      have z := (KX a o q).symm.trans ha
      cases Option.some.inj z
      refine .inr ⟨_, vs.toArray, _, q, rfl, rfl, rfl, ?_, by simpa using vi⟩
      rw [List.size_toArray, vl]
      exact hl
  -- an object that is neither a list nor an empty record is not tracked
  have free : ∀ {b : Addr} {o : Obj}, s₁.heap.get? b = some o → (∀ q n, o.data ≠ .seq q n) → o.data ≠ .fields #[] → H b = none := by
    intro b o e n1 n2
    rcases three b with z | ⟨z1, _⟩ | ⟨z1, _, _⟩
    · exact z
    · have q := (tab b z1).1.symm.trans e
      cases Option.some.inj q
      exact absurd rfl n2
    · rw [z1] at e
      have q := ha.symm.trans e
      cases Option.some.inj q
      exact absurd rfl (n1 _ _)
  have keepB : ∀ {b : Addr} {o : Obj}, s₁.heap.get? b = some o → H b = none → (hidT s₁.heap H).get? b = some o := fun e n => hidT_get e n
  have spaces : ∀ {b : Addr} {m : Str → Option Value}, s₁.heap.Ns b m → (hidT s₁.heap H).Ns b m := by
    rintro b m ⟨o, es, ep, e, d, r⟩
    refine ⟨o, es, ep, keepB e (free e (fun q n z => ?_) fun z => ?_), d, r⟩
    all_goals rw [d] at z; cases z
  have kb : K.In (hidT s₁.heap H) := fun b o e => keepB (KX b o e) (by
    rcases three b with z | ⟨z1, _⟩ | ⟨z1, z2, _⟩
    · exact z
    · rw [(tab b z1).2] at e
      cases e
    · rw [z1, z2] at e
      cases e)
  have md : L2.Mod K mg (hidT s₁.heap H) := by
    obtain ⟨mc, l1, l2⟩ := lim
    exact ⟨kb, spaces gl, ⟨mb, spaces bl, bb⟩, ⟨mc, spaces l1, l2⟩⟩
  have tb : ∀ p ∈ ts, TabB (hidT s₁.heap H) mg p.1 p.2 := by
    intro p hp
    have ep := tE p hp
    have gP : mainGlobals ≠ p.2 := fun z => by
      obtain ⟨o, es, n, e, d, _⟩ := gl
      rw [z, ep] at e
      cases Option.some.inj e
      cases d
    refine ⟨?_, ?_, gP⟩
    · obtain ⟨o, us, file, tf, flags, tg, inF, text, tt, e1, r1, r2, r3, rs⟩ := tC p hp
      refine ⟨o, us, file, tf, flags, tg, inF, text, tt, keepB e1 (free e1 (fun q n z => ?_) fun z => ?_), r1, r2, r3, rs⟩
      · rw [r2] at z
        cases z
      · rw [r2] at z
        cases z
        cases r3
    · obtain ⟨bm, o, b1, b2, b3, b4, b5, b6⟩ := bmod
      have nG : bm ≠ mainGlobals := fun z => by
        obtain ⟨o', es, n, e, d, _⟩ := gl
        rw [z, e] at b3
        cases Option.some.inj b3
        rw [d] at b6
        cases b6
      have nP : bm ≠ p.2 := fun z => by
        rw [z, ep] at b3
        cases Option.some.inj b3
        cases b6
      refine ⟨bm, o, b1, b2, nG, nP, keepB b3 (free b3 (fun q n z => ?_) fun z => ?_), b4, b5, b6⟩
      all_goals rw [b6] at z; cases z
  have none_in : ∀ b : Addr, b ∉ frs ([] : List Env) := fun b z => nomatch (show b ∈ ([] : List Addr) from z)
  have e0 : Env0 P w K mg (hidT s₁.heap H) callerA [] s₁ H :=
    ⟨rfl, md, fun b o e => of_hidT e, Nat.le_of_eq (hidT_size _ _), trivial, fun b z => absurd z (none_in b), hok, .of_eq gs⟩
  have run := (F _ kb (spaces gl) tb).go callerA [] s₁ H ⟨[.ref a], []⟩ [.ref a] [.ref a] _ _ rfl hr e0 (hbind s₁ (.ref a)) (.cons rfl .nil)
    (hsp H (fun p hp => Ht p.2 (mem p hp)) sq)
  refine codeAny_mono run fun res s' z => ?_
  match res, z with
  | .error e, z => exact (hCX H e s' z).elim
  | .ok .next, z => exact False.elim z
  | .ok .brk, z => exact False.elim z
  | .ok .cont, z => exact False.elim z
  | .ok (.ret u), z =>
    obtain ⟨v, H', z1, z2, un, hok', rv, hv⟩ := z
    have hv' : v = .bl true := hv
    rw [hv'] at rv
    have hu : u = Value.bool true := rv
    subst hu
    -- a table may have grown, all else that stood before stands
    have grown : ∀ p ∈ ts, ∃ more : Array Value, s'.heap.get? p.2 = some { cls := .none, data := .fields more } := fun p hp => by
      obtain ⟨more, q⟩ := un.tbls p.2 #[] (Ht p.2 (mem p hp))
      exact ⟨_, hok' p.2 _ q⟩
    have still : ∀ b o, b ∉ ts.map (·.2) → s₁.heap.get? b = some o → s'.heap.get? b = some o := fun b o nb e => by
      rcases three b with q | ⟨q, _⟩ | ⟨_, _, q⟩
      · exact un.keep b o e q (none_in b) (fun z => nomatch z)
      · exact absurd q nb
      · have f1 := hok b _ q
        have f2 := hok' b _ (un.frzs b _ _ q)
        rw [← f1.1.symm.trans e]
        exact f2.1
    refine ⟨rfl, ⟨fun b o e => ?_, fun b o e => ?_⟩, z1, z2⟩
    · by_cases hb : b ∈ ts.map (·.2)
      · obtain ⟨p, hp, rfl⟩ := List.mem_map.mp hb
        obtain ⟨more, hm⟩ := grown p hp
        cases Option.some.inj ((tE p hp).symm.trans e)
        exact .inr (.inl ⟨((tC p hp).tab (tE p hp)).isCodeTable, rfl, #[], more, rfl, by rw [Array.empty_append]; exact hm⟩)
      · exact .inl (still b o hb e)
    · by_cases hb : b ∈ ts.map (·.2)
      · obtain ⟨p, hp, rfl⟩ := List.mem_map.mp hb
        obtain ⟨more, hm⟩ := grown p hp
        exact ⟨_, hm⟩
      · exact ⟨o, still b o hb e⟩
end
/-- what is known of the law at the head's heap h -/
def KnownAt (l : PySem.W.OpenLaw) (w : World) (K : PySem.W.Frag) (k n : Nat) (x : Str) (mg : Str → Option Value) (fa : Addr) (h : Heap) : Prop :=
  ∃ (fd : FuncData) (ts : List (Addr × Addr)) (sp : Sp), (∀ p ∈ ts, h.get? p.2 = some { cls := .none, data := .fields #[] }) ∧
    (∀ p ∈ ts, K.lookup p.2 = none) ∧ (∀ p ∈ ts, PySem.W.CodeHd h p.1 p.2) ∧ (∀ (s : Shared) (u : Value), BindsTo s fd ⟨[u], []⟩ [(x, u)]) ∧
    (∀ (H : Hp) (a : Addr) (ns : List Int), ns.length ≤ n → (∀ p ∈ ts, H p.2 = some (.tbl #[])) → SqL K H a (ns.map V.int) →
      sp [.ref a] H (fun v _ => v = .bl true) fun _ _ _ => False) ∧
    ∀ base : Heap, K.In base → base.Ns mainGlobals mg → (∀ p ∈ ts, TabB base mg p.1 p.2) → FnG l.prog w K mg base CX0 k fa fd [x] sp
theorem walkG {l : PySem.W.OpenLaw} {n k : Nat} {q : Program} {loose : List Str} {XP : (Str → Option Value) → Heap → Prop}
    {YP : World → Heap → Prop} {d : DefRec} {K : Params → PySem.W.Frag} {x : Str} (hn : l.most = some n) (hn2 : n ≤ sizeLine)
    (hdf : d.params.defaults = []) (hr : Room k callerA) (hY : ∀ (w : World) (h : Heap), YP w h → (K w.params).In h)
    (F : ∀ (w : World) (mg : Str → Option Value) (fa : Addr) (h : Heap), YP w h → (K w.params).In h → h.Ns mainGlobals mg →
      mg d.name = some (.ref fa) → KnownAt l w (K w.params) k n x mg fa h) :
    PySem.W.WalkO q loose XP YP l.row.toRowW d [] (fun f vs => PySem.call f vs) := by
  refine Att.attach_callB hn hdf fun w s₀ s₁ mg mb fa o pm cd doc a vs ns G Y ho hd hcd hmg hobj hints hlen hbits gs => ?_
  have KX := hY w _ Y
  obtain ⟨fd, ts, sp, t1, t2, t3, hb, hsp, hF⟩ := F w mg fa _ Y KX G.T.g hmg
  exact lawG KX G.T.g G.T.b G.T.builtins G.T.nolimit gs t1 t2 t3 G.T.bmain hobj hints (Nat.le_trans hlen hn2) hr hF hb
    (fun H hH hS => hsp H a ns hlen hH hS) fun H e s' z => z
end Nal

/-! Short words: what is known of a def by its name, of a method; built-in names that are not shadowed; heaps. -/
namespace Nal
open PySem PySem.Spec PyProof.Rows L2
/-- the def of the name x keeps the promise sp -/
structure Kn (P : Program) (w : World) (K : PySem.W.Frag) (mg : Str → Option Value) (base : Heap) (k : Nat) (x : Str) (ps : List Str) (sp : Sp) : Prop where
  ex : ∃ (f : Addr) (fd : FuncData), FnOk P w K mg base CX0 k f fd ps sp ∧ mg x = some (.ref f) ∧ PySem.W.keepIn K (.ref f) = true ∧ Binds K fd ps []
structure KnG (P : Program) (w : World) (K : PySem.W.Frag) (mg : Str → Option Value) (base : Heap) (k : Nat) (x : Str) (ps : List Str) (sp : Sp) : Prop where
  ex : ∃ (f : Addr) (fd : FuncData), FnG P w K mg base CX0 k f fd ps sp ∧ mg x = some (.ref f) ∧ PySem.W.keepIn K (.ref f) = true ∧ Binds K fd ps []
/-- the method m of the class at C -/
structure Mt (P : Program) (w : World) (K : PySem.W.Frag) (mg : Str → Option Value) (base : Heap) (C : Addr) (k : Nat) (m : Str) (ps : List Str) (sp : Sp) : Prop where
  ex : ∃ (f : Addr) (fd : FuncData), FnOk P w K mg base CX0 k f fd ps sp ∧ Meth K C m f ∧ Binds K fd ps []
/-- the def stands in the text -/
structure At (K : PySem.W.Frag) (mg : Str → Option Value) (x : Str) (st : Stmt) : Prop where
  ex : ∃ (f : Addr) (fd : FuncData), Fun K x x st f fd ∧ mg x = some (.ref f)
structure AtM (K : PySem.W.Frag) (C : Addr) (m q : Str) (st : Stmt) : Prop where
  ex : ∃ (f : Addr) (fd : FuncData), Fun K m q st f fd ∧ Meth K C m f
section
variable {P : Program} {w : World} {K : PySem.W.Frag} {mg : Str → Option Value} {base : Heap} {C : Addr}
theorem kn_of {x : Str} {st : Stmt} {N ps : List Str} {k : Nat} {sp : Sp} (h : At K mg x st) (S : FnScope N ps (defScope st))
    (hb : ∀ (kV doc pm : Value) (an : Option Addr) (cdv ct : Value) (us : List Value), us.length = ps.length →
      bindArgs (PySem.W.fnOf x x (defArgs st) (defBody st) (defScope st) .none kV doc pm an cdv ct) ⟨us, []⟩ = pure (ps.zip us))
    (len : ∀ vs H Q E, sp vs H Q E → vs.length = ps.length)
    (hbody : ∀ (f : Addr) (cdv : Value) (A : Around) (outer : List Env) (s : Shared) (H : Hp) (vs : List V) (Q : VK) (E : XK),
      Room k (A.deeper (envOfC x (defScope st) s.heap.objs.size f cdv)) → sp vs H Q E →
      ∃ t, PSs (cxOf CX0 P w K mg base N x (defScope st) f cdv A outer s H E).nox (defBody st) t ∧ t { nx := fun _ H' => Q .non H', rt := Q } (start N vs) H) :
    Kn P w K mg base (k + 1) x ps sp := by
  obtain ⟨f, fd, F, g⟩ := h.ex
  exact ⟨f, fd, F.ok S len (hbody f), g, F.kp, F.binds hb⟩
theorem kng_of {x : Str} {st : Stmt} {N ps : List Str} {k : Nat} {sp : Sp} (h : At K mg x st) (S : FnScope N ps (defScope st))
    (hb : ∀ (kV doc pm : Value) (an : Option Addr) (cdv ct : Value) (us : List Value), us.length = ps.length →
      bindArgs (PySem.W.fnOf x x (defArgs st) (defBody st) (defScope st) .none kV doc pm an cdv ct) ⟨us, []⟩ = pure (ps.zip us))
    (len : ∀ vs H Q E, sp vs H Q E → vs.length = ps.length)
    (hbody : ∀ (f : Addr) (cdv : Value) (A : Around) (outer : List Env) (s : Shared) (H : Hp) (vs : List V) (Q : VK) (E : XK), A.guards = some [] →
      Room k (A.deeper (envOfC x (defScope st) s.heap.objs.size f cdv)) → sp vs H Q E →
      ∃ t, PSs (cxOf CX0 P w K mg base N x (defScope st) f cdv A outer s H E).nox (defBody st) t ∧ t { nx := fun _ H' => Q .non H', rt := Q } (start N vs) H) :
    KnG P w K mg base (k + 1) x ps sp := by
  obtain ⟨f, fd, F, g⟩ := h.ex
  exact ⟨f, fd, okG F S len (hbody f), g, F.kp, F.binds hb⟩
theorem mt_of {m q : Str} {st : Stmt} {N ps : List Str} {k : Nat} {sp : Sp} (h : AtM K C m q st) (S : FnScope N ps (defScope st))
    (hb : ∀ (kV doc pm : Value) (an : Option Addr) (cdv ct : Value) (us : List Value), us.length = ps.length →
      bindArgs (PySem.W.fnOf m q (defArgs st) (defBody st) (defScope st) .none kV doc pm an cdv ct) ⟨us, []⟩ = pure (ps.zip us))
    (len : ∀ vs H Q E, sp vs H Q E → vs.length = ps.length)
    (hbody : ∀ (f : Addr) (cdv : Value) (A : Around) (outer : List Env) (s : Shared) (H : Hp) (vs : List V) (Q : VK) (E : XK),
      Room k (A.deeper (envOfC q (defScope st) s.heap.objs.size f cdv)) → sp vs H Q E →
      ∃ t, PSs (cxOf CX0 P w K mg base N q (defScope st) f cdv A outer s H E).nox (defBody st) t ∧ t { nx := fun _ H' => Q .non H', rt := Q } (start N vs) H) :
    Mt P w K mg base C (k + 1) m ps sp := by
  obtain ⟨f, fd, F, g⟩ := h.ex
  exact ⟨f, fd, F.ok S len (hbody f), g, F.binds hb⟩
theorem Kn.mono {j k : Nat} {x : Str} {ps : List Str} {sp : Sp} (h : Kn P w K mg base j x ps sp) (hk : j ≤ k) : Kn P w K mg base k x ps sp := by
  obtain ⟨f, fd, F, r⟩ := h.ex
  exact ⟨f, fd, F.mono hk, r⟩
end
section
variable {X : Cx} {k j : Nat} {ps : List Str} {sp : Sp} {x m : Str} {C : Addr} {p pos apos : Pos} {e o : Expr} {es : List Expr} {t : TA} {ta : TE}
theorem pe_kn (h : Kn X.prog X.w X.K X.mg X.base j x ps sp) (hr : Room k X.A) (hk : j ≤ k) (hg : Gl X x) (ha : PA X (e :: es) t)
    (hdb : (x == ("__debug__" : Str)) = false := by decide) (he : starEach (e :: es) X.env = (false, eval e X.env) :: starEach es X.env := by rfl)
    (hpl : (backTo pos (starEach es X.env)).any (·.1) = false := by rfl) : PE X (.Call (.Name x p) (e :: es) [] pos) (tCall sp [] E0 t) := by
  obtain ⟨f, fd, F, hm, kp, b⟩ := h.ex
  exact pe_call F (hr.mono hk) hg hm kp b .nil pass0 ha hdb he hpl
theorem pe_kng (h : KnG X.prog X.w X.K X.mg X.base j x ps sp) (hgd : X.A.guards = some []) (hr : Room k X.A) (hk : j ≤ k) (hg : Gl X x) (ha : PA X (e :: es) t)
    (hdb : (x == ("__debug__" : Str)) = false := by decide) (he : starEach (e :: es) X.env = (false, eval e X.env) :: starEach es X.env := by rfl)
    (hpl : (backTo pos (starEach es X.env)).any (·.1) = false := by rfl) : PE X (.Call (.Name x p) (e :: es) [] pos) (tCall sp [] E0 t) := by
  obtain ⟨f, fd, F, hm, kp, b⟩ := h.ex
  exact pe_callG F hgd (hr.mono hk) hg hm kp b .nil pass0 ha hdb he hpl
theorem pe_mth {pl : Sem Bool} (he : PE X o ta) (c : Cls X.K C) (h : Mt X.prog X.w X.K X.mg X.base C j m ps sp) (hr : Room k X.A) (hk : j ≤ k) (ha : PA X (e :: es) t)
    (hst : starEach (e :: es) X.env = (false, eval e X.env) :: starEach es X.env := by rfl) (hpl : (backTo pos (starEach es X.env)).any (·.1) = false := by rfl)
    (ht : eval (.Call (.Attribute o m apos) (e :: es) [] pos) X.env = (do
      let v ← eval o X.env
      standAt apos.atName
      let (f, first) ← holding [v] (getMethod v m pl)
      callWith pos f first (backTo pos (starEach (e :: es) X.env)) (backToKw pos (keywordEach [] X.env))) := by rfl) :
    PE X (.Call (.Attribute o m apos) (e :: es) [] pos) (tMeth C m sp [] E0 ta t) := by
  obtain ⟨f, fd, F, hm, b⟩ := h.ex
  exact pe_meth (pl := pl) he c hm F (hr.mono hk) b .nil pass0 ha hst hpl ht
theorem pe_mth0 {pl : Sem Bool} (he : PE X o ta) (c : Cls X.K C) (h : Mt X.prog X.w X.K X.mg X.base C j m ps sp) (hr : Room k X.A) (hk : j ≤ k)
    (ht : eval (.Call (.Attribute o m apos) [] [] pos) X.env = (do
      let v ← eval o X.env
      standAt apos.atName
      let (f, first) ← holding [v] (getMethod v m pl)
      callWith pos f first (backTo pos (starEach [] X.env)) (backToKw pos (keywordEach [] X.env))) := by rfl) :
    PE X (.Call (.Attribute o m apos) [] [] pos) (tMeth C m sp [] E0 ta tNil) := by
  obtain ⟨f, fd, F, hm, b⟩ := h.ex
  exact pe_meth0 (pl := pl) he c hm F (hr.mono hk) b .nil pass0 ht
end
/-- the class of the name x at C, made by its __init__ -/
structure MkC (P : Program) (w : World) (K : PySem.W.Frag) (mg : Str → Option Value) (base : Heap) (C : Addr) (k : Nat) (x : Str) (ps : List Str) (sp : Sp) : Prop where
  ex : ∃ (f : Addr) (fd : FuncData), Mk K C f ∧ FnOk P w K mg base CX0 k f fd ps sp ∧ Binds K fd ps [] ∧ mg x = some (.ref C)
theorem pe_mkc {X : Cx} {C : Addr} {j k : Nat} {x : Str} {ps : List Str} {sp : Sp} {p pos : Pos} {e : Expr} {es : List Expr} {t : TA}
    (h : MkC X.prog X.w X.K X.mg X.base C j x ps sp) (hr : Room k X.A) (hk : j + 1 ≤ k) (hg : Gl X x) (ha : PA X (e :: es) t)
    (hdb : (x == ("__debug__" : Str)) = false := by decide) (he : starEach (e :: es) X.env = (false, eval e X.env) :: starEach es X.env := by rfl)
    (hpl : (backTo pos (starEach es X.env)).any (·.1) = false := by rfl) : PE X (.Call (.Name x p) (e :: es) [] pos) (tMake C sp [] E0 t) := by
  obtain ⟨f, fd, M, F, b, hm⟩ := h.ex
  exact pe_make M F (hr.mono hk) hg hm b .nil pass0 ha hdb he hpl
/-- for i, x in enumerate(xs) -/
theorem for_enumL {K : PySem.W.Frag} {a : Addr} {xs : List V} {g : TG} {tb : TS} {D : Ends} {σ : L2.St} {H : Hp} (Pv : Nat → L2.St → Hp → Prop) (h0 : Pv 0 σ H)
    (hl : ∀ i σ H, i ≤ xs.length → Pv i σ H → SqL K H a xs)
    (hs : ∀ (i : Nat) (x : V) (T : Addr) (σ : L2.St) (H : Hp), xs[i]? = some x → Pv i σ H → H T = none →
      g (.ref T) σ (upd H T (.tup [.int (i : Nat), x])) fun σ2 H2 => tb { D with nx := Pv (i + 1), ct := Pv (i + 1), bk := D.nx } σ2 H2)
    (hd : ∀ σ H, Pv xs.length σ H → D.nx σ H) :
    ∃ W : Nat → Nat → L2.St → Hp → Prop, (∃ m, W 0 m σ H) ∧ ∀ i m σ H, W i m σ H →
      ((Ite K a).stop i H ∧ D.nx σ H) ∨ ((Ite K a).go i H ∧ ∃ N : L2.St → Hp → Prop, (∀ σ' H', N σ' H' → ∃ m', m' < m ∧ W (i + 1) m' σ' H') ∧
        ∀ x H', (Ite K a).yld i H x H' → g x σ H' fun σ2 H2 => tb { D with nx := N, ct := N, bk := D.nx } σ2 H2) := by
  refine ⟨fun i m σ H => m + i = xs.length ∧ Pv i σ H, ⟨xs.length, rfl, h0⟩, fun i m σ H z => ?_⟩
  obtain ⟨e, pv⟩ := z
  have sq := hl i σ H (by omega) pv
  by_cases c : i < xs.length
  · have at_ : xs[i]? = some xs[i] := List.getElem?_eq_getElem c
    refine .inr ⟨⟨xs, _, sq, at_⟩, Pv (i + 1), fun σ' H' z => ⟨m - 1, by omega, by omega, z⟩, fun y H' z => ?_⟩
    obtain ⟨T, x, rfl, nT, rfl, f⟩ := z
    exact hs i x T σ H (f xs sq) pv nT
  · refine .inl ⟨⟨xs, sq, by omega⟩, hd σ H ?_⟩
    have e2 : i = xs.length := by omega
    rw [← e2]
    exact pv
/-! rules whose reading names the written part K outright (within a comprehension the context is another one) -/
section
variable {X : Cx}
theorem kix_list (K : PySem.W.Frag) (h : X.K = K := by rfl) : IxR X (rIxL K) := by
  subst h
  exact ix_list
theorem kix_tup (K : PySem.W.Frag) (h : X.K = K := by rfl) : IxR X (rIxT K) := by
  subst h
  exact ix_tup
def rLenK (K : PySem.W.Frag) : List V → Hp → VK → Prop := fun xs H Q => ∃ p ys, xs = [.ref p] ∧ (SqL K H p ys ∨ SqT K H p ys) ∧ Q (.int ys.length) H
theorem kcall_len (K : PySem.W.Frag) (h : X.K = K := by rfl) : CallR X (.builtin "len") (rLenK K) := by
  subst h
  exact call_len_seq
theorem kop_in (K : PySem.W.Frag) (h : X.K = K := by rfl) : OpR X (compareOp .In) (rIn K false) := by
  subst h
  exact op_in_seq
theorem kop_notin (K : PySem.W.Frag) (h : X.K = K := by rfl) : OpR X (compareOp .NotIn) (rIn K true) := by
  subst h
  exact op_notIn_seq
theorem kop_eqD (K : PySem.W.Frag) (hu : X.A.units + 64 < cLine) (h : X.K = K := by rfl) : OpR X (compareOp .Eq) (rEqD K) := by
  subst h
  exact op_eqD hu
theorem kop_neD (K : PySem.W.Frag) (hu : X.A.units + 64 < cLine) (h : X.K = K := by rfl) : OpR X (compareOp .NotEq) (rNeD K) := by
  subst h
  exact op_neD hu
theorem kcall_isi (K : PySem.W.Frag) (h : X.K = K := by rfl) : CallR X (.builtin "isinstance") (rIsi K) := by
  subst h
  exact call_isi
def rListK (K : PySem.W.Frag) : List V → Hp → VK → Prop := fun xs H Q => ∃ p ys, xs = [.ref p] ∧ (SqL K H p ys ∨ SqT K H p ys) ∧ ∀ l, H l = none → Q (.ref l) (upd H l (.lst ys))
theorem kcall_list (K : PySem.W.Frag) (h : X.K = K := by rfl) : CallR X (.type "list") (rListK K) := by
  subst h
  exact call_list_of
def rTupK (K : PySem.W.Frag) : List V → Hp → VK → Prop := fun xs H Q => ∃ p ys, xs = [.ref p] ∧
  ((SqL K H p ys ∧ ∀ l, H l = none → Q (.ref l) (upd H l (.tup ys))) ∨ (SqT K H p ys ∧ Q (.ref p) H))
theorem kcall_tuple (K : PySem.W.Frag) (h : X.K = K := by rfl) : CallR X (.type "tuple") (rTupK K) := by
  subst h
  exact call_tuple_of
end
/-- the built-in names that the text leaves as they are -/
structure Bl (mg : Str → Option Value) : Prop where
  len : mg "len" = none
  abs : mg "abs" = none
  max : mg "max" = none
  min : mg "min" = none
  range : mg "range" = none
  divmod : mg "divmod" = none
  isinstance : mg "isinstance" = none
  sorted : mg "sorted" = none
  all : mg "all" = none
  repr : mg "repr" = none
  enumerate : mg "enumerate" = none
  t_int : mg "int" = none
  t_bool : mg "bool" = none
  t_list : mg "list" = none
  t_tuple : mg "tuple" = none
  t_set : mg "set" = none
/-- all but p stays -/
def Keep (p : Addr) (H H' : Hp) : Prop := ∀ b o, b ≠ p → H b = some o → H' b = some o
theorem Keep.refl (p : Addr) (H : Hp) : Keep p H H := fun _ _ _ h => h
theorem Keep.trans {p : Addr} {H H1 H2 : Hp} (a : Keep p H H1) (b : Keep p H1 H2) : Keep p H H2 := fun c o n h => b c o n (a c o n h)
theorem Keep.same {p : Addr} {H H' : Hp} (h : Same H H') : Keep p H H' := fun b o _ e => h b o e
theorem Keep.upd {p : Addr} {H : Hp} {o : HO} : Keep p H (upd H p o) := fun b _ n e => by rw [upd_ne n]; exact e
theorem Keep.new {p q : Addr} {H : Hp} {o : HO} (h : H q = none) : Keep p H (L2.upd H q o) := fun b _ _ e => by rw [upd_ne (ne_of_none e h)]; exact e
theorem Keep.gone {p q : Addr} {H H' : Hp} (k : Keep p H H') (n : q ≠ p) (h : H' q = none) : H q = none := by
  cases e : H q with
  | none => rfl
  | some o => rw [k q o n e] at h; cases h
theorem Keep.noneP {p q : Addr} {H H' : Hp} {o : HO} (k : Keep p H H') (hp : H' p = some o) (h : H' q = none) : H q = none :=
  k.gone (fun e => by rw [e, hp] at h; cases h) h
theorem Keep.seq {p a : Addr} {K : PySem.W.Frag} {H H' : Hp} {xs : List V} (k : Keep p H H') (n : a ≠ p) (h : SqL K H a xs) : SqL K H' a xs := by
  rcases h with (h | ⟨o, h⟩) | h
  · exact .inl (.inl (k _ _ n h))
  · exact .inl (.inr ⟨o, k _ _ n h⟩)
  · exact .inr h
theorem Keep.seqT {p a : Addr} {K : PySem.W.Frag} {H H' : Hp} {xs : List V} (k : Keep p H H') (n : a ≠ p) (h : SqT K H a xs) : SqT K H' a xs := by
  rcases h with (h | ⟨o, h⟩) | h
  · exact .inl (.inl (k _ _ n h))
  · exact .inl (.inr ⟨o, k _ _ n h⟩)
  · exact .inr h
theorem new_ne {H : Hp} {p q : Addr} {o : HO} (h : upd H p o q = none) : q ≠ p ∧ H q = none := by
  have n : q ≠ p := fun e => by
    rw [e, upd_same] at h
    cases h
  rw [upd_ne n] at h
  exact ⟨n, h⟩
theorem same_new {H : Hp} {p : Addr} {o : HO} (h : H p = none) : Same H (upd H p o) := fun b x e => by
  rw [upd_ne (ne_of_none e h)]
  exact e
theorem Same.seqT {K : PySem.W.Frag} {H H' : Hp} {a : Addr} {xs : List V} (e : Same H H') (h : SqT K H a xs) : SqT K H' a xs := by
  rcases h with (h | ⟨o, h⟩) | h
  · exact .inl (.inl (e _ _ h))
  · exact .inl (.inr ⟨o, e _ _ h⟩)
  · exact .inr h
end Nal

/-! lists of whole numbers as data: ==, repr -/
namespace Nal
open PySem PySem.Spec PyProof.Rows L2
/-- a list of whole numbers as data -/
abbrev dInts (ns : List Int) : PyData := .list (ns.map PyData.int)
section
variable {K : PySem.W.Frag} {H : Hp} {a : Addr}
theorem dpAll_ints : ∀ ns : List Int, DpAll K H (ns.map V.int) (ns.map PyData.int)
  | [] => .nil
  | n :: r => .cons (.int n) (dpAll_ints r)
theorem dp_ints {ns : List Int} (h : SqL K H a (ns.map V.int)) : Dp K H (.ref a) (dInts ns) := .lst h (dpAll_ints ns)
end
theorem canLay_ints : ∀ ns : List Int, PyData.canLayAll0 (ns.map PyData.int) = true
  | [] => by simp [PyData.canLayAll0]
  | n :: r => by simp [PyData.canLayAll0, PyData.canLay0, canLay_ints r]
theorem depth_ints : ∀ ns : List Int, PyData.depthAll (ns.map PyData.int) = 0
  | [] => by simp [PyData.depthAll]
  | n :: r => by simp [PyData.depthAll, PyData.depth, depth_ints r]
theorem lay_ints (ns : List Int) : (dInts ns).canLay0 = true := by
  show PyData.canLay0 (.list _) = true
  simp only [PyData.canLay0, canLay_ints]
theorem shaped_ints (ns : List Int) : SeqAt.shaped (dInts ns) = true := by
  unfold SeqAt.shaped
  rw [lay_ints, Bool.true_and]
  refine decide_eq_true ?_
  simp only [PyData.depth, depth_ints]
  decide
theorem eqv_ints : ∀ ns ms : List Int, PyData.eqv (dInts ns) (dInts ms) = decide (ns = ms) := by
  have all : ∀ ns ms : List Int, PyData.eqvAll (ns.map PyData.int) (ms.map PyData.int) = decide (ns = ms) := by
    intro ns
    induction ns with
    | nil =>
      intro ms
      cases ms with
      | nil => simp [PyData.eqvAll]
      | cons m r => simp [PyData.eqvAll]
    | cons n r ih =>
      intro ms
      cases ms with
      | nil => simp [PyData.eqvAll]
      | cons m q =>
        rw [List.map_cons, List.map_cons]
        simp only [PyData.eqvAll, PyData.eqv, ih q]
        by_cases c : n = m
        · subst c
          simp
        · simp [c]
  intro ns ms
  simp only [PyData.eqv]
  exact all ns ms
theorem eqv_same (ns : List Int) : PyData.eqv (dInts ns) (dInts ns) = true := by rw [eqv_ints, decide_eq_true rfl]
theorem showy_ints {ns : List Int} {n : Nat} (h : ∀ z ∈ ns, z.natAbs < 10 ^ 40) (hn : ns.length ≤ n) : Showy n 1 (dInts ns) :=
  Showy.list ((ShowyAll.ints h).mono hn (Nat.le_refl _))
end Nal

namespace Nal
open PySem PySem.Spec PyProof.Rows L2 LamX
section
variable {X : Cx}
/-- a, b as a target, the written part named outright -/
theorem kpg_tup {es : List Expr} {k n : Nat} {t : TGs} {pos : Pos} (K : PySem.W.Frag) (hc : X.calm = true) (h : PGs X es t) (hn : (assignEach es X.env).length = n := by rfl)
    (hst : (assignEach es X.env).findIdx? (·.1) = none := by rfl) (hK : X.K = K := by rfl) : PG X (.Tuple es k pos) (gTup K n t) := by
  subst hK
  exact pg_tup hc h hn hst
end
/-- tuples stay -/
def Tups (H H' : Hp) : Prop := ∀ b xs, H b = some (.tup xs) → H' b = some (.tup xs)
theorem Tups.same {H H' : Hp} (s : Same H H') : Tups H H' := fun b xs e => s _ _ e
theorem Tups.ext {H H' : Hp} (s : ExtN H H') : Tups H H' := fun b xs e => s _ _ e (fun _ z => by cases z)
theorem Tups.keep {p : Addr} {H H' : Hp} {ys : List V} (hp : H p = some (.lst ys)) (k : Keep p H H') : Tups H H' := fun b xs e => k _ _ (ne_of e hp (by intro z; cases z)) e
/-- a tie as a value -/
def TieAt (H : Hp) (x : V) (t : Nat × Nat) : Prop := ∃ b, x = .ref b ∧ H b = some (.tup [.int (t.1 : Int), .int (t.2 : Int)])
abbrev TiesAt (H : Hp) : List V → List (Nat × Nat) → Prop := Paired (TieAt H)
theorem TieAt.more {H H' : Hp} {x : V} {t : Nat × Nat} (h : TieAt H x t) (k : Tups H H') : TieAt H' x t := by
  obtain ⟨b, e, h⟩ := h
  exact ⟨b, e, k _ _ h⟩
theorem TiesAt.more {H H' : Hp} {xs : List V} {ts : List (Nat × Nat)} (h : TiesAt H xs ts) (k : Tups H H') : TiesAt H' xs ts := Paired.mapP h fun _ _ z => z.more k
theorem TiesAt.len {H : Hp} {xs : List V} {ts : List (Nat × Nat)} (h : TiesAt H xs ts) : xs.length = ts.length := Paired.length h
theorem TiesAt.at {H : Hp} : ∀ {xs : List V} {ts : List (Nat × Nat)} {i : Nat} {x : V}, TiesAt H xs ts → xs[i]? = some x → ∃ t, ts[i]? = some t ∧ TieAt H x t
  | _, _, _, _, .nil, e => by simp at e
  | _, _, 0, _, .cons r _, e => by
    simp at e
    subst e
    exact ⟨_, rfl, r⟩
  | _, _, i + 1, x, .cons _ q, e => by
    obtain ⟨t, h1, h2⟩ := TiesAt.at (i := i) (x := x) q (by simpa using e)
    exact ⟨t, by simpa using h1, h2⟩
theorem TiesAt.snoc {H : Hp} : ∀ {xs : List V} {ts : List (Nat × Nat)} {x : V} {t : Nat × Nat}, TiesAt H xs ts → TieAt H x t → TiesAt H (xs ++ [x]) (ts ++ [t])
  | _, _, _, _, .nil, h => .cons h .nil
  | _, _, _, _, .cons r q, h => .cons r (TiesAt.snoc q h)
theorem TiesAt.mem {H : Hp} {xs : List V} {ts : List (Nat × Nat)} {x : V} (h : TiesAt H xs ts) (hx : x ∈ xs) : ∃ t ∈ ts, TieAt H x t := by
  obtain ⟨i, hi⟩ := List.mem_iff_getElem?.mp hx
  obtain ⟨t, h1, h2⟩ := h.at hi
  exact ⟨t, List.mem_of_getElem? h1, h2⟩
/-- ties as data -/
def dTie (t : Nat × Nat) : PyData := .tuple [.int (t.1 : Int), .int (t.2 : Int)]
abbrev dTies (ts : List (Nat × Nat)) : PyData := .list (ts.map dTie)
section
variable {K : PySem.W.Frag} {H : Hp}
theorem dp_tie {x : V} {t : Nat × Nat} (h : TieAt H x t) : Dp K H x (dTie t) := by
  obtain ⟨b, rfl, h⟩ := h
  exact .tup (.inl (.inl h)) (.cons (.int _) (.cons (.int _) .nil))
theorem dp_tiesAll : ∀ {xs : List V} {ts : List (Nat × Nat)}, TiesAt H xs ts → DpAll K H xs (ts.map dTie)
  | _, _, .nil => .nil
  | _, _, .cons r q => .cons (dp_tie r) (dp_tiesAll q)
theorem dp_ties {a : Addr} {xs : List V} {ts : List (Nat × Nat)} (hl : SqL K H a xs) (h : TiesAt H xs ts) : Dp K H (.ref a) (dTies ts) := .lst hl (dp_tiesAll h)
end
theorem lay_tiesAll : ∀ ts : List (Nat × Nat), PyData.canLayAll0 (ts.map dTie) = true
  | [] => by simp [PyData.canLayAll0]
  | t :: r => by simp [PyData.canLayAll0, dTie, PyData.canLay0, lay_tiesAll r]
theorem depth_tiesAll : ∀ ts : List (Nat × Nat), PyData.depthAll (ts.map dTie) ≤ 1
  | [] => by simp [PyData.depthAll]
  | t :: r => by
    have := depth_tiesAll r
    simp only [List.map_cons, PyData.depthAll, dTie, PyData.depth]
    omega
theorem shaped_ties (ts : List (Nat × Nat)) : SeqAt.shaped (dTies ts) = true := by
  unfold SeqAt.shaped
  have h1 : (dTies ts).canLay0 = true := by
    show PyData.canLay0 (.list _) = true
    simp only [PyData.canLay0, lay_tiesAll]
  rw [h1, Bool.true_and]
  refine decide_eq_true ?_
  have := depth_tiesAll ts
  simp only [PyData.depth]
  omega
theorem eqv_tiesAll : ∀ ts : List (Nat × Nat), PyData.eqvAll (ts.map dTie) (ts.map dTie) = true
  | [] => by simp [PyData.eqvAll]
  | t :: r => by
    have ih := eqv_tiesAll r
    simp only [List.map_cons, PyData.eqvAll, dTie, PyData.eqv, beq_self_eq_true, Bool.true_and]
    exact ih
theorem eqv_ties (ts : List (Nat × Nat)) : PyData.eqv (dTies ts) (dTies ts) = true := by
  simp only [PyData.eqv]
  exact eqv_tiesAll ts
theorem eqv_ties_nil (ts : List (Nat × Nat)) : PyData.eqv (dTies ts) (dTies []) = ts.isEmpty := by
  cases ts with
  | nil => rfl
  | cons t r => rfl
theorem showy_ties {ts : List (Nat × Nat)} (h : ∀ t ∈ ts, t.1 < 1000 ∧ t.2 < 1000) (hl : ts.length ≤ 100) : Showy 300 2 (dTies ts) := by
  have q := ShowyAll.of (m := 2) (dp := 1) (ds := ts.map dTie) fun d hd => by
    obtain ⟨t, ht, rfl⟩ := List.mem_map.mp hd
    have hb := h t ht
    have s : ∀ n : Nat, n < 1000 → (n : Int).natAbs < 10 ^ 40 := fun n hn => Nat.lt_of_lt_of_le (show (n : Int).natAbs < 1000 by omega) (by decide)
    exact (Showy.tuple (.cons (Showy.int (n := 0) (dp := 0) (s _ hb.1)) (.cons (Showy.int (n := 0) (dp := 0) (s _ hb.2)) (.nil (n := 0))))).mono (by omega) (by omega)
  rw [List.length_map] at q
  exact Showy.list (q.mono (by omega) (by omega))
end Nal

/-! o.m(..) and len(o): o an instance of one of several own classes, one promise for all. -/
namespace Nal
open PySem PySem.Spec PyProof.Rows L2
/-- the promise sp, where the first is an instance of C -/
def spAt (C : Addr) (sp : Sp) : Sp := fun vs H Q E => (∃ (a dx : Addr) (fs : List (Str × V)) (rest : List V), vs = .ref a :: rest ∧ H a = some (.ins C dx fs)) ∧ sp vs H Q E
/-- each class of S has a method m that keeps sp -/
structure MtU (P : Program) (w : World) (K : PySem.W.Frag) (mg : Str → Option Value) (base : Heap) (S : Addr → Prop) (k : Nat) (m : Str) (ps : List Str) (sp : Sp) : Prop where
  ex : ∀ C, S C → Cls K C ∧ Mt P w K mg base C k m ps (spAt C sp)
theorem Mt.imp {P : Program} {w : World} {K : PySem.W.Frag} {mg : Str → Option Value} {base : Heap} {C : Addr} {k j : Nat} {m : Str} {ps : List Str} {sp sp' : Sp} (h : Mt P w K mg base C k m ps sp) (hk : k ≤ j)
    (i : ∀ vs H Q E, sp' vs H Q E → sp vs H Q E) : Mt P w K mg base C j m ps sp' := by
  obtain ⟨f, fd, F, r⟩ := h.ex
  exact ⟨f, fd, (F.imp i).mono hk, r⟩
def tMethU (S : Addr → Prop) (m : Str) (sp : Sp) (ta : TE) (t : TA) : TE := fun σ H Q => ta σ H fun x H1 => ∃ (C a dx : Addr) (fs : List (Str × V)), S C ∧ x = .ref a ∧ H1 a = some (.ins C dx fs) ∧ fs.lookup m = none ∧
  t σ H1 fun vs H2 => (∃ dx' fs', H2 a = some (.ins C dx' fs')) ∧ sp (x :: vs) H2 Q E0
section
variable {X : Cx} {k j : Nat} {ps : List Str} {sp : Sp} {x m : Str} {S : Addr → Prop} {p pos apos : Pos} {e o : Expr} {es : List Expr} {t : TA} {ta : TE}
theorem pe_mthU {pl : Sem Bool} (he : PE X o ta) (h : MtU X.prog X.w X.K X.mg X.base S j m ps sp) (hr : Room k X.A) (hk : j ≤ k) (ha : PA X (e :: es) t)
    (hst : starEach (e :: es) X.env = (false, eval e X.env) :: starEach es X.env := by rfl) (hpl : (backTo pos (starEach es X.env)).any (·.1) = false := by rfl)
    (ht : eval (.Call (.Attribute o m apos) (e :: es) [] pos) X.env = (do
      let v ← eval o X.env
      standAt apos.atName
      let (f, first) ← holding [v] (getMethod v m pl)
      callWith pos f first (backTo pos (starEach (e :: es) X.env)) (backToKw pos (keywordEach [] X.env))) := by rfl) :
    PE X (.Call (.Attribute o m apos) (e :: es) [] pos) (tMethU S m sp ta t) := by
  refine ⟨fun pins s σ H Q I h1 => ?_⟩
  refine PySem.W.methodCall_KW (pl := pl) (thn (he.run pins s σ H _ I h1) fun u s1 ⟨x, H1, I1, rx, C, a, dx, fs, hS, ex, ea, l, q⟩ => ?_) ht
  subst ex
  obtain rfl : u = Value.ref a := rx
  obtain ⟨c, M⟩ := h.ex C hS
  obtain ⟨f, fd, F, hm, b⟩ := M.ex
  refine getmeth_ok I1 ea c hm l ?_
  refine PySem.W.callWith_K (first := [.ref a]) (h₀ := X.base) I.ok.mod.kin hm.kp (thn (ha.run pos pins s1 σ H1 _ I1 q) fun us s2 ⟨vs, H2, I2, r, ⟨dx', fs', ea'⟩, q2⟩ => ⟨I2.kIn, ?_⟩) hst hpl
  exact run_fn (dvs := []) (us := .ref a :: us) (vs := .ref a :: vs) F (hr.mono hk) b .nil pass0 I2 (.cons rfl r) (by rw [List.append_nil]; exact ⟨⟨a, dx', fs', vs, rfl, ea'⟩, q2⟩)
theorem pe_mthU0 {pl : Sem Bool} (he : PE X o ta) (h : MtU X.prog X.w X.K X.mg X.base S j m ps sp) (hr : Room k X.A) (hk : j ≤ k)
    (ht : eval (.Call (.Attribute o m apos) [] [] pos) X.env = (do
      let v ← eval o X.env
      standAt apos.atName
      let (f, first) ← holding [v] (getMethod v m pl)
      callWith pos f first (backTo pos (starEach [] X.env)) (backToKw pos (keywordEach [] X.env))) := by rfl) :
    PE X (.Call (.Attribute o m apos) [] [] pos) (tMethU S m sp ta tNil) := by
  refine ⟨fun pins s σ H Q I h1 => ?_⟩
  refine PySem.W.methodCall_KW (pl := pl) (thn (he.run pins s σ H _ I h1) fun u s1 ⟨x, H1, I1, rx, C, a, dx, fs, hS, ex, ea, l, ⟨dx', fs', ea'⟩, q⟩ => ?_) ht
  subst ex
  obtain rfl : u = Value.ref a := rx
  obtain ⟨c, M⟩ := h.ex C hS
  obtain ⟨f, fd, F, hm, b⟩ := M.ex
  have sp1 : spAt C sp [.ref a] H1 Q E0 := ⟨⟨a, dx', fs', [], rfl, ea'⟩, q⟩
  refine getmeth_ok I1 ea c hm l ?_
  exact PySem.W.callWith_K0 (first := [.ref a]) I1.kIn hm.kp (run_fn (dvs := []) (us := [.ref a]) (vs := [.ref a]) F (hr.mono hk) b .nil pass0 I1 (.cons rfl .nil) (by exact sp1))
def rLenU (S : Addr → Prop) (sp : Sp) : List V → Hp → VK → Prop := fun xs H Q => ∃ (C a dx : Addr) (fs : List (Str × V)), S C ∧ xs = [.ref a] ∧ H a = some (.ins C dx fs) ∧
  sp [.ref a] H (fun v H' => ∃ n : Nat, v = .int n ∧ n < 2 ^ 63 ∧ Q (.int n) H') E0
theorem call_lenU (h : MtU X.prog X.w X.K X.mg X.base S j "__len__" [x] sp) (hr : Room (k + 1) X.A) (hk : j ≤ k) : CallR X (.builtin "len") (rLenU S sp) := by
  intro pins s σ H xs us Q I r h1
  obtain ⟨C, a, dx, fs, hS, rfl, ea, hq⟩ := h1
  obtain ⟨c, M⟩ := h.ex C hS
  obtain ⟨f, fd, F, hm, b⟩ := M.ex
  exact call_lenO (C := C) hm.at_ hm.fn (F.mono hk) hr b pins s σ H _ us Q I r ⟨a, dx, fs, rfl, ea, ⟨a, dx, fs, [], rfl, ea⟩, hq⟩
end
end Nal

namespace Nal
open PySem PySem.Spec PyProof.Rows L2
def top (i : Nat) : Stmt := PySem.Challenge.pw_noaslong_k65_which_heap_is_later.main.body.getD i (.Pass ⟨0, 0, 0, 0⟩)
abbrev tp8 : Stmt := top 8
abbrev tp11 : Stmt := top 11
abbrev tp12 : Stmt := top 12
abbrev tp14 : Stmt := top 14
abbrev tp16 : Stmt := top 16
abbrev tp18 : Stmt := top 18
abbrev tp19 : Stmt := top 19
abbrev tp20 : Stmt := top 20
abbrev tp21 : Stmt := top 21
abbrev tp22 : Stmt := top 22
abbrev tp23 : Stmt := top 23
abbrev tp24 : Stmt := top 24
abbrev tp25 : Stmt := top 25
abbrev tp26 : Stmt := top 26
abbrev tc2_0 : Stmt := inClass (top 2) 0
abbrev tc6_0 : Stmt := inClass (top 6) 0
/-- a pot of draws -/
def Pot (H : Hp) (p : Addr) : Prop := ∃ a b : Int, H p = some (.lst [.int a, .int b]) ∧ 0 ≤ a ∧ 0 ≤ b ∧ b < 2147483648
theorem Pot.at {H H' : Hp} {p q : Addr} (h : Pot H p) (k : ∀ o, H p = some o → H' p = some o) : Pot H' p := by
  obtain ⟨a, b, h, r⟩ := h
  exact ⟨a, b, k _ h, r⟩
theorem Pot.ne {H : Hp} {p q : Addr} (h : Pot H p) (n : H q = none) : q ≠ p := fun e => by
  obtain ⟨a, b, h, _⟩ := h
  rw [e, h] at n
  cases n
theorem Pot.new {H : Hp} {p q : Addr} {o : HO} (h : Pot H p) (n : H q = none) : Pot (upd H q o) p := by
  obtain ⟨a, b, h, r⟩ := h
  exact ⟨a, b, by rw [upd_ne (ne_of_none h n)]; exact h, r⟩
theorem Pot.off {H : Hp} {p q : Addr} {o : HO} (h : Pot H p) (n : q ≠ p) : Pot (upd H q o) p := by
  obtain ⟨a, b, h, r⟩ := h
  exact ⟨a, b, by rw [upd_ne n.symm]; exact h, r⟩
theorem divp_small {i j : Int} (h0 : 0 < j) (h1 : j < 10 ^ 31) : CDivP i j := by
  refine ⟨h0, ?_⟩
  have hj : j.natAbs < 2 ^ 120 := by
    have : j.natAbs < 10 ^ 31 := by omega
    exact Nat.lt_of_lt_of_le this (by decide)
  have hne : j.natAbs ≠ 0 := by omega
  have hl : j.natAbs.log2 < 120 := (Nat.log2_lt hne).mpr hj
  have hz : (j == 0) = false := by
    rw [beq_eq_false_iff_ne]
    omega
  have hd : (decide ((if (j == 0) = true then 0 else j.natAbs.log2 / 30 + 1) > 300)) = false := by
    rw [hz]
    refine decide_eq_false ?_
    show ¬ (j.natAbs.log2 / 30 + 1 > 300)
    omega
  show (decide ((if (j == 0) = true then 0 else j.natAbs.log2 / 30 + 1) > 300) && _) = false
  rw [hd, Bool.false_and]
theorem fmod_in (x : Int) {n : Int} (h : 0 < n) : 0 ≤ x.fmod n ∧ x.fmod n < n := by
  rw [Int.fmod_eq_emod_of_nonneg x (Int.le_of_lt h)]
  exact ⟨Int.emod_nonneg _ (by omega), Int.emod_lt_of_pos _ h⟩
theorem max0 (x : Int) : 0 ≤ (if x > 0 then x else 0) := by
  split <;> omega
section
variable {P : Program} {w : World} {K : PySem.W.Frag} {mg : Str → Option Value} {base : Heap}
/-- a draw: some number below n -/
def spTake : Sp := fun vs H Q _ => ∃ (p : Addr) (n : Int), vs = [.ref p, .int n] ∧ 0 < n ∧ n < 10 ^ 31 ∧ Pot H p ∧
  ∀ (d : Int) (H' : Hp), 0 ≤ d → d < n → Keep p H H' → Pot H' p → Q (.int d) H'
theorem scTake : FnScope ["_law_pot_here", "_law_many", "_law_digit"] ["_law_pot_here", "_law_many"] (defScope tp19) := ⟨rfl, rfl, rfl, by decide +kernel, rfl, by decide +kernel, by decide +kernel⟩
theorem kn_take (h : At K mg "_law_take" tp19) (B : Bl mg) : Kn P w K mg base 1 "_law_take" ["_law_pot_here", "_law_many"] spTake := by
  refine kn_of h scTake (fun _ _ _ _ _ _ us hl => match us, hl with | [_, _], _ => rfl) (fun vs H Q E h => ?_) (fun f cdv A outer s H vs Q E hr h => ?_)
  · obtain ⟨p, n, rfl, _⟩ := h
    rfl
  · obtain ⟨p, n, rfl, n0, n1, ⟨a, b, hp, a0, b0, b1⟩, q⟩ := h
    refine ⟨_, (pss_cons (ps_if (pt_cmpR op_gt (pe_ix (kix_list K) (pv 0) pe_int (fun _ _ => rfl)) pe_int (nomark _)) (pss_cons (ps_asg (pe_callB call_divmodW (by rfl) B.divmod (by decide +kernel) (pa_cons (pe_ix (kix_list K) (pv 0) pe_int (fun _ _ => rfl)) (pa_cons (pv 1) pa_nil))) (kpg_tup (n := 2) K (by rfl) (pgs_cons (pg_sub (pv 0) pe_int set_list) (pgs_cons (pg_name (i := 2) scTake.nd rfl (Or.inl rfl)) pgs_nil))))
      (pss_one (ps_ret (pv 2)))) pss_nil)
      (pss_cons (ps_asg (pe_op op_modN (pe_op op_add (pe_op op_mul (pe_ix (kix_list K) (pv 0) pe_int (fun _ _ => rfl)) pe_int) pe_int) pe_int) (pg_sub (pv 0) pe_int set_list))
      (pss_one (ps_ret (pe_op op_modN (pe_op op_fdivN (pe_op op_modN (pe_op op_mul (pe_ix (kix_list K) (pv 0) pe_int (fun _ _ => rfl)) (pe_ix (kix_list K) (pv 0) pe_int (fun _ _ => rfl))) pe_int) pe_int) (pv 1)))))), ?_⟩
    refine ⟨.ref p, rfl, p, _, 0, _, rfl, rfl, SqL.of hp, atI_nat (j := 0) rfl, _, _, rfl, rfl, _, rfl, ite2 (fun c => ?_) (fun c => ?_)⟩
    · refine ⟨.ref p, rfl, p, _, 0, _, rfl, rfl, SqL.of hp, atI_nat (j := 0) rfl, .int n, rfl, a, n, rfl, divp_small n0 n1, fun t nt => ?_⟩
      have tp : p ≠ t := ne_of_none hp nt
      refine ⟨t, _, rfl, .inl (.inl upd_same), rfl, _, _, rfl, .ref p, rfl, p, _, 0, 0, rfl, rfl, (upd_ne tp).trans hp, rfl, _, _, rfl, rfl, ?_⟩
      refine ⟨_, rfl, ?_⟩
      refine q (a % n) _ (Int.emod_nonneg _ (by omega)) (Int.emod_lt_of_pos _ n0) (fun x o nx e => ?_) ⟨a / n, b, upd_same, Int.ediv_nonneg a0 (by omega), b0, b1⟩
      rw [upd_ne nx, upd_ne (ne_of_none e nt)]
      exact e
    · refine ⟨.ref p, rfl, p, _, 1, _, rfl, rfl, SqL.of hp, atI_nat (j := 1) rfl, b, 48271, rfl, rfl, .inr ⟨by decide, by decide⟩, _, _, rfl, rfl, _, _, rfl, rfl,
        (by decide : (2147483587 : Int) ≠ 0), .ref p, rfl, p, _, 1, 1, rfl, rfl, hp, rfl, ?_⟩
      have hb := fmod_in (b * 48271 + 10007) (n := 2147483587) (by decide)
      refine ⟨.ref p, rfl, p, _, 1, _, rfl, rfl, SqL.of upd_same, atI_nat (j := 1) rfl, .ref p, rfl, p, _, 1, _, rfl, rfl, SqL.of upd_same, atI_nat (j := 1) rfl, _, _, rfl, rfl,
        .inl ⟨by omega, by omega⟩, _, _, rfl, rfl, (by decide : (2147483563 : Int) ≠ 0), _, _, rfl, rfl, ⟨by decide, by decide⟩, .int n, rfl, _, _, rfl, rfl, (by omega : n ≠ 0), ?_⟩
      have hd := fmod_in ((((b * 48271 + 10007).fmod 2147483587 * (b * 48271 + 10007).fmod 2147483587).fmod 2147483563).fdiv 3) n0
      exact q _ _ hd.1 hd.2 Keep.upd ⟨a, _, upd_same, a0, hb.1, by omega⟩
/-- the pot of a cell -/
def spPot (K : PySem.W.Frag) : Sp := fun vs H Q _ => ∃ (a : Addr) (ns : List Int) (k : Nat), vs = [.ref a, .int k] ∧ k ≤ 64 ∧ SqL K H a (ns.map V.int) ∧
  ∀ (p : Addr) (H' : Hp), H p = none → Same H H' → Pot H' p → Q (.ref p) H'
theorem scPot : FnScope ["_law_script", "_law_k", "_law_cell"] ["_law_script", "_law_k"] (defScope tp18) := ⟨rfl, rfl, rfl, by decide +kernel, rfl, by decide +kernel, by decide +kernel⟩
theorem pot_pow {c : Int} (k : Nat) (hk : k ≤ 64) : (c.fmod 2147483549 + 97 * k + 1).natAbs < 2 ^ 64 ∧ 0 ≤ ((c.fmod 2147483549 + 97 * k + 1) ^ (2 : Int).toNat).fmod 2147483543 + 1 ∧ ((c.fmod 2147483549 + 97 * k + 1) ^ (2 : Int).toNat).fmod 2147483543 + 1 < 2147483648 := by
  have h1 := fmod_in c (n := 2147483549) (by decide)
  have h2 := fmod_in ((c.fmod 2147483549 + 97 * k + 1) ^ (2 : Int).toNat) (n := 2147483543) (by decide)
  have e : (2 : Nat) ^ 64 = 18446744073709551616 := by decide
  refine ⟨by rw [e]; omega, by omega, by omega⟩
theorem kn_pot (h : At K mg "_law_pot" tp18) (B : Bl mg) : Kn P w K mg base 1 "_law_pot" ["_law_script", "_law_k"] (spPot K) := by
  refine kn_of h scPot (fun _ _ _ _ _ _ us hl => match us, hl with | [_, _], _ => rfl) (fun vs H Q E h => ?_) (fun f cdv A outer s H vs Q E hr h => ?_)
  · obtain ⟨a, ns, k, rfl, _⟩ := h
    rfl
  · obtain ⟨a, ns, k, rfl, hk, hS, q⟩ := h
    refine ⟨_, (pss_cons (ps_set (i := 2) scPot.nd rfl (Or.inl rfl) pe_int)
      (pss_cons (ps_if (pt_cmpR op_lt (pv 1) (pe_callB (kcall_len K) (by rfl) B.len (by decide +kernel) (pa_cons (pv 0) pa_nil)) (nomark _)) (pss_one (ps_set (i := 2) scPot.nd rfl (Or.inl rfl) (pe_callB call_abs (by rfl) B.abs (by decide +kernel) (pa_cons (pe_ix (kix_list K) (pv 0) (pv 1) (fun _ _ => rfl)) pa_nil)))) pss_nil)
      (pss_one (ps_ret (pe_lst (pa_cons (pe_callB (call_max2 rfl) (by rfl) B.max (by decide +kernel) (pa_cons pe_int (pa_cons (pe_op op_sub (pv 2) (pe_op op_pow pe_int pe_int)) pa_nil))) (pa_cons (pe_op op_add (pe_op op_modN (pe_op op_pow (pe_op op_add (pe_op op_add (pe_op op_modN (pv 2) pe_int) (pe_op op_mul pe_int (pv 1))) pe_int) pe_int) pe_int) pe_int) pa_nil))))))), ?_⟩
    refine ⟨.int k, rfl, .ref a, rfl, a, _, rfl, .inl hS, _, _, rfl, rfl, _, rfl, ite2 (fun c => ?_) (fun c => ?_)⟩
    · have hlt : k < ns.length := by
        have c1 : (k : Int) < ((ns.map V.int).length : Int) := of_decide_eq_true c
        rw [List.length_map] at c1
        omega
      have hat : (ns.map V.int)[k]? = some (.int ns[k]) := by
        rw [List.getElem?_map, List.getElem?_eq_getElem hlt]
        rfl
      refine ⟨.ref a, rfl, .int k, rfl, a, _, k, _, rfl, rfl, hS, atI_nat hat, _, rfl, ?_⟩
      generalize (if ns[k] < 0 then -ns[k] else ns[k]) = c'
      have pw := pot_pow (c := c') k hk
      refine ⟨.int c', rfl, 10, 18, rfl, rfl, ⟨by decide, by decide, by decide⟩, c', _, rfl, rfl, 0, _, rfl, ?_⟩
      refine ⟨.int c', rfl, c', _, rfl, rfl, (by decide : (2147483549 : Int) ≠ 0), .int k, rfl, 97, k, rfl, rfl, .inl ⟨by decide, by decide⟩, _, _, rfl, rfl, _, _, rfl, rfl, _, 2, rfl, rfl, ⟨by decide, by decide, pw.1⟩,
        _, _, rfl, rfl, (by decide : (2147483543 : Int) ≠ 0), _, _, rfl, rfl, (by show 2 ≤ sizeLine; decide), fun p np => ?_⟩
      refine q p _ np (same_new np) ⟨_, _, upd_same, ?_, pw.2.1, pw.2.2⟩
      exact max0 _
    · let c' : Int := 0
      have pw := pot_pow (c := c') k hk
      refine ⟨.int c', rfl, 10, 18, rfl, rfl, ⟨by decide, by decide, by decide⟩, c', _, rfl, rfl, 0, _, rfl, ?_⟩
      refine ⟨.int c', rfl, c', _, rfl, rfl, (by decide : (2147483549 : Int) ≠ 0), .int k, rfl, 97, k, rfl, rfl, .inl ⟨by decide, by decide⟩, _, _, rfl, rfl, _, _, rfl, rfl, _, 2, rfl, rfl, ⟨by decide, by decide, pw.1⟩,
        _, _, rfl, rfl, (by decide : (2147483543 : Int) ≠ 0), _, _, rfl, rfl, (by show 2 ≤ sizeLine; decide), fun p np => ?_⟩
      refine q p _ np (same_new np) ⟨_, _, upd_same, ?_, pw.2.1, pw.2.2⟩
      exact max0 _
end
end Nal

/-! A method whose body is super().m(..): it keeps the promise of the method of that name above. -/
namespace Nal
open PySem PySem.Spec PyProof.Rows L2 LamX NdefX
/-- the method m of the class at C (object f) that goes to the class above (object f2) -/
structure SupAt (P : Program) (K : PySem.W.Frag) (mg : Str → Option Value) (C : Addr) (m q : Str) (st : Stmt) (f f2 : Addr) (fd : FuncData) : Prop where
  ex : ∃ (oc : Value) (od : Option Addr) (kV doc pm : Value) (an : Option Addr) (cda cc : Addr) (ct : Value) (osl : Array (Option Value)),
    fd = PySem.W.fnX m q (defArgs st) (defBody st) (defScope st) [("__class__", cc)] .none kV doc pm an (.ref cda) ct ∧ K.lookup f = some ⟨oc, od, .func fd, osl⟩ ∧ PySem.W.codeIn K (.ref cda) q = true ∧
    (∃ (ccl : Value) (cdd : Option Addr) (vs : Array Value) (ccs : Array (Option Value)) (file : Str) (tf : Tok), K.lookup cda = some ⟨ccl, cdd, .fields vs, ccs⟩ ∧ vs[2]? = some (.str file tf) ∧ ((P.main.file : Str) == file) = true) ∧
    ∃ (cl : Value) (cld : Option Addr) (csl : Array (Option Value)), K.lookup cc = some ⟨cl, cld, .cell (some (.ref C)), csl⟩
  cls : ∃ cd, PySem.W.clsIn K C = some cd
  sub : PySem.W.mroIn K C (.ref C) = some true
  opq : PySem.W.nsIn K cStatics "thirdparty.any" = some none
  up : PySem.W.ks_superIn K C C m = some (some (.ref f2))
  ty : PySem.W.typeIn K (.ref f2) = some (.type "function")
  fn : PySem.W.fnIn K f2 = true
  top : (P.main.scope.names.lookup ("super" : Str)).isSome = false
  mgn : mg "super" = none
abbrev supF (m q : Str) (st : Stmt) (cc cda : Addr) : NF := ⟨m, q, defArgs st, defBody st, defScope st, [("__class__", cc)], cda⟩
/-- its place: the class at C below the class at CA -/
structure SupM (P : Program) (K : PySem.W.Frag) (mg : Str → Option Value) (C CA : Addr) (m q : Str) (st : Stmt) : Prop where
  ex : ∃ (f f2 : Addr) (fd : FuncData), SupAt P K mg C m q st f f2 fd ∧ Meth K C m f ∧ PySem.W.findIn K (.ref CA) m = some (some (.ref f2))
section
variable {P : Program} {w : World} {K : PySem.W.Frag} {mg : Str → Option Value} {base : Heap} {C f f2 : Addr} {m q : Str} {st : Stmt} {fd fd2 : FuncData} {ps ps2 : List Str} {k : Nat} {sp : Sp}
theorem boot_super : bootBuiltins "super" = some (.type "super") := by decide +kernel
/-- the words super().m(es) in such a body -/
theorem sup_eval {cda cc : Addr} {oc : Value} {od : Option Addr} {osl : Array (Option Value)} {kV doc pm ct : Value} {an : Option Addr} {p0 p1 apos pos : Pos} {es : List Expr} {ar : Arg} {pl : Sem Bool}
    (S : SupAt P K mg C m q st f f2 fd) (sc : NScope (ps ++ [("__class__" : Str)]) ps ["__class__"] (defScope st)) (hks : (defScope st).names.lookup ("super" : Str) = some .globalImplicit)
    (ef : fd = PySem.W.fnX m q (defArgs st) (defBody st) (defScope st) [("__class__", cc)] .none kV doc pm an (.ref cda) ct) (lk : K.lookup f = some ⟨oc, od, .func fd, osl⟩)
    (hco : ∃ (ccl : Value) (cdd : Option Addr) (vs : Array Value) (ccs : Array (Option Value)) (file : Str) (tf : Tok), K.lookup cda = some ⟨ccl, cdd, .fields vs, ccs⟩ ∧ vs[2]? = some (.str file tf) ∧ ((P.main.file : Str) == file) = true)
    (hce : ∃ (cl : Value) (cld : Option Addr) (csl : Array (Option Value)), K.lookup cc = some ⟨cl, cld, .cell (some (.ref C)), csl⟩)
    (hp0 : ((defArgs st).posonlyargs ++ (defArgs st).args).head? = some ar) (hka : (defScope st).names.lookup ar.arg = some .local) (hat : (m == ("__class__" : Str)) = false)
    (F2 : FnOk P w K mg base CX0 k f2 fd2 ps2 sp) (hb2 : Binds K fd2 ps2 [])
    {A : Around} {outer : List Env} {s : Shared} {H : Hp} {σ : L2.St} {a dx : Addr} {fs : List (Str × V)} {us : List Value} {vs : List V} {Q : VK} {E : XK} {h₁ : Heap} {tk : Nat} {ma : Str → Option Value}
    (hr : Room k (A.deeper (envF (supF m q st cc cda) f s.heap.objs.size)))
    (I : Inv (ncx CX0 P w K mg base (ps ++ [("__class__" : Str)]) (supF m q st cc cda) f A outer s H E) [] σ H { s with heap := h₁, toks := tk })
    (hns : h₁.Ns s.heap.objs.size ma) (hma : ma ar.arg = some (.ref a)) (ea : H a = some (.ins C dx fs)) (r : Vals (.ref a :: vs) (.ref a :: us)) (hq : sp (.ref a :: vs) H Q E)
    (hargs : ∀ (h' : Heap) (tk : Nat), (∀ b o, h₁.get? b = some o → h'.get? b = some o) → wpAny (model P w) (A.deeper (envF (supF m q st cc cda) f s.heap.objs.size))
      (spliced (backTo pos (starEach es (envF (supF m q st cc cda) f s.heap.objs.size)))) (fun vs' s'' => vs' = us ∧ s'' = { s with heap := h', toks := tk }) (fun _ _ => False) { s with heap := h', toks := tk })
    (hpl : (backTo pos (starEach es (envF (supF m q st cc cda) f s.heap.objs.size))).any (·.1) = false)
    (he : eval (.Call (.Attribute (.Call (.Name "super" p0) [] [] p1) m apos) es [] pos) (envF (supF m q st cc cda) f s.heap.objs.size) = (do
      let ov ← attributeBase (.Call (.Name "super" p0) [] [] p1) m (envF (supF m q st cc cda) f s.heap.objs.size) (eval (.Call (.Name "super" p0) [] [] p1) (envF (supF m q st cc cda) f s.heap.objs.size))
      standAt apos.atName
      let (fn, first) ← holding [ov] (getMethod ov m pl)
      callWith pos fn first (backTo pos (starEach es (envF (supF m q st cc cda) f s.heap.objs.size))) [])) :
    PySem.wpAt (model P w) (A.deeper (envF (supF m q st cc cda) f s.heap.objs.size)) (.func (defBody st) (envF (supF m q st cc cda) f s.heap.objs.size))
      (eval (.Call (.Attribute (.Call (.Name "super" p0) [] [] p1) m apos) es [] pos) (envF (supF m q st cc cda) f s.heap.objs.size))
      (fun u s' => CE outer P w H s Q u s') (fun _ _ => False) { s with heap := h₁, toks := tk } := by
  subst ef
  obtain ⟨ccl, cdd, cvs, ccs, file, tf, hcode, hvs, hfile⟩ := hco
  obtain ⟨cl, cld, csl, hcell⟩ := hce
  obtain ⟨cd, hcd⟩ := S.cls
  have X1 := I.kIn
  have hkc : (defScope st).names.lookup ("__class__" : Str) = some .free := sc.frk _ List.mem_cons_self
  obtain ⟨oD, hD1, hD2⟩ : ∃ oD, h₁.get? C = some oD ∧ oD.data = .cls cd := by
    unfold PySem.W.clsIn at hcd
    split at hcd
    · rename_i c d cd' sl ho
      cases hcd
      exact ⟨_, X1 _ _ ho, rfl⟩
    · cases hcd
  obtain ⟨mA, O, _⟩ := ins_get I.hok ea
  obtain ⟨od', J, _⟩ := O.look
  obtain ⟨mb, h1, h2⟩ := I.mod.blt
  refine ks_wpAt_MethodCall (pl := pl) ?_ he
  refine ks_wpAt_super_base (env := envF (supF m q st cc cda) f s.heap.objs.size) hks hkc hat rfl (X1 _ _ lk) rfl hp0 rfl (X1 _ _ hcode) rfl hvs hfile S.top ?_
  refine PySem.W.ks_loadName_global sc.kind hks (Calls.loadGlobal_builtin (I.mod.glob.keeps I.bk) S.mgn (h1.keeps I.bk) ((h2 "super" (by decide)).trans boot_super) ⟨rfl, ?_⟩)
  refine wpAny_loadName_free sc.kind hkc rfl ⟨_, X1 _ _ hcell, rfl⟩ ?_
  refine wpAny_loadName_local sc.kind hka hns hma ?_
  refine ks_wpAny_isType_cls hD1 hD2 ⟨rfl, ?_⟩
  refine ks_wpAny_call_super hD1 hD2 J.at_ J.cls (fun c e => ?_) (PySem.W.looks_mroIn X1 S.sub) (fun h' e kk => ?_)
  · have := J.no
    unfold PySem.W.notCls at this
    rw [e] at this
    exact Bool.noConfusion this
  have I2 : Inv (ncx CX0 P w K mg base (ps ++ [("__class__" : Str)]) (supF m q st cc cda) f A outer s H E) [] σ H { s with heap := h', toks := tk } := I.kept kk
  have X2 := I2.kIn
  have hm := S.up
  unfold PySem.W.ks_superIn at hm
  rw [hcd] at hm
  obtain ⟨of, hof, hofc⟩ : ∃ of, h'.get? f2 = some of ∧ of.cls = .type "function" := by
    have ht' : (K.lookup f2).map (·.cls) = some (.type "function") := S.ty
    cases z : K.lookup f2 with
    | none => rw [z] at ht'; cases ht'
    | some of => rw [z] at ht'; exact ⟨of, X2 _ _ z, Option.some.inj ht'⟩
  have hne : a ≠ C := PySem.W.ks_ne X1 J hcd
  refine ks_wpAny_getMethod_super e (PySem.W.looks_opaque X2 S.opq) (l₀ := cd.mro) ?_ rfl X2 hm hof hofc hne hat ?_
  · exact fun A Q E s k q => wpAny_bind ((PySem.W.looks_clsIn X2 hcd) A _ E s k (wpAny_pure q))
  have I3 : Inv (ncx CX0 P w K mg base (ps ++ [("__class__" : Str)]) (supF m q st cc cda) f A outer s H E) [] σ H { s with heap := h'.push (PySem.W.methodObj (.ref f2) (.ref a)), toks := tk + 1 } := I2.kept fun b o e => Heap.get?_push_of_some _ e
  have hmo : (h'.push (PySem.W.methodObj (.ref f2) (.ref a))).get? h'.objs.size = some (PySem.W.methodObj (.ref f2) (.ref a)) := Heap.get?_push_at rfl rfl
  have many : (Value.ref a :: us).length = ps2.length := by
    rw [← r.length]
    exact F2.len _ _ _ _ hq
  have hb3 := hb2 { s with heap := h'.push (PySem.W.methodObj (.ref f2) (.ref a)), toks := tk + 1 } (.ref a :: us) I3.kIn (by rw [List.append_nil]; exact many)
  rw [List.append_nil] at hb3
  have run := F2.run _ _ { s with heap := h'.push (PySem.W.methodObj (.ref f2) (.ref a)), toks := tk + 1 } H ⟨.ref a :: us, []⟩ (.ref a :: us) (.ref a :: vs) Q E hr I3.env0 hb3 r hq
  refine PySem.W.callWith_of (P := PySem.W.MethP K h'.objs.size f2 (.ref a)) (by rw [hpl]; rfl) (PySem.W.keeps_M S.fn) (FK.evalArgs_any hpl (wpAny_mono (hargs _ _ fun b o e => Heap.get?_push_of_some _ (kk b o e)) (fun vs' s'' z => ?_) fun _ _ z => z))
  obtain ⟨rfl, rfl⟩ := z
  refine ⟨⟨hmo, I3.kIn⟩, wpAny_call (PySem.W.method_call hmo (codeAny_mono run fun res s' z => ?_))⟩
  match res, z with
  | .error e, z => exact False.elim z
  | .ok (.ret u), z =>
    obtain ⟨v, H', J', rv, q'⟩ := I3.after z
    exact ⟨v, H', J'.os, J'.bare, J'.base, J'.hok, rv, q'⟩
  | .ok .next, z => exact False.elim z
  | .ok .brk, z => exact False.elim z
  | .ok .cont, z => exact False.elim z
theorem sup_ok0 {x : Str} {p0 p1 apos pos rp : Pos} {ar : Arg} {pl : Env → Sem Bool}
    (S : SupAt P K mg C m q st f f2 fd) (sc : NScope ([x] ++ [("__class__" : Str)]) [x] ["__class__"] (defScope st)) (hks : (defScope st).names.lookup ("super" : Str) = some .globalImplicit)
    (hp0 : ((defArgs st).posonlyargs ++ (defArgs st).args).head? = some ar) (hx : ar.arg = x) (hat : (m == ("__class__" : Str)) = false) (F2 : FnOk P w K mg base CX0 k f2 fd2 ps2 sp) (hb2 : Binds K fd2 ps2 []) (hl2 : ps2.length = 1)
    (hbody : defBody st = [.Return (some (.Call (.Attribute (.Call (.Name "super" p0) [] [] p1) m apos) [] [] pos)) rp])
    (he : ∀ env : Env, eval (.Call (.Attribute (.Call (.Name "super" p0) [] [] p1) m apos) [] [] pos) env = (do
      let ov ← attributeBase (.Call (.Name "super" p0) [] [] p1) m env (eval (.Call (.Name "super" p0) [] [] p1) env)
      standAt apos.atName
      let (fn, first) ← holding [ov] (getMethod ov m (pl env))
      callWith pos fn first (backTo pos (starEach [] env)) [])) :
    FnOk P w K mg base CX0 (k + 1) f fd [x] (spAt C sp) := by
  obtain ⟨oc, od, kV, doc, pm, an, cda, cc, ct, osl, ef, lk, hcd, hco, hce⟩ := S.ex
  refine ⟨fun vs H Q E z => by rw [F2.len _ _ _ _ z.2, hl2]; rfl, fun A outer s H args us vs Q E hr e0 hb r hsp => ?_⟩
  obtain ⟨⟨a, dx, fs, rest, rfl, ea⟩, hq⟩ := hsp
  have hlen := F2.len _ _ _ _ hq
  rw [hl2] at hlen
  have KX : K.In s.heap := e0.mod.kin.keeps fun b o e => (e0.bs b o e).1
  have lim : s.heap.NoLimit := e0.mod.nolimit.keeps fun b o e => (e0.bs b o e).1
  have ef' := ef
  subst ef'
  obtain ⟨cl, cld, csl, hcell⟩ := hce
  have hcc : H cc = none := (e0.bs cc _ (e0.mod.kin _ _ hcell)).2
  have C0 : CellsAt [(("__class__" : Str), cc)] ["__class__"] [none] s.heap H := by
    refine ⟨rfl, fun y c e => ?_, fun y z c e1 e2 => ?_, fun i y hi => ?_⟩
    · have e' : c = cc := by
        by_cases hy : y = "__class__"
        · subst hy
          simp [List.lookup] at e
          exact e.symm
        · rw [List.lookup_cons, beq_false_of_ne hy] at e
          cases e
      rw [e']
      exact ⟨hcc, _, ⟨_, KX _ _ hcell, rfl⟩⟩
    · have g : ∀ y, ([(("__class__" : Str), cc)] : List (Str × Addr)).lookup y = some c → y = "__class__" := fun y e => by
        by_cases hy : y = "__class__"
        · exact hy
        · rw [List.lookup_cons, beq_false_of_ne hy] at e
          cases e
      rw [g y e1, g z e2]
    · have hi' : y = "__class__" := by
        cases i with
        | zero => simpa using hi.symm
        | succ i => simp at hi
      subst hi'
      refine ⟨cc, by simp [List.lookup], fun v hv => ?_⟩
      cases i with
      | zero => simp at hv
      | succ i => simp at hv
  cases r with
  | cons ra rn =>
  have er : rest = [] := List.eq_nil_of_length_eq_zero (by simpa using hlen)
  subst er
  cases rn
  cases ra
  refine ks_codeAny_call_defAt (body := defBody st) (binds := [x].zip [.ref a]) hr.depth (KX _ _ lk) rfl lim (PySem.W.codeRec_of KX hcd) rfl hb sc.nocell (fun ⟨n, _⟩ hy => sc.par n (List.of_mem_zip hy).1) (fun h₁ hns kp => ?_) sc.co sc.gen sc.kind
  have I : Inv (ncx CX0 P w K mg base ([x] ++ [("__class__" : Str)]) (supF m q st cc cda) f A outer s H E) [] (startF ([x] ++ [("__class__" : Str)]) (.ref a :: []) [none]) H { s with heap := h₁, toks := s.toks + ([x].zip [.ref a] : List (Str × Value)).length } :=
    inv_startN (ps := [x]) (us := [.ref a]) sc hr.hd e0 rfl (.cons rfl .nil) C0 hns kp
  refine ks_wpAt_mono (Q := fun fl s' => ∃ u, fl = .ret u ∧ CE outer P w H s Q u s') (E := fun _ _ => False) ?_ (fun fl s' z => ?_) (fun _ _ z => z.elim)
  rotate_left
  · obtain ⟨u, rfl, z⟩ := z
    exact z
  show PySem.wpAt _ _ _ (execs (defBody st) (envF (supF m q st cc cda) f s.heap.objs.size)) _ _ _
  have go := sup_eval (ps := [x]) (pl := pl (envF (supF m q st cc cda) f s.heap.objs.size)) (es := []) (us := []) (vs := []) (Q := Q) (ma := fun y => ([x].zip [.ref a]).reverse.lookup y) S sc hks ef lk hco ⟨cl, cld, csl, hcell⟩ hp0 (by rw [hx]; exact sc.par _ List.mem_cons_self) hat F2 hb2 (hr.deeper _) I hns ?hma ea (.cons rfl .nil) hq ?hargs rfl (he _)
  case hma =>
    rw [hx]
    simp [List.zip, List.lookup]
  case hargs =>
    exact fun h' tk kk => Calls.spliced_nil ⟨rfl, rfl⟩
  have e1 : execs (defBody st) (envF (supF m q st cc cda) f s.heap.objs.size) = execs [.Return (some (.Call (.Attribute (.Call (.Name "super" p0) [] [] p1) m apos) [] [] pos)) rp] (envF (supF m q st cc cda) f s.heap.objs.size) := by rw [hbody]
  rw [e1]
  exact ks_wpAt_execs_cons (ks_wpAt_Return_some (ks_wpAt_mono go (fun u s' z => ⟨u, rfl, z⟩) fun _ _ z => z))
theorem sup_ok1 {x y : Str} {p0 p1 apos pos rp py : Pos} {ar : Arg} {pl : Env → Sem Bool}
    (S : SupAt P K mg C m q st f f2 fd) (sc : NScope ([x, y] ++ [("__class__" : Str)]) [x, y] ["__class__"] (defScope st)) (hks : (defScope st).names.lookup ("super" : Str) = some .globalImplicit)
    (hp0 : ((defArgs st).posonlyargs ++ (defArgs st).args).head? = some ar) (hx : ar.arg = x) (hat : (m == ("__class__" : Str)) = false) (F2 : FnOk P w K mg base CX0 k f2 fd2 ps2 sp) (hb2 : Binds K fd2 ps2 []) (hl2 : ps2.length = 2)
    (hxy : x ≠ y) (hdy : (y == ("__debug__" : Str)) = false)
    (hbody : defBody st = [.Return (some (.Call (.Attribute (.Call (.Name "super" p0) [] [] p1) m apos) [.Name y py] [] pos)) rp])
    (he : ∀ env : Env, eval (.Call (.Attribute (.Call (.Name "super" p0) [] [] p1) m apos) [.Name y py] [] pos) env = (do
      let ov ← attributeBase (.Call (.Name "super" p0) [] [] p1) m env (eval (.Call (.Name "super" p0) [] [] p1) env)
      standAt apos.atName
      let (fn, first) ← holding [ov] (getMethod ov m (pl env))
      callWith pos fn first (backTo pos (starEach [.Name y py] env)) [])) :
    FnOk P w K mg base CX0 (k + 1) f fd [x, y] (spAt C sp) := by
  obtain ⟨oc, od, kV, doc, pm, an, cda, cc, ct, osl, ef, lk, hcd, hco, hce⟩ := S.ex
  refine ⟨fun vs H Q E z => by rw [F2.len _ _ _ _ z.2, hl2]; rfl, fun A outer s H args us vs Q E hr e0 hb r hsp => ?_⟩
  obtain ⟨⟨a, dx, fs, rest, rfl, ea⟩, hq⟩ := hsp
  have hlen := F2.len _ _ _ _ hq
  rw [hl2] at hlen
  have KX : K.In s.heap := e0.mod.kin.keeps fun b o e => (e0.bs b o e).1
  have lim : s.heap.NoLimit := e0.mod.nolimit.keeps fun b o e => (e0.bs b o e).1
  have ef' := ef
  subst ef'
  obtain ⟨cl, cld, csl, hcell⟩ := hce
  have hcc : H cc = none := (e0.bs cc _ (e0.mod.kin _ _ hcell)).2
  have C0 : CellsAt [(("__class__" : Str), cc)] ["__class__"] [none] s.heap H := by
    refine ⟨rfl, fun y c e => ?_, fun y z c e1 e2 => ?_, fun i y hi => ?_⟩
    · have e' : c = cc := by
        by_cases hy : y = "__class__"
        · subst hy
          simp [List.lookup] at e
          exact e.symm
        · rw [List.lookup_cons, beq_false_of_ne hy] at e
          cases e
      rw [e']
      exact ⟨hcc, _, ⟨_, KX _ _ hcell, rfl⟩⟩
    · have g : ∀ y, ([(("__class__" : Str), cc)] : List (Str × Addr)).lookup y = some c → y = "__class__" := fun y e => by
        by_cases hy : y = "__class__"
        · exact hy
        · rw [List.lookup_cons, beq_false_of_ne hy] at e
          cases e
      rw [g y e1, g z e2]
    · have hi' : y = "__class__" := by
        cases i with
        | zero => simpa using hi.symm
        | succ i => simp at hi
      subst hi'
      refine ⟨cc, by simp [List.lookup], fun v hv => ?_⟩
      cases i with
      | zero => simp at hv
      | succ i => simp at hv
  match rest, hlen with
  | [v], _ =>
  cases r with
  | cons ra rn =>
  cases rn with
  | cons rv rn =>
  rename_i uv us'
  cases rn
  cases ra
  refine ks_codeAny_call_defAt (body := defBody st) (binds := [x, y].zip [.ref a, uv]) hr.depth (KX _ _ lk) rfl lim (PySem.W.codeRec_of KX hcd) rfl hb sc.nocell (fun ⟨n, _⟩ hy => sc.par n (List.of_mem_zip hy).1) (fun h₁ hns kp => ?_) sc.co sc.gen sc.kind
  have I : Inv (ncx CX0 P w K mg base ([x, y] ++ [("__class__" : Str)]) (supF m q st cc cda) f A outer s H E) [] (startF ([x, y] ++ [("__class__" : Str)]) (.ref a :: [v]) [none]) H { s with heap := h₁, toks := s.toks + ([x, y].zip [.ref a, uv] : List (Str × Value)).length } :=
    inv_startN (ps := [x, y]) (us := [.ref a, uv]) sc hr.hd e0 rfl (.cons rfl (.cons rv .nil)) C0 hns kp
  refine ks_wpAt_mono (Q := fun fl s' => ∃ u, fl = .ret u ∧ CE outer P w H s Q u s') (E := fun _ _ => False) ?_ (fun fl s' z => ?_) (fun _ _ z => z.elim)
  rotate_left
  · obtain ⟨u, rfl, z⟩ := z
    exact z
  show PySem.wpAt _ _ _ (execs (defBody st) (envF (supF m q st cc cda) f s.heap.objs.size)) _ _ _
  have go := sup_eval (ps := [x, y]) (pl := pl (envF (supF m q st cc cda) f s.heap.objs.size)) (es := [.Name y py]) (us := [uv]) (vs := [v]) (Q := Q) (ma := fun z0 => ([x, y].zip [.ref a, uv]).reverse.lookup z0) S sc hks ef lk hco ⟨cl, cld, csl, hcell⟩ hp0 (by rw [hx]; exact sc.par _ List.mem_cons_self) hat F2 hb2 (hr.deeper _) I hns ?hma ea (.cons rfl (.cons rv .nil)) hq ?hargs rfl (he _)
  case hma =>
    rw [hx]
    simp [List.zip, List.lookup, beq_false_of_ne hxy]
  case hargs =>
    refine fun h' tk kk => Calls.spliced_cons (ESX.ldL (m := fun z => ([x, y].zip [.ref a, uv]).reverse.lookup z) (v := uv) (hns.keeps kk) (by simp [List.zip, List.lookup]) (Calls.spliced_nil ⟨rfl, rfl⟩) sc.kind (sc.par _ (List.mem_cons_of_mem _ List.mem_cons_self)) hdy)
  have e1 : execs (defBody st) (envF (supF m q st cc cda) f s.heap.objs.size) = execs [.Return (some (.Call (.Attribute (.Call (.Name "super" p0) [] [] p1) m apos) [.Name y py] [] pos)) rp] (envF (supF m q st cc cda) f s.heap.objs.size) := by rw [hbody]
  rw [e1]
  exact ks_wpAt_execs_cons (ks_wpAt_Return_some (ks_wpAt_mono go (fun u s' z => ⟨u, rfl, z⟩) fun _ _ z => z))
theorem sup_okI {x y : Str} {p0 p1 apos pos rp py : Pos} {ar : Arg} {pl : Env → Sem Bool}
    (S : SupAt P K mg C m q st f f2 fd) (sc : NScope ([x, y] ++ [("__class__" : Str)]) [x, y] ["__class__"] (defScope st)) (hks : (defScope st).names.lookup ("super" : Str) = some .globalImplicit)
    (hp0 : ((defArgs st).posonlyargs ++ (defArgs st).args).head? = some ar) (hx : ar.arg = x) (hat : (m == ("__class__" : Str)) = false) (F2 : FnOk P w K mg base CX0 k f2 fd2 ps2 sp) (hb2 : Binds K fd2 ps2 []) (hl2 : ps2.length = 2)
    (hxy : x ≠ y) (hdy : (y == ("__debug__" : Str)) = false)
    (hnon : ∀ vs H Q E, sp vs H Q E → sp vs H (fun v H' => v = .non ∧ Q .non H') E) (hsw : ∀ env : Env, swapsWith (.Call (.Attribute (.Call (.Name "super" p0) [] [] p1) m apos) [.Name y py] [] pos) none rp.line env = pure false) (hint : ∀ (L : Addr) (cc cda : Addr), interactive (envF (supF m q st cc cda) f L) = false)
    (hbody : defBody st = [.Expr (.Call (.Attribute (.Call (.Name "super" p0) [] [] p1) m apos) [.Name y py] [] pos) rp])
    (he : ∀ env : Env, eval (.Call (.Attribute (.Call (.Name "super" p0) [] [] p1) m apos) [.Name y py] [] pos) env = (do
      let ov ← attributeBase (.Call (.Name "super" p0) [] [] p1) m env (eval (.Call (.Name "super" p0) [] [] p1) env)
      standAt apos.atName
      let (fn, first) ← holding [ov] (getMethod ov m (pl env))
      callWith pos fn first (backTo pos (starEach [.Name y py] env)) [])) :
    FnOk P w K mg base CX0 (k + 1) f fd [x, y] (spAt C sp) := by
  obtain ⟨oc, od, kV, doc, pm, an, cda, cc, ct, osl, ef, lk, hcd, hco, hce⟩ := S.ex
  refine ⟨fun vs H Q E z => by rw [F2.len _ _ _ _ z.2, hl2]; rfl, fun A outer s H args us vs Q E hr e0 hb r hsp => ?_⟩
  obtain ⟨⟨a, dx, fs, rest, rfl, ea⟩, hq⟩ := hsp
  have hlen := F2.len _ _ _ _ hq
  rw [hl2] at hlen
  have KX : K.In s.heap := e0.mod.kin.keeps fun b o e => (e0.bs b o e).1
  have lim : s.heap.NoLimit := e0.mod.nolimit.keeps fun b o e => (e0.bs b o e).1
  have ef' := ef
  subst ef'
  obtain ⟨cl, cld, csl, hcell⟩ := hce
  have hcc : H cc = none := (e0.bs cc _ (e0.mod.kin _ _ hcell)).2
  have C0 : CellsAt [(("__class__" : Str), cc)] ["__class__"] [none] s.heap H := by
    refine ⟨rfl, fun y c e => ?_, fun y z c e1 e2 => ?_, fun i y hi => ?_⟩
    · have e' : c = cc := by
        by_cases hy : y = "__class__"
        · subst hy
          simp [List.lookup] at e
          exact e.symm
        · rw [List.lookup_cons, beq_false_of_ne hy] at e
          cases e
      rw [e']
      exact ⟨hcc, _, ⟨_, KX _ _ hcell, rfl⟩⟩
    · have g : ∀ y, ([(("__class__" : Str), cc)] : List (Str × Addr)).lookup y = some c → y = "__class__" := fun y e => by
        by_cases hy : y = "__class__"
        · exact hy
        · rw [List.lookup_cons, beq_false_of_ne hy] at e
          cases e
      rw [g y e1, g z e2]
    · have hi' : y = "__class__" := by
        cases i with
        | zero => simpa using hi.symm
        | succ i => simp at hi
      subst hi'
      refine ⟨cc, by simp [List.lookup], fun v hv => ?_⟩
      cases i with
      | zero => simp at hv
      | succ i => simp at hv
  match rest, hlen with
  | [v], _ =>
  cases r with
  | cons ra rn =>
  cases rn with
  | cons rv rn =>
  rename_i uv us'
  cases rn
  cases ra
  refine ks_codeAny_call_defAt (body := defBody st) (binds := [x, y].zip [.ref a, uv]) hr.depth (KX _ _ lk) rfl lim (PySem.W.codeRec_of KX hcd) rfl hb sc.nocell (fun ⟨n, _⟩ hy => sc.par n (List.of_mem_zip hy).1) (fun h₁ hns kp => ?_) sc.co sc.gen sc.kind
  have I : Inv (ncx CX0 P w K mg base ([x, y] ++ [("__class__" : Str)]) (supF m q st cc cda) f A outer s H E) [] (startF ([x, y] ++ [("__class__" : Str)]) (.ref a :: [v]) [none]) H { s with heap := h₁, toks := s.toks + ([x, y].zip [.ref a, uv] : List (Str × Value)).length } :=
    inv_startN (ps := [x, y]) (us := [.ref a, uv]) sc hr.hd e0 rfl (.cons rfl (.cons rv .nil)) C0 hns kp
  have hq' := hnon _ _ _ _ hq
  refine ks_wpAt_mono (Q := fun fl s' => fl = .next ∧ ∃ u, CE outer P w H s (fun v H' => v = .non ∧ Q .non H') u s') (E := fun _ _ => False) ?_ (fun fl s' z => ?_) (fun _ _ z => z.elim)
  rotate_left
  · obtain ⟨rfl, u, v, H', z1, z2, z3, z4, _, _, z5⟩ := z
    exact ⟨.non, H', z1, z2, z3, z4, rfl, z5⟩
  have go := sup_eval (ps := [x, y]) (pl := pl (envF (supF m q st cc cda) f s.heap.objs.size)) (es := [.Name y py]) (us := [uv]) (vs := [v]) (Q := fun v H' => v = .non ∧ Q .non H') (ma := fun z0 => ([x, y].zip [.ref a, uv]).reverse.lookup z0) S sc hks ef lk hco ⟨cl, cld, csl, hcell⟩ hp0 (by rw [hx]; exact sc.par _ List.mem_cons_self) hat F2 hb2 (hr.deeper _) I hns ?hma ea (.cons rfl (.cons rv .nil)) hq' ?hargs rfl (he _)
  case hma =>
    rw [hx]
    simp [List.zip, List.lookup, beq_false_of_ne hxy]
  case hargs =>
    refine fun h' tk kk => Calls.spliced_cons (ESX.ldL (m := fun z => ([x, y].zip [.ref a, uv]).reverse.lookup z) (v := uv) (hns.keeps kk) (by simp [List.zip, List.lookup]) (Calls.spliced_nil ⟨rfl, rfl⟩) sc.kind (sc.par _ (List.mem_cons_of_mem _ List.mem_cons_self)) hdy)
  show PySem.wpAt _ _ _ (execs (defBody st) (envF (supF m q st cc cda) f s.heap.objs.size)) _ _ _
  have e1 : execs (defBody st) (envF (supF m q st cc cda) f s.heap.objs.size) = execs [.Expr (.Call (.Attribute (.Call (.Name "super" p0) [] [] p1) m apos) [.Name y py] [] pos) rp] (envF (supF m q st cc cda) f s.heap.objs.size) := by rw [hbody]
  rw [e1]
  refine ks_wpAt_execs_cons (ks_wpAt_Expr_any (ks_wpAt_mono go (fun u s' z => ?_) fun _ _ z => z) (hint _ _ _) (hsw _))
  exact PySem.wpAt_of_wpAny (wpAny_pure ⟨rfl, u, z⟩)
theorem mt_sup0 {CA : Addr} {x : Str} {p0 p1 apos pos rp : Pos} {ar : Arg} {pl : Env → Sem Bool} (h : SupM P K mg C CA m q st) (M : Mt P w K mg base CA k m ps2 sp)
    (sc : NScope ([x] ++ [("__class__" : Str)]) [x] ["__class__"] (defScope st)) (hks : (defScope st).names.lookup ("super" : Str) = some .globalImplicit)
    (hp0 : ((defArgs st).posonlyargs ++ (defArgs st).args).head? = some ar) (hx : ar.arg = x) (hat : (m == ("__class__" : Str)) = false) (hl2 : ps2.length = 1)
    (hbody : defBody st = [.Return (some (.Call (.Attribute (.Call (.Name "super" p0) [] [] p1) m apos) [] [] pos)) rp])
    (he : ∀ env : Env, eval (.Call (.Attribute (.Call (.Name "super" p0) [] [] p1) m apos) [] [] pos) env = (do
      let ov ← attributeBase (.Call (.Name "super" p0) [] [] p1) m env (eval (.Call (.Name "super" p0) [] [] p1) env)
      standAt apos.atName
      let (fn, first) ← holding [ov] (getMethod ov m (pl env))
      callWith pos fn first (backTo pos (starEach [] env)) []))
    (hb : ∀ (cc : Addr) (kV doc pm : Value) (an : Option Addr) (cdv ct : Value) (us : List Value), us.length = [x].length → bindArgs (PySem.W.fnX m q (defArgs st) (defBody st) (defScope st) [("__class__", cc)] .none kV doc pm an cdv ct) ⟨us, []⟩ = pure ([x].zip us)) :
    Mt P w K mg base C (k + 1) m [x] (spAt C sp) := by
  obtain ⟨f, f2, fd, S, Me, at2⟩ := h.ex
  obtain ⟨f2', fd2, F2, Me2, b2⟩ := M.ex
  have e : f2' = f2 := by
    have e := Me2.at_.symm.trans at2
    injection e with e
    injection e with e
    injection e
  subst e
  obtain ⟨oc, od, kV, doc, pm, an, cda, cc, ct, osl, ef, _⟩ := S.ex
  refine ⟨f, fd, sup_ok0 S sc hks hp0 hx hat F2 b2 hl2 hbody he, Me, ?_⟩
  subst ef
  exact Binds.all fun us hl => hb _ _ _ _ _ _ _ us hl
theorem mt_sup1 {CA : Addr} {x y : Str} {p0 p1 apos pos rp py : Pos} {ar : Arg} {pl : Env → Sem Bool} (h : SupM P K mg C CA m q st) (M : Mt P w K mg base CA k m ps2 sp)
    (sc : NScope ([x, y] ++ [("__class__" : Str)]) [x, y] ["__class__"] (defScope st)) (hks : (defScope st).names.lookup ("super" : Str) = some .globalImplicit)
    (hp0 : ((defArgs st).posonlyargs ++ (defArgs st).args).head? = some ar) (hx : ar.arg = x) (hat : (m == ("__class__" : Str)) = false) (hl2 : ps2.length = 2)
    (hxy : x ≠ y) (hdy : (y == ("__debug__" : Str)) = false)
    (hbody : defBody st = [.Return (some (.Call (.Attribute (.Call (.Name "super" p0) [] [] p1) m apos) [.Name y py] [] pos)) rp])
    (he : ∀ env : Env, eval (.Call (.Attribute (.Call (.Name "super" p0) [] [] p1) m apos) [.Name y py] [] pos) env = (do
      let ov ← attributeBase (.Call (.Name "super" p0) [] [] p1) m env (eval (.Call (.Name "super" p0) [] [] p1) env)
      standAt apos.atName
      let (fn, first) ← holding [ov] (getMethod ov m (pl env))
      callWith pos fn first (backTo pos (starEach [.Name y py] env)) []))
    (hb : ∀ (cc : Addr) (kV doc pm : Value) (an : Option Addr) (cdv ct : Value) (us : List Value), us.length = [x, y].length → bindArgs (PySem.W.fnX m q (defArgs st) (defBody st) (defScope st) [("__class__", cc)] .none kV doc pm an cdv ct) ⟨us, []⟩ = pure ([x, y].zip us)) :
    Mt P w K mg base C (k + 1) m [x, y] (spAt C sp) := by
  obtain ⟨f, f2, fd, S, Me, at2⟩ := h.ex
  obtain ⟨f2', fd2, F2, Me2, b2⟩ := M.ex
  have e : f2' = f2 := by
    have e := Me2.at_.symm.trans at2
    injection e with e
    injection e with e
    injection e
  subst e
  obtain ⟨oc, od, kV, doc, pm, an, cda, cc, ct, osl, ef, _⟩ := S.ex
  refine ⟨f, fd, sup_ok1 S sc hks hp0 hx hat F2 b2 hl2 hxy hdy hbody he, Me, ?_⟩
  subst ef
  exact Binds.all fun us hl => hb _ _ _ _ _ _ _ us hl
end
end Nal
namespace Nal
open PySem PySem.Spec PyProof.Rows L2 LamX NdefX
theorem supM_mk {P : Program} {K : PySem.W.Frag} {mg : Str → Option Value} {C CA : Addr} {m q : Str} {st : Stmt} {f f2 cda cc : Addr} {oc kV doc pm ct ccl cl : Value} {od an cdd cld : Option Addr} {osl ccs csl : Array (Option Value)} {vs : Array Value} {file : Str} {tf : Tok} {cd : ClassData}
    (a : PySem.W.findIn K (.ref C) m = some (some (.ref f))) (pa : PySem.W.findIn K (.ref CA) m = some (some (.ref f2)))
    (l : K.lookup f = some ⟨oc, od, .func (PySem.W.fnX m q (defArgs st) (defBody st) (defScope st) [("__class__", cc)] .none kV doc pm an (.ref cda) ct), osl⟩)
    (i : PySem.W.isFn K (.ref f) = true) (k : PySem.W.keepIn K (.ref f) = true) (hcd : PySem.W.codeIn K (.ref cda) q = true) (hco : K.lookup cda = some ⟨ccl, cdd, .fields vs, ccs⟩) (hvs : vs[2]? = some (.str file tf)) (hfile : ((P.main.file : Str) == file) = true)
    (hce : K.lookup cc = some ⟨cl, cld, .cell (some (.ref C)), csl⟩) (cls : PySem.W.clsIn K C = some cd) (sub : PySem.W.mroIn K C (.ref C) = some true) (opq : PySem.W.nsIn K cStatics "thirdparty.any" = some none)
    (up : PySem.W.ks_superIn K C C m = some (some (.ref f2))) (ty : PySem.W.typeIn K (.ref f2) = some (.type "function")) (fn : PySem.W.fnIn K f2 = true) (top : (P.main.scope.names.lookup ("super" : Str)).isSome = false) (mgn : mg "super" = none) : SupM P K mg C CA m q st :=
  ⟨f, f2, _, ⟨⟨oc, od, kV, doc, pm, an, cda, cc, ct, osl, rfl, l, hcd, ⟨ccl, cdd, vs, ccs, file, tf, hco, hvs, hfile⟩, cl, cld, csl, hce⟩, ⟨cd, cls⟩, sub, opq, up, ty, fn, top, mgn⟩, ⟨a, i, k⟩, pa⟩
end Nal

/-! A head by one run in the kernel: what a law's end asks of the top, looked at by a Hook; the compiled text stays small. -/
namespace Nal
open PySem PySem.Spec PyProof.Rows L2 LamX NdefX
def forceL {α β : Type} : List α → (List α → β) → β
  | [], k => k []
  | x :: xs, k => forceL xs fun ys => k (x :: ys)
theorem forceL_eq {α β : Type} : ∀ (l : List α) (k : List α → β), forceL l k = k l
  | [], _ => rfl
  | x :: xs, k => forceL_eq xs fun ys => k (x :: ys)
/-- a def: where it stands, its names, its text, what its closure names -/
structure DefN where
  at_ : He.Defn
  name : Str
  qual : Str
  st : Stmt
  cl : List Str
abbrev FnN : Type := Option (Str × Str × Arguments × FuncBody × Scope × Addr × List Str × Addr)
def fnN (K : PySem.W.Frag) (p : He.Defn) : FnN := match K.lookup (He.fAd K p) with
  | some ⟨_, _, .func fd, _⟩ => some (fd.name, fd.qualname, fd.params, fd.body, fd.scope, fd.globals, fd.closure.map (·.1), fd.builtins)
  | _ => none
def DefN.val (d : DefN) : FnN := some (d.name, d.qual, defArgs d.st, .stmts (defBody d.st), defScope d.st, mainGlobals, d.cl, builtinsNs)
def noneB : Value → Bool
  | .none => true
  | _ => false
def DefN.ok (K : PySem.W.Frag) (d : DefN) : Bool := PySem.W.keepIn K (.ref (He.fAd K d.at_)) && (match K.lookup (He.fAd K d.at_) with
  | some ⟨_, _, .func fd, _⟩ => PySem.W.codeIn K fd.code d.qual && noneB fd.defaults
  | _ => false)
theorem DefN.is {K : PySem.W.Frag} {d : DefN} (e : fnN K d.at_ = d.val) (c : d.ok K = true) : ∃ (oc : Value) (od : Option Addr) (osl : Array (Option Value)) (cl : List (Str × Addr)) (kV doc pm : Value) (an : Option Addr) (cdv ct : Value),
    K.lookup (He.fAd K d.at_) = some ⟨oc, od, .func (PySem.W.fnX d.name d.qual (defArgs d.st) (defBody d.st) (defScope d.st) cl .none kV doc pm an cdv ct), osl⟩ ∧ cl.map (·.1) = d.cl ∧ PySem.W.codeIn K cdv d.qual = true ∧ PySem.W.keepIn K (.ref (He.fAd K d.at_)) = true := by
  obtain ⟨kp, c2⟩ := He.ba c
  unfold fnN at e
  cases q : K.lookup (He.fAd K d.at_) with
  | none =>
    rw [q] at c2
    cases c2
  | some o =>
    obtain ⟨oc, od, dt, osl⟩ := o
    rw [q] at c2 e
    cases dt with
    | func fd =>
      obtain ⟨n1, n2, n3, n4, n5, n6, n7, n8, n9, n10, n11, n12, n13, n14, n15⟩ := fd
      have e2 : (some (n1, n2, n3, n4, n5, n6, n7.map (·.1), n15) : FnN) = some (d.name, d.qual, defArgs d.st, .stmts (defBody d.st), defScope d.st, mainGlobals, d.cl, builtinsNs) := e
      simp only [Option.some.injEq, Prod.mk.injEq] at e2
      obtain ⟨h1, h2, h3, h4, h5, h6, h7, h8⟩ := e2
      have c3 : (PySem.W.codeIn K n13 d.qual && noneB n8) = true := c2
      obtain ⟨k1, k2⟩ := He.ba c3
      have k3 : n8 = .none := by
        cases n8 with
        | none => rfl
        | _ => cases k2
      subst h1 h2 h3 h4 h5 h6 h8 k3
      exact ⟨oc, od, osl, n7, n9, n10, n11, n12, n13, n14, rfl, h7, k1, kp⟩
    | _ => cases c2
abbrev AlN : Type := Bool × List FnN
def obsK (fa : List He.Fa) (fn : List DefN) (tf : List He.Defn) (ex : List (PySem.W.Frag → Bool)) (g : Addr → Option Obj) (K : PySem.W.Frag) : AlN :=
  ((((fa.all fun f => f.ok K) && fn.all fun d => d.ok K) && ex.all fun e => e K) && He.tabsB g tf K, fn.map fun d => fnN K d.at_)
/-- what is laid last is looked up first -/
def rgN (n : Nat) : List Addr := mainGlobals :: (List.range n).reverse
def obsN (n : Nat) (fa : List He.Fa) (fn : List DefN) (tf : List He.Defn) (ex : List (PySem.W.Frag → Bool)) (g : Addr → Option Obj) : AlN := forceL (He.frT g (rgN n)) (obsK fa fn tf ex g)
structure SaysN (fa : List He.Fa) (fn : List DefN) (tf : List He.Defn) (ex : List (PySem.W.Frag → Bool)) (h : Heap) (K : PySem.W.Frag) : Prop where
  f : ∀ (i : Nat) (f : He.Fa), fa[i]? = some f → f.ok K = true
  d : ∀ (i : Nat) (d : DefN), fn[i]? = some d → fnN K d.at_ = d.val ∧ d.ok K = true
  x : ∀ (i : Nat) (e : PySem.W.Frag → Bool), ex[i]? = some e → e K = true
  hd : ∀ p ∈ tf, PySem.W.codeHdIn K (He.cT K p).1 (He.cT K p).2 = true
  out : ∀ p ∈ tf, K.lookup (He.cT K p).2 = none
  empty : ∀ p ∈ tf, h.get? (He.cT K p).2 = some { cls := .none, data := .fields #[] }
section
variable {n : Nat} {fa : List He.Fa} {fn : List DefN} {tf : List He.Defn} {ex : List (PySem.W.Frag → Bool)}
theorem saysN_of {h : Heap} (e : obsN n fa fn tf ex h.get? = (true, fn.map DefN.val)) : SaysN fa fn tf ex h (He.frT h.get? (rgN n)) := by
  unfold obsN at e
  rw [forceL_eq] at e
  have e1 : ((((fa.all fun f => f.ok (He.frT h.get? (rgN n))) && fn.all fun d => d.ok (He.frT h.get? (rgN n))) && ex.all fun e => e (He.frT h.get? (rgN n))) && He.tabsB h.get? tf (He.frT h.get? (rgN n))) = true := congrArg (fun z : AlN => z.1) e
  have e2 : (fn.map fun d => fnN (He.frT h.get? (rgN n)) d.at_) = fn.map DefN.val := congrArg (fun z : AlN => z.2) e
  obtain ⟨h1, h4⟩ := He.ba e1
  obtain ⟨h1, h3⟩ := He.ba h1
  obtain ⟨h1, h2⟩ := He.ba h1
  have key : ∀ p ∈ tf, PySem.W.codeHdIn (He.frT h.get? (rgN n)) (He.cT (He.frT h.get? (rgN n)) p).1 (He.cT (He.frT h.get? (rgN n)) p).2 = true ∧ ∃ o, h.get? (He.cT (He.frT h.get? (rgN n)) p).2 = some o ∧ He.emptyTab o = true := fun p hp => by
    obtain ⟨h5, h6⟩ := He.ba (List.all_eq_true.mp h4 p hp)
    refine ⟨h5, ?_⟩
    cases q : h.get? (He.cT (He.frT h.get? (rgN n)) p).2 with
    | none =>
      rw [q] at h6
      cases h6
    | some o =>
      rw [q] at h6
      exact ⟨o, rfl, h6⟩
  refine ⟨fun i f hf => List.all_eq_true.mp h1 f (List.mem_of_getElem? hf), fun i d hd => ⟨?_, List.all_eq_true.mp h2 d (List.mem_of_getElem? hd)⟩, fun i e he => List.all_eq_true.mp h3 e (List.mem_of_getElem? he), fun p hp => (key p hp).1, fun p hp => ?_, fun p hp => ?_⟩
  · have e3 : (fn.map fun d => fnN (He.frT h.get? (rgN n)) d.at_)[i]? = (fn.map DefN.val)[i]? := by rw [e2]
    rw [List.getElem?_map, List.getElem?_map, hd] at e3
    exact Option.some.inj e3
  · obtain ⟨_, o, q, z⟩ := key p hp
    exact He.frT_none q z
  · obtain ⟨_, o, q, z⟩ := key p hp
    rw [q, He.emptyTab_eq z]
end
def hookN (n : Nat) (fa : List He.Fa) (fn : List DefN) (tf : List He.Defn) (ex : List (PySem.W.Frag → Bool)) : PySem.W.Hook where
  α := AlN
  obs := fun s => obsN n fa fn tf ex s.heap.get?
  val := fun _ => (true, fn.map DefN.val)
  says := fun _ h => ∃ K : PySem.W.Frag, K.In h ∧ SaysN fa fn tf ex h K
  of := fun _ _ e => ⟨_, He.frT_in, saysN_of e⟩
  keeps := fun _ _ _ ⟨K, hK, c⟩ k => ⟨K, PySem.W.Frag.In.keeps hK k, ⟨c.f, c.d, c.x, c.hd, c.out, fun p hp => k _ _ (c.empty p hp)⟩⟩
theorem obsN_eq {n : Nat} {fa : List He.Fa} {fn : List DefN} {tf : List He.Defn} {ex : List (PySem.W.Frag → Bool)} {g : Addr → Option Obj} {s : Shared} (h : ∀ a, g a = s.heap.get? a) : obsN n fa fn tf ex g = (hookN n fa fn tf ex).obs s := by
  have e : g = s.heap.get? := funext h
  rw [e] <;> rfl
/-- the law's end over such a Hook -/
theorem walkGE {l : PySem.W.OpenLaw} {n k : Nat} {q : Program} {loose : List Str} {XP : (Str → Option Value) → Heap → Prop} {YP : World → Heap → Prop} {d : DefRec} {x : Str} (hn : l.most = some n) (hn2 : n ≤ sizeLine)
    (hdf : d.params.defaults = []) (hr : Room k callerA)
    (F : ∀ (w : World) (mg : Str → Option Value) (fa : Addr) (h : Heap), YP w h → h.Ns mainGlobals mg → mg d.name = some (.ref fa) → ∃ K : PySem.W.Frag, K.In h ∧ KnownAt l w K k n x mg fa h) :
    PySem.W.WalkO q loose XP YP l.row.toRowW d [] (fun f vs => PySem.call f vs) := by
  refine Att.attach_callB hn hdf fun w s₀ s₁ mg mb fa o pm cd doc a vs ns G Y ho hd hcd hmg hobj hints hlen hbits gs => ?_
  obtain ⟨K, KX, fd, ts, sp, t1, t2, t3, hb, hsp, hF⟩ := F w mg fa _ Y G.T.g hmg
  exact lawG KX G.T.g G.T.b G.T.builtins G.T.nolimit gs t1 t2 t3 G.T.bmain hobj hints (Nat.le_trans hlen hn2) hr hF hb
    (fun H hH hS => hsp H a ns hlen hH hS) fun H e s' z => z
section
variable {fa : List He.Fa} {fn : List DefN} {tf : List He.Defn} {ex : List (PySem.W.Frag → Bool)} {h : Heap} {K : PySem.W.Frag} {mg : Str → Option Value}
theorem SaysN.at (c : SaysN fa fn tf ex h K) (X : K.In h) (G : h.Ns mainGlobals mg) (i j : Nat) {x : Str} {st : Stmt} (hd : fn[i]? = some ⟨(x, none), x, x, st, []⟩) (hf : fa[j]? = some (.glo x)) : At K mg x st := by
  obtain ⟨e, k⟩ := c.d i _ hd
  obtain ⟨oc, od, osl, cl, kV, doc, pm, an, cdv, ct, lk, ec, hcd, kp⟩ := DefN.is e k
  have e0 : cl = [] := List.map_eq_nil_iff.mp ec
  subst e0
  exact ⟨_, _, fun_mk lk hcd kp, He.glo_ok X G (c.f j _ hf)⟩
theorem SaysN.atM (c : SaysN fa fn tf ex h K) (i j : Nat) {cn m q : Str} {st : Stmt} (hd : fn[i]? = some ⟨(cn, some m), m, q, st, []⟩) (hf : fa[j]? = some (.meth cn m)) : AtM K (He.ga K cn) m q st := by
  obtain ⟨e, k⟩ := c.d i _ hd
  obtain ⟨oc, od, osl, cl, kV, doc, pm, an, cdv, ct, lk, ec, hcd, kp⟩ := DefN.is e k
  have e0 : cl = [] := List.map_eq_nil_iff.mp ec
  subst e0
  exact ⟨_, _, fun_mk lk hcd kp, He.meth_ok (c.f j _ hf)⟩
/-- a class's __init__, its code object told -/
theorem SaysN.init (c : SaysN fa fn tf ex h K) (i : Nat) {cn q : Str} {st : Stmt} (hd : fn[i]? = some ⟨(cn, some "__init__"), "__init__", q, st, []⟩) : ∃ (oc : Value) (od : Option Addr) (osl : Array (Option Value)) (kV doc pm : Value) (an : Option Addr) (ct : Value),
    K.lookup (He.ma K (He.ga K cn) "__init__") = some ⟨oc, od, .func (PySem.W.fnOf "__init__" q (defArgs st) (defBody st) (defScope st) .none kV doc pm an (.ref (He.cT K (cn, some "__init__")).1) ct), osl⟩ ∧ PySem.W.codeIn K (.ref (He.cT K (cn, some "__init__")).1) q = true := by
  obtain ⟨e, k⟩ := c.d i _ hd
  obtain ⟨oc, od, osl, cl, kV, doc, pm, an, cdv, ct, lk, ec, hcd, kp⟩ := DefN.is e k
  have e0 : cl = [] := List.map_eq_nil_iff.mp ec
  subst e0
  obtain ⟨c', rfl⟩ := He.codeIn_ref hcd
  have e1 : He.codeOf K (cn, some "__init__") = c' := He.codeOf_eq lk rfl
  have e2 : (He.cT K (cn, some "__init__")).1 = c' := e1
  rw [e2]
  exact ⟨oc, od, osl, kV, doc, pm, an, ct, lk, hcd⟩
/-- what a method that goes through super() asks -/
def supB (file : Str) (cn ca m : Str) (K : PySem.W.Frag) : Bool :=
  (match K.lookup (He.fAd K (cn, some m)) with
  | some ⟨_, _, .func fd, _⟩ => (match fd.closure with
      | [(_, cc)] => (match K.lookup cc with
        | some ⟨_, _, .cell (some (.ref c)), _⟩ => decide (c = He.ga K cn)
        | _ => false)
      | _ => false) && (match fd.code with
      | .ref cda => (match K.lookup cda with
        | some ⟨_, _, .fields vs, _⟩ => (match (vs[2]? : Option Value) with
          | some (.str f _) => file == f
          | _ => false)
        | _ => false)
      | _ => false)
  | _ => false) && ((PySem.W.clsIn K (He.ga K cn)).isSome && (decide (PySem.W.mroIn K (He.ga K cn) (.ref (He.ga K cn)) = some true) && (He.eqO (PySem.W.nsIn K cStatics "thirdparty.any") (some none) &&
    (He.eqO (PySem.W.ks_superIn K (He.ga K cn) (He.ga K cn) m) (some (some (.ref (He.ma K (He.ga K ca) m)))) && (decide (PySem.W.typeIn K (.ref (He.ma K (He.ga K ca) m)) = some (.type "function")) && (PySem.W.fnIn K (He.ma K (He.ga K ca) m) &&
      He.eqO (PySem.W.findIn K (.ref (He.ga K ca)) m) (some (some (.ref (He.ma K (He.ga K ca) m))))))))))
theorem SaysN.sup (c : SaysN fa fn tf ex h K) {P : Program} (i j k : Nat) {cn ca m q : Str} {st : Stmt} (hd : fn[i]? = some ⟨(cn, some m), m, q, st, ["__class__"]⟩) (hf : fa[j]? = some (.meth cn m)) (hx : ex[k]? = some (supB P.main.file cn ca m))
    (top : (P.main.scope.names.lookup ("super" : Str)).isSome = false) (mgn : mg "super" = none) : SupM P K mg (He.ga K cn) (He.ga K ca) m q st := by
  obtain ⟨e, kk⟩ := c.d i _ hd
  obtain ⟨oc, od, osl, cl, kV, doc, pm, an, cdv, ct, lk, ec, hcd, kp⟩ := DefN.is e kk
  obtain ⟨c', rfl⟩ := He.codeIn_ref hcd
  have b := c.x k _ hx
  unfold supB at b
  obtain ⟨b1, b⟩ := He.ba b
  obtain ⟨b2, b⟩ := He.ba b
  obtain ⟨b3, b⟩ := He.ba b
  obtain ⟨b4, b⟩ := He.ba b
  obtain ⟨b5, b⟩ := He.ba b
  obtain ⟨b6, b⟩ := He.ba b
  obtain ⟨b7, b8⟩ := He.ba b
  have lk' : K.lookup (He.fAd K (cn, some m)) = _ := lk
  rw [lk'] at b1
  obtain ⟨cc, rfl⟩ : ∃ cc : Addr, cl = [(("__class__" : Str), cc)] := by
    match cl, ec with
    | [(n, cc)], ec =>
      have : n = "__class__" := by simpa using ec
      subst this
      exact ⟨cc, rfl⟩
    | [], ec => simp at ec
    | _ :: _ :: _, ec => simp at ec
  obtain ⟨b9, b10⟩ := He.ba b1
  have me := He.meth_ok (c.f j _ hf)
  refine ⟨_, _, _, ⟨⟨oc, od, kV, doc, pm, an, c', cc, ct, osl, rfl, lk, hcd, ?_, ?_⟩, Option.isSome_iff_exists.mp b2, of_decide_eq_true b3, He.eqO_ok b4, He.eqO_ok b5, of_decide_eq_true b6, b7, top, mgn⟩, me, He.eqO_ok b8⟩
  · have b10 : (match K.lookup c' with
        | some ⟨_, _, .fields vs, _⟩ => (match (vs[2]? : Option Value) with
          | some (.str f _) => P.main.file == f
          | _ => false)
        | _ => false) = true := b10
    cases q1 : K.lookup c' with
    | none => rw [q1] at b10; cases b10
    | some o =>
      obtain ⟨o1, o2, dt, o3⟩ := o
      rw [q1] at b10
      cases dt with
      | fields vs =>
        have b10 : (match (vs[2]? : Option Value) with
          | some (.str f _) => P.main.file == f
          | _ => false) = true := b10
        cases q2 : vs[2]? with
        | none => rw [q2] at b10; cases b10
        | some v =>
          rw [q2] at b10
          cases v with
          | str f t => exact ⟨o1, o2, vs, o3, f, t, rfl, q2, b10⟩
          | _ => cases b10
      | _ => cases b10
  · have b9 : (match K.lookup cc with
        | some ⟨_, _, .cell (some (.ref c)), _⟩ => decide (c = He.ga K cn)
        | _ => false) = true := b9
    cases q1 : K.lookup cc with
    | none => rw [q1] at b9; cases b9
    | some o =>
      obtain ⟨o1, o2, dt, o3⟩ := o
      rw [q1] at b9
      cases dt with
      | cell v =>
        cases v with
        | none => cases b9
        | some v =>
          cases v with
          | ref c2 =>
            have : c2 = He.ga K cn := of_decide_eq_true b9
            subst this
            exact ⟨o1, o2, o3, rfl⟩
          | _ => cases b9
      | _ => cases b9
end
end Nal

namespace Nal
open PySem PySem.Spec PyProof.Rows L2 LamX NdefX
def hLo0 : List Str := ["YardError",
  "NoYard",
  "NoHeap",
  "NoOrder",
  "NotLeast",
  "NoText",
  "is_whole",
  "MOST_THINGS",
  "is_heap",
  "rising_heap",
  "check_order",
  "is_later",
  "_law_pot",
  "_law_take",
  "_law_shuffled",
  "_law_due",
  "_law_told",
  "_law_bad_order",
  "_law_bad_heap",
  "_law_right"]
def hLo : List Str := hLo0
def hFa0 : List He.Fa := [.free "len",
  .free "abs",
  .free "max",
  .free "min",
  .free "range",
  .free "divmod",
  .free "isinstance",
  .free "sorted",
  .free "all",
  .free "repr",
  .free "enumerate",
  .free "int",
  .free "bool",
  .free "list",
  .free "tuple",
  .free "set",
  .free "sum",
  .free "any",
  .free "reversed",
  .free "dict",
  .int "MOST_THINGS" 24,
  .glo "is_whole",
  .glo "is_heap",
  .glo "rising_heap"]
def hFa1 : List He.Fa := [.glo "check_order",
  .glo "is_later",
  .glo "_law_pot",
  .glo "_law_take",
  .glo "_law_shuffled",
  .glo "_law_due",
  .glo "_law_told",
  .glo "_law_bad_order",
  .glo "_law_bad_heap",
  .glo "_law_right",
  .glo "law",
  .free "ValueError",
  .glo "NoOrder",
  .glo "NoHeap",
  .glo "YardError",
  .glo "NoText",
  .glo "NotLeast",
  .glo "NoYard"]
def hFa : List He.Fa := hFa0 ++ hFa1
def hFn0 : List DefN := [⟨(("is_whole" : Str), none), "is_whole", "is_whole", tp8, []⟩,
  ⟨(("is_heap" : Str), none), "is_heap", "is_heap", tp11, []⟩,
  ⟨(("rising_heap" : Str), none), "rising_heap", "rising_heap", tp12, []⟩,
  ⟨(("check_order" : Str), none), "check_order", "check_order", tp14, []⟩,
  ⟨(("is_later" : Str), none), "is_later", "is_later", tp16, []⟩,
  ⟨(("_law_pot" : Str), none), "_law_pot", "_law_pot", tp18, []⟩,
  ⟨(("_law_take" : Str), none), "_law_take", "_law_take", tp19, []⟩,
  ⟨(("_law_shuffled" : Str), none), "_law_shuffled", "_law_shuffled", tp20, []⟩,
  ⟨(("_law_due" : Str), none), "_law_due", "_law_due", tp21, []⟩,
  ⟨(("_law_told" : Str), none), "_law_told", "_law_told", tp22, []⟩,
  ⟨(("_law_bad_order" : Str), none), "_law_bad_order", "_law_bad_order", tp23, []⟩,
  ⟨(("_law_bad_heap" : Str), none), "_law_bad_heap", "_law_bad_heap", tp24, []⟩,
  ⟨(("_law_right" : Str), none), "_law_right", "_law_right", tp25, []⟩,
  ⟨(("law" : Str), none), "law", "law", tp26, []⟩]
def hFn : List DefN := hFn0
def hEx0 : List (PySem.W.Frag → Bool) := [fun K => decide (PySem.W.excIn K (He.ga K "NoOrder") [.type "ValueError", .type "Exception", .type "BaseException", .type "object"] "ValueError.__new__" = true),
  fun K => decide (PySem.W.keepIn K (.ref (He.ga K "NoOrder")) = true),
  fun K => decide (PySem.W.typeIn K (.ref (He.ga K "NoOrder")) = some (.type "type")),
  fun K => He.eqO (PySem.W.findIn K (.ref (He.ga K "NoOrder")) "__getattribute__") (some (some (.builtin "BaseException.__getattribute__"))),
  fun K => He.eqO (PySem.W.findIn K (.ref (He.ga K "NoOrder")) "__getattr__") (some none),
  fun K => decide (PySem.W.subIn K (.ref (He.ga K "NoOrder")) (.type "BaseException") = some true),
  fun K => decide (PySem.W.hasDictIn K (He.ga K "NoOrder") = true),
  fun K => He.eqO (PySem.W.findIn K (.ref (He.ga K "NoOrder")) "__class__") (some (some (.builtin "object.__class__"))),
  fun K => He.eqO (PySem.W.specialIn K (.builtin "object.__class__") "__get__") (some (some (.builtin "getset_descriptor.__get__"))),
  fun K => decide (PySem.W.takesIn K (.builtin "object.__class__") = some true),
  fun K => decide (PySem.W.mroIn K (He.ga K "NoOrder") (.type "object") = some true),
  fun K => decide (PySem.W.excIn K (He.ga K "NoHeap") [.type "ValueError", .type "Exception", .type "BaseException", .type "object"] "ValueError.__new__" = true),
  fun K => decide (PySem.W.keepIn K (.ref (He.ga K "NoHeap")) = true),
  fun K => decide (PySem.W.typeIn K (.ref (He.ga K "NoHeap")) = some (.type "type")),
  fun K => He.eqO (PySem.W.findIn K (.ref (He.ga K "NoHeap")) "__getattribute__") (some (some (.builtin "BaseException.__getattribute__"))),
  fun K => He.eqO (PySem.W.findIn K (.ref (He.ga K "NoHeap")) "__getattr__") (some none),
  fun K => decide (PySem.W.subIn K (.ref (He.ga K "NoHeap")) (.type "BaseException") = some true),
  fun K => decide (PySem.W.hasDictIn K (He.ga K "NoHeap") = true),
  fun K => He.eqO (PySem.W.findIn K (.ref (He.ga K "NoHeap")) "__class__") (some (some (.builtin "object.__class__"))),
  fun K => decide (PySem.W.mroIn K (He.ga K "NoHeap") (.type "object") = some true),
  fun K => decide (PySem.W.exmOne K (.ref (He.ga K "NoOrder")) (.ref (He.ga K "YardError")) = some true),
  fun K => decide (PySem.W.exmOne K (.ref (He.ga K "NoHeap")) (.ref (He.ga K "YardError")) = some true),
  fun K => decide (PySem.W.kitOne K (.ref (He.ga K "NoOrder")) (.ref (He.ga K "NoOrder")) = some true),
  fun K => decide (PySem.W.kitOne K (.ref (He.ga K "NoOrder")) (.ref (He.ga K "NoHeap")) = some false)]
def hEx1 : List (PySem.W.Frag → Bool) := [fun K => decide (PySem.W.kitOne K (.ref (He.ga K "NoHeap")) (.ref (He.ga K "NoOrder")) = some false),
  fun K => decide (PySem.W.kitOne K (.ref (He.ga K "NoHeap")) (.ref (He.ga K "NoHeap")) = some true),
  fun K => decide (PySem.W.kitOne K (.ref (He.ga K "NoOrder")) (.type "ValueError") = some true),
  fun K => decide (PySem.W.kitOne K (.ref (He.ga K "NoHeap")) (.type "ValueError") = some true),
  fun K => decide (PySem.W.kitAny K (.ref (He.ga K "NoOrder")) [.ref (He.ga K "NoText"), .ref (He.ga K "NotLeast"), .ref (He.ga K "NoYard")] = some false),
  fun K => decide (PySem.W.kitAny K (.ref (He.ga K "NoHeap")) [.ref (He.ga K "NoText"), .ref (He.ga K "NotLeast"), .ref (He.ga K "NoYard")] = some false),
  fun K => decide ((K.lookup sysModules).isSome = true)]
def hEx : List (PySem.W.Frag → Bool) := hEx0 ++ hEx1
def hTf : List He.Defn := []
abbrev hR : PySem.W.OpenRow := PySem.W.OpenLaw.row PySem.Challenge.rw_noaslong_k65_which_heap_is_later
abbrev hHk : PySem.W.Hook := hookN 1200 hFa hFn hTf hEx
def hOb (s : PySem.W.SharedT) : AlN := obsN 1200 hFa hFn hTf hEx (HandSHeadRun.getT s)
theorem hOb_eq (s : PySem.W.SharedT) : hOb s = hHk.obs s.abs := obsN_eq (HandSHeadRun.getT_eq s)
set_option maxHeartbeats 0 in
theorem hRun (w : World) : HandSHeadRun.RunEq hR (PySem.W.view hR.prog [26]) hHk hOb 16000 hLo w := by
  intro os
  kernel_rfl
end Nal

/-! f(k = v, ..): a known function called by the names of its parameters alone. x in a list of lists. -/
namespace Nal
open PySem PySem.Spec PyProof.Rows L2
/-- a promise that tells how names bind, too -/
structure KnK (P : Program) (w : World) (K : PySem.W.Frag) (mg : Str → Option Value) (base : Heap) (k : Nat) (x : Str) (ps ks : List Str) (gV : List V → List V → List V) (sp : Sp) : Prop where
  ex : ∃ (f : Addr) (fd : FuncData) (g : List Value → List Value → List Value), FnOk P w K mg base CX0 k f fd ps sp ∧ mg x = some (.ref f) ∧ PySem.W.keepIn K (.ref f) = true ∧ Binds K fd ps [] ∧ KBn K fd ps 0 ks g gV
theorem KnK.kn {P : Program} {w : World} {K : PySem.W.Frag} {mg : Str → Option Value} {base : Heap} {k : Nat} {x : Str} {ps ks : List Str} {gV : List V → List V → List V} {sp : Sp} (h : KnK P w K mg base k x ps ks gV sp) : Kn P w K mg base k x ps sp := by
  obtain ⟨f, fd, g, F, m, kp, b, _⟩ := h.ex
  exact ⟨f, fd, F, m, kp, b⟩
section
variable {X : Cx} {j k : Nat} {ps ks : List Str} {sp : Sp} {x : Str} {p pos : Pos} {kws : List Keyword} {tk : TA} {gV : List V → List V → List V}
theorem pe_knK (h : KnK X.prog X.w X.K X.mg X.base j x ps ks gV sp) (hr : Room k X.A) (hj : j ≤ k) (hg : Gl X x) (hkw : PK X kws tk)
    (hall : (backToKw pos (keywordEach kws X.env)).all (·.1.isSome) = true := by rfl) (hks : (backToKw pos (keywordEach kws X.env)).filterMap (·.1) = ks := by rfl)
    (hdb : (x == ("__debug__" : Str)) = false := by decide)
    (hpl : ((backTo pos (starEach [] X.env)).any (·.1) || (backToKw pos (keywordEach kws X.env)).any (·.1.isNone)) = false := by rfl) :
    PE X (.Call (.Name x p) [] kws pos) (tCallN 0 ks.length sp gV E0 tNil tk) := by
  obtain ⟨f, fd, g, F, hm, kp, _, hb⟩ := h.ex
  refine ⟨fun pins s σ H Q I h => ?_⟩
  refine wpAny_Call_Name_kw (ld_glob I hg hm ?_ hdb)
  refine PySem.W.callWith_KW0 (h₀ := X.base) I.ok.mod.kin kp hall ?_ hpl
  refine thn (hkw.run pos pins s σ H _ I h) fun ws s2 ⟨zs, H2, I2, rz, l1, l2, q2⟩ => ⟨I2.kIn, ?_⟩
  rw [hks]
  exact run_fnN (us := []) (vs := []) F (hr.mono hj) hb pass0 I2 .nil rz rfl l2 q2
theorem kcr_sorted (K : PySem.W.Frag) (h : X.K = K := by rfl) : CallR X (.builtin "sorted") (rSorted K) := by
  subst h
  exact cr_sorted
theorem kop_inD (K : PySem.W.Frag) (hu : X.A.units + 65 < cLine) (h : X.K = K := by rfl) : OpR X (compareOp .In) (rInD K) := by
  subst h
  exact op_inD hu
end
theorem units65 {k : Nat} {A : Around} (r : Room k A) : A.units + 65 < cLine := by have := r.un; omega
/-- two names, the other way round -/
def swapV {α : Type} : List α → List α → List α := fun _ ws => match ws with
  | [a, b] => [b, a]
  | l => l
section
variable {P : Program} {w : World} {K : PySem.W.Frag} {mg : Str → Option Value} {base : Heap}
theorem knk_of {x : Str} {st : Stmt} {N ps ks : List Str} {k : Nat} {sp : Sp} (h : At K mg x st) (S : FnScope N ps (defScope st))
    (hb : ∀ (kV doc pm : Value) (an : Option Addr) (cdv ct : Value) (us : List Value), us.length = ps.length →
      bindArgs (PySem.W.fnOf x x (defArgs st) (defBody st) (defScope st) .none kV doc pm an cdv ct) ⟨us, []⟩ = pure (ps.zip us))
    (hk : ∀ (kV doc pm : Value) (an : Option Addr) (cdv ct : Value) (ws : List Value), ws.length = ks.length →
      bindArgs (PySem.W.fnOf x x (defArgs st) (defBody st) (defScope st) .none kV doc pm an cdv ct) ⟨[], ks.zip ws⟩ = pure (ps.zip (swapV [] ws)))
    (len : ∀ vs H Q E, sp vs H Q E → vs.length = ps.length)
    (hbody : ∀ (f : Addr) (cdv : Value) (A : Around) (outer : List Env) (s : Shared) (H : Hp) (vs : List V) (Q : VK) (E : XK),
      Room k (A.deeper (envOfC x (defScope st) s.heap.objs.size f cdv)) → sp vs H Q E →
      ∃ t, PSs (cxOf CX0 P w K mg base N x (defScope st) f cdv A outer s H E).nox (defBody st) t ∧ t { nx := fun _ H' => Q .non H', rt := Q } (start N vs) H) :
    KnK P w K mg base (k + 1) x ps ks swapV sp := by
  obtain ⟨f, fd, F, g⟩ := h.ex
  refine ⟨f, fd, swapV, F.ok S len (hbody f), g, F.kp, F.binds hb, ?_⟩
  obtain ⟨oc, od, kV, doc, pm, an, cdv, ct, osl, rfl, lk, hcd⟩ := F.ex
  refine ⟨fun s us ws hK l1 l2 => ?_, fun {vs us zs ws} r1 r2 => ?_⟩
  · have e : us = [] := List.eq_nil_of_length_eq_zero l1
    subst e
    intro M A Q E q
    rw [hk kV doc pm an cdv ct ws l2]
    exact wpAny_pure q
  · unfold swapV
    cases r2 with
    | nil => exact .nil
    | cons a r =>
      cases r with
      | nil => exact .cons a .nil
      | cons b r =>
        cases r with
        | nil => exact .cons b (.cons a .nil)
        | cons c r => exact .cons a (.cons b (.cons c r))
end
end Nal

/-! Boxes: fields within a comprehension; what a dict of answers holds. -/
namespace Nal
open PySem PySem.Spec PyProof.Rows L2 LamX NdefX
theorem kpe_fld {X : Cx} (K : PySem.W.Frag) {e : Expr} {ta : TE} {f : Str} {pos : Pos} (he : PE X e ta) (hb : attributeBase e f X.env (eval e X.env) = eval e X.env) (h : X.K = K := by rfl) : PE X (.Attribute e f pos) (tFld K ta f) := by
  subst h
  exact pe_fld he hb
/-- answers, in order -/
abbrev Ans := List (Int × Bool)
def kvsOf (as : Ans) : List (Key × V) := as.map fun p => (Sum.inl p.1, V.bl p.2)
structure AsOk (m : Nat) (as : Ans) : Prop where
  nd : (as.map (·.1)).Nodup
  ok : ∀ p ∈ as, 0 ≤ p.1 ∧ p.1 < (m : Int)
theorem AsOk.nil (m : Nat) : AsOk m [] := ⟨List.nodup_nil, fun p h => (nomatch h)⟩
theorem kvsOf_len (as : Ans) : (kvsOf as).length = as.length := List.length_map _
theorem kvsOf_at {as : Ans} {i : Nat} {k : Key} {v : V} (h : (kvsOf as)[i]? = some (k, v)) : ∃ z t, as[i]? = some (z, t) ∧ k = Sum.inl z ∧ v = V.bl t := by
  unfold kvsOf at h
  rw [List.getElem?_map] at h
  cases e : as[i]? with
  | none => rw [e] at h; cases h
  | some p =>
    rw [e] at h
    obtain ⟨z, t⟩ := p
    have h : some ((Sum.inl z : Key), V.bl t) = some (k, v) := h
    injection h with h
    injection h with h1 h2
    exact ⟨z, t, rfl, h1.symm, h2.symm⟩
theorem val_mem : ∀ {as : Ans} {z : Int} {t : Bool}, (as.map (·.1)).Nodup → (z, t) ∈ as → valV (kvsOf as) (Sum.inl z : Key) = some (V.bl t)
  | [], _, _, _, h => (nomatch h)
  | (y, u) :: as, z, t, nd, h => by
    rw [List.map_cons, List.nodup_cons] at nd
    show valV ((Sum.inl y, V.bl u) :: kvsOf as) (Sum.inl z : Key) = _
    rcases List.mem_cons.mp h with e | h
    · cases e
      simp [valV]
    · have n : y ≠ z := fun e => nd.1 (by rw [e]; exact List.mem_map_of_mem (f := (·.1)) h)
      have r := val_mem nd.2 h
      simp only [valV] at r ⊢
      rw [List.find?_cons_of_neg (by simpa using n)]
      exact r
theorem val_not : ∀ {as : Ans} {z : Int}, z ∉ as.map (·.1) → valV (kvsOf as) (Sum.inl z : Key) = none
  | [], _, _ => rfl
  | (y, u) :: as, z, h => by
    rw [List.map_cons, List.mem_cons, not_or] at h
    show valV ((Sum.inl y, V.bl u) :: kvsOf as) (Sum.inl z : Key) = _
    have r := val_not h.2
    simp only [valV] at r ⊢
    rw [List.find?_cons_of_neg (by simpa using fun e => h.1 e.symm)]
    exact r
theorem put_new {as : Ans} {z : Int} {t : Bool} (h : z ∉ as.map (·.1)) : putK (kvsOf as) (Sum.inl z : Key) (V.bl t) = kvsOf (as ++ [(z, t)]) := by
  unfold putK
  rw [valV_any, val_not h, if_neg (by simp)]
  simp [kvsOf]
theorem drop_last : ∀ {as : Ans} {z : Int} {t : Bool}, z ∉ as.map (·.1) → dropK (kvsOf (as ++ [(z, t)])) (Sum.inl z : Key) = kvsOf as
  | [], z, t, _ => by simp [kvsOf, dropK]
  | (y, u) :: as, z, t, h => by
    rw [List.map_cons, List.mem_cons, not_or] at h
    have r := drop_last (t := t) h.2
    show dropK ((Sum.inl y, V.bl u) :: kvsOf (as ++ [(z, t)])) _ = (Sum.inl y, V.bl u) :: kvsOf as
    rw [← r]
    simp [dropK, Ne.symm h.1]
theorem keys_of (as : Ans) : (kvsOf as).map (fun kv => kV kv.1) = (as.map (·.1)).map V.int := by
  unfold kvsOf
  rw [List.map_map, List.map_map]
  rfl
/-- all but dicts stays -/
def Dex (H H' : Hp) : Prop := ∀ b o, H b = some o → (∀ kvs, o ≠ .dK kvs) → H' b = some o
theorem Dex.refl (H : Hp) : Dex H H := fun _ _ e _ => e
theorem Dex.trans {H H1 H2 : Hp} (a : Dex H H1) (b : Dex H1 H2) : Dex H H2 := fun c o e n => b c o (a c o e n) n
theorem Dex.same {H H' : Hp} (s : Same H H') : Dex H H' := fun b o e _ => s b o e
theorem Dex.keep {H H' : Hp} {d : Addr} {kvs : List (Key × V)} (k : Keep d H H') (hd : H d = some (.dK kvs)) : Dex H H' := fun b o e n => k b o (fun z => by
  rw [z, hd] at e
  injection e with e
  exact n kvs e.symm) e
section
variable {X : Cx}
/-- repr of a truth, of a whole number -/
theorem call_reprB : CallR X (.builtin "repr") (fun xs H Q => ∃ b, xs = [.bl b] ∧ Q (.str (PyData.bool b).shown) H) := by
  intro pins s σ H xs us Q I r h
  obtain ⟨b, rfl, q⟩ := h
  obtain ⟨u, rfl, r1⟩ := vals1 r
  cases r1
  refine PySem.P.repr_of_bool ⟨.str _, H, I.tok _, ⟨_, rfl⟩, ?_⟩
  rw [PyData.shown_bool] at q
  exact q
theorem call_reprI : CallR X (.builtin "repr") (fun xs H Q => ∃ i : Int, xs = [.int i] ∧ i.natAbs < 2 ^ 200 ∧ Q (.str (PyData.int i).shown) H) := by
  intro pins s σ H xs us Q I r h
  obtain ⟨i, rfl, hi, q⟩ := h
  obtain ⟨u, rfl, t, rfl⟩ := vals1 r
  refine PySem.P.repr_of_int (log2_lt hi) ⟨.str _, H, I.tok _, ⟨_, rfl⟩, ?_⟩
  rw [PyData.shown_int] at q
  exact q
end
end Nal

/-! repr of data that hold empty dicts. -/
namespace Nal
open PySem PySem.Spec PyProof.Rows L2
mutual
/-- as Dp, of tracked lists and tuples, and of empty dicts -/
inductive Dx (H : Hp) : V → PyData → Prop
  | non : Dx H .non .none
  | bl (b : Bool) : Dx H (.bl b) (.bool b)
  | int (i : Int) : Dx H (.int i) (.int i)
  | str (x : Str) : Dx H (.str x) (.str x)
  | lst {a : Addr} {xs : List V} {ds : List PyData} : H a = some (.lst xs) → DxAll H xs ds → Dx H (.ref a) (.list ds)
  | tup {a : Addr} {xs : List V} {ds : List PyData} : H a = some (.tup xs) → DxAll H xs ds → Dx H (.ref a) (.tuple ds)
  | emp {a : Addr} : H a = some (.dK []) → Dx H (.ref a) (.dict [])
inductive DxAll (H : Hp) : List V → List PyData → Prop
  | nil : DxAll H [] []
  | cons {v : V} {vs : List V} {d : PyData} {ds : List PyData} : Dx H v d → DxAll H vs ds → DxAll H (v :: vs) (d :: ds)
end
section
variable {X : Cx} {pins : List (Addr × Obj)} {σ : L2.St} {H : Hp} {s : Shared}
mutual
theorem Dx.reads (I : Inv X pins σ H s) : ∀ (d : PyData) (v : V) (u : Value), Dx H v d → RelV v u → ∃ as, Reads s.heap u d as ∧ ∀ a ∈ as, H a ≠ none
  | .none, _, _, h, r => by
    cases h
    cases r
    exact ⟨_, Reads.none, fun a h => nomatch h⟩
  | .bool b, _, _, h, r => by
    cases h
    cases r
    exact ⟨_, Reads.bool b, fun a h => nomatch h⟩
  | .int i, _, _, h, r => by
    cases h
    obtain ⟨t, rfl⟩ := r
    exact ⟨_, Reads.int i t, fun a h => nomatch h⟩
  | .str x, _, _, h, r => by
    cases h
    obtain ⟨t, rfl⟩ := r
    exact ⟨_, Reads.str x t, fun a h => nomatch h⟩
  | .list ds, _, _, h, r => by
    cases h with
    | lst hs ha =>
      cases r
      obtain ⟨its, rv, ⟨o, n, ho, hc, _, hd⟩, _⟩ := I.list (SqL.of hs)
      obtain ⟨as, hr, n⟩ := Dx.readsAll I ds _ its ha rv
      refine ⟨_, Reads.list ho hc hd hr, fun b hb => ?_⟩
      rcases List.mem_cons.mp hb with e | hb
      · rw [e, hs]
        exact fun z => nomatch z
      · exact n b hb
  | .tuple ds, _, _, h, r => by
    cases h with
    | tup hs ha =>
      cases r
      obtain ⟨its, rv, ⟨o, ho, hc, n, hd⟩, _⟩ := I.tuple (SqT.of hs)
      obtain ⟨as, hr, n⟩ := Dx.readsAll I ds _ its ha rv
      exact ⟨_, Reads.tuple ho hc hd hr, n⟩
  | .dict ks, _, _, h, r => by
    cases h with
    | emp hs =>
      cases r
      obtain ⟨_, _, vs, kv, o, es, ep, ho, hx, hd, _, pr, _⟩ := dk_of I.hok hs
      cases kv
      have e : es.toList = [] := by
        have := pr.length
        exact List.eq_nil_of_length_eq_zero this
      refine ⟨_, Reads.dict (kvs := []) ho hx.1 hd (as := []) (bs := []) ?_ ?_, fun b hb => ?_⟩
      · rw [e]
        exact ReadsAll.nil
      · rw [e]
        exact ReadsAll.nil
      · have hb : b ∈ [_] := hb
        rw [List.mem_singleton.mp hb, hs]
        exact fun z => nomatch z
theorem Dx.readsAll (I : Inv X pins σ H s) : ∀ (ds : List PyData) (vs : List V) (us : List Value), DxAll H vs ds → Vals vs us → ∃ as, ReadsAll s.heap us ds as ∧ ∀ a ∈ as, H a ≠ none
  | [], _, _, h, r => by
    cases h
    cases r
    exact ⟨_, ReadsAll.nil, fun a h => nomatch h⟩
  | d :: ds, _, _, h, r => by
    cases h with
    | cons h1 h2 =>
      cases r with
      | cons r1 r2 =>
        obtain ⟨as, q1, n1⟩ := Dx.reads I d _ _ h1 r1
        obtain ⟨bs, q2, n2⟩ := Dx.readsAll I ds _ _ h2 r2
        exact ⟨_, ReadsAll.cons q1 q2, fun b hb => (List.mem_append.mp hb).elim (n1 b) (n2 b)⟩
end
end
/-- the written part names sys.modules -/
def SysIn (K : PySem.W.Frag) : Prop := (K.lookup sysModules).isSome = true
theorem sys_free {X : Cx} {pins : List (Addr × Obj)} {σ : L2.St} {H : Hp} {s : Shared} (S : SysIn X.K) (I : Inv X pins σ H s) : H sysModules = none := by
  unfold SysIn at S
  cases e : X.K.lookup sysModules with
  | none =>
    rw [e] at S
    cases S
  | some o => exact (I.bs sysModules o (I.ok.mod.kin _ _ e)).2
/-- data whose repr is short enough: n its bulk at most, dp its depth at most -/
structure Showx (n dp : Nat) (d : PyData) : Prop where
  show_ : d.showable = true
  dep : d.depth ≤ dp
  leaf : d.leavesShort 64 = true
  blk : d.bulk ≤ n
structure ShowxAll (n dp : Nat) (ds : List PyData) : Prop where
  show_ : PyData.showableAll ds = true
  dep : PyData.depthAll ds ≤ dp
  leaf : PyData.leavesShortAll 64 ds = true
  blk : PyData.bulkAll ds ≤ n
theorem Showy.x {n dp : Nat} {d : PyData} (h : Showy n dp d) : Showx n dp d := ⟨h.show_, h.dep, h.leaf, h.blk⟩
theorem Showx.emp {n dp : Nat} : Showx n (dp + 1) (.dict []) := ⟨by simp only [PyData.showable, PyData.showableKv], by simp [PyData.depth, PyData.depthKv], by simp only [PyData.leavesShort, PyData.leavesShortKv], by simp [PyData.bulk, PyData.bulkKv]⟩
theorem Showx.list {n dp : Nat} {ds : List PyData} (h : ShowxAll n dp ds) : Showx n (dp + 1) (.list ds) :=
  ⟨by simpa only [PyData.showable] using h.show_, by simpa only [PyData.depth] using Nat.succ_le_succ h.dep, by simpa only [PyData.leavesShort] using h.leaf, by simpa only [PyData.bulk] using h.blk⟩
theorem Showx.tuple {n dp : Nat} {ds : List PyData} (h : ShowxAll n dp ds) : Showx n (dp + 1) (.tuple ds) :=
  ⟨by simpa only [PyData.showable] using h.show_, by simpa only [PyData.depth] using Nat.succ_le_succ h.dep, by simpa only [PyData.leavesShort] using h.leaf, by simpa only [PyData.bulk] using h.blk⟩
theorem ShowxAll.nil {n dp : Nat} : ShowxAll n dp [] :=
  ⟨by simp only [PyData.showableAll], by simp [PyData.depthAll], by simp only [PyData.leavesShortAll], by simp [PyData.bulkAll]⟩
theorem ShowxAll.cons {m n dp : Nat} {d : PyData} {ds : List PyData} (h : Showx m dp d) (hs : ShowxAll n dp ds) : ShowxAll (m + 1 + n) dp (d :: ds) := by
  refine ⟨?_, ?_, ?_, ?_⟩
  · simp only [PyData.showableAll, h.show_, hs.show_, Bool.and_self]
  · simp only [PyData.depthAll]
    exact Nat.max_le.mpr ⟨h.dep, hs.dep⟩
  · simp only [PyData.leavesShortAll, h.leaf, hs.leaf, Bool.and_self]
  · simp only [PyData.bulkAll]
    have := h.blk
    have := hs.blk
    omega
theorem Showx.mono {m n dp dq : Nat} {d : PyData} (h : Showx m dp d) (hm : m ≤ n) (hd : dp ≤ dq) : Showx n dq d :=
  ⟨h.show_, Nat.le_trans h.dep hd, h.leaf, Nat.le_trans h.blk hm⟩
theorem ShowxAll.mono {m n dp dq : Nat} {d : List PyData} (h : ShowxAll m dp d) (hm : m ≤ n) (hd : dp ≤ dq) : ShowxAll n dq d :=
  ⟨h.show_, Nat.le_trans h.dep hd, h.leaf, Nat.le_trans h.blk hm⟩
theorem ShowxAll.of {m dp : Nat} : ∀ {ds : List PyData}, (∀ d ∈ ds, Showx m dp d) → ShowxAll ((m + 1) * ds.length) dp ds
  | [], _ => .nil
  | d :: r, h => (ShowxAll.cons (h d List.mem_cons_self) (ShowxAll.of (fun x hx => h x (List.mem_cons_of_mem _ hx)))).mono
      (by rw [List.length_cons, Nat.mul_succ]; omega) (Nat.le_refl _)
theorem Showx.fits {n dp : Nat} {d : PyData} (h : Showx n dp d) (hn : n ≤ 200000) : d.shown.length ≤ sizeLine := by
  have q := PyData.shown_le_bulk 64 (by decide) d h.leaf
  have b := h.blk
  rw [sizeLine_eq]
  have : (64 + 2) * d.bulk ≤ 66 * 200000 := Nat.mul_le_mul_left _ (Nat.le_trans b hn)
  omega
/-- repr(x), x a list or a tuple that may hold empty dicts -/
def rReprX : List V → Hp → VK → Prop := fun xs H Q =>
  ∃ (a : Addr) (d : PyData), xs = [.ref a] ∧ Dx H (.ref a) d ∧ Showx 200000 60 d ∧ Q (.str d.shown) H
theorem call_reprX {X : Cx} {k : Nat} (S : SysIn X.K) (hgd : X.A.guards = some []) (hr : Room k X.A) : CallR X (.builtin "repr") rReprX := by
  intro pins s σ H xs us Q I r h
  obtain ⟨a, d, rfl, hd, hs, q⟩ := h
  cases r with
  | cons ra rn =>
    cases rn
    cases ra
    obtain ⟨as, rd, no⟩ := Dx.reads I d (.ref a) (.ref a) hd rfl
    have hu : X.A.units + (d.depth + 1) < cLine := by
      have h1 := hr.units
      have h2 := hs.dep
      omega
    refine repr_of_reads' rd hs.show_ (fun _ hm => no _ hm (sys_free S I)) hgd hu (fun _ _ e => e) (fun h' u tk hk => ?_) (hs.fits (Nat.le_refl _))
    exact ⟨.str d.shown, H, I.kept hk, ⟨_, rfl⟩, q⟩
/-- a step that leaves lists, tuples and empty dicts keeps data -/
def Kx (p : Addr) (H H' : Hp) : Prop := Keep p H H'
mutual
theorem Dx.same {H H' : Hp} (s : Same H H') : ∀ (d : PyData) (v : V), Dx H v d → Dx H' v d
  | .none, _, h => by
    cases h
    exact .non
  | .bool b, _, h => by
    cases h
    exact .bl b
  | .int i, _, h => by
    cases h
    exact .int i
  | .str x, _, h => by
    cases h
    exact .str x
  | .list ds, _, h => by
    cases h with
    | lst hs ha => exact .lst (s _ _ hs) (Dx.sameAll s ds _ ha)
  | .tuple ds, _, h => by
    cases h with
    | tup hs ha => exact .tup (s _ _ hs) (Dx.sameAll s ds _ ha)
  | .dict ks, _, h => by
    cases h with
    | emp hs => exact .emp (s _ _ hs)
theorem Dx.sameAll {H H' : Hp} (s : Same H H') : ∀ (ds : List PyData) (vs : List V), DxAll H vs ds → DxAll H' vs ds
  | [], _, h => by
    cases h
    exact .nil
  | d :: ds, _, h => by
    cases h with
    | cons h1 h2 => exact .cons (Dx.same s d _ h1) (Dx.sameAll s ds _ h2)
end
theorem DxAll.ints {H : Hp} : ∀ ns : List Int, DxAll H (ns.map V.int) (ns.map PyData.int)
  | [] => .nil
  | n :: r => .cons (.int n) (DxAll.ints r)
theorem DxAll.app {H : Hp} : ∀ {xs ys : List V} {ds es : List PyData}, DxAll H xs ds → DxAll H ys es → DxAll H (xs ++ ys) (ds ++ es)
  | _, _, _, _, .nil, h => h
  | _, _, _, _, .cons a b, h => .cons a (DxAll.app b h)
end Nal

/-! set(l): l a list of whole numbers; the set is one that sorted() takes. -/
namespace Nal
open PySem PySem.Spec PyProof.Rows L2
/-- a set with nothing in it -/
abbrev bareSet (w : World) : Obj := { cls := .type "set", dict := none, data := .set #[] 0 (.fresh 0 0 (!w.params.followText "set-order")) }
/-- behind it: the set of ns at the first free address, all else as it was -/
def Filled (w : World) (s : Shared) (ns : List Int) (h' : Heap) (c : Nat) : Prop := SetR w h' s.heap.objs.size (fun j => decide (j ∈ ns)) c ∧ c ≤ ns.length ∧ ∀ b o, s.heap.get? b = some o → h'.get? b = some o
section
variable {P : Program} {w : World} {A : Around} {E : Value → Shared → Prop} {s : Shared}
/-- the walk over the list fills the bare set -/
theorem fill_walk {l : Addr} {items : Array Value} {ns : List Int} {R : Result → Shared → Prop} (hh : A.in1.handled = none) (hl : s.heap.IsList l items) (hit : IntsAre items.toList ns) (hb : ns.length + 1 < scanBound)
    (hR : ∀ (h' : Heap) (tk c : Nat), Filled w s ns h' c → R (.ok (.ret .none)) { s with heap := h', toks := tk }) :
    codeAny (model P w) A (.builtin "set.update.loop" ⟨[.ref s.heap.objs.size, .ref (s.heap.push (bareSet w)).objs.size], []⟩) R
      { s with heap := (s.heap.push (bareSet w)).push { cls := .type "list_iterator", data := .fields #[.ref l, .int 0 0] } } := by
  have len : items.size = ns.length := by
    rw [← Array.length_toList]
    exact IntsAre.length hit
  have at0 : (s.heap.push (bareSet w)).get? s.heap.objs.size = some (bareSet w) := Heap.get?_push_size _ rfl
  have sz : (s.heap.push (bareSet w)).objs.size = s.heap.objs.size + 1 := Heap.size_push ..
  have lS : l < s.heap.objs.size := by
    obtain ⟨o, ho, _⟩ := hl
    exact Heap.lt_size ho
  have hl1 : (s.heap.push (bareSet w)).IsList l items := by
    obtain ⟨o, ho, r⟩ := hl
    exact ⟨o, Heap.get?_push_of_some _ ho, r⟩
  have lI : l ≠ (s.heap.push (bareSet w)).objs.size := Nat.ne_of_lt (by rw [sz]; exact Nat.lt_succ_of_lt lS)
  have off : s.heap.objs.size ∉ [(s.heap.push (bareSet w)).objs.size, l] := by
    rw [sz]
    simp only [List.mem_cons, List.not_mem_nil, or_false, not_or]
    exact ⟨Nat.ne_of_lt (Nat.lt_succ_self _), Nat.ne_of_gt lS⟩
  have vals : ∀ (i : Nat) (v : Value), items[i]? = some v → ∃ k t, ns[i]? = some k ∧ v = .int k t := fun i v hv => by
    have hi : i < ns.length := by
      rw [← len]
      exact (Array.getElem?_eq_some_iff.mp hv).1
    obtain ⟨t, e⟩ := IntsAre.int_at hit i v (by rw [Array.getElem?_toList]; exact hv)
    refine ⟨ns[i], t, List.getElem?_eq_getElem hi, ?_⟩
    rw [e, List.getD_eq_getElem?_getD, List.getElem?_eq_getElem hi]
    rfl
  refine set_update_ints ((Walks.list hh _ l lI items).toS) s.heap.objs.size off ns len hb vals (items.size - 0) 0 _ (by omega) (Nat.zero_le _) ⟨⟨_, Heap.get?_push_size _ rfl, rfl, rfl⟩, hl1.push _⟩
    ⟨0, Nat.le_refl 0, setR_new_at (Heap.get?_push_of_some _ at0)⟩ fun s' c hm hc hS => ?_
  obtain ⟨h', g', d', tk', os'⟩ := s'
  obtain rfl : g' = s.gens := hm.gens
  obtain rfl : d' = s.drawn := hm.drawn
  obtain rfl : os' = s.os := hm.os
  refine hR h' tk' c ⟨hS, by omega, fun b o e => ?_⟩
  have hb0 := Heap.lt_size e
  refine hm.heap b o ?_ (Heap.get?_push_of_some _ (Heap.get?_push_of_some _ e))
  rw [sz]
  simp only [List.mem_cons, List.not_mem_nil, or_false, not_or]
  exact ⟨Nat.ne_of_lt hb0, Nat.ne_of_lt (Nat.lt_succ_of_lt hb0)⟩
/-- set(l) -/
theorem call_setL {l : Addr} {items : Array Value} {ns : List Int} {Q : Value → Shared → Prop} (hh : A.handled = none) (hl : s.heap.IsList l items) (hit : IntsAre items.toList ns) (hb : ns.length + 1 < scanBound)
    (h : ∀ (h' : Heap) (tk c : Nat), Filled w s ns h' c → Q (.ref s.heap.objs.size) { s with heap := h', toks := tk }) : wpAny (model P w) A (call (.type "set") [.ref l]) Q E s := by
  obtain ⟨c, tl, hmro⟩ := F.called_set.mro
  have hmade := F.called_set.made
  have hsub := F.called_set.sub
  have h1 := F.called_set.notType
  have h2 := F.called_set.canCreate
  have hct := F.typeCall_set_1 (.ref l)
  have at0 : (s.heap.push (bareSet w)).get? s.heap.objs.size = some (bareSet w) := Heap.get?_push_size _ rfl
  have hT : Shared.TypeIs { s with heap := s.heap.push (bareSet w) } (.ref s.heap.objs.size) "set" := ⟨_, at0, rfl⟩
  have hli := F.called_set.init.lookup
  have hbi := F.called_set.init.bind (.ref s.heap.objs.size)
  refine wpAny_call (codeAny_of_tree ?_)
  show wpAny _ _ (callAny (.type "set") _) _ _ _
  refine wpAny_pure ⟨Code.quiet_builtin _ (by decide +kernel), codeAny_builtin F.entry_type_call ?_⟩
  rw [Around.under_plain (weight_type_call_type "set" [.ref l] []) rfl]
  repeat (any_goals (first | assumption | wp_step))
  refine codeAny_mono (code_set_led1 (.ref l) (E := E) (Q₁ := fun obj s₁ => obj = .ref s.heap.objs.size ∧ s₁ = { s with heap := s.heap.push (bareSet w) }) ⟨rfl, rfl⟩) fun r s₁ hr => ?_
  match r, hr with
  | .error e, hr => exact hr
  | .ok .next, hr => exact False.elim hr
  | .ok .brk, hr => exact False.elim hr
  | .ok .cont, hr => exact False.elim hr
  | .ok (.ret obj), hr =>
    obtain ⟨rfl, rfl⟩ := hr
    repeat (any_goals (first | assumption | wp_step))
    refine codeAny_mono (codeAny_call_builtin (R := wants (fun r s₂ => r = .none ∧ ∃ h' tk c, s₂ = { s with heap := h', toks := tk } ∧ Filled w s ns h' c) E) F.called_set.init.plain F.entry_set_init (check_set_init_1 hT ?_)) fun r₂ s₂ hr₂ => ?_
    · have hl0 := hl
      obtain ⟨⟨ocls, odict, odata, oslots⟩, ho, hcl, n, hd⟩ := hl
      simp only at hcl hd
      subst hcl
      subst hd
      have ho1 : (s.heap.push (bareSet w)).get? l = some { cls := .type "list", dict := odict, data := .seq items n, slots := oslots } := Heap.get?_push_of_some _ ho
      have n1 := F.sub_list_set
      have n2 := F.sub_list_frozenset
      have n3 : (Value.type "list" == Value.type "dict") = false := by decide
      have hl1 : (s.heap.push (bareSet w)).IsList l items := ⟨_, ho1, rfl, n, rfl⟩
      unfold Builtin.«set.__init__» noKeywords Builtin.Frozenset.updateFrom
      generalize hPI : pyIter = PI
      wp_walk
      subst hPI
      refine wpAny_pyIter_list hl1 (wpAny_bind (wpAny_runValue (fill_walk (by simp [hh]) hl0 hit hb fun h' tk c hf => ?_)))
      show wpAny _ _ _ _ _ _
      refine wpAny_pure ?_
      show wpAny _ _ (ret Value.none) _ _ _
      exact wpAny_pure ⟨rfl, h', tk, c, rfl, hf⟩
    · match r₂, hr₂ with
      | .error e, hr₂ => exact hr₂
      | .ok .next, hr₂ => exact False.elim hr₂
      | .ok .brk, hr₂ => exact False.elim hr₂
      | .ok .cont, hr₂ => exact False.elim hr₂
      | .ok (.ret v), hr₂ =>
        obtain ⟨rfl, h', tk, c, rfl, hf⟩ := hr₂
        repeat (any_goals (first | assumption | wp_step))
        exact h _ _ _ hf
end
section
variable {X : Cx}
/-- set(l) -/
def rSetL (K : PySem.W.Frag) (w : World) : List V → Hp → VK → Prop := fun xs H Q => ∃ (l : Addr) (ns : List Int), xs = [.ref l] ∧ SqL K H l (ns.map V.int) ∧ ns.length ≤ 4000 ∧
  ∀ (p : Addr) (c : Nat), c ≤ ns.length → H p = none → Q (.ref p) (upd H p (SetO w p (fun j => decide (j ∈ ns)) c))
theorem cr_setL (hc : X.calm = true) : CallR X (.type "set") (rSetL X.K X.w) := by
  intro pins s σ H xs us Q I r h
  obtain ⟨l, ns, rfl, hs, hl, q⟩ := h
  rw [Vals.ref1 r]
  obtain ⟨its, rv, pl, hz⟩ := I.list hs
  refine call_setL (I.ok.hd hc) pl.isList (by simpa using RZ.intsAre_vals rv) (by unfold scanBound; omega) fun h' tk c hf => ?_
  exact ⟨.ref _, upd H s.heap.objs.size (SetO X.w s.heap.objs.size (fun j => decide (j ∈ ns)) c), I.laid (t' := tk) hf.2.2 (Nat.le_refl _) (setO_new hf.1), rfl, q _ c hf.2.1 (I.hok.fresh (Nat.le_refl _))⟩
theorem kcall_set (K : PySem.W.Frag) (w : World) (hc : X.calm = true) (h : X.K = K := by rfl) (hw : X.w = w := by rfl) : CallR X (.type "set") (rSetL K w) := by
  subst h
  subst hw
  exact cr_setL hc
end
end Nal

/-! len(set(l)): how many unlike ones. -/
namespace Nal
open PySem PySem.Spec PyProof.Rows L2
section
variable {X : Cx}
def rLenSet (w : World) : List V → Hp → VK → Prop := fun xs H Q => ∃ (p : Addr) (S : Int → Bool) (n : Nat), xs = [.ref p] ∧ H p = some (SetO w p S n) ∧
  ∀ zs : List Int, zs.Nodup → (∀ z, z ∈ zs ↔ S z = true) → zs.length = n → Q (.int (n : Int)) H
theorem kcall_lenSet (w : World) (hw : X.w = w := by rfl) : CallR X (.builtin "len") (rLenSet w) := by
  subst hw
  rintro pins s σ H xs us Q I r ⟨p, S, n, rfl, hp, q⟩
  rw [Vals.ref1 r]
  have R : SetR X.w s.heap p S n := by
    have z := I.hok p _ hp
    exact z.1
  obtain ⟨o, es, ep, t, ho, hex, hd, _, nd, mem, sb, hf, hn, _, _⟩ := R
  have n0 : n < scanBound := by
    rw [← hn]
    exact sb
  refine call_len_set ho hex hd hf ?_ ⟨.int (n : Int), H, I.tok _, ⟨_, by rw [hn]⟩, q (es.toList.map keyOf) nd (fun z => (mem z).symm) (by rw [List.length_map, ← hn]; rfl)⟩
  rw [hn]
  unfold scanBound at n0
  omega
end
end Nal

/-! Defs that may raise, called; own exceptions raised; isinstance of a caught one. Values of any kind. -/
namespace Nal
open PySem PySem.Spec PyProof.Rows L2
/-- the def of the name x, which may raise, keeps the promise sp -/
structure KnX (P : Program) (w : World) (K : PySem.W.Frag) (mg : Str → Option Value) (base : Heap) (k : Nat) (x : Str) (ps : List Str) (sp : Sp) : Prop where
  ex : ∃ (f : Addr) (fd : FuncData), FnOk P w K mg base (L2.CX P w) k f fd ps sp ∧ mg x = some (.ref f) ∧ PySem.W.keepIn K (.ref f) = true ∧ Binds K fd ps []
structure MtX (P : Program) (w : World) (K : PySem.W.Frag) (mg : Str → Option Value) (base : Heap) (C : Addr) (k : Nat) (m : Str) (ps : List Str) (sp : Sp) : Prop where
  ex : ∃ (f : Addr) (fd : FuncData), FnOk P w K mg base (L2.CX P w) k f fd ps sp ∧ Meth K C m f ∧ Binds K fd ps []
section
variable {P : Program} {w : World} {K : PySem.W.Frag} {mg : Str → Option Value} {base : Heap} {C : Addr}
theorem knx_of {x : Str} {st : Stmt} {N ps : List Str} {k : Nat} {sp : Sp} (h : At K mg x st) (S : FnScope N ps (defScope st))
    (hb : ∀ (kV doc pm : Value) (an : Option Addr) (cdv ct : Value) (us : List Value), us.length = ps.length →
      bindArgs (PySem.W.fnOf x x (defArgs st) (defBody st) (defScope st) .none kV doc pm an cdv ct) ⟨us, []⟩ = pure (ps.zip us))
    (len : ∀ vs H Q E, sp vs H Q E → vs.length = ps.length)
    (hbody : ∀ (f : Addr) (cdv : Value) (A : Around) (outer : List Env) (s : Shared) (H : Hp) (vs : List V) (Q : VK) (E : XK),
      Room k (A.deeper (envOfC x (defScope st) s.heap.objs.size f cdv)) → sp vs H Q E →
      ∃ t, PSs (cxOf (L2.CX P w) P w K mg base N x (defScope st) f cdv A outer s H E) (defBody st) t ∧ t { nx := fun _ H' => Q .non H', rt := Q } (start N vs) H) :
    KnX P w K mg base (k + 1) x ps sp := by
  obtain ⟨f, fd, F, g⟩ := h.ex
  exact ⟨f, fd, F.okX S len (hbody f), g, F.kp, F.binds hb⟩
theorem mtx_of {m q : Str} {st : Stmt} {N ps : List Str} {k : Nat} {sp : Sp} (h : AtM K C m q st) (S : FnScope N ps (defScope st))
    (hb : ∀ (kV doc pm : Value) (an : Option Addr) (cdv ct : Value) (us : List Value), us.length = ps.length →
      bindArgs (PySem.W.fnOf m q (defArgs st) (defBody st) (defScope st) .none kV doc pm an cdv ct) ⟨us, []⟩ = pure (ps.zip us))
    (len : ∀ vs H Q E, sp vs H Q E → vs.length = ps.length)
    (hbody : ∀ (f : Addr) (cdv : Value) (A : Around) (outer : List Env) (s : Shared) (H : Hp) (vs : List V) (Q : VK) (E : XK),
      Room k (A.deeper (envOfC q (defScope st) s.heap.objs.size f cdv)) → sp vs H Q E →
      ∃ t, PSs (cxOf (L2.CX P w) P w K mg base N q (defScope st) f cdv A outer s H E) (defBody st) t ∧ t { nx := fun _ H' => Q .non H', rt := Q } (start N vs) H) :
    MtX P w K mg base C (k + 1) m ps sp := by
  obtain ⟨f, fd, F, g⟩ := h.ex
  exact ⟨f, fd, F.okX S len (hbody f), g, F.binds hb⟩
end
section
variable {X : Cx} {k j : Nat} {ps : List Str} {sp : Sp} {x m : Str} {C : Addr} {p pos apos : Pos} {e o : Expr} {es : List Expr} {t : TA} {ta : TE} {W : WX}
theorem pe_knx (h : KnX X.prog X.w X.K X.mg X.base j x ps sp) (tk : Takes X W) (hr : Room k X.A) (hk : j ≤ k) (hg : Gl X x) (ha : PA X (e :: es) t)
    (hdb : (x == ("__debug__" : Str)) = false := by decide) (he : starEach (e :: es) X.env = (false, eval e X.env) :: starEach es X.env := by rfl)
    (hpl : (backTo pos (starEach es X.env)).any (·.1) = false := by rfl) : PE X (.Call (.Name x p) (e :: es) [] pos) (tCallS sp (WE W) t) := by
  obtain ⟨f, fd, F, hm, kp, b⟩ := h.ex
  exact pe_callS F (hr.mono hk) hg hm kp b (fun σ => passAt tk σ) ha hdb he hpl
/-- .. where nothing is raised -/
theorem pe_knx0 (h : KnX X.prog X.w X.K X.mg X.base j x ps sp) (hr : Room k X.A) (hk : j ≤ k) (hg : Gl X x) (ha : PA X (e :: es) t)
    (hdb : (x == ("__debug__" : Str)) = false := by decide) (he : starEach (e :: es) X.env = (false, eval e X.env) :: starEach es X.env := by rfl)
    (hpl : (backTo pos (starEach es X.env)).any (·.1) = false := by rfl) : PE X (.Call (.Name x p) (e :: es) [] pos) (tCall sp [] E0 t) := by
  obtain ⟨f, fd, F, hm, kp, b⟩ := h.ex
  exact pe_call F (hr.mono hk) hg hm kp b .nil passL ha hdb he hpl
end
/-- an own exception class over ValueError, without __init__ -/
structure ExO (K : PySem.W.Frag) (mg : Str → Option Value) (x : Str) (C : Addr) : Prop where
  g : mg x = some (.ref C)
  xi : PySem.W.excIn K C [.type "ValueError", .type "Exception", .type "BaseException", .type "object"] "ValueError.__new__" = true
  kp : PySem.W.keepIn K (.ref C) = true
  ty : PySem.W.typeIn K (.ref C) = some (.type "type")
  c : ExcC K C
theorem ps_raiseO {X : Cx} {W : WX} {x m : Str} {C : Addr} {j : Nat} {p p2 pos pos' : Pos} (E : ExO X.K X.mg x C) (hc : X.calm = true) (tk : Takes X W) (hg : Gl X x) (hdb : (x == ("__debug__" : Str)) = false := by decide) :
    PS X (.Raise (some (.Call (.Name x p) [.Constant (.str m) j p2] [] pos)) none pos') (fun _ σ H => W (.ref C) none σ H) :=
  ps_raise hc tk (pmk_own PySem.F.excBase_ValueError E.xi E.g E.kp (raises_own E.c.hs E.ty) hg hdb)
/-- isinstance(e, c), e what the suite holds, of whatever class -/
def rIsX (K : PySem.W.Frag) (cls : Value) (d : Option Addr) (a : Addr) : List V → Hp → VK → Prop := fun xs H Q =>
  ∃ (D : Addr) (c : V) (cv : Value) (b : Bool), cls = .ref D ∧ d = none ∧ ExcC K D ∧ xs = [.ref a, c] ∧ ClsV c cv ∧ PySem.W.kitOne K (.ref D) cv = some b ∧ Q (.bl b) H
/-- isinstance(e, (c1, c2, ..)) -/
def rIsXT (K : PySem.W.Frag) (cls : Value) (d : Option Addr) (a : Addr) : List V → Hp → VK → Prop := fun xs H Q =>
  ∃ (D tp : Addr) (cs : List V) (us : List Value) (b : Bool), cls = .ref D ∧ d = none ∧ ExcC K D ∧ xs = [.ref a, .ref tp] ∧ H tp = some (.tup cs) ∧ Paired ClsV cs us ∧ PySem.W.kitAny K (.ref D) us = some b ∧ Q (.bl b) H
theorem exc_inst {h : Heap} {a D : Addr} {oe : Obj} (hget : h.get? a = some oe) (hz : Zc (.ref D) none oe) (hf : ∃ vs, oe.data = .fields vs) : PySem.W.InstAt h a oe D none := by
  obtain ⟨vs, hv⟩ := hf
  obtain ⟨oc, od, oda, osl⟩ := oe
  obtain ⟨h1, h2⟩ := hz
  dsimp only at h1 h2 hv
  subst h1 h2 hv
  exact ⟨hget, rfl, rfl, trivial⟩
theorem call_isX {X : Cx} {a : Addr} {cls : Value} {d : Option Addr} {oe : Obj} {pn : List (Addr × Obj)} (K : PySem.W.Frag) (hz : Zc cls d oe) (hf : ∃ vs, oe.data = .fields vs) (hK : X.K = K := by rfl) : CallR (X.suite a ((a, oe) :: pn)) (.builtin "isinstance") (rIsX K cls d a) := by
  subst hK
  intro pins s σ H xs us Q I r h
  obtain ⟨D, c, cv, b, rfl, rfl, C, rfl, k, e, q⟩ := h
  obtain ⟨u1, u2, rfl, r1, r2⟩ := vals2 r
  cases (show u1 = Value.ref a from r1)
  have e2 := k.eq r2
  subst e2
  obtain ⟨hget, _⟩ := I.pin (a, oe) (List.mem_append.mpr (.inl List.mem_cons_self))
  exact PySem.W.kia_one (PySem.W.handS_kitx_exc C.hg C.hk C.hs C.hd C.ha C.hn C.ht C.hm) I.kIn (exc_inst hget hz hf) e (fun z => nomatch z) fun tk => ⟨.bl b, H, I.tok tk, rfl, q⟩
theorem call_isXT {X : Cx} {a : Addr} {cls : Value} {d : Option Addr} {oe : Obj} {pn : List (Addr × Obj)} (K : PySem.W.Frag) (hz : Zc cls d oe) (hf : ∃ vs, oe.data = .fields vs) (hK : X.K = K := by rfl) : CallR (X.suite a ((a, oe) :: pn)) (.builtin "isinstance") (rIsXT K cls d a) := by
  subst hK
  intro pins s σ H xs us Q I r h
  obtain ⟨D, tp, cs, ws, b, rfl, rfl, C, rfl, hT, k, e, q⟩ := h
  obtain ⟨u1, u2, rfl, r1, r2⟩ := vals2 r
  cases (show u1 = Value.ref a from r1)
  cases (show u2 = Value.ref tp from r2)
  obtain ⟨hget, _⟩ := I.pin (a, oe) (List.mem_append.mpr (.inl List.mem_cons_self))
  obtain ⟨_, its, rv, o, h1, h2, n, h3⟩ := (show ObjOk X.prog X.w H s.heap tp (.tup cs) from I.hok tp _ hT)
  have e3 := ClsV.all k rv
  subst e3
  obtain ⟨oc, od, dt, sl⟩ := o
  simp only at h2 h3
  subst h2 h3
  exact PySem.W.kia_tup (PySem.W.handS_kitx_exc C.hg C.hk C.hs C.hd C.ha C.hn C.ht C.hm) I.kIn (exc_inst hget hz hf) h1 e (fun z => nomatch z) fun tk => ⟨.bl b, H, I.tok tk, rfl, q⟩
theorem ksl_list {X : Cx} (K : PySem.W.Frag) (h : X.K = K := by rfl) : SlR X (rSlL K) := by
  subst h
  exact sl_list
/-- a value of a kind that is told -/
inductive Od (H : Hp) : V → Prop
  | non : Od H .non
  | bl (b : Bool) : Od H (.bl b)
  | int (i : Int) : Od H (.int i)
  | str (s : Str) : Od H (.str s)
  | lst {a : Addr} {xs : List V} : H a = some (.lst xs) → Od H (.ref a)
  | tup {a : Addr} {xs : List V} : H a = some (.tup xs) → Od H (.ref a)
  | dK {a : Addr} {kvs : List (Key × V)} : H a = some (.dK kvs) → Od H (.ref a)
theorem Od.same {H H' : Hp} {v : V} (s : Same H H') (h : Od H v) : Od H' v := by
  cases h with
  | non => exact .non
  | bl b => exact .bl b
  | int i => exact .int i
  | str x => exact .str x
  | lst e => exact .lst (s _ _ e)
  | tup e => exact .tup (s _ _ e)
  | dK e => exact .dK (s _ _ e)
theorem Od.keep {p : Addr} {H H' : Hp} {v : V} (s : Keep p H H') (n : v ≠ .ref p) (h : Od H v) : Od H' v := by
  cases h with
  | non => exact .non
  | bl b => exact .bl b
  | int i => exact .int i
  | str x => exact .str x
  | lst e => exact .lst (s _ _ (fun z => n (by rw [z])) e)
  | tup e => exact .tup (s _ _ (fun z => n (by rw [z])) e)
  | dK e => exact .dK (s _ _ (fun z => n (by rw [z])) e)
/-- a whole number from lo to hi -/
def wholeV (v : V) (lo hi : Int) : Bool := match v with
  | .int n => decide (lo ≤ n ∧ n ≤ hi)
  | _ => false
theorem wholeV_not {v : V} {lo hi : Int} (h : ∀ i, v ≠ .int i) : wholeV v lo hi = false := by
  cases v with
  | int i => exact absurd rfl (h i)
  | _ => rfl
end Nal

namespace Nal
open PySem PySem.Spec PyProof.Rows L2
theorem at_in {α : Type} {xs : List α} {d : Int} (h0 : 0 ≤ d) (h1 : d < (xs.length : Int)) : ∃ x, atI xs d = some x ∧ x ∈ xs := by
  obtain ⟨n, rfl⟩ := Int.eq_ofNat_of_zero_le h0
  have hl : n < xs.length := by omega
  exact ⟨xs[n], atI_nat (List.getElem?_eq_getElem hl), List.getElem_mem hl⟩
theorem erase_perm {α : Type} : ∀ (l : List α) (i : Nat) (h : i < l.length), (l[i] :: l.eraseIdx i).Perm l
  | _ :: r, 0, _ => List.Perm.refl _
  | a :: r, i + 1, h => (List.Perm.swap a (r[i]'(Nat.lt_of_succ_lt_succ h)) (r.eraseIdx i)).trans (List.Perm.cons a (erase_perm r i (Nat.lt_of_succ_lt_succ h)))
/-- a heap of m things -/
def IsHp (m : Int) (ns : List Int) : Prop := ns.Nodup ∧ ∀ z ∈ ns, 0 ≤ z ∧ z < m
section
variable {P : Program} {w : World} {K : PySem.W.Frag} {mg : Str → Option Value} {base : Heap}
def spShuffled (K : PySem.W.Frag) : Sp := fun vs H Q _ => ∃ (p l : Addr) (xs : List V), vs = [.ref p, .ref l] ∧ l ≠ p ∧ SqL K H l xs ∧ xs.length ≤ 1000 ∧ Pot H p ∧
  ∀ (ys : List V) (r : Addr) (H' : Hp), ys.Perm xs → H r = none → Keep p H H' → Pot H' p → H' r = some (.lst ys) → Q (.ref r) H'
theorem scShuffled : FnScope ["_law_pot_here", "_law_some", "_law_pool", "_law_found", "_law_k"] ["_law_pot_here", "_law_some"] (defScope tp20) := ⟨rfl, rfl, rfl, by decide +kernel, rfl, by decide +kernel, by decide +kernel⟩
theorem kn_shuffled (h : At K mg "_law_shuffled" tp20) (B : Bl mg) (kn__law_take : Kn P w K mg base 1 "_law_take" ["_law_pot_here", "_law_many"] spTake) :
    Kn P w K mg base 2 "_law_shuffled" ["_law_pot_here", "_law_some"] (spShuffled K) := by
  refine kn_of h scShuffled (fun _ _ _ _ _ _ us hl => match us, hl with | [_, _], _ => rfl) (fun vs H Q E h => ?_) (fun f cdv A outer s H vs Q E hr h => ?_)
  · obtain ⟨p, l, xs, rfl, _⟩ := h
    rfl
  · obtain ⟨p, l, xs, rfl, n, hS, l1, pt, q⟩ := h
    refine ⟨_, (pss_cons (ps_set (i := 2) scShuffled.nd rfl (Or.inl rfl) (pe_callTy (kcall_list K) (by rfl) B.t_list (by decide +kernel) (pa_cons (pv 1) pa_nil)))
      (pss_cons (ps_set (i := 3) scShuffled.nd rfl (Or.inl rfl) (pe_lst pa_nil))
      (pss_cons (ps_for PassesOwn.never rfl (pi_range1 (by rfl) B.range (pa_cons (pe_callB (kcall_len K) (by rfl) B.len (by decide +kernel) (pa_cons (pv 1) pa_nil)) pa_nil)) (pg_name (i := 4) scShuffled.nd rfl (Or.inl rfl))
        (pss_one (ps_expr (pe_bm PySem.F.plainAttrs_list PySem.F.slot_list_append PySem.F.type_list_append mt_append (pv 3) (pa_cons (pe_bm PySem.F.plainAttrs_list PySem.F.slot_list_pop PySem.F.type_list_pop mt_popAt (pv 2) (pa_cons (pe_kn kn__law_take hr (by decide) (by rfl) (pa_cons (pv 0) (pa_cons (pe_callB (kcall_len K) (by rfl) B.len (by decide +kernel) (pa_cons (pv 2) pa_nil)) pa_nil))) pa_nil)) pa_nil)))))
      (pss_one (ps_ret (pv 3)))))), ?_⟩
    refine ⟨.ref l, rfl, l, _, rfl, .inl hS, fun a na => ?_⟩
    refine ⟨Nat.zero_le _, fun b nb => ?_⟩
    obtain ⟨nba, nb0⟩ := new_ne nb
    have nab : a ≠ b := nba.symm
    have ap : a ≠ p := pt.ne na
    have bp : b ≠ p := pt.ne nb0
    have s2 : Same H (upd (upd H a (.lst xs)) b (.lst [])) := (same_new na).trans (same_new nb)
    refine ⟨.ref l, rfl, l, _, rfl, .inl (s2.seq hS), (xs.length : Int), rfl, by omega, by omega, ?_⟩
    refine for_range (n := xs.length) (fun i σ H' => ∃ (ys zs : List V) (v : Option V), σ = [some (.ref p), some (.ref l), some (.ref a), some (.ref b), v] ∧ (zs ++ ys).Perm xs ∧ zs.length = i ∧
      H' a = some (.lst ys) ∧ H' b = some (.lst zs) ∧ Keep p H H' ∧ Pot H' p) ?_ ?_ ?_
    · exact ⟨xs, [], none, rfl, List.Perm.refl _, rfl, by rw [upd_ne nab, upd_same], upd_same, Keep.same s2, (pt.new na).new nb⟩
    · rintro i σ H' hi ⟨ys, zs, v, rfl, pm, lz, ha, hb, kp, pt'⟩
      have ll := pm.length_eq
      rw [List.length_append] at ll
      have hy : 0 < ys.length := by omega
      refine ⟨.ref b, rfl, .inl ⟨rfl, _, SqL.of hb⟩, .ref a, rfl, .inl ⟨rfl, _, SqL.of ha⟩, .ref p, rfl, .ref a, rfl, a, _, rfl, .inl (SqL.of ha), p, _, rfl, by omega,
        Int.lt_of_le_of_lt (b := 1000) (by omega) (by decide), pt', fun d H2 d0 d1 k2 pt2 => ?_⟩
      have dl : d.toNat < ys.length := by omega
      have ix : ixN ys.length d = some d.toNat := by
        unfold ixN
        rw [if_pos d0, if_pos d1]
      have ha2 : H2 a = some (.lst ys) := k2 _ _ ap ha
      have hb2 : H2 b = some (.lst zs) := k2 _ _ bp hb
      refine ⟨a, ys, d, d.toNat, ys[d.toNat], rfl, rfl, ha2, by omega, by omega, (ixN_seq ix).1, List.getElem?_eq_getElem dl, ?_⟩
      refine ⟨b, zs, _, rfl, rfl, (upd_ne nab.symm).trans hb2, ?_, ?_⟩
      · rw [sizeLine_eq]
        omega
      · refine ⟨ys.eraseIdx d.toNat, zs ++ [ys[d.toNat]], _, rfl, ?_, ?_, ?_, upd_same, ?_, ?_⟩
        · refine List.Perm.trans ?_ pm
          rw [List.append_assoc]
          exact List.Perm.append_left _ (erase_perm ys d.toNat dl)
        · rw [List.length_append, lz]
          rfl
        · rw [upd_ne nab, upd_same]
        · intro c o nc e
          have nca : c ≠ a := ne_of_none e na
          have ncb : c ≠ b := ne_of_none e nb0
          rw [upd_ne ncb, upd_ne nca]
          exact k2 c o nc (kp c o nc e)
        · exact (pt2.off ap).off bp
    · rintro σ H' ⟨ys, zs, v, rfl, pm, lz, ha, hb, kp, pt'⟩
      have ll := pm.length_eq
      rw [List.length_append] at ll
      have ey : ys = [] := List.eq_nil_of_length_eq_zero (by omega)
      rw [ey, List.append_nil] at pm
      exact ⟨.ref b, rfl, q zs b H' pm nb0 kp pt' hb⟩
end
end Nal

namespace Nal
open PySem PySem.Spec PyProof.Rows L2
theorem cut_take {xs : List V} {d : Int} (h0 : 0 ≤ d) : cutV xs none (some d) = xs.take d.toNat := by
  obtain ⟨n, rfl⟩ := Int.eq_ofNat_of_zero_le h0
  unfold cutV
  rw [HT.sIx_none, HT.sIx_nat, List.drop_zero, Nat.sub_zero, Int.toNat_natCast]
  rcases Nat.le_total n xs.length with q | q
  · rw [Nat.min_eq_left q]
  · rw [Nat.min_eq_right q, List.take_of_length_le (Nat.le_refl _), List.take_of_length_le q]
/-- whole numbers, as values -/
abbrev nums (ns : List Int) : List V := ns.map V.int
theorem nums_inj {ns ms : List Int} (h : nums ns = nums ms) : ns = ms := List.map_inj_right (fun a b e => V.int.inj e) |>.mp h
theorem perm_nums : ∀ {ys : List V} {ns : List Int}, ys.Perm (nums ns) → ∃ ms : List Int, ys = nums ms ∧ ms.Perm ns := by
  intro ys ns h
  have a : ∀ y ∈ ys, ∃ i, y = V.int i := fun y hy => by
    obtain ⟨i, _, e⟩ := List.mem_map.mp (h.mem_iff.mp hy)
    exact ⟨i, e.symm⟩
  let f : V → Int := fun v => match v with | .int i => i | _ => 0
  have e1 : ys = nums (ys.map f) := by
    have : ∀ zs : List V, (∀ y ∈ zs, ∃ i, y = V.int i) → zs = nums (zs.map f) := by
      intro zs
      induction zs with
      | nil => intro _; rfl
      | cons z r ih =>
        intro hz
        obtain ⟨i, rfl⟩ := hz z List.mem_cons_self
        show _ = V.int (f (V.int i)) :: nums (r.map f)
        rw [← ih fun y hy => hz y (List.mem_cons_of_mem _ hy)]
    exact this ys a
  refine ⟨ys.map f, e1, ?_⟩
  have q := h.map f
  have e2 : (nums ns).map f = ns := by
    show (ns.map V.int).map f = ns
    rw [List.map_map]
    exact (List.map_congr_left fun i _ => rfl).trans (List.map_id ns)
  rw [e2] at q
  exact q
theorem rg_nums (n : Nat) : rgV 0 (n : Int) = nums ((List.range n).map fun i : Nat => (i : Int)) := by
  unfold rgV nums
  rw [List.map_map]
  have e : ((n : Int) - 0).toNat = n := by omega
  rw [e]
  exact List.map_congr_left fun i _ => by simp
theorem range_hp (n : Nat) : IsHp n ((List.range n).map fun i : Nat => (i : Int)) := by
  refine ⟨?_, fun z hz => ?_⟩
  · refine List.pairwise_map.mpr (List.nodup_range.imp fun {a b} h e => h ?_)
    omega
  · obtain ⟨i, hi, rfl⟩ := List.mem_map.mp hz
    have := List.mem_range.mp hi
    omega
theorem IsHp.perm {m : Int} {ns ms : List Int} (h : IsHp m ns) (p : ms.Perm ns) : IsHp m ms :=
  ⟨p.nodup_iff.mpr h.1, fun z hz => h.2 z (p.mem_iff.mp hz)⟩
theorem IsHp.take {m : Int} {ns : List Int} (h : IsHp m ns) (k : Nat) : IsHp m (ns.take k) :=
  ⟨h.1.sublist (List.take_sublist _ _), fun z hz => h.2 z (List.mem_of_mem_take hz)⟩
theorem IsHp.len {m : Nat} {ns : List Int} (h : IsHp m ns) : ns.length ≤ m := by
  have q : (ns.map Int.toNat).Nodup := by
    refine List.pairwise_map.mpr ?_
    have := h.1
    refine List.Pairwise.imp_of_mem (fun {a b} ha hb hab e => hab ?_) this
    have h1 := h.2 a ha
    have h2 := h.2 b hb
    omega
  have sub : ∀ x ∈ ns.map Int.toNat, x ∈ List.range m := fun x hx => by
    obtain ⟨z, hz, rfl⟩ := List.mem_map.mp hx
    have := h.2 z hz
    exact List.mem_range.mpr (by omega)
  have : ∀ (l : List Nat) (k : Nat), l.Nodup → (∀ x ∈ l, x < k) → l.length ≤ k := by
    intro l k
    induction k generalizing l with
    | zero =>
      intro _ hl
      cases l with
      | nil => exact Nat.le_refl _
      | cons a r => exact absurd (hl a List.mem_cons_self) (Nat.not_lt_zero _)
    | succ k ih =>
      intro nd hl
      have e1 : (l.erase k).length ≤ k := ih (l.erase k) (nd.sublist List.erase_sublist) fun x hx => by
        have h1 := hl x (List.mem_of_mem_erase hx)
        have h2 : x ≠ k := fun e => by
          subst e
          exact (List.Nodup.not_mem_erase nd) hx
        omega
      have e2 : l.length ≤ (l.erase k).length + 1 := by
        rw [List.length_erase]
        split <;> omega
      omega
  have r := this _ m q fun x hx => List.mem_range.mp (sub x hx)
  rw [List.length_map] at r
  exact r
end Nal

namespace Nal
open PySem PySem.Spec PyProof.Rows L2
section
variable {P : Program} {w : World} {K : PySem.W.Frag} {mg : Str → Option Value} {base : Heap}
def spWhole : Sp := fun vs H Q _ => ∃ n lo hi : Int, vs = [.int n, .int lo, .int hi] ∧ Q (.bl (decide (lo ≤ n ∧ n ≤ hi))) H
theorem scWhole : FnScope ["number", "least", "most"] ["number", "least", "most"] (defScope tp8) := ⟨rfl, rfl, rfl, by decide +kernel, rfl, by decide +kernel, by decide +kernel⟩
theorem kn_whole (h : At K mg "is_whole" tp8) (B : Bl mg) : Kn P w K mg base 1 "is_whole" ["number", "least", "most"] spWhole := by
  refine kn_of h scWhole (fun _ _ _ _ _ _ us hl => match us, hl with | [_, _, _], _ => rfl) (fun vs H Q E h => ?_) (fun f cdv A outer s H vs Q E hr h => ?_)
  · obtain ⟨n, lo, hi, rfl, _⟩ := h
    rfl
  · obtain ⟨n, lo, hi, rfl, q⟩ := h
    refine ⟨_, (pss_one (ps_ret (pe_and (pe_callB (kcall_isi K) (by rfl) B.isinstance (by decide +kernel) (pa_cons (pv 0) (pa_cons (pe_bltn (v := .ty "int") (by rfl) B.t_int (by decide +kernel) rfl) pa_nil))) (pe_and (pe_not (pe_callB (kcall_isi K) (by rfl) B.isinstance (by decide +kernel) (pa_cons (pv 0) (pa_cons (pe_bltn (v := .ty "bool") (by rfl) B.t_bool (by decide +kernel) rfl) pa_nil)))) (pe_one (pe_chain op_le op_le (pv 1) (pv 0) (pv 2))))))), ?_⟩
    refine ⟨.int n, rfl, _, _, _, _, true, rfl, .ty "int", .base (.int n), kit_ty (by decide +kernel), true, rfl, iteT ?_⟩
    refine ⟨.int n, rfl, _, _, _, _, false, rfl, .ty "bool", .base (.int n), kit_ty (by decide +kernel), false, rfl, _, rfl, iteT ?_⟩
    refine ⟨.int lo, rfl, .int n, rfl, lo, n, rfl, rfl, _, rfl, ite2 (fun c => ?_) (fun c => ?_)⟩
    · have c1 : lo ≤ n := of_decide_eq_true c
      refine ⟨.int hi, rfl, n, hi, rfl, rfl, ?_⟩
      have e : decide (lo ≤ n ∧ n ≤ hi) = decide (n ≤ hi) := by
        by_cases d : n ≤ hi
        · rw [decide_eq_true d, decide_eq_true ⟨c1, d⟩]
        · rw [decide_eq_false d, decide_eq_false fun z => d z.2]
      show Q (.bl (decide (n ≤ hi))) H
      rw [← e]
      exact q
    · have c1 : ¬ lo ≤ n := fun z => c (decide_eq_true z)
      have e : decide (lo ≤ n ∧ n ≤ hi) = false := decide_eq_false fun z => c1 z.1
      rw [e] at q
      exact q
/-- of a heap -/
def spIsHeap : Sp := fun vs H Q _ => ∃ (l : Addr) (ns : List Int) (m : Nat), vs = [.ref l, .int m] ∧ m ≤ 24 ∧ H l = some (.lst (nums ns)) ∧ IsHp m ns ∧
  ∀ H', Same H H' → Q (.bl true) H'
theorem scIsHeap : FnScope ["things", "many", "thing"] ["things", "many"] (defScope tp11) := ⟨rfl, rfl, rfl, by decide +kernel, rfl, by decide +kernel, by decide +kernel⟩
theorem rep_snoc {α : Type} (i : Nat) (a : α) : List.replicate i a ++ [a] = List.replicate (i + 1) a := by
  rw [List.replicate_succ']
theorem kn_is_heap (h : At K mg "is_heap" tp11) (B : Bl mg) {t24 : Tok} (gc_MOST_THINGS : mg "MOST_THINGS" = some (.int 24 t24))
    (kn_is_whole : Kn P w K mg base 1 "is_whole" ["number", "least", "most"] spWhole) : Kn P w K mg base 2 "is_heap" ["things", "many"] spIsHeap := by
  refine kn_of h scIsHeap (fun _ _ _ _ _ _ us hl => match us, hl with | [_, _], _ => rfl) (fun vs H Q E h => ?_) (fun f cdv A outer s H vs Q E hr h => ?_)
  · obtain ⟨l, ns, m, rfl, _⟩ := h
    rfl
  · obtain ⟨l, ns, m, rfl, m1, hl, hp, q⟩ := h
    refine ⟨_, (pss_cons (ps_if (PW.pt (pw_or (pt_not (pt_val (pe_callB (kcall_isi K) (by rfl) B.isinstance (by decide +kernel) (pa_cons (pv 0) (pa_cons (pe_bltn (v := .ty "list") (by rfl) B.t_list (by decide +kernel) rfl) pa_nil))))) (pw_or1 (pt_not (pt_val (pe_kn kn_is_whole hr (by decide) (by rfl) (pa_cons (pv 1) (pa_cons pe_int (pa_cons (pe_glob (v := .int 24) (by rfl) gc_MOST_THINGS ⟨_, rfl⟩) pa_nil))))))))) (pss_one (ps_ret pe_bl)) pss_nil)
      (pss_cons (ps_if (pt_not (pt_val (pe_callB (cr_all rfl) (by rfl) B.all (by decide +kernel) (pa_cons (pe_lc (own := [("thing", 2)]) (g := gName 2) (tt := tYes)  rfl scIsHeap.nd (pi_list (pv 0)) (blkOk_by (own := [("thing", 2)]) (N := ["things", "many", "thing"]) (sc := (defScope tp11)) (by decide +kernel)) (fun _ _ _ _ _ => pg_name (i := 2) scIsHeap.nd rfl (Or.inl rfl)) (fun _ _ _ _ _ => pts_nil) (fun _ _ _ _ _ => (pe_kn kn_is_whole hr (by decide) (by rfl) (pa_cons (pv 2) (pa_cons pe_int (pa_cons (pe_op op_sub (pv 1) pe_int) pa_nil)))))) pa_nil)))) (pss_one (ps_ret pe_bl)) pss_nil)
      (pss_one (ps_ret (pe_cmpR op_eq (RZ.pe_lenSetI (by rfl) B.len (by rfl) B.t_set (pv 0)) (pe_callB (kcall_len K) (by rfl) B.len (by decide +kernel) (pa_cons (pv 0) pa_nil)) (nomark _)))))), ?_⟩
    -- no list?
    refine ⟨.ref l, rfl, _, _, _, _, true, rfl, .ty "list", .base (.lst hl), kit_ty (by decide +kernel), true, rfl, iteF ?_⟩
    refine ⟨.int m, rfl, m, 0, 24, rfl, true, ?_, iteF ?_⟩
    · rw [decide_eq_true]
      omega
    -- all things?
    refine ⟨.ref l, rfl, l, rfl, ⟨_, SqL.of hl⟩, fun D hD => lc_list (K := K) (a := l) (xs := nums ns) (fun i H' => H' = upd H D (.lst (List.replicate i (V.bl true)))) rfl (fun i H' _ e => ?_) ?_ ?_⟩
    · rw [e]
      exact (same_new hD).seq (SqL.of hl)
    · rintro i y H' hi e
      subst e
      obtain ⟨z, hz, rfl⟩ := List.mem_map.mp (List.mem_of_getElem? hi)
      have hb := hp.2 z hz
      refine ⟨rfl, ?_⟩
      refine ⟨.int z, rfl, .int m, rfl, _, _, rfl, rfl, z, 0, (m : Int) - 1, rfl, _, upd_same, ?_, ?_⟩
      · rw [List.length_replicate]
        have := (List.getElem?_eq_some_iff.mp hi).1
        rw [List.length_map] at this
        have := hp.len
        rw [sizeLine_eq]
        omega
      · have e : decide (0 ≤ z ∧ z ≤ (m : Int) - 1) = true := decide_eq_true (by omega)
        rw [e, upd_upd, rep_snoc]
    · rintro H' e
      subst e
      have hL : ((nums ns).length) = ns.length := List.length_map _
      rw [hL]
      refine ⟨D, List.replicate ns.length true, rfl, ?_, ?_⟩
      · rw [List.map_replicate]
        exact SqL.of upd_same
      · have e : (List.replicate ns.length true).all id = true := by
          rw [List.all_eq_true]
          intro b hb
          exact List.eq_of_mem_replicate hb
        refine ⟨true, by rw [e], iteF ?_⟩
        have hl2 : SqL K (upd H D (.lst (List.replicate ns.length (V.bl true)))) l (nums ns) := (same_new hD).seq (SqL.of hl)
        refine ⟨.ref l, rfl, l, ns, rfl, hl2, hp.1, ?_, .ref l, rfl, l, _, rfl, .inl hl2, rfl, ?_⟩
        · have := hp.len
          omega
        · rw [hL, decide_eq_true rfl]
          exact q _ (same_new hD)
/-- the things of a heap, rising -/
def Rising (ns ms : List Int) : Prop := ms.Perm ns ∧ ms.Pairwise (· ≤ ·)
def spRising : Sp := fun vs H Q _ => ∃ (l : Addr) (ns : List Int) (m : Nat), vs = [.ref l, .int m] ∧ m ≤ 24 ∧ H l = some (.lst (nums ns)) ∧ IsHp m ns ∧
  ∀ (ms : List Int) (r : Addr) (H' : Hp), Rising ns ms → H r = none → Same H H' → H' r = some (.lst (nums ms)) → Q (.ref r) H'
theorem scRising : FnScope ["heap", "many"] ["heap", "many"] (defScope tp12) := ⟨rfl, rfl, rfl, by decide +kernel, rfl, by decide +kernel, by decide +kernel⟩
theorem kn_rising (h : At K mg "rising_heap" tp12) (B : Bl mg) (kn_is_heap : Kn P w K mg base 2 "is_heap" ["things", "many"] spIsHeap) :
    Kn P w K mg base 3 "rising_heap" ["heap", "many"] spRising := by
  refine kn_of h scRising (fun _ _ _ _ _ _ us hl => match us, hl with | [_, _], _ => rfl) (fun vs H Q E h => ?_) (fun f cdv A outer s H vs Q E hr h => ?_)
  · obtain ⟨l, ns, m, rfl, _⟩ := h
    rfl
  · obtain ⟨l, ns, m, rfl, m1, hl, hp, q⟩ := h
    refine ⟨_, (pss_cons (ps_if (pt_not (pt_val (pe_kn kn_is_heap hr (by decide) (by rfl) (pa_cons (pv 0) (pa_cons (pv 1) pa_nil))))) (pss_one ps_never) pss_nil)
      (pss_one (ps_ret (pe_callB cr_sorted (by rfl) B.sorted (by decide +kernel) (pa_cons (pv 0) pa_nil))))), ?_⟩
    refine ⟨.ref l, rfl, .int m, rfl, l, ns, m, rfl, m1, hl, hp, fun H1 s1 => ⟨true, rfl, iteF ?_⟩⟩
    refine ⟨.ref l, rfl, l, ns, rfl, s1.seq (SqL.of hl), ?_, fun ms r pm pw nr => ?_⟩
    · have := hp.len
      omega
    · exact q ms r _ ⟨pm, pw⟩ (s1.free nr) (s1.trans (same_new nr)) upd_same
end
end Nal

namespace Nal
open PySem PySem.Spec PyProof.Rows L2
/-- numbers that are not below 0, as values -/
abbrev nats (rs : List Nat) : List V := rs.map fun (n : Nat) => V.int (n : Int)
theorem nats_at {rs : List Nat} {i : Nat} {x : V} (h : (nats rs)[i]? = some x) : ∃ r, rs[i]? = some r ∧ x = V.int (r : Int) := by
  rw [List.getElem?_map] at h
  cases e : rs[i]? with
  | none => rw [e] at h; cases h
  | some r => rw [e] at h; exact ⟨r, rfl, (Option.some.inj h).symm⟩
theorem nums_at {ns : List Int} {i : Nat} {x : V} (h : (nums ns)[i]? = some x) : ∃ r, ns[i]? = some r ∧ x = V.int r := by
  rw [List.getElem?_map] at h
  cases e : ns[i]? with
  | none => rw [e] at h; cases h
  | some r => rw [e] at h; exact ⟨r, rfl, (Option.some.inj h).symm⟩
theorem take_snoc {α : Type} {l : List α} {i : Nat} {x : α} (h : l[i]? = some x) : l.take (i + 1) = l.take i ++ [x] := by
  rw [List.take_add_one, h]
  rfl
/-- what a heap's things are told as -/
def pick (xs : List V) (ms : List Int) : List V := ms.map fun z => xs.getD z.toNat .non
theorem pick_at {xs : List V} {z : Int} (h0 : 0 ≤ z) (h1 : z < (xs.length : Int)) : atI xs z = some (xs.getD z.toNat .non) := by
  obtain ⟨n, rfl⟩ := Int.eq_ofNat_of_zero_le h0
  have hl : n < xs.length := by omega
  rw [Int.toNat_natCast, List.getD_eq_getElem?_getD, List.getElem?_eq_getElem hl]
  exact atI_nat (List.getElem?_eq_getElem hl)
end Nal

namespace Nal
open PySem PySem.Spec PyProof.Rows L2 LamX NdefX
/-- the numbers below n -/
abbrev upTo (n : Nat) : List Int := (List.range n).map fun i : Nat => (i : Int)
theorem inV_nums (q : Int) (l : List Int) : inV (.int q) (nums l) = decide (q ∈ l) := by
  unfold inV nums
  rw [List.any_map]
  by_cases c : q ∈ l
  · rw [decide_eq_true c, List.any_eq_true]
    exact ⟨q, c, by show (q == q) = true; exact beq_self_eq_true _⟩
  · rw [decide_eq_false c, List.any_eq_false]
    intro y hy e
    have e2 : (y == q) = true := e
    have e3 : y = q := eq_of_beq e2
    rw [e3] at hy
    exact c hy
theorem flat_nums (l : List Int) : (nums l).all flatV = true := by
  unfold nums
  rw [List.all_map, List.all_eq_true]
  intro x _
  rfl
theorem nums_snoc (l : List Int) (x : Int) : nums l ++ [V.int x] = nums (l ++ [x]) := by
  unfold nums
  rw [List.map_append]
  rfl
theorem filt_yes {l : List Int} {p : Int → Bool} {i : Nat} {z : Int} (h : l[i]? = some z) (c : p z = true) : (l.take (i + 1)).filter p = (l.take i).filter p ++ [z] := by
  rw [take_snoc h, List.filter_append]
  simp [c]
theorem filt_no {l : List Int} {p : Int → Bool} {i : Nat} {z : Int} (h : l[i]? = some z) (c : p z = false) : (l.take (i + 1)).filter p = (l.take i).filter p := by
  rw [take_snoc h, List.filter_append]
  simp [c]
/-- rising, no two alike -/
abbrev Ri (l : List Int) : Prop := l.Pairwise (· < ·)
theorem ri_of {m : Int} {ns ms : List Int} (h : Rising ns ms) (hp : IsHp m ns) : Ri ms := by
  have nd : ms.Nodup := h.1.nodup_iff.mpr hp.1
  exact (h.2.and nd).imp fun {a b} ⟨x, y⟩ => by omega
theorem ri_eq : ∀ {l m : List Int}, Ri l → Ri m → (∀ z, z ∈ l ↔ z ∈ m) → l = m
  | [], [], _, _, _ => rfl
  | [], b :: m, _, _, h => absurd ((h b).mpr List.mem_cons_self) (by simp)
  | a :: l, [], _, _, h => absurd ((h a).mp List.mem_cons_self) (by simp)
  | a :: l, b :: m, r1, r2, h => by
    obtain ⟨p1, q1⟩ := List.pairwise_cons.mp r1
    obtain ⟨p2, q2⟩ := List.pairwise_cons.mp r2
    have e : a = b := by
      rcases List.mem_cons.mp ((h a).mp List.mem_cons_self) with z | z
      · exact z
      · rcases List.mem_cons.mp ((h b).mpr List.mem_cons_self) with y | y
        · exact y.symm
        · have := p1 b y
          have := p2 a z
          omega
    subst e
    rw [ri_eq q1 q2 fun z => ?_]
    constructor
    · intro hz
      rcases List.mem_cons.mp ((h z).mp (List.mem_cons_of_mem _ hz)) with y | y
      · have := p1 z hz
        omega
      · exact y
    · intro hz
      rcases List.mem_cons.mp ((h z).mpr (List.mem_cons_of_mem _ hz)) with y | y
      · have := p2 z hz
        omega
      · exact y
theorem ri_range (n : Nat) : Ri (upTo n) := by
  refine List.pairwise_map.mpr (List.pairwise_lt_range.imp fun {a b} h => ?_)
  omega
end Nal

namespace Nal
open PySem PySem.Spec PyProof.Rows L2 LamX NdefX
/-- a value and, of a list, its items, all of kinds that are told -/
def Ods (H : Hp) (v : V) : Prop := Od H v ∧ ∀ l xs, v = .ref l → H l = some (.lst xs) → xs.length ≤ 1000 ∧ ∀ x ∈ xs, Od H x
def HeapV (H : Hp) (v : V) (m : Nat) : Prop := m ≤ 24 ∧ ∃ (l : Addr) (ns : List Int), v = .ref l ∧ H l = some (.lst (nums ns)) ∧ IsHp m ns
theorem whole_nums {lo hi : Int} : ∀ {xs : List V}, (∀ x ∈ xs, wholeV x lo hi = true) → ∃ ns : List Int, xs = nums ns ∧ ∀ z ∈ ns, lo ≤ z ∧ z ≤ hi
  | [], _ => ⟨[], rfl, fun z hz => nomatch hz⟩
  | x :: r, h => by
    obtain ⟨ns, e, q⟩ := whole_nums fun y hy => h y (List.mem_cons_of_mem _ hy)
    have hx := h x List.mem_cons_self
    cases x with
    | int n =>
      have hn : lo ≤ n ∧ n ≤ hi := of_decide_eq_true hx
      refine ⟨n :: ns, by rw [e]; rfl, fun z hz => ?_⟩
      rcases List.mem_cons.mp hz with w | w
      · rw [w]; exact hn
      · exact q z w
    | _ => cases hx
theorem cover_perm : ∀ {zs ns : List Int}, zs.Nodup → (∀ z ∈ zs, z ∈ ns) → ns.length ≤ zs.length → ns.Perm zs
  | [], ns, _, _, h => by rw [List.eq_nil_of_length_eq_zero (Nat.le_zero.mp h)]
  | z :: zs, ns, nd, sub, h => by
    obtain ⟨z1, z2⟩ := List.nodup_cons.mp nd
    have hz := sub z List.mem_cons_self
    have p1 : ns.Perm (z :: ns.erase z) := List.perm_cons_erase hz
    have l1 := p1.length_eq
    rw [List.length_cons] at l1 h
    refine p1.trans (List.Perm.cons z (cover_perm z2 (fun y hy => ?_) (by omega)))
    have ny : y ≠ z := fun e => z1 (by rw [← e]; exact hy)
    exact (List.mem_erase_of_ne ny).mpr (sub y (List.mem_cons_of_mem _ hy))
section
variable {P : Program} {w : World} {K : PySem.W.Frag} {mg : Str → Option Value} {base : Heap}
def spWholeA : Sp := fun vs H Q _ => ∃ (v : V) (lo hi : Int), vs = [v, .int lo, .int hi] ∧ Od H v ∧ Q (.bl (wholeV v lo hi)) H
theorem scWholeA : FnScope ["number", "least", "most"] ["number", "least", "most"] (defScope tp8) := ⟨rfl, rfl, rfl, by decide +kernel, rfl, by decide +kernel, by decide +kernel⟩
theorem kn_wholeA (h : At K mg "is_whole" tp8) (B : Bl mg) : Kn P w K mg base 1 "is_whole" ["number", "least", "most"] spWholeA := by
  refine kn_of h scWholeA (fun _ _ _ _ _ _ us hl => match us, hl with | [_, _, _], _ => rfl) (fun vs H Q E h => ?_) (fun f cdv A outer s H vs Q E hr h => ?_)
  · obtain ⟨n, lo, hi, rfl, _⟩ := h
    rfl
  · obtain ⟨v, lo, hi, rfl, od, q⟩ := h
    refine ⟨_, (pss_one (ps_ret (pe_and (pe_callB (kcall_isi K) (by rfl) B.isinstance (by decide +kernel) (pa_cons (pv 0) (pa_cons (pe_bltn (v := .ty "int") (by rfl) B.t_int (by decide +kernel) rfl) pa_nil))) (pe_and (pe_not (pe_callB (kcall_isi K) (by rfl) B.isinstance (by decide +kernel) (pa_cons (pv 0) (pa_cons (pe_bltn (v := .ty "bool") (by rfl) B.t_bool (by decide +kernel) rfl) pa_nil)))) (pe_one (pe_chain op_le op_le (pv 1) (pv 0) (pv 2))))))), ?_⟩
    cases od with
    | non => exact ⟨_, rfl, _, _, _, _, false, rfl, .ty "int", .base .non, kit_ty (by decide +kernel), false, rfl, iteF q⟩
    | str x => exact ⟨_, rfl, _, _, _, _, false, rfl, .ty "int", .base (.str x), kit_ty (by decide +kernel), false, rfl, iteF q⟩
    | lst e => exact ⟨_, rfl, _, _, _, _, false, rfl, .ty "int", .base (.lst e), kit_ty (by decide +kernel), false, rfl, iteF q⟩
    | tup e => exact ⟨_, rfl, _, _, _, _, false, rfl, .ty "int", .base (.tup e), kit_ty (by decide +kernel), false, rfl, iteF q⟩
    | dK e => exact ⟨_, rfl, _, _, _, _, false, rfl, .ty "int", .base (.dK e), kit_ty (by decide +kernel), false, rfl, iteF q⟩
    | bl b => exact ⟨_, rfl, _, _, _, _, true, rfl, .ty "int", .base (.bl b), kit_ty (by decide +kernel), true, rfl, iteT ⟨_, rfl, _, _, _, _, true, rfl, .ty "bool", .base (.bl b), kit_ty (by decide +kernel), true, rfl, _, rfl, iteF q⟩⟩
    | int n =>
      refine ⟨.int n, rfl, _, _, _, _, true, rfl, .ty "int", .base (.int n), kit_ty (by decide +kernel), true, rfl, iteT ?_⟩
      refine ⟨.int n, rfl, _, _, _, _, false, rfl, .ty "bool", .base (.int n), kit_ty (by decide +kernel), false, rfl, _, rfl, iteT ?_⟩
      have q : Q (.bl (decide (lo ≤ n ∧ n ≤ hi))) H := q
      refine ⟨.int lo, rfl, .int n, rfl, lo, n, rfl, rfl, _, rfl, ite2 (fun c => ?_) (fun c => ?_)⟩
      · have c1 : lo ≤ n := of_decide_eq_true c
        refine ⟨.int hi, rfl, n, hi, rfl, rfl, ?_⟩
        have e : decide (lo ≤ n ∧ n ≤ hi) = decide (n ≤ hi) := by
          by_cases d : n ≤ hi
          · rw [decide_eq_true d, decide_eq_true ⟨c1, d⟩]
          · rw [decide_eq_false d, decide_eq_false fun z => d z.2]
        show Q (.bl (decide (n ≤ hi))) H
        rw [← e]
        exact q
      · have c1 : ¬ lo ≤ n := fun z => c (decide_eq_true z)
        have e : decide (lo ≤ n ∧ n ≤ hi) = false := decide_eq_false fun z => c1 z.1
        rw [e] at q
        exact q
/-- of anything -/
def spIsHeapA : Sp := fun vs H Q _ => ∃ (v : V) (m : Nat), vs = [v, .int m] ∧ m ≤ 1000 ∧ Ods H v ∧ ∀ (b : Bool) (H' : Hp), Same H H' → (b = true ↔ HeapV H v m) → Q (.bl b) H'
theorem scIsHeapA : FnScope ["things", "many", "thing"] ["things", "many"] (defScope tp11) := ⟨rfl, rfl, rfl, by decide +kernel, rfl, by decide +kernel, by decide +kernel⟩
theorem kn_is_heapA (h : At K mg "is_heap" tp11) (B : Bl mg) {t24 : Tok} (gc_MOST_THINGS : mg "MOST_THINGS" = some (.int 24 t24))
    (kn_is_whole : Kn P w K mg base 1 "is_whole" ["number", "least", "most"] spWholeA) : Kn P w K mg base 2 "is_heap" ["things", "many"] spIsHeapA := by
  refine kn_of h scIsHeapA (fun _ _ _ _ _ _ us hl => match us, hl with | [_, _], _ => rfl) (fun vs H Q E h => ?_) (fun f cdv A outer s H vs Q E hr h => ?_)
  · obtain ⟨v, m, rfl, _⟩ := h
    rfl
  · obtain ⟨v, m, rfl, m1, od, q⟩ := h
    refine ⟨_, (pss_cons (ps_if (PW.pt (pw_or (pt_not (pt_val (pe_callB (kcall_isi K) (by rfl) B.isinstance (by decide +kernel) (pa_cons (pv 0) (pa_cons (pe_bltn (v := .ty "list") (by rfl) B.t_list (by decide +kernel) rfl) pa_nil))))) (pw_or1 (pt_not (pt_val (pe_kn kn_is_whole hr (by decide) (by rfl) (pa_cons (pv 1) (pa_cons pe_int (pa_cons (pe_glob (v := .int 24) (by rfl) gc_MOST_THINGS ⟨_, rfl⟩) pa_nil))))))))) (pss_one (ps_ret pe_bl)) pss_nil)
      (pss_cons (ps_if (pt_not (pt_val (pe_callB (cr_all rfl) (by rfl) B.all (by decide +kernel) (pa_cons (pe_lc (own := [("thing", 2)]) (g := gName 2) (tt := tYes)  rfl scIsHeapA.nd (pi_list (pv 0)) (blkOk_by (own := [("thing", 2)]) (N := ["things", "many", "thing"]) (sc := (defScope tp11)) (by decide +kernel)) (fun _ _ _ _ _ => pg_name (i := 2) scIsHeapA.nd rfl (Or.inl rfl)) (fun _ _ _ _ _ => pts_nil) (fun _ _ _ _ _ => (pe_kn kn_is_whole hr (by decide) (by rfl) (pa_cons (pv 2) (pa_cons pe_int (pa_cons (pe_op op_sub (pv 1) pe_int) pa_nil)))))) pa_nil)))) (pss_one (ps_ret pe_bl)) pss_nil)
      (pss_one (ps_ret (pe_cmpR op_eq (pe_callB (kcall_lenSet w) (by rfl) B.len (by decide +kernel) (pa_cons (pe_callTy (kcall_set K w rfl) (by rfl) B.t_set (by decide +kernel) (pa_cons (pv 0) pa_nil)) pa_nil)) (pe_callB (kcall_len K) (by rfl) B.len (by decide +kernel) (pa_cons (pv 0) pa_nil)) (nomark _)))))), ?_⟩
    have no : (∀ l xs, v = .ref l → H l ≠ some (.lst xs)) → (false = true ↔ HeapV H v m) := fun n => ⟨fun z => (nomatch z), fun ⟨_, l, ns, e, hl, _⟩ => absurd hl (n l _ e)⟩
    obtain ⟨od1, od2⟩ := od
    cases od1 with
    | non => exact ⟨_, rfl, _, _, _, _, false, rfl, .ty "list", .base .non, kit_ty (by decide +kernel), false, rfl, iteT (q false H (fun _ _ e => e) (no fun l xs e => nomatch e))⟩
    | str x => exact ⟨_, rfl, _, _, _, _, false, rfl, .ty "list", .base (.str x), kit_ty (by decide +kernel), false, rfl, iteT (q false H (fun _ _ e => e) (no fun l xs e => nomatch e))⟩
    | bl x => exact ⟨_, rfl, _, _, _, _, false, rfl, .ty "list", .base (.bl x), kit_ty (by decide +kernel), false, rfl, iteT (q false H (fun _ _ e => e) (no fun l xs e => nomatch e))⟩
    | int x => exact ⟨_, rfl, _, _, _, _, false, rfl, .ty "list", .base (.int x), kit_ty (by decide +kernel), false, rfl, iteT (q false H (fun _ _ e => e) (no fun l xs e => nomatch e))⟩
    | tup e => exact ⟨_, rfl, _, _, _, _, false, rfl, .ty "list", .base (.tup e), kit_ty (by decide +kernel), false, rfl, iteT (q false H (fun _ _ e => e) (no fun l xs ev h => by cases ev; rw [e] at h; cases h))⟩
    | dK e => exact ⟨_, rfl, _, _, _, _, false, rfl, .ty "list", .base (.dK e), kit_ty (by decide +kernel), false, rfl, iteT (q false H (fun _ _ e => e) (no fun l xs ev h => by cases ev; rw [e] at h; cases h))⟩
    | @lst l xs hl =>
      obtain ⟨xl, xo⟩ := od2 l xs rfl hl
      refine ⟨.ref l, rfl, _, _, _, _, true, rfl, .ty "list", .base (.lst hl), kit_ty (by decide +kernel), true, rfl, iteF ?_⟩
      refine ⟨.int m, rfl, .int m, 0, 24, rfl, .int _, _, rfl, ?_⟩
      have ew : wholeV (.int m) 0 24 = decide (m ≤ 24) := by
        show decide (_ ∧ _) = _
        by_cases c : m ≤ 24
        · rw [decide_eq_true c, decide_eq_true (by omega)]
        · rw [decide_eq_false c, decide_eq_false (by omega)]
      rw [ew]
      rcases Nat.lt_or_ge 24 m with m25 | m24
      · have m24 : ¬ m ≤ 24 := by omega
        rw [decide_eq_false m24]
        exact iteT (q false H (fun _ _ e => e) ⟨fun z => (nomatch z), fun z => absurd z.1 m24⟩)
      rw [decide_eq_true m24]
      refine iteF ?_
      refine ⟨.ref l, rfl, l, rfl, ⟨_, SqL.of hl⟩, fun D hD => lc_list (K := K) (a := l) (xs := xs) (fun i H' => H' = upd H D (.lst ((xs.take i).map fun x => V.bl (wholeV x 0 ((m : Int) - 1))))) rfl (fun i H' _ e => ?_) ?_ ?_⟩
      · rw [e]
        exact (same_new hD).seq (SqL.of hl)
      · rintro i y H' hi e
        subst e
        have hy := List.mem_of_getElem? hi
        refine ⟨rfl, ?_⟩
        refine ⟨y, rfl, .int m, rfl, _, _, rfl, rfl, y, 0, (m : Int) - 1, rfl, (xo y hy).same (same_new hD), _, upd_same, ?_, ?_⟩
        · rw [List.length_map, List.length_take, sizeLine_eq]
          omega
        · rw [upd_upd, take_snoc hi, List.map_append]
          rfl
      · rintro H' e
        subst e
        rw [List.take_of_length_le (Nat.le_refl _)]
        have hl2 : SqL K (upd H D (.lst (xs.map fun x => V.bl (wholeV x 0 ((m : Int) - 1))))) l xs := (same_new hD).seq (SqL.of hl)
        have sD := same_new (o := .lst (xs.map fun x => V.bl (wholeV x 0 ((m : Int) - 1)))) hD
        refine ⟨D, xs.map fun x => wholeV x 0 ((m : Int) - 1), rfl, ?_, _, rfl, ?_⟩
        · rw [List.map_map]
          exact SqL.of upd_same
        · cases ca : (xs.map fun x => wholeV x 0 ((m : Int) - 1)).all id with
          | false =>
            refine iteT (q false _ sD ⟨fun z => (nomatch z), fun ⟨_, l', ns, e, hl', hp⟩ => ?_⟩)
            cases e
            rw [hl] at hl'
            cases hl'
            have : (List.map (fun x => wholeV x 0 ((m : Int) - 1)) (nums ns)).all id = true := by
              rw [List.all_eq_true]
              intro b hb
              obtain ⟨x, hx, rfl⟩ := List.mem_map.mp hb
              obtain ⟨z, hz, rfl⟩ := List.mem_map.mp hx
              have := hp.2 z hz
              exact decide_eq_true (by omega)
            rw [this] at ca
            cases ca
          | true =>
            have all : ∀ x ∈ xs, wholeV x 0 ((m : Int) - 1) = true := fun x hx => List.all_eq_true.mp ca _ (List.mem_map.mpr ⟨x, hx, rfl⟩)
            obtain ⟨ns, rfl, bd⟩ := whole_nums all
            rw [List.length_map] at xl
            refine iteF ⟨.ref l, rfl, l, ns, rfl, hl2, by omega, fun p c hc hp => ⟨p, _, c, rfl, upd_same, fun zs znd zm zl => ?_⟩⟩
            have sp := sD.trans (same_new (o := SetO w p (fun j => decide (j ∈ ns)) c) hp)
            refine ⟨.ref l, rfl, l, _, rfl, .inl (SqL.of (sp _ _ hl)), rfl, ?_⟩
            refine q _ _ sp ?_
            have zm2 : ∀ z, z ∈ zs ↔ z ∈ ns := fun z => (zm z).trans ⟨of_decide_eq_true, decide_eq_true⟩
            constructor
            · intro h
              have h1 := of_decide_eq_true h
              rw [List.length_map] at h1
              have h2 : c = ns.length := by
                first | exact Int.ofNat_inj.mp h1 | (have h3 := V.int.inj h1; omega) | omega
              refine ⟨m24, l, ns, rfl, hl, ?_, fun z hz => by have := bd z hz; omega⟩
              have pm := cover_perm znd (fun z hz => (zm2 z).mp hz) (by omega)
              exact pm.nodup_iff.mpr znd
            · rintro ⟨_, l', ns', e, hl', hp'⟩
              cases e
              rw [hl] at hl'
              have e2 : nums ns = nums ns' := by injection hl' with e1; injection e1
              have e3 := nums_inj e2
              subst e3
              have pm := cover_perm hp'.1 (fun z hz => (zm2 z).mpr hz) (by rw [zl]; exact hc)
              have l2 := pm.length_eq
              rw [List.length_map]
              refine decide_eq_true ?_
              first | (have : c = ns.length := by omega
                       rw [this]) | (show V.int _ = V.int _; congr 1; omega)
end
end Nal

namespace Nal
open PySem PySem.Spec PyProof.Rows L2 LamX NdefX
theorem cut_drop {xs : List V} {d : Int} (h0 : 0 ≤ d) : cutV xs (some d) none = xs.drop d.toNat := by
  obtain ⟨n, rfl⟩ := Int.eq_ofNat_of_zero_le h0
  unfold cutV
  rw [HT.sIx_none, HT.sIx_nat, Int.toNat_natCast]
  rcases Nat.le_total n xs.length with q | q
  · rw [Nat.min_eq_left q]
    exact List.take_of_length_le (by rw [List.length_drop]; exact Nat.le_refl _)
  · rw [Nat.min_eq_right q, List.drop_of_length_le (Nat.le_refl _), List.drop_of_length_le q]
    exact List.take_nil
theorem or_join {c : Bool} {A B : Prop} (hA : A) (hB : c = false → A → B) : if c = true then A else B := by
  cases c with
  | true => exact hA
  | false => exact hB rfl hA
/-- no heap, of kinds that are told -/
def BadH (m : Nat) (H : Hp) (v : V) : Prop := Ods H v ∧ ¬ HeapV H v m
theorem badh_not {m : Nat} {H : Hp} {v : V} (od : Od H v) (n : ∀ l xs, v = .ref l → H l ≠ some (.lst xs)) : BadH m H v :=
  ⟨⟨od, fun l xs e h => absurd h (n l xs e)⟩, fun ⟨_, l, ns, e, hl, _⟩ => n l _ e hl⟩
theorem badh_lst {m : Nat} {H : Hp} {l : Addr} {xs : List V} (hl : H l = some (.lst xs)) (len : xs.length ≤ 1000) (od : ∀ x ∈ xs, Od H x) (n : ∀ ns, xs = nums ns → ¬ IsHp m ns) : BadH m H (.ref l) := by
  refine ⟨⟨.lst hl, fun l' ys e h => ?_⟩, fun ⟨_, l', ns, e, h, o⟩ => ?_⟩
  · cases e
    rw [hl] at h
    cases h
    exact ⟨len, od⟩
  · cases e
    rw [hl] at h
    cases h
    exact n ns rfl o
theorem od_nums {H : Hp} {ns : List Int} : ∀ x ∈ nums ns, Od H x := fun x hx => by
  obtain ⟨z, _, rfl⟩ := List.mem_map.mp hx
  exact .int z
theorem ods_nums {H : Hp} {l : Addr} {ns : List Int} (h : H l = some (.lst (nums ns))) (len : ns.length ≤ 1000) : Ods H (.ref l) :=
  ⟨.lst h, fun l' xs e h' => by
    cases e
    rw [h] at h'
    cases h'
    exact ⟨by rw [List.length_map]; exact len, od_nums⟩⟩
section
variable {P : Program} {w : World} {K : PySem.W.Frag} {mg : Str → Option Value} {base : Heap}
def spRisingX (CN : Addr) : Sp := fun vs H Q E => ∃ (v : V) (m : Nat), vs = [v, .int (m : Int)] ∧ m ≤ 1000 ∧ Ods H v ∧
  (∀ (l : Addr) (ns ms : List Int) (r : Addr) (H' : Hp), v = .ref l → H l = some (.lst (nums ns)) → m ≤ 24 → IsHp m ns → Rising ns ms → H r = none → Same H H' → H' r = some (.lst (nums ms)) → Q (.ref r) H') ∧ (∀ H' : Hp, Same H H' → ¬ HeapV H v m → E (.ref CN) none H')
theorem scRisingX : FnScope ["heap", "many"] ["heap", "many"] (defScope tp12) := ⟨rfl, rfl, rfl, by decide +kernel, rfl, by decide +kernel, by decide +kernel⟩
theorem knx_rising {C_NoHeap : Addr} (h : At K mg "rising_heap" tp12) (B : Bl mg) (eo_NoHeap : ExO K mg "NoHeap" C_NoHeap) (kn_is_heap : Kn P w K mg base 2 "is_heap" ["things", "many"] spIsHeapA) : KnX P w K mg base 3 "rising_heap" ["heap", "many"] (spRisingX C_NoHeap) := by
  refine knx_of h scRisingX (fun _ _ _ _ _ _ us hl => match us, hl with | [_, _], _ => rfl) (fun vs H Q E h => ?_) (fun f cdv A outer s H vs Q E hr h => ?_)
  · obtain ⟨v, m, rfl, _⟩ := h
    rfl
  · obtain ⟨v, m, rfl, m1, od, q1, q2⟩ := h
    refine ⟨_, (pss_cons (ps_if (pt_not (pt_val (pe_kn kn_is_heap hr (by decide) (by rfl) (pa_cons (pv 0) (pa_cons (pv 1) pa_nil))))) (pss_one (ps_raiseO eo_NoHeap rfl (takes_of rfl rfl rfl rfl) (by rfl))) pss_nil)
      (PSs.nox (pss_one (ps_ret (pe_callB cr_sorted (by rfl) B.sorted (by decide +kernel) (pa_cons (pv 0) pa_nil)))))), ?_⟩
    refine ⟨v, rfl, .int (m : Int), rfl, v, m, rfl, m1, od, fun b H1 s1 hb => ⟨b, rfl, ?_⟩⟩
    cases b with
    | false => exact iteT (q2 H1 s1 fun z => by have := hb.mpr z; cases this)
    | true =>
      obtain ⟨m24, l, ns, rfl, hl, hp⟩ := hb.mp rfl
      refine iteF ⟨.ref l, rfl, l, ns, rfl, s1.seq (SqL.of hl), ?_, fun ms r pm pw nr => ?_⟩
      · have := hp.len
        omega
      · exact q1 l ns ms r _ rfl hl m24 hp ⟨pm, pw⟩ (s1.free nr) (s1.trans (same_new nr)) upd_same
end
end Nal

namespace Nal
open PySem PySem.Spec PyProof.Rows L2 LamX NdefX
theorem vals_app : ∀ {xs ys : List V} {us vs : List Value}, Vals xs us → Vals ys vs → Vals (xs ++ ys) (us ++ vs)
  | _, _, _, _, .nil, h => h
  | _, _, _, _, .cons a b, h => .cons a (vals_app b h)
theorem vals_rev : ∀ {xs : List V} {us : List Value}, Vals xs us → Vals xs.reverse us.reverse
  | _, _, .nil => .nil
  | _, _, .cons a b => by
    rw [List.reverse_cons, List.reverse_cons]
    exact vals_app (vals_rev b) (.cons a .nil)
/-- three names, the other way round -/
theorem knk3_of {P : Program} {w : World} {K : PySem.W.Frag} {mg : Str → Option Value} {base : Heap} {x : Str} {st : Stmt} {N ps ks : List Str} {k : Nat} {sp : Sp} (h : At K mg x st) (S : FnScope N ps (defScope st))
    (hb : ∀ (kV doc pm : Value) (an : Option Addr) (cdv ct : Value) (us : List Value), us.length = ps.length →
      bindArgs (PySem.W.fnOf x x (defArgs st) (defBody st) (defScope st) .none kV doc pm an cdv ct) ⟨us, []⟩ = pure (ps.zip us))
    (hk : ∀ (kV doc pm : Value) (an : Option Addr) (cdv ct : Value) (ws : List Value), ws.length = ks.length →
      bindArgs (PySem.W.fnOf x x (defArgs st) (defBody st) (defScope st) .none kV doc pm an cdv ct) ⟨[], ks.zip ws⟩ = pure (ps.zip ws.reverse))
    (len : ∀ vs H Q E, sp vs H Q E → vs.length = ps.length)
    (hbody : ∀ (f : Addr) (cdv : Value) (A : Around) (outer : List Env) (s : Shared) (H : Hp) (vs : List V) (Q : VK) (E : XK),
      Room k (A.deeper (envOfC x (defScope st) s.heap.objs.size f cdv)) → sp vs H Q E →
      ∃ t, PSs (cxOf CX0 P w K mg base N x (defScope st) f cdv A outer s H E).nox (defBody st) t ∧ t { nx := fun _ H' => Q .non H', rt := Q } (start N vs) H) :
    KnK P w K mg base (k + 1) x ps ks (fun _ ws => ws.reverse) sp := by
  obtain ⟨f, fd, F, g⟩ := h.ex
  refine ⟨f, fd, fun _ ws => ws.reverse, F.ok S len (hbody f), g, F.kp, F.binds hb, ?_⟩
  obtain ⟨oc, od, kV, doc, pm, an, cdv, ct, osl, rfl, lk, hcd⟩ := F.ex
  refine ⟨fun s us ws hK l1 l2 => ?_, fun {vs us zs ws} r1 r2 => ?_⟩
  · have e : us = [] := List.eq_nil_of_length_eq_zero l1
    subst e
    intro M A Q E q
    rw [hk kV doc pm an cdv ct ws l2]
    exact wpAny_pure q
  · exact vals_rev r2
theorem ne_false {α : Type} [DecidableEq α] (a : α) : (!decide (a = a)) = false := by simp
/-- an order of all things -/
structure IsOrd (m : Nat) (ns : List Int) : Prop where
  hp : IsHp m ns
  len : ns.length = m
theorem IsOrd.rev {m : Nat} {ns : List Int} (h : IsOrd m ns) : IsOrd m ns.reverse := ⟨h.hp.perm (List.reverse_perm ns), by rw [List.length_reverse, h.len]⟩
section
variable {P : Program} {w : World} {K : PySem.W.Frag} {mg : Str → Option Value} {base : Heap}
def spCheckOrder : Sp := fun vs H Q _ => ∃ (l : Addr) (ns : List Int) (m : Nat), vs = [.ref l, .int (m : Int)] ∧ m ≤ 24 ∧ H l = some (.lst (nums ns)) ∧ IsOrd m ns ∧ ∀ H' : Hp, Same H H' → Q .non H'
theorem scCheckOrder : FnScope ["order", "many"] ["order", "many"] (defScope tp14) := ⟨rfl, rfl, rfl, by decide +kernel, rfl, by decide +kernel, by decide +kernel⟩
theorem kn_check_order (h : At K mg "check_order" tp14) (B : Bl mg) (kn_is_heap : Kn P w K mg base 2 "is_heap" ["things", "many"] spIsHeap) : Kn P w K mg base 3 "check_order" ["order", "many"] spCheckOrder := by
  refine kn_of h scCheckOrder (fun _ _ _ _ _ _ us hl => match us, hl with | [_, _], _ => rfl) (fun vs H Q E h => ?_) (fun f cdv A outer s H vs Q E hr h => ?_)
  · obtain ⟨l, ns, m, rfl, _⟩ := h
    rfl
  · obtain ⟨l, ns, m, rfl, m24, hl, o, q⟩ := h
    refine ⟨_, (pss_one (ps_if (PW.pt (pw_or (pt_not (pt_val (pe_kn kn_is_heap hr (by decide) (by rfl) (pa_cons (pv 0) (pa_cons (pv 1) pa_nil))))) (pw_or1 (pt_cmpR op_ne (pe_callB (kcall_len K) (by rfl) B.len (by decide +kernel) (pa_cons (pv 0) pa_nil)) (pv 1) (nomark _))))) (pss_one ps_never) pss_nil)), ?_⟩
    refine ⟨.ref l, rfl, .int (m : Int), rfl, l, ns, m, rfl, m24, hl, o.hp, fun H1 s1 => ⟨true, rfl, iteF ?_⟩⟩
    refine ⟨.ref l, rfl, l, _, rfl, .inl (SqL.of (s1 _ _ hl)), .int (m : Int), rfl, rfl, _, rfl, ?_⟩
    rw [List.length_map, o.len, ne_false]
    exact iteF (q H1 s1)
/-- no order, whatever it is -/
def OrdV (H : Hp) (v : V) (m : Nat) : Prop := m ≤ 24 ∧ ∃ (l : Addr) (ns : List Int), v = .ref l ∧ H l = some (.lst (nums ns)) ∧ IsOrd m ns
def spCheckOrderX (CO : Addr) : Sp := fun vs H Q E => ∃ (v : V) (m : Nat), vs = [v, .int (m : Int)] ∧ m ≤ 1000 ∧ Ods H v ∧ (∀ H' : Hp, Same H H' → OrdV H v m → Q .non H') ∧ (∀ H' : Hp, Same H H' → ¬ OrdV H v m → E (.ref CO) none H')
theorem scCheckOrderX : FnScope ["order", "many"] ["order", "many"] (defScope tp14) := ⟨rfl, rfl, rfl, by decide +kernel, rfl, by decide +kernel, by decide +kernel⟩
theorem knx_check_order {C_NoOrder : Addr} (h : At K mg "check_order" tp14) (B : Bl mg) (eo_NoOrder : ExO K mg "NoOrder" C_NoOrder) (kn_is_heap : Kn P w K mg base 2 "is_heap" ["things", "many"] spIsHeapA) : KnX P w K mg base 3 "check_order" ["order", "many"] (spCheckOrderX C_NoOrder) := by
  refine knx_of h scCheckOrderX (fun _ _ _ _ _ _ us hl => match us, hl with | [_, _], _ => rfl) (fun vs H Q E h => ?_) (fun f cdv A outer s H vs Q E hr h => ?_)
  · obtain ⟨v, m, rfl, _⟩ := h
    rfl
  · obtain ⟨v, m, rfl, m1, od, q1, q2⟩ := h
    refine ⟨_, (pss_one (ps_if (PW.pt (pw_or (pt_not (pt_val (pe_kn kn_is_heap hr (by decide) (by rfl) (pa_cons (pv 0) (pa_cons (pv 1) pa_nil))))) (pw_or1 (pt_cmpR op_ne (pe_callB (kcall_len K) (by rfl) B.len (by decide +kernel) (pa_cons (pv 0) pa_nil)) (pv 1) (nomark _))))) (pss_one (ps_raiseO eo_NoOrder rfl (takes_of rfl rfl rfl rfl) (by rfl))) pss_nil)), ?_⟩
    refine ⟨v, rfl, .int (m : Int), rfl, v, m, rfl, m1, od, fun b H1 s1 hb => ⟨b, rfl, ?_⟩⟩
    cases b with
    | false =>
      refine iteT (q2 H1 s1 fun ⟨m24, l, ns, e, hl, o⟩ => ?_)
      have := hb.mpr ⟨m24, l, ns, e, hl, o.hp⟩
      cases this
    | true =>
      obtain ⟨m24, l, ns, rfl, hl, hp⟩ := hb.mp rfl
      refine iteF ⟨.ref l, rfl, l, _, rfl, .inl (SqL.of (s1 _ _ hl)), .int (m : Int), rfl, rfl, _, rfl, ?_⟩
      rw [List.length_map]
      by_cases c : ns.length = m
      · rw [c, ne_false]
        exact iteF (q1 H1 s1 ⟨m24, l, ns, rfl, hl, hp, c⟩)
      · have e : (!decide (V.int (ns.length : Int) = V.int (m : Int))) = true := by
          rw [decide_eq_false fun z => c (by have := V.int.inj z; omega)]
          rfl
        rw [e]
        refine iteT (q2 H1 s1 fun ⟨_, l', ns', e, hl', o⟩ => c ?_)
        cases e
        rw [hl] at hl'
        have e2 : nums ns = nums ns' := by injection hl' with e1; injection e1
        rw [nums_inj e2]
        exact o.len
end
/-- more names that nothing hides -/
structure Bl2 (mg : Str → Option Value) : Prop where
  sum : mg "sum" = none
  any : mg "any" = none
  reversed : mg "reversed" = none
  t_dict : mg "dict" = none
/-- which of two heaps is later -/
def later (ns xs ys : List Int) : Bool := match ns.reverse.find? fun z => decide (z ∈ xs) != decide (z ∈ ys) with
  | some z => decide (z ∈ xs)
  | none => false
inductive Out
  | told (b : Bool)
  | noO
  | noH
/-- how is_later of three values ends -/
inductive LaterIs (H : Hp) : V → V → V → Out → Prop
  | told {l a b : Addr} {ns xs ys : List Int} (hl : H l = some (.lst (nums ns))) (o : IsOrd ns.length ns) (m24 : ns.length ≤ 24) (ha : H a = some (.lst (nums xs))) (hb : H b = some (.lst (nums ys))) (px : IsHp ns.length xs) (py : IsHp ns.length ys) :
      LaterIs H (.ref l) (.ref a) (.ref b) (.told (later ns xs ys))
  | noO {v a b : V} (n : ∀ m, ¬ OrdV H v m) : LaterIs H v a b .noO
  | noH {l : Addr} {ns : List Int} {a b : V} (hl : H l = some (.lst (nums ns))) (o : IsOrd ns.length ns) (m24 : ns.length ≤ 24) (n : ¬ HeapV H a ns.length ∨ ¬ HeapV H b ns.length) : LaterIs H (.ref l) a b .noH
theorem inV_lt {z : Int} {l : List Int} : inV (.int z) (nums l) = decide (z ∈ l) := inV_nums z l
theorem bl_ne (a b : Bool) : (!decide (V.bl a = V.bl b)) = (a != b) := by
  cases a <;> cases b <;> decide
theorem ordv_ns {H : Hp} {l : Addr} {ns : List Int} (hl : H l = some (.lst (nums ns))) (o : IsOrd ns.length ns) (m24 : ns.length ≤ 24) : OrdV H (.ref l) ns.length := ⟨m24, l, ns, rfl, hl, o⟩
theorem heapv_ns {H : Hp} {a : Addr} {m : Nat} {xs : List Int} (ha : H a = some (.lst (nums xs))) (p : IsHp m xs) (m24 : m ≤ 24) : HeapV H (.ref a) m := ⟨m24, a, xs, rfl, ha, p⟩
theorem heapv_same {H H' : Hp} {v : V} {m : Nat} (s : Same H H') (h : HeapV H v m) : HeapV H' v m := by
  obtain ⟨m24, l, ns, e, hl, p⟩ := h
  exact ⟨m24, l, ns, e, s _ _ hl, p⟩
theorem Ods.same {H H' : Hp} {v : V} (s : Same H H') (h : Ods H v) : Ods H' v := by
  obtain ⟨h1, h2⟩ := h
  refine ⟨h1.same s, fun l xs e hl => ?_⟩
  cases h1 with
  | non => cases e
  | bl b => cases e
  | int i => cases e
  | str x => cases e
  | tup e' => cases e; rw [s _ _ e'] at hl; cases hl
  | dK e' => cases e; rw [s _ _ e'] at hl; cases hl
  | lst e' =>
    cases e
    have e2 := s _ _ e'
    rw [e2] at hl
    cases hl
    obtain ⟨h3, h4⟩ := h2 _ _ rfl e'
    exact ⟨h3, fun x hx => (h4 x hx).same s⟩
theorem heapv_back {H H' : Hp} {v : V} {m : Nat} (s : Same H H') (od : Ods H v) (h : HeapV H' v m) : HeapV H v m := by
  obtain ⟨m24, l, ns, rfl, hl, p⟩ := h
  obtain ⟨h1, _⟩ := od
  cases h1 with
  | tup e' => rw [s _ _ e'] at hl; cases hl
  | dK e' => rw [s _ _ e'] at hl; cases hl
  | lst e' =>
    have e2 := s _ _ e'
    rw [e2] at hl
    cases hl
    exact ⟨m24, l, ns, rfl, e', p⟩
theorem ordv_back {H H' : Hp} {v : V} {m : Nat} (s : Same H H') (od : Ods H v) (h : OrdV H' v m) : OrdV H v m := by
  obtain ⟨m24, l, ns, rfl, hl, p⟩ := h
  obtain ⟨h1, _⟩ := od
  cases h1 with
  | tup e' => rw [s _ _ e'] at hl; cases hl
  | dK e' => rw [s _ _ e'] at hl; cases hl
  | lst e' =>
    have e2 := s _ _ e'
    rw [e2] at hl
    cases hl
    exact ⟨m24, l, ns, rfl, e', p⟩
theorem LaterIs.same {H H' : Hp} {v a b : V} {o : Out} (h : LaterIs H v a b o) (s : Same H H') (ov : Ods H v) (oa : Ods H a) (ob : Ods H b) : LaterIs H' v a b o := by
  cases h with
  | told hl o m24 ha hb px py => exact .told (s _ _ hl) o m24 (s _ _ ha) (s _ _ hb) px py
  | noO n => exact .noO fun m z => n m (ordv_back s ov z)
  | noH hl o m24 n => exact .noH (s _ _ hl) o m24 (n.imp (fun z y => z (heapv_back s oa y)) fun z y => z (heapv_back s ob y))
theorem find_none {ns : List Int} {p : Int → Bool} {i : Nat} (h : ∀ j, j < i → ∀ z, ns.reverse[j]? = some z → p z = false) (e : ns.length ≤ i) : ns.reverse.find? p = none := by
  rw [List.find?_eq_none]
  intro z hz
  obtain ⟨j, hj, rfl⟩ := List.mem_iff_getElem.mp hz
  rw [List.length_reverse] at hj
  rw [h j (by omega) _ (List.getElem?_eq_getElem _)]
  decide
theorem find_first {l : List Int} {p : Int → Bool} {i : Nat} {z : Int} (h : ∀ j, j < i → ∀ y, l[j]? = some y → p y = false) (e : l[i]? = some z) (c : p z = true) : l.find? p = some z := by
  induction l generalizing i with
  | nil => cases e
  | cons y r ih =>
    cases i with
    | zero =>
      cases e
      rw [List.find?_cons, c]
    | succ i =>
      rw [List.find?_cons, h 0 (by omega) y rfl]
      exact ih (i := i) (fun j hj y' hy => h (j + 1) (by omega) y' hy) e
theorem rev_at {ns : List Int} {i : Nat} {x : V} (hi : i < (nums ns).length) (h : (nums ns)[(nums ns).length - 1 - i]? = some x) : ∃ z, x = .int z ∧ ns.reverse[i]? = some z := by
  obtain ⟨z, hz, rfl⟩ := nums_at h
  rw [List.length_map] at hi hz
  exact ⟨z, rfl, by rw [List.getElem?_reverse hi]; exact hz⟩
theorem later_loop {K : PySem.W.Frag} {l r s : Addr} {v2 v3 : V} {ns xs ys ms zs : List Int} {D : Ends} {H : Hp} (hl : H l = some (.lst (nums ns))) (hr : H r = some (.lst (nums ms))) (hs : H s = some (.lst (nums zs))) (mr : ∀ z, z ∈ ms ↔ z ∈ xs) (mz : ∀ z, z ∈ zs ↔ z ∈ ys)
    (q : D.rt (.bl (later ns xs ys)) H) : tSeq (tFor (iRev K (tCons (tVar 0) tNil)) (gName 5) (tIfS (tTest (tOp rNe (tOp (rIn K false) (tVar 5) (tVar 3)) (tOp (rIn K false) (tVar 5) (tVar 4)))) (tRet (tOp (rIn K false) (tVar 5) (tVar 3))) tNext)) (tRet (tC (.bl false))) D
      [some (.ref l), some v2, some v3, some (.ref r), some (.ref s), none] H := by
  refine ⟨.ref l, rfl, l, nums ns, rfl, SqL.of hl, RT.for_Itv (fun i σ H' => (∃ v5 : Option V, σ = [some (.ref l), some v2, some v3, some (.ref r), some (.ref s), v5]) ∧ H' = H ∧ ∀ j, j < i → ∀ z, ns.reverse[j]? = some z → (decide (z ∈ xs) != decide (z ∈ ys)) = false)
    ⟨⟨none, rfl⟩, rfl, fun j h => absurd h (Nat.not_lt_zero j)⟩ (fun i σ H' ⟨_, e, _⟩ => by rw [e]; exact SqL.of hl) ?_ ?_⟩
  · rintro i x σ H' hi hx ⟨⟨v5, rfl⟩, rfl, no⟩
    obtain ⟨z, rfl, hz⟩ := rev_at hi hx
    refine ⟨.int z, rfl, .ref r, rfl, r, _, rfl, .inl (SqL.of hr), rfl, flat_nums _, ?_⟩
    refine ⟨.int z, rfl, .ref s, rfl, s, _, rfl, .inl (SqL.of hs), rfl, flat_nums _, ?_⟩
    rw [inV_nums, inV_nums, decide_eq_decide.mpr (mr z), decide_eq_decide.mpr (mz z)]
    refine ⟨rfl, _, rfl, ?_⟩
    rw [bl_ne]
    refine ite2 (fun c => ?_) (fun c => ?_)
    · refine ⟨.int z, rfl, .ref r, rfl, r, _, rfl, .inl (SqL.of hr), rfl, flat_nums _, ?_⟩
      rw [inV_nums, decide_eq_decide.mpr (mr z)]
      have e : later ns xs ys = decide (z ∈ xs) := by
        unfold later
        rw [find_first no hz c]
      rw [e] at q
      exact q
    · refine ⟨⟨_, rfl⟩, rfl, fun j hj y hy => ?_⟩
      by_cases e : j = i
      · subst e
        rw [hz] at hy
        cases hy
        exact Bool.eq_false_iff.mpr c
      · exact no j (by omega) y hy
  · rintro σ H' ⟨⟨v5, rfl⟩, rfl, no⟩
    have e : later ns xs ys = false := by
      unfold later
      rw [find_none no (by rw [List.length_map]; exact Nat.le_refl _)]
    rw [e] at q
    exact q
section
variable {P : Program} {w : World} {K : PySem.W.Frag} {mg : Str → Option Value} {base : Heap}
def spIsLater : Sp := fun vs H Q _ => ∃ (v a b : V) (t : Bool), vs = [v, a, b] ∧ LaterIs H v a b (.told t) ∧ ∀ H' : Hp, Same H H' → Q (.bl t) H'
theorem scIsLater : FnScope ["order", "one", "other", "first", "second", "thing"] ["order", "one", "other"] (defScope tp16) := ⟨rfl, rfl, rfl, by decide +kernel, rfl, by decide +kernel, by decide +kernel⟩
theorem knk_is_later (h : At K mg "is_later" tp16) (B : Bl mg) (B2 : Bl2 mg) (kn_check_order : Kn P w K mg base 3 "check_order" ["order", "many"] spCheckOrder) (kn_rising_heap : Kn P w K mg base 3 "rising_heap" ["heap", "many"] spRising) :
    KnK P w K mg base 4 "is_later" ["order", "one", "other"] ["other", "one", "order"] (fun _ ws => ws.reverse) spIsLater := by
  refine knk3_of h scIsLater (fun _ _ _ _ _ _ us hl => match us, hl with | [_, _, _], _ => rfl) (fun _ _ _ _ _ _ us hl => match us, hl with | [_, _, _], _ => rfl) (fun vs H Q E h => ?_) (fun f cdv A outer s H vs Q E hr h => ?_)
  · obtain ⟨v, a, b, t, rfl, _⟩ := h
    rfl
  · obtain ⟨v, a, b, t, rfl, la, q⟩ := h
    refine ⟨_, (pss_cons (ps_if (pt_not (pt_val (pe_callB (kcall_isi K) (by rfl) B.isinstance (by decide +kernel) (pa_cons (pv 0) (pa_cons (pe_bltn (v := .ty "list") (by rfl) B.t_list (by decide +kernel) rfl) pa_nil))))) (pss_one ps_never) pss_nil)
      (pss_cons (ps_expr (pe_kn kn_check_order hr (by decide) (by rfl) (pa_cons (pv 0) (pa_cons (pe_callB (kcall_len K) (by rfl) B.len (by decide +kernel) (pa_cons (pv 0) pa_nil)) pa_nil))))
      (pss_cons (ps_set (i := 3) scIsLater.nd rfl (Or.inl rfl) (pe_kn kn_rising_heap hr (by decide) (by rfl) (pa_cons (pv 1) (pa_cons (pe_callB (kcall_len K) (by rfl) B.len (by decide +kernel) (pa_cons (pv 0) pa_nil)) pa_nil))))
      (pss_cons (ps_set (i := 4) scIsLater.nd rfl (Or.inl rfl) (pe_kn kn_rising_heap hr (by decide) (by rfl) (pa_cons (pv 2) (pa_cons (pe_callB (kcall_len K) (by rfl) B.len (by decide +kernel) (pa_cons (pv 0) pa_nil)) pa_nil))))
      (pss_cons (ps_for PassesOwn.never rfl (pi_reversed (by rfl) B2.reversed (pa_cons (pv 0) pa_nil)) (pg_name (i := 5) scIsLater.nd rfl (Or.inl rfl))
        (pss_one (ps_if (pt_cmpR op_ne (pe_cmpR (kop_in K) (pv 5) (pv 3) (by rfl)) (pe_cmpR (kop_in K) (pv 5) (pv 4) (by rfl)) (nomark _)) (pss_one (ps_ret (pe_cmpR (kop_in K) (pv 5) (pv 3) (by rfl)))) pss_nil)))
      (pss_one (ps_ret pe_bl))))))), ?_⟩
    cases la with
    | @told l a b ns xs ys hl o m24 ha hb px py =>
      refine ⟨.ref l, rfl, _, _, _, _, true, rfl, .ty "list", .base (.lst hl), kit_ty (by decide +kernel), true, rfl, iteF ?_⟩
      refine ⟨.ref l, rfl, .ref l, rfl, l, _, rfl, .inl (SqL.of hl), l, ns, ns.length, (by rw [List.length_map]; try rfl), m24, hl, o, fun H1 s1 => ?_⟩
      refine ⟨.ref a, rfl, .ref l, rfl, l, _, rfl, .inl (SqL.of (s1 _ _ hl)), a, xs, ns.length, (by rw [List.length_map]; try rfl), m24, s1 _ _ ha, px, ?_⟩
      intro ms r H2 rm nr s2 hr2
      have s02 := s1.trans s2
      refine ⟨.ref b, rfl, .ref l, rfl, l, _, rfl, .inl (SqL.of (s02 _ _ hl)), b, ys, ns.length, (by rw [List.length_map]; try rfl), m24, s02 _ _ hb, py, ?_⟩
      intro zs r3 H3 rz n3 s3 hr3
      exact later_loop (s3 _ _ (s02 _ _ hl)) (s3 _ _ hr2) hr3 (fun z => rm.1.mem_iff) (fun z => rz.1.mem_iff) (q H3 (s02.trans s3))
def spIsLaterX (CO CN : Addr) : Sp := fun vs H Q E => ∃ (v a b : V) (o : Out), vs = [v, a, b] ∧ Ods H v ∧ Ods H a ∧ Ods H b ∧ LaterIs H v a b o ∧ ∀ H' : Hp, Same H H' → match o with
  | .told t => Q (.bl t) H'
  | .noO => E (.ref CO) none H'
  | .noH => E (.ref CN) none H'
theorem scIsLaterX : FnScope ["order", "one", "other", "first", "second", "thing"] ["order", "one", "other"] (defScope tp16) := ⟨rfl, rfl, rfl, by decide +kernel, rfl, by decide +kernel, by decide +kernel⟩
theorem knx_is_later {C_NoOrder C_NoHeap : Addr} (h : At K mg "is_later" tp16) (B : Bl mg) (B2 : Bl2 mg) (eo_NoOrder : ExO K mg "NoOrder" C_NoOrder) (knx_check_order : KnX P w K mg base 3 "check_order" ["order", "many"] (spCheckOrderX C_NoOrder)) (knx_rising_heap : KnX P w K mg base 3 "rising_heap" ["heap", "many"] (spRisingX C_NoHeap)) :
    KnX P w K mg base 4 "is_later" ["order", "one", "other"] (spIsLaterX C_NoOrder C_NoHeap) := by
  refine knx_of h scIsLaterX (fun _ _ _ _ _ _ us hl => match us, hl with | [_, _, _], _ => rfl) (fun vs H Q E h => ?_) (fun f cdv A outer s H vs Q E hr h => ?_)
  · obtain ⟨v, a, b, o, rfl, _⟩ := h
    rfl
  · obtain ⟨v, a, b, o, rfl, ov, oa, ob, la, q⟩ := h
    refine ⟨_, (pss_cons (ps_if (pt_not (pt_val (pe_callB (kcall_isi K) (by rfl) B.isinstance (by decide +kernel) (pa_cons (pv 0) (pa_cons (pe_bltn (v := .ty "list") (by rfl) B.t_list (by decide +kernel) rfl) pa_nil))))) (pss_one (ps_raiseO eo_NoOrder rfl (takes_of rfl rfl rfl rfl) (by rfl))) pss_nil)
      (pss_cons (ps_expr (pe_knx knx_check_order (takes_of rfl rfl rfl rfl) hr (by decide) (by rfl) (pa_cons (pv 0) (pa_cons (pe_callB (kcall_len K) (by rfl) B.len (by decide +kernel) (pa_cons (pv 0) pa_nil)) pa_nil))))
      (pss_cons (ps_set (i := 3) scIsLaterX.nd rfl (Or.inl rfl) (pe_knx knx_rising_heap (takes_of rfl rfl rfl rfl) hr (by decide) (by rfl) (pa_cons (pv 1) (pa_cons (pe_callB (kcall_len K) (by rfl) B.len (by decide +kernel) (pa_cons (pv 0) pa_nil)) pa_nil))))
      (pss_cons (ps_set (i := 4) scIsLaterX.nd rfl (Or.inl rfl) (pe_knx knx_rising_heap (takes_of rfl rfl rfl rfl) hr (by decide) (by rfl) (pa_cons (pv 2) (pa_cons (pe_callB (kcall_len K) (by rfl) B.len (by decide +kernel) (pa_cons (pv 0) pa_nil)) pa_nil))))
      (PSs.nox (pss_cons (ps_for PassesOwn.never rfl (pi_reversed (by rfl) B2.reversed (pa_cons (pv 0) pa_nil)) (pg_name (i := 5) scIsLaterX.nd rfl (Or.inl rfl))
        (pss_one (ps_if (pt_cmpR op_ne (pe_cmpR (kop_in K) (pv 5) (pv 3) (by rfl)) (pe_cmpR (kop_in K) (pv 5) (pv 4) (by rfl)) (nomark _)) (pss_one (ps_ret (pe_cmpR (kop_in K) (pv 5) (pv 3) (by rfl)))) pss_nil)))
      (pss_one (ps_ret pe_bl)))))))), ?_⟩
    have off : (∀ l zs, v = .ref l → H l ≠ some (.lst zs)) → ∀ H', Same H H' → E (.ref C_NoOrder) none H' := fun no H' s => by
      cases la with
      | told hl' => exact absurd hl' (no _ _ rfl)
      | noH hl' => exact absurd hl' (no _ _ rfl)
      | noO n => exact q H' s
    obtain ⟨od1, _⟩ := id ov
    cases od1 with
    | non => exact ⟨_, rfl, _, _, _, _, false, rfl, .ty "list", .base .non, kit_ty (by decide +kernel), false, rfl, iteT (off (fun l zs e => nomatch e) H (fun _ _ e => e))⟩
    | str x => exact ⟨_, rfl, _, _, _, _, false, rfl, .ty "list", .base (.str x), kit_ty (by decide +kernel), false, rfl, iteT (off (fun l zs e => nomatch e) H (fun _ _ e => e))⟩
    | bl x => exact ⟨_, rfl, _, _, _, _, false, rfl, .ty "list", .base (.bl x), kit_ty (by decide +kernel), false, rfl, iteT (off (fun l zs e => nomatch e) H (fun _ _ e => e))⟩
    | int x => exact ⟨_, rfl, _, _, _, _, false, rfl, .ty "list", .base (.int x), kit_ty (by decide +kernel), false, rfl, iteT (off (fun l zs e => nomatch e) H (fun _ _ e => e))⟩
    | tup e => exact ⟨_, rfl, _, _, _, _, false, rfl, .ty "list", .base (.tup e), kit_ty (by decide +kernel), false, rfl, iteT (off (fun l zs ev h => by cases ev; rw [e] at h; cases h) H (fun _ _ e => e))⟩
    | dK e => exact ⟨_, rfl, _, _, _, _, false, rfl, .ty "list", .base (.dK e), kit_ty (by decide +kernel), false, rfl, iteT (off (fun l zs ev h => by cases ev; rw [e] at h; cases h) H (fun _ _ e => e))⟩
    | @lst l zs hl =>
      refine ⟨.ref l, rfl, _, _, _, _, true, rfl, .ty "list", .base (.lst hl), kit_ty (by decide +kernel), true, rfl, iteF ?_⟩
      have zl := (ov.2 _ _ rfl hl).1
      refine ⟨.ref l, rfl, .ref l, rfl, l, _, rfl, .inl (SqL.of hl), .ref l, zs.length, rfl, zl, ov, fun H1 s1 oi => ?_, fun H1 s1 no => ?_⟩
      · obtain ⟨m24, l', ns, el, hl', oo⟩ := oi
        cases el
        rw [hl] at hl'
        cases hl'
        have oo2 : IsOrd ns.length ns := by rw [List.length_map] at oo; exact oo
        rw [List.length_map] at m24
        refine ⟨a, rfl, .ref l, rfl, l, _, rfl, .inl (SqL.of (s1 _ _ hl)), a, ns.length, (by rw [List.length_map]; try rfl), by omega, oa.same s1, fun l2 xs ms r H2 ea ha _ px rm nr s2 hr2 => ?_, fun H2 s2 no => ?_⟩
        · have s02 := s1.trans s2
          refine ⟨b, rfl, .ref l, rfl, l, _, rfl, .inl (SqL.of (s02 _ _ hl)), b, ns.length, (by rw [List.length_map]; try rfl), by omega, ob.same s02, fun l3 ys zs r3 H3 eb hb _ py rz n3 s3 hr3 => ?_, fun H3 s3 no => ?_⟩
          · have s03 := s02.trans s3
            refine later_loop (s3 _ _ (s02 _ _ hl)) (s3 _ _ hr2) hr3 (fun z => rm.1.mem_iff) (fun z => rz.1.mem_iff) ?_
            have hA := heapv_back s1 oa ⟨m24, l2, xs, ea, ha, px⟩
            have hB := heapv_back s02 ob ⟨m24, l3, ys, eb, hb, py⟩
            cases la with
            | @told _ a' b' ns' xs' ys' hl' o' m' ha' hb' px' py' =>
              cases ea
              cases eb
              rw [hl] at hl'
              have e1 : ns = ns' := nums_inj (by injection hl' with z; injection z)
              subst e1
              rw [s1 _ _ ha'] at ha
              have e2 : xs' = xs := nums_inj (by injection ha with z; injection z)
              subst e2
              rw [s02 _ _ hb'] at hb
              have e3 : ys' = ys := nums_inj (by injection hb with z; injection z)
              subst e3
              exact q H3 s03
            | noO n => exact absurd ⟨m24, l, ns, rfl, hl, oo2⟩ (n ns.length)
            | @noH _ ns' _ _ hl' o' m' n =>
              rw [hl] at hl'
              have e1 : ns = ns' := nums_inj (by injection hl' with z; injection z)
              subst e1
              rcases n with n | n
              · exact absurd hA n
              · exact absurd hB n
          · cases la with
            | @told _ a' b' ns' xs' ys' hl' o' m' ha' hb' px' py' =>
              rw [hl] at hl'
              have e1 : ns = ns' := nums_inj (by injection hl' with z; injection z)
              subst e1
              exact absurd (heapv_ns (s02 _ _ hb') py' m24) no
            | noO n => exact absurd ⟨m24, l, ns, rfl, hl, oo2⟩ (n ns.length)
            | noH => exact q H3 (s02.trans s3)
        · cases la with
          | @told _ a' b' ns' xs' ys' hl' o' m' ha' hb' px' py' =>
            rw [hl] at hl'
            have e1 : ns = ns' := nums_inj (by injection hl' with z; injection z)
            subst e1
            exact absurd (heapv_ns (s1 _ _ ha') px' m24) no
          | noO n => exact absurd ⟨m24, l, ns, rfl, hl, oo2⟩ (n ns.length)
          | noH => exact q H2 (s1.trans s2)
      · cases la with
        | @told _ a' b' ns' xs' ys' hl' o' m' ha' hb' px' py' =>
          rw [hl] at hl'
          have e1 : zs = nums ns' := by injection hl' with z; injection z
          subst e1
          exact absurd ⟨by rw [List.length_map]; exact m', l, ns', rfl, hl, by rw [List.length_map]; exact o'⟩ no
        | noO n => exact q H1 s1
        | @noH _ ns' _ _ hl' o' m' n =>
          rw [hl] at hl'
          have e1 : zs = nums ns' := by injection hl' with z; injection z
          subst e1
          exact absurd ⟨by rw [List.length_map]; exact m', l, ns', rfl, hl, by rw [List.length_map]; exact o'⟩ no
end
end Nal

namespace Nal
open PySem PySem.Spec PyProof.Rows L2 LamX NdefX
section
variable {P : Program} {w : World} {K : PySem.W.Frag} {mg : Str → Option Value} {base : Heap}
def spDueL : Sp := fun vs H Q _ => ∃ (l a b : Addr) (ns xs ys : List Int), vs = [.ref l, .ref a, .ref b] ∧ H l = some (.lst (nums ns)) ∧ H a = some (.lst (nums xs)) ∧ H b = some (.lst (nums ys)) ∧ ∀ H' : Hp, Same H H' → Q (.bl (later ns xs ys)) H'
theorem scDueL : FnScope ["_law_line", "_law_first", "_law_second", "_law_thing"] ["_law_line", "_law_first", "_law_second"] (defScope tp21) := ⟨rfl, rfl, rfl, by decide +kernel, rfl, by decide +kernel, by decide +kernel⟩
theorem kn_dueL (h : At K mg "_law_due" tp21) (B : Bl mg) : Kn P w K mg base 1 "_law_due" ["_law_line", "_law_first", "_law_second"] spDueL := by
  refine kn_of h scDueL (fun _ _ _ _ _ _ us hl => match us, hl with | [_, _, _], _ => rfl) (fun vs H Q E h => ?_) (fun f cdv A outer s H vs Q E hr h => ?_)
  · obtain ⟨l, a, b, ns, xs, ys, rfl, _⟩ := h
    rfl
  · obtain ⟨l, a, b, ns, xs, ys, rfl, hl, ha, hb, q⟩ := h
    refine ⟨_, (pss_cons (ps_for PassesOwn.never rfl (pi_list (pe_revL (pv 0))) (pg_name (i := 3) scDueL.nd rfl (Or.inl rfl))
        (pss_one (ps_if (pt_cmpR op_ne (pe_cmpR (kop_in K) (pv 3) (pv 1) (by rfl)) (pe_cmpR (kop_in K) (pv 3) (pv 2) (by rfl)) (nomark _)) (pss_one (ps_ret (pe_cmpR (kop_in K) (pv 3) (pv 1) (by rfl)))) pss_nil)))
      (pss_one (ps_ret pe_bl))), ?_⟩
    refine ⟨.ref l, rfl, l, nums ns, rfl, SqL.of hl, fun t nt => ?_⟩
    have st := same_new (o := .lst (nums ns).reverse) nt
    have ht := upd_same (H := H) (a := t) (o := .lst (nums ns).reverse)
    have er : (nums ns).reverse = nums ns.reverse := List.map_reverse.symm
    rw [er] at st ht ⊢
    generalize upd H t (.lst (nums ns.reverse)) = H1 at st ht
    refine ⟨t, rfl, ⟨_, SqL.of ht⟩, for_list (K := K) (a := t) (xs := nums ns.reverse) (fun i σ H' => (∃ v3 : Option V, σ = [some (.ref l), some (.ref a), some (.ref b), v3]) ∧ H' = H1 ∧ ∀ j, j < i → ∀ z, ns.reverse[j]? = some z → (decide (z ∈ xs) != decide (z ∈ ys)) = false)
      ⟨⟨none, rfl⟩, rfl, fun j h => absurd h (Nat.not_lt_zero j)⟩ (fun i σ H' _ ⟨_, e, _⟩ => by rw [e]; exact SqL.of ht) ?_ ?_⟩
    · rintro i x σ H' hx ⟨⟨v3, rfl⟩, rfl, no⟩
      obtain ⟨z, hz, rfl⟩ := nums_at hx
      refine ⟨.int z, rfl, .ref a, rfl, a, _, rfl, .inl (SqL.of (st _ _ ha)), rfl, flat_nums _, ?_⟩
      refine ⟨.int z, rfl, .ref b, rfl, b, _, rfl, .inl (SqL.of (st _ _ hb)), rfl, flat_nums _, ?_⟩
      rw [inV_nums, inV_nums]
      refine ⟨rfl, _, rfl, ?_⟩
      rw [bl_ne]
      refine ite2 (fun c => ?_) (fun c => ?_)
      · refine ⟨.int z, rfl, .ref a, rfl, a, _, rfl, .inl (SqL.of (st _ _ ha)), rfl, flat_nums _, ?_⟩
        rw [inV_nums]
        have e : later ns xs ys = decide (z ∈ xs) := by
          unfold later
          rw [find_first no hz c]
        have q2 := q _ st
        rw [e] at q2
        exact q2
      · refine ⟨⟨_, rfl⟩, rfl, fun j hj y hy => ?_⟩
        by_cases e : j = i
        · subst e
          rw [hz] at hy
          cases hy
          exact Bool.eq_false_iff.mpr c
        · exact no j (by omega) y hy
    · rintro σ H' ⟨⟨v3, rfl⟩, rfl, no⟩
      have e : later ns xs ys = false := by
        unfold later
        rw [find_none no (by rw [List.length_map, List.length_reverse]; exact Nat.le_refl _)]
      have q2 := q _ st
      rw [e] at q2
      exact q2
/-- what _law_told shows -/
def outV : Out → List V
  | .told t => [.str "told", .bl t]
  | .noO => [.str "refused", .bl true, .bl false, .bl false, .bl true]
  | .noH => [.str "refused", .bl false, .bl true, .bl false, .bl true]
/-- what a caught exception is asked -/
structure ToldE (K : PySem.W.Frag) (CY CO CN CX : Addr) (cs : List Addr) (isO isN : Bool) : Prop where
  x : PySem.W.exmOne K (.ref CX) (.ref CY) = some true
  c : ExcC K CX
  k1 : PySem.W.kitOne K (.ref CX) (.ref CO) = some isO
  k2 : PySem.W.kitOne K (.ref CX) (.ref CN) = some isN
  k3 : PySem.W.kitOne K (.ref CX) (.type "ValueError") = some true
  k4 : PySem.W.kitAny K (.ref CX) (cs.map Value.ref) = some false
def spTold : Sp := fun vs H Q _ => ∃ (v a b : V) (o : Out), vs = [v, a, b] ∧ Ods H v ∧ Ods H a ∧ Ods H b ∧ LaterIs H v a b o ∧ ∀ (r : Addr) (H' : Hp), H r = none → Same H H' → H' r = some (.tup (outV o)) → Q (.ref r) H'
theorem scTold : FnScope ["_law_line", "_law_first", "_law_second", "_law_told_here", "e", "_law_others"] ["_law_line", "_law_first", "_law_second"] (defScope tp22) := ⟨rfl, rfl, rfl, by decide +kernel, rfl, by decide +kernel, by decide +kernel⟩
theorem kn_told {CY C_NoOrder C_NoHeap C_NoText C_NotLeast C_NoYard : Addr} (h : At K mg "_law_told" tp22) (B : Bl mg) (bl_ValueError : mg "ValueError" = none) (gc_YardError : mg "YardError" = some (.ref CY)) (gc_NoOrder : mg "NoOrder" = some (.ref C_NoOrder))
    (gc_NoHeap : mg "NoHeap" = some (.ref C_NoHeap)) (gc_NoText : mg "NoText" = some (.ref C_NoText)) (gc_NotLeast : mg "NotLeast" = some (.ref C_NotLeast)) (gc_NoYard : mg "NoYard" = some (.ref C_NoYard))
    (eo : ToldE K CY C_NoOrder C_NoHeap C_NoOrder [C_NoText, C_NotLeast, C_NoYard] true false) (eh : ToldE K CY C_NoOrder C_NoHeap C_NoHeap [C_NoText, C_NotLeast, C_NoYard] false true)
    (knx_is_later : KnX P w K mg base 4 "is_later" ["order", "one", "other"] (spIsLaterX C_NoOrder C_NoHeap)) : Kn P w K mg base 5 "_law_told" ["_law_line", "_law_first", "_law_second"] spTold := by
  refine kn_of h scTold (fun _ _ _ _ _ _ us hl => match us, hl with | [_, _, _], _ => rfl) (fun vs H Q E h => ?_) (fun f cdv A outer s H vs Q E hr h => ?_)
  · obtain ⟨v, a, b, o, rfl, _⟩ := h
    rfl
  · obtain ⟨v, a, b, o, rfl, ov, oa, ob, la, q⟩ := h
    refine ⟨_, (pss_cons (ps_set (i := 3) scTold.nd rfl (Or.inl rfl) (pe_tup (pa_cons pe_str pa_nil)))
      (pss_cons (ps_try_as (i := 4) rfl rfl scTold.nd rfl rfl ⟨rfl, by decide, .inl gc_YardError⟩ L2.takes0 (fun W pn xe tk _ => (pss_one (ps_set (i := 3) scTold.nd rfl (Or.inl rfl) (pe_tup (pa_cons pe_str (pa_cons (pe_knx knx_is_later tk hr (by decide) (by rfl) (pa_cons (pv 0) (pa_cons (pv 1) (pa_cons (pv 2) pa_nil)))) pa_nil)))))) (fun a oe cls d pn hz hf => (pss_cons (ps_set (i := 5) scTold.nd rfl (Or.inl rfl) (pe_callB (call_isXT K hz hf) (by rfl) B.isinstance (by decide +kernel) (pa_cons (pv 4) (pa_cons (pe_tup (pa_cons (pe_glob (v := .ref C_NoText) (by rfl) gc_NoText rfl) (pa_cons (pe_glob (v := .ref C_NotLeast) (by rfl) gc_NotLeast rfl) (pa_cons (pe_glob (v := .ref C_NoYard) (by rfl) gc_NoYard rfl) pa_nil)))) pa_nil))))
      (pss_one (ps_set (i := 3) scTold.nd rfl (Or.inl rfl) (pe_tup (pa_cons pe_str (pa_cons (pe_callB (call_isX K hz hf) (by rfl) B.isinstance (by decide +kernel) (pa_cons (pv 4) (pa_cons (pe_glob (v := .ref C_NoOrder) (by rfl) gc_NoOrder rfl) pa_nil))) (pa_cons (pe_callB (call_isX K hz hf) (by rfl) B.isinstance (by decide +kernel) (pa_cons (pv 4) (pa_cons (pe_glob (v := .ref C_NoHeap) (by rfl) gc_NoHeap rfl) pa_nil))) (pa_cons (pv 5) (pa_cons (pe_callB (call_isX K hz hf) (by rfl) B.isinstance (by decide +kernel) (pa_cons (pv 4) (pa_cons (pe_bltn (v := .ty "ValueError") (by rfl) bl_ValueError (by decide +kernel) rfl) pa_nil))) pa_nil)))))))))))
      (pss_one (ps_ret (pv 3))))), ?_⟩
    refine ⟨(by show 1 ≤ sizeLine; decide), fun t nt => ?_⟩
    have st := same_new (o := .tup [.str "none"]) nt
    have ls : LaterIs (upd H t (.tup [.str "none"])) v a b o := la.same st ov oa ob
    refine ⟨v, rfl, a, rfl, b, rfl, v, a, b, o, rfl, ov.same st, oa.same st, ob.same st, ls, fun H1 s1 => ?_⟩
    have s01 := st.trans s1
    cases o with
    | told x =>
      refine ⟨(by show 2 ≤ sizeLine; decide), fun r nr => ?_⟩
      exact ⟨_, rfl, q r _ (s01.free nr) (s01.trans (same_new nr)) upd_same⟩
    | noO =>
      refine ⟨true, eo.x, fun _ a na => ?_, fun z => nomatch z⟩
      refine ⟨_, rfl, (by show 3 ≤ sizeLine; decide), fun T nT => ⟨_, T, _, _, false, rfl, rfl, eo.c, rfl, upd_same, .cons (.own _) (.cons (.own _) (.cons (.own _) .nil)), eo.k4, ?_⟩⟩
      refine ⟨_, rfl, _, _, _, true, rfl, rfl, eo.c, rfl, .own _, eo.k1, ?_⟩
      refine ⟨_, rfl, _, _, _, false, rfl, rfl, eo.c, rfl, .own _, eo.k2, ?_⟩
      refine ⟨_, rfl, _, rfl, _, _, _, true, rfl, rfl, eo.c, rfl, .ty "ValueError", eo.k3, ?_⟩
      refine ⟨(by show 5 ≤ sizeLine; decide), fun r nr => ?_⟩
      have sT := s01.trans (same_new (o := .tup [.ref C_NoText, .ref C_NotLeast, .ref C_NoYard]) nT)
      exact ⟨_, rfl, q r _ (sT.free nr) (sT.trans (same_new nr)) upd_same⟩
    | noH =>
      refine ⟨true, eh.x, fun _ a na => ?_, fun z => nomatch z⟩
      refine ⟨_, rfl, (by show 3 ≤ sizeLine; decide), fun T nT => ⟨_, T, _, _, false, rfl, rfl, eh.c, rfl, upd_same, .cons (.own _) (.cons (.own _) (.cons (.own _) .nil)), eh.k4, ?_⟩⟩
      refine ⟨_, rfl, _, _, _, false, rfl, rfl, eh.c, rfl, .own _, eh.k1, ?_⟩
      refine ⟨_, rfl, _, _, _, true, rfl, rfl, eh.c, rfl, .own _, eh.k2, ?_⟩
      refine ⟨_, rfl, _, rfl, _, _, _, true, rfl, rfl, eh.c, rfl, .ty "ValueError", eh.k3, ?_⟩
      refine ⟨(by show 5 ≤ sizeLine; decide), fun r nr => ?_⟩
      have sT := s01.trans (same_new (o := .tup [.ref C_NoText, .ref C_NotLeast, .ref C_NoYard]) nT)
      exact ⟨_, rfl, q r _ (sT.free nr) (sT.trans (same_new nr)) upd_same⟩
/-- a heap without what stands at a -/ 
def dlp (H : Hp) (a : Addr) : Hp := fun b => if b = a then none else H b
theorem dlp_ne {H : Hp} {a b : Addr} (h : b ≠ a) : dlp H a b = H b := if_neg h
theorem dlp_same {H : Hp} {a : Addr} : dlp H a a = none := if_pos rfl
theorem dsame {H H' : Hp} (p : Addr) (s : Same H H') : Same (dlp H p) (dlp H' p) := fun b o e => by
  by_cases h : b = p
  · rw [h, dlp_same] at e
    cases e
  · rw [dlp_ne h] at e ⊢
    exact s _ _ e
theorem dkeep {H H' : Hp} {p : Addr} (s : Keep p H H') : Same (dlp H p) (dlp H' p) := fun b o e => by
  by_cases h : b = p
  · rw [h, dlp_same] at e
    cases e
  · rw [dlp_ne h] at e ⊢
    exact s _ _ h e
theorem dsub {H : Hp} {p : Addr} : Same (dlp H p) H := fun b o e => by
  by_cases h : b = p
  · rw [h, dlp_same] at e
    cases e
  · rw [dlp_ne h] at e
    exact e
/-- an item: of a told kind, its repr short -/
def It (H : Hp) (x : V) : Prop := Od H x ∧ ∃ d, Dx H x d ∧ Showx 40 1 d
theorem It.same {H H' : Hp} {x : V} (h : It H x) (s : Same H H') : It H' x := by
  obtain ⟨h1, d, h2, h3⟩ := h
  exact ⟨h1.same s, d, Dx.same s d _ h2, h3⟩
theorem It.int {H : Hp} {i : Int} (h : i.natAbs < 10 ^ 40) : It H (.int i) := ⟨.int i, _, .int i, (Showy.int h).x⟩
theorem It.non {H : Hp} : It H .non := ⟨.non, _, .non, Showy.none.x⟩
theorem It.bl {H : Hp} (b : Bool) : It H (.bl b) := ⟨.bl b, _, .bl b, (Showy.bool b).x⟩
theorem It.str0 {H : Hp} : It H (.str "0") := ⟨.str _, _, .str _, (Showy.str (by decide +kernel) (by decide +kernel)).x⟩
theorem It.strE {H : Hp} : It H (.str "") := ⟨.str _, _, .str _, (Showy.str (by decide +kernel) (by decide +kernel)).x⟩
theorem It.tup0 {H : Hp} {a : Addr} (h : H a = some (.tup [.int 0])) : It H (.ref a) := ⟨.tup h, _, .tup h (.cons (.int 0) .nil), (Showx.tuple ((ShowxAll.cons (m := 0) (n := 0) (Showy.int (by decide)).x .nil).mono (by decide) (Nat.le_refl _) : ShowxAll 40 0 _))⟩
theorem It.tupE {H : Hp} {a : Addr} (h : H a = some (.tup [])) : It H (.ref a) := ⟨.tup h, _, .tup h .nil, Showx.tuple ShowxAll.nil⟩
theorem It.lstE {H : Hp} {a : Addr} (h : H a = some (.lst [])) : It H (.ref a) := ⟨.lst h, _, .lst h .nil, Showx.list ShowxAll.nil⟩
theorem It.dE {H : Hp} {a : Addr} (h : H a = some (.dK [])) : It H (.ref a) := ⟨.dK h, _, .emp h, Showx.emp⟩
theorem its_all {H : Hp} : ∀ {xs : List V}, (∀ x ∈ xs, It H x) → ∃ ds, DxAll H xs ds ∧ ShowxAll (41 * xs.length) 1 ds
  | [], _ => ⟨[], .nil, ShowxAll.nil⟩
  | x :: r, h => by
    obtain ⟨ds, h1, h2⟩ := its_all fun y hy => h y (List.mem_cons_of_mem _ hy)
    obtain ⟨_, d, h3, h4⟩ := h x List.mem_cons_self
    exact ⟨d :: ds, .cons h3 h1, (ShowxAll.cons h4 h2).mono (by rw [List.length_cons, Nat.mul_succ]; omega) (Nat.le_refl _)⟩
theorem its_lst {H : Hp} {l : Addr} {xs : List V} (hl : H l = some (.lst xs)) (len : xs.length ≤ 40) (it : ∀ x ∈ xs, It H x) : Ods H (.ref l) ∧ ∃ d, Dx H (.ref l) d ∧ Showx 2000 2 d := by
  obtain ⟨ds, h1, h2⟩ := its_all it
  refine ⟨⟨.lst hl, fun l' ys e h => ?_⟩, _, .lst hl h1, Showx.list (h2.mono (by have := Nat.mul_le_mul_left 41 len; omega) (Nat.le_refl _))⟩
  cases e
  rw [hl] at h
  cases h
  exact ⟨by omega, fun x hx => (it x hx).1⟩
theorem its_one {H : Hp} {v : V} (it : It H v) (n : ∀ l xs, v = .ref l → H l ≠ some (.lst xs)) : Ods H v ∧ ∃ d, Dx H v d ∧ Showx 2000 2 d := by
  obtain ⟨h1, d, h2, h3⟩ := it
  exact ⟨⟨h1, fun l xs e h => absurd h (n l xs e)⟩, d, h2, h3.mono (by decide) (by decide)⟩
/-- data that is no order of anything -/
def BadO (H : Hp) (v : V) : Prop := (Ods H v ∧ ∃ d, Dx H v d ∧ Showx 2000 2 d) ∧ ∀ m, ¬ OrdV H v m
/-- data that is no heap -/
def BadHp (m : Nat) (H : Hp) (v : V) : Prop := (Ods H v ∧ ∃ d, Dx H v d ∧ Showx 2000 2 d) ∧ ¬ HeapV H v m
theorem bado_not {H : Hp} {v : V} (h : Ods H v ∧ ∃ d, Dx H v d ∧ Showx 2000 2 d) (n : ∀ l xs, v = .ref l → H l ≠ some (.lst xs)) : BadO H v := ⟨h, fun m ⟨_, l, ns, e, hl, _⟩ => n l _ e hl⟩
theorem badh2_not {m : Nat} {H : Hp} {v : V} (h : Ods H v ∧ ∃ d, Dx H v d ∧ Showx 2000 2 d) (n : ∀ l xs, v = .ref l → H l ≠ some (.lst xs)) : BadHp m H v := ⟨h, fun ⟨_, l, ns, e, hl, _⟩ => n l _ e hl⟩
theorem bado_lst {H : Hp} {l : Addr} {xs : List V} (hl : H l = some (.lst xs)) (len : xs.length ≤ 40) (it : ∀ x ∈ xs, It H x) (n : ∀ ns, xs = nums ns → ¬ IsOrd ns.length ns) : BadO H (.ref l) := by
  refine ⟨its_lst hl len it, fun m ⟨_, l', ns, e, h, o⟩ => ?_⟩
  cases e
  rw [hl] at h
  cases h
  exact n ns rfl (by rw [o.len]; exact o)
theorem badh2_lst {m : Nat} {H : Hp} {l : Addr} {xs : List V} (hl : H l = some (.lst xs)) (len : xs.length ≤ 40) (it : ∀ x ∈ xs, It H x) (n : ∀ ns, xs = nums ns → ¬ IsHp m ns) : BadHp m H (.ref l) := by
  refine ⟨its_lst hl len it, fun ⟨_, l', ns, e, h, o⟩ => ?_⟩
  cases e
  rw [hl] at h
  cases h
  exact n ns rfl o
theorem it_nums {H : Hp} {ns : List Int} {m : Nat} (hp : IsHp m ns) (m24 : m ≤ 24) : ∀ x ∈ nums ns, It H x := fun x hx => by
  obtain ⟨z, hz, rfl⟩ := List.mem_map.mp hx
  have := hp.2 z hz
  exact .int (by omega)
theorem it_mid {H : Hp} {x : V} {ns : List Int} {i j : Nat} (it : It H x) (all : ∀ y ∈ nums ns, It H y) : ∀ y ∈ ((nums ns).take i ++ [x]) ++ (nums ns).drop j, It H y := fun y hy => by
  rcases List.mem_append.mp hy with hy | hy
  · rcases List.mem_append.mp hy with hy | hy
    · exact all y (List.mem_of_mem_take hy)
    · rw [List.mem_singleton.mp hy]
      exact it
  · exact all y (List.mem_of_mem_drop hy)
theorem dup_mid {ns ns' : List Int} {d : Int} {x : V} (h : atI (nums ns) d = some x) (e : ((nums ns).take d.toNat ++ [x]) ++ (nums ns).drop d.toNat = nums ns') (nd : ns'.Nodup) (d0 : 0 ≤ d) (d1 : d < ((nums ns).length : Int)) : False := by
  obtain ⟨n, rfl⟩ := Int.eq_ofNat_of_zero_le d0
  rw [Int.toNat_natCast] at e
  by_cases c : n < (nums ns).length
  · rw [atI_nat (List.getElem?_eq_getElem c)] at h
    cases h
    rw [List.drop_eq_getElem_cons c, List.append_assoc] at e
    have nd2 : (nums ns').Nodup := List.pairwise_map.mpr (nd.imp fun h e => h (V.int.inj e))
    rw [← e] at nd2
    have := (List.nodup_append.mp nd2).2.1
    rw [List.singleton_append, List.nodup_cons] at this
    exact this.1 List.mem_cons_self
  · omega
def spBadO : Sp := fun vs H Q _ => ∃ (p l : Addr) (ns : List Int) (m : Nat), vs = [.ref p, .ref l] ∧ l ≠ p ∧ Pot H p ∧ H l = some (.lst (nums ns)) ∧ IsOrd m ns ∧ m ≤ 24 ∧
  ∀ (v : V) (H' : Hp), Keep p H H' → Pot H' p → BadO (dlp H' p) v → Q v H'
theorem scBadO : FnScope ["_law_pot_here", "_law_line", "_law_way", "_law_many", "_law_at"] ["_law_pot_here", "_law_line"] (defScope tp23) := ⟨rfl, rfl, rfl, by decide +kernel, rfl, by decide +kernel, by decide +kernel⟩
theorem kn_bad_order (h : At K mg "_law_bad_order" tp23) (B : Bl mg) (kn__law_take : Kn P w K mg base 1 "_law_take" ["_law_pot_here", "_law_many"] spTake) : Kn P w K mg base 2 "_law_bad_order" ["_law_pot_here", "_law_line"] spBadO := by
  refine kn_of h scBadO (fun _ _ _ _ _ _ us hl => match us, hl with | [_, _], _ => rfl) (fun vs H Q E h => ?_) (fun f cdv A outer s H vs Q E hr h => ?_)
  · obtain ⟨p, l, ns, m, rfl, _⟩ := h
    rfl
  · obtain ⟨p, l, ns, m, rfl, lp, pt0, hl0, o, m24, q⟩ := h
    refine ⟨_, (pss_cons (ps_set (i := 2) scBadO.nd rfl (Or.inl rfl) (pe_kn kn__law_take hr (by decide) (by rfl) (pa_cons (pv 0) (pa_cons pe_int pa_nil))))
      (pss_cons (ps_set (i := 3) scBadO.nd rfl (Or.inl rfl) (pe_callB (kcall_len K) (by rfl) B.len (by decide +kernel) (pa_cons (pv 1) pa_nil)))
      (pss_cons (ps_if (pt_cmpR op_eq (pv 2) pe_int (nomark _)) (pss_one (ps_ret (pe_ix (kix_list K) (pe_lst (pa_cons pe_non (pa_cons pe_int (pa_cons pe_str (pa_cons pe_dnewK (pa_cons pe_bl (pa_cons (pe_tup pa_nil) (pa_cons (pe_callTy (kcall_tuple K) (by rfl) B.t_tuple (by decide +kernel) (pa_cons (pv 1) pa_nil)) (pa_cons (pe_lst (pa_cons pe_non pa_nil)) (pa_cons (pe_lst (pa_cons (pe_lst pa_nil) pa_nil)) pa_nil)))))))))) (pe_kn kn__law_take hr (by decide) (by rfl) (pa_cons (pv 0) (pa_cons pe_int pa_nil))) (fun _ _ => rfl)))) pss_nil)
      (pss_cons (ps_set (i := 4) scBadO.nd rfl (Or.inl rfl) (pe_kn kn__law_take hr (by decide) (by rfl) (pa_cons (pv 0) (pa_cons (pe_op op_add (pv 3) pe_int) pa_nil))))
      (pss_cons (ps_if (PW.pt (pw_or (pt_cmpR op_lt (pv 2) pe_int (nomark _)) (pw_or1 (pt_cmpR op_eq (pv 3) pe_int (nomark _))))) (pss_one (ps_ret (pe_op op_cat (pe_op op_cat (pe_slice sl_list (pv 1) po_none (po_some (pv 4))) (pe_lst (pa_cons (pe_ix (kix_list K) (pe_lst (pa_cons (pe_op op_add (pv 3) pe_int) (pa_cons (pe_un un_neg pe_int) (pa_cons pe_non (pa_cons pe_str (pa_cons pe_bl pa_nil)))))) (pe_kn kn__law_take hr (by decide) (by rfl) (pa_cons (pv 0) (pa_cons pe_int pa_nil))) (fun _ _ => rfl)) pa_nil))) (pe_slice sl_list (pv 1) (po_some (pv 4)) po_none)))) pss_nil)
      (pss_cons (ps_set (i := 4) scBadO.nd rfl (Or.inl rfl) (pe_op op_modN (pv 4) (pv 3)))
      (pss_cons (ps_if (pt_cmpR op_eq (pv 2) pe_int (nomark _)) (pss_one (ps_ret (pe_op op_cat (pe_op op_cat (pe_slice sl_list (pv 1) po_none (po_some (pv 4))) (pe_lst (pa_cons (pe_ix (kix_list K) (pv 1) (pv 4) (fun _ _ => rfl)) pa_nil))) (pe_slice sl_list (pv 1) (po_some (pv 4)) po_none)))) pss_nil)
      (pss_one (ps_ret (pe_op op_cat (pe_op op_cat (pe_slice sl_list (pv 1) po_none (po_some (pv 4))) (pe_lst (pa_cons (pe_ix (kix_list K) (pe_lst (pa_cons (pv 3) (pa_cons (pe_un un_neg pe_int) (pa_cons pe_non (pa_cons pe_str (pa_cons (pe_tup (pa_cons pe_int pa_nil)) pa_nil)))))) (pe_kn kn__law_take hr (by decide) (by rfl) (pa_cons (pv 0) (pa_cons pe_int pa_nil))) (fun _ _ => rfl)) pa_nil))) (pe_slice sl_list (pv 1) (po_some (pe_op op_add (pv 4) pe_int)) po_none))))))))))), ?_⟩
    have nl := o.len
    refine ⟨.ref p, rfl, p, _, rfl, by decide, by decide, pt0, fun way H1 w0 w1 k1 pt1 => ?_⟩
    have hl1 := k1 _ _ lp hl0
    refine ⟨.ref l, rfl, l, _, rfl, .inl (SqL.of hl1), ?_⟩
    rw [List.length_map, nl]
    refine ⟨.int way, rfl, rfl, _, rfl, ite2 (fun c => ?_) (fun c => ?_)⟩
    · intro d nd
      have kd : Keep p H (upd H1 d (.dK [])) := k1.trans (Keep.new nd)
      have pd := pt1.new (o := .dK []) nd
      have dp := pt1.ne nd
      have hd := upd_same (H := H1) (a := d) (o := .dK [])
      generalize upd H1 d (.dK []) = H2 at kd pd hd
      refine ⟨Nat.zero_le _, fun T nT => ?_⟩
      have Tp := pd.ne nT
      have sT := same_new (o := .tup []) nT
      have hT := upd_same (H := H2) (a := T) (o := .tup [])
      have pT := pd.new (o := .tup []) nT
      generalize upd H2 T (.tup []) = H3 at sT hT pT
      refine ⟨.ref l, rfl, l, _, rfl, .inl ⟨SqL.of (sT _ _ (kd _ _ lp hl0)), fun T2 nT2 => ?_⟩⟩
      have T2p := pT.ne nT2
      have sT2 := same_new (o := .tup (nums ns)) nT2
      have hT2 := upd_same (H := H3) (a := T2) (o := .tup (nums ns))
      have pT2 := pT.new (o := .tup (nums ns)) nT2
      generalize upd H3 T2 (.tup (nums ns)) = H3b at sT2 hT2 pT2
      refine ⟨(by show 1 ≤ sizeLine; decide), fun L1 n1 => ?_⟩
      have Lp1 := pT2.ne n1
      have s1 := same_new (o := .lst [.non]) n1
      have h1 := upd_same (H := H3b) (a := L1) (o := .lst [.non])
      have p1 := pT2.new (o := .lst [.non]) n1
      generalize upd H3b L1 (.lst [.non]) = H5 at s1 h1 p1
      refine ⟨Nat.zero_le _, fun e ne => ?_⟩
      have ep := p1.ne ne
      have se := same_new (o := .lst []) ne
      have he := upd_same (H := H5) (a := e) (o := .lst [])
      have pe := p1.new (o := .lst []) ne
      generalize upd H5 e (.lst []) = H4 at se he pe
      refine ⟨(by show 1 ≤ sizeLine; decide), fun L2 n2 => ?_⟩
      have Lp2 := pe.ne n2
      have s2 := same_new (o := .lst [.ref e]) n2
      have h2 := upd_same (H := H4) (a := L2) (o := .lst [.ref e])
      have p2 := pe.new (o := .lst [.ref e]) n2
      generalize upd H4 L2 (.lst [.ref e]) = H6 at s2 h2 p2
      refine ⟨(by show 9 ≤ sizeLine; decide), fun M nM => ?_⟩
      have Mp := p2.ne nM
      have sM := fun o => same_new (o := o) nM
      refine ⟨.ref p, rfl, p, _, rfl, by decide, by decide, p2.new nM, fun k H' k0 k1' kk ptk => ?_⟩
      have hM := kk _ _ Mp upd_same
      have hd' := (dlp_ne dp).trans <| kk _ _ dp (sM _ _ _ (s2 _ _ (se _ _ (s1 _ _ (sT2 _ _ (sT _ _ hd))))))
      have hT' := (dlp_ne Tp).trans <| kk _ _ Tp (sM _ _ _ (s2 _ _ (se _ _ (s1 _ _ (sT2 _ _ hT)))))
      have hT2' := (dlp_ne T2p).trans <| kk _ _ T2p (sM _ _ _ (s2 _ _ (se _ _ (s1 _ _ hT2))))
      have he' := (dlp_ne ep).trans <| kk _ _ ep (sM _ _ _ (s2 _ _ he))
      have h1' := (dlp_ne Lp1).trans <| kk _ _ Lp1 (sM _ _ _ (s2 _ _ (se _ _ h1)))
      have h2' := (dlp_ne Lp2).trans <| kk _ _ Lp2 (sM _ _ _ h2)
      obtain ⟨x, hx, mx⟩ := at_in (xs := [V.non, V.int 3, V.str "", V.ref d, V.bl true, V.ref T, V.ref T2, V.ref L1, V.ref L2]) k0 k1'
      refine ⟨M, _, k, x, rfl, rfl, SqL.of hM, hx, q x H' ((kd.trans (Keep.same ((((((sT.trans sT2).trans s1).trans se).trans s2).trans (sM _))))).trans kk) ptk ?_⟩
      simp only [List.mem_cons, List.not_mem_nil, or_false] at mx
      rcases mx with rfl | rfl | rfl | rfl | rfl | rfl | rfl | rfl | rfl
      · exact bado_not (its_one .non fun _ _ e => nomatch e) fun _ _ e => nomatch e
      · exact bado_not (its_one (.int (by decide)) fun _ _ e => nomatch e) fun _ _ e => nomatch e
      · exact bado_not (its_one .strE fun _ _ e => nomatch e) fun _ _ e => nomatch e
      · have n : ∀ l' xs, V.ref d = .ref l' → dlp H' p l' ≠ some (.lst xs) := fun l' xs e h => by cases e; rw [hd'] at h; cases h
        exact bado_not (its_one (.dE hd') n) n
      · exact bado_not (its_one (.bl _) fun _ _ e => nomatch e) fun _ _ e => nomatch e
      · have n : ∀ l' xs, V.ref T = .ref l' → dlp H' p l' ≠ some (.lst xs) := fun l' xs e h => by cases e; rw [hT'] at h; cases h
        exact bado_not (its_one (.tupE hT') n) n
      · have n : ∀ l' xs, V.ref T2 = .ref l' → dlp H' p l' ≠ some (.lst xs) := fun l' xs e h => by cases e; rw [hT2'] at h; cases h
        obtain ⟨ds, e1, e2⟩ := its_all (it_nums (H := dlp H' p) o.hp m24)
        refine bado_not ⟨⟨.tup hT2', fun l' xs e h => absurd h (n l' xs e)⟩, _, .tup hT2' e1, Showx.tuple (e2.mono ?_ (Nat.le_refl _))⟩ n
        rw [List.length_map]
        omega
      · refine bado_lst h1' (by show 1 ≤ 40; decide) (fun x hx => ?_) fun ns' e _ => ?_
        · rw [List.mem_singleton.mp hx]
          exact .non
        · cases ns' with
          | nil => cases e
          | cons a r => cases e
      · refine bado_lst h2' (by show 1 ≤ 40; decide) (fun x hx => ?_) fun ns' e _ => ?_
        · rw [List.mem_singleton.mp hx]
          exact .lstE he'
        · cases ns' with
          | nil => cases e
          | cons a r => cases e
    refine ⟨.ref p, rfl, .int (m : Int), rfl, _, _, rfl, rfl, p, _, rfl, by omega, Int.lt_of_le_of_lt (b := 25) (by omega) (by decide), pt1, fun at_ Hs a0 a1 k2 pS => ?_⟩
    have kS := k1.trans k2
    refine ⟨.int way, rfl, way, 3, rfl, rfl, _, rfl, or_join ?_ (fun c4 hA => ?_)⟩
    ·
      refine ⟨.ref l, rfl, .int at_, rfl, at_, rfl, l, _, rfl, SqL.of (kS _ _ lp hl0), fun a na => ?_⟩
      have ka := kS.trans (Keep.new (o := .lst (cutV (nums ns) none (some at_))) na)
      have pa := pS.new (o := .lst (cutV (nums ns) none (some at_))) na
      have ap := pS.ne na
      have ha := upd_same (H := Hs) (a := a) (o := .lst (cutV (nums ns) none (some at_)))
      generalize upd Hs a (.lst (cutV (nums ns) none (some at_))) = Ha at ka pa ha
      refine ⟨.int (m : Int), rfl, _, _, rfl, rfl, 1, rfl, (by show 5 ≤ sizeLine; decide), fun I nI => ?_⟩
      have sI := same_new (o := .lst [V.int ((m : Int) + 1), V.int (-1), V.non, V.str "0", V.bl true]) nI
      have hI := upd_same (H := Ha) (a := I) (o := .lst [V.int ((m : Int) + 1), V.int (-1), V.non, V.str "0", V.bl true])
      have kI := ka.trans (Keep.new (o := .lst [V.int ((m : Int) + 1), V.int (-1), V.non, V.str "0", V.bl true]) nI)
      have pI := pa.new (o := .lst [V.int ((m : Int) + 1), V.int (-1), V.non, V.str "0", V.bl true]) nI
      have Ip := pa.ne nI
      replace ha := sI _ _ ha
      generalize upd Ha I (.lst [V.int ((m : Int) + 1), V.int (-1), V.non, V.str "0", V.bl true]) = HI at sI hI kI pI ha
      refine ⟨.ref p, rfl, p, _, rfl, by decide, by decide, pI, fun k' Hx k0' k1'' kk' px => ?_⟩
      replace ha := kk' _ _ ap ha
      obtain ⟨xx, hy, my⟩ := at_in (xs := [V.int ((m : Int) + 1), V.int (-1), V.non, V.str "0", V.bl true]) k0' k1''
      have xo : It (dlp Hx p) xx ∧ ∀ z : Int, 0 ≤ z → z < (m : Int) + 1 → xx ≠ .int z := by
        simp only [List.mem_cons, List.not_mem_nil, or_false] at my
        rcases my with rfl | rfl | rfl | rfl | rfl
        · exact ⟨.int (by omega), fun z z0 z1 e => by have := V.int.inj e; omega⟩
        · exact ⟨.int (by omega), fun z z0 z1 e => by have := V.int.inj e; omega⟩
        · exact ⟨.non, fun z z0 z1 e => nomatch e⟩
        · exact ⟨.str0, fun z z0 z1 e => nomatch e⟩
        · exact ⟨.bl _, fun z z0 z1 e => nomatch e⟩
      have kx := kI.trans kk'
      refine ⟨I, _, k', xx, rfl, rfl, SqL.of (kk' _ _ Ip hI), hy, ?_⟩
      refine ⟨(by show 1 ≤ sizeLine; decide), fun J nJ => ?_⟩
      have kJ := kx.trans (Keep.new (o := .lst [xx]) nJ)
      have xJ := xo.1.same (dsame p (same_new (o := .lst [xx]) nJ))
      have pJ := px.new (o := .lst [xx]) nJ
      have hJ := upd_same (H := Hx) (a := J) (o := .lst [xx])
      replace ha := same_new (o := .lst [xx]) nJ _ _ ha
      generalize upd Hx J (.lst [xx]) = H9 at kJ pJ hJ ha xJ
      have lc := cutV_length (nums ns) none (some at_)
      rw [List.length_map] at lc
      refine ⟨a, J, _, _, rfl, rfl, ha, hJ, (by rw [sizeLine_eq]; show _ + 1 ≤ _; omega), fun c1 nc => ?_⟩
      have kc := kJ.trans (Keep.new (o := .lst ((cutV (nums ns) none (some at_)) ++ [xx])) nc)
      have xc := xJ.same (dsame p (same_new (o := .lst ((cutV (nums ns) none (some at_)) ++ [xx])) nc))
      have pc := pJ.new (o := .lst ((cutV (nums ns) none (some at_)) ++ [xx])) nc
      have hc := upd_same (H := H9) (a := c1) (o := .lst ((cutV (nums ns) none (some at_)) ++ [xx]))
      generalize upd H9 c1 (.lst ((cutV (nums ns) none (some at_)) ++ [xx])) = H10 at kc pc hc xc
      refine ⟨.ref l, rfl, .int at_, rfl, at_, rfl, l, _, rfl, SqL.of (kc _ _ lp hl0), fun b nb => ?_⟩
      have kb := kc.trans (Keep.new (o := .lst (cutV (nums ns) (some at_) none)) nb)
      have xb := xc.same (dsame p (same_new (o := .lst (cutV (nums ns) (some at_) none)) nb))
      have pb := pc.new (o := .lst (cutV (nums ns) (some at_) none)) nb
      have hb := upd_same (H := H10) (a := b) (o := .lst (cutV (nums ns) (some at_) none))
      replace hc := same_new (o := .lst (cutV (nums ns) (some at_) none)) nb _ _ hc
      generalize upd H10 b (.lst (cutV (nums ns) (some at_) none)) = H11 at kb pb hb hc xb
      have lc2 := cutV_length (nums ns) (some at_) none
      rw [List.length_map] at lc2
      refine ⟨c1, b, _, _, rfl, rfl, hc, hb, (by rw [sizeLine_eq, List.length_append]; show _ + 1 + _ ≤ _; omega), fun r nr => ?_⟩
      rw [cut_take a0, cut_drop a0] at *
      have hr' := (dlp_ne (pb.ne nr)).trans (upd_same (H := H11) (a := r) (o := .lst ((((nums ns).take (at_).toNat) ++ [xx]) ++ (nums ns).drop (at_).toNat)))
      have xr := xb.same (dsame p (same_new (o := .lst ((((nums ns).take (at_).toNat) ++ [xx]) ++ (nums ns).drop (at_).toNat)) nr))
      refine q _ _ (kb.trans (Keep.new nr)) (pb.new nr) ?_
      refine bado_lst hr' ?_ (it_mid xr (it_nums o.hp m24)) fun ns' e o' => ?_
      · rw [List.length_append, List.length_append, List.length_take, List.length_drop, List.length_map]
        show _ + 1 + _ ≤ _
        omega
      · have ln : ns'.length = m + 1 := by
          have l1 := congrArg List.length e
          rw [List.length_append, List.length_append, List.length_take, List.length_drop, List.length_map, List.length_map] at l1
          have l2 : ([xx] : List V).length = 1 := rfl
          omega
        have : xx ∈ nums ns' := by
          rw [← e]
          exact List.mem_append_left _ (List.mem_append_right _ (List.mem_singleton.mpr rfl))
        obtain ⟨z, hz, ez⟩ := List.mem_map.mp this
        have := o'.hp.2 z hz
        exact xo.2 z this.1 (by omega) ez.symm
    refine ⟨.int (m : Int), rfl, rfl, _, rfl, ite2 (fun c => hA) (fun c0 => ?_)⟩
    have m0 : m ≠ 0 := fun e => c0 (decide_eq_true (by rw [e]; rfl))
    clear hA
    refine ⟨.int at_, rfl, .int (m : Int), rfl, _, _, rfl, rfl, (by omega : (m : Int) ≠ 0), ?_⟩
    have fb := fmod_in at_ (n := (m : Int)) (by omega)
    have al : (at_.fmod (m : Int)).toNat < ns.length := by omega
    refine ⟨.int way, rfl, rfl, _, rfl, ite2 (fun c => ?_) (fun c => ?_)⟩
    ·
      refine ⟨.ref l, rfl, .int (at_.fmod (m : Int)), rfl, (at_.fmod (m : Int)), rfl, l, _, rfl, SqL.of (kS _ _ lp hl0), fun a na => ?_⟩
      have ka := kS.trans (Keep.new (o := .lst (cutV (nums ns) none (some (at_.fmod (m : Int))))) na)
      have pa := pS.new (o := .lst (cutV (nums ns) none (some (at_.fmod (m : Int))))) na
      have ap := pS.ne na
      have ha := upd_same (H := Hs) (a := a) (o := .lst (cutV (nums ns) none (some (at_.fmod (m : Int)))))
      generalize upd Hs a (.lst (cutV (nums ns) none (some (at_.fmod (m : Int))))) = Ha at ka pa ha
      obtain ⟨xx, hy, my⟩ := at_in (xs := nums ns) fb.1 (by rw [List.length_map]; omega)
      have xo : It (dlp Ha p) xx ∧ True := by
        obtain ⟨z, hz, rfl⟩ := List.mem_map.mp my
        have := o.hp.2 z hz
        exact ⟨.int (by omega), trivial⟩
      have kx := ka
      have px := pa
      generalize Ha = Hx at kx px xo ha
      refine ⟨.ref l, rfl, .int (at_.fmod (m : Int)), rfl, l, _, (at_.fmod (m : Int)), xx, rfl, rfl, SqL.of (kx _ _ lp hl0), hy, ?_⟩
      refine ⟨(by show 1 ≤ sizeLine; decide), fun J nJ => ?_⟩
      have kJ := kx.trans (Keep.new (o := .lst [xx]) nJ)
      have xJ := xo.1.same (dsame p (same_new (o := .lst [xx]) nJ))
      have pJ := px.new (o := .lst [xx]) nJ
      have hJ := upd_same (H := Hx) (a := J) (o := .lst [xx])
      replace ha := same_new (o := .lst [xx]) nJ _ _ ha
      generalize upd Hx J (.lst [xx]) = H9 at kJ pJ hJ ha xJ
      have lc := cutV_length (nums ns) none (some (at_.fmod (m : Int)))
      rw [List.length_map] at lc
      refine ⟨a, J, _, _, rfl, rfl, ha, hJ, (by rw [sizeLine_eq]; show _ + 1 ≤ _; omega), fun c1 nc => ?_⟩
      have kc := kJ.trans (Keep.new (o := .lst ((cutV (nums ns) none (some (at_.fmod (m : Int)))) ++ [xx])) nc)
      have xc := xJ.same (dsame p (same_new (o := .lst ((cutV (nums ns) none (some (at_.fmod (m : Int)))) ++ [xx])) nc))
      have pc := pJ.new (o := .lst ((cutV (nums ns) none (some (at_.fmod (m : Int)))) ++ [xx])) nc
      have hc := upd_same (H := H9) (a := c1) (o := .lst ((cutV (nums ns) none (some (at_.fmod (m : Int)))) ++ [xx]))
      generalize upd H9 c1 (.lst ((cutV (nums ns) none (some (at_.fmod (m : Int)))) ++ [xx])) = H10 at kc pc hc xc
      refine ⟨.ref l, rfl, .int (at_.fmod (m : Int)), rfl, (at_.fmod (m : Int)), rfl, l, _, rfl, SqL.of (kc _ _ lp hl0), fun b nb => ?_⟩
      have kb := kc.trans (Keep.new (o := .lst (cutV (nums ns) (some (at_.fmod (m : Int))) none)) nb)
      have xb := xc.same (dsame p (same_new (o := .lst (cutV (nums ns) (some (at_.fmod (m : Int))) none)) nb))
      have pb := pc.new (o := .lst (cutV (nums ns) (some (at_.fmod (m : Int))) none)) nb
      have hb := upd_same (H := H10) (a := b) (o := .lst (cutV (nums ns) (some (at_.fmod (m : Int))) none))
      replace hc := same_new (o := .lst (cutV (nums ns) (some (at_.fmod (m : Int))) none)) nb _ _ hc
      generalize upd H10 b (.lst (cutV (nums ns) (some (at_.fmod (m : Int))) none)) = H11 at kb pb hb hc xb
      have lc2 := cutV_length (nums ns) (some (at_.fmod (m : Int))) none
      rw [List.length_map] at lc2
      refine ⟨c1, b, _, _, rfl, rfl, hc, hb, (by rw [sizeLine_eq, List.length_append]; show _ + 1 + _ ≤ _; omega), fun r nr => ?_⟩
      rw [cut_take fb.1, cut_drop fb.1] at *
      have hr' := (dlp_ne (pb.ne nr)).trans (upd_same (H := H11) (a := r) (o := .lst ((((nums ns).take ((at_.fmod (m : Int))).toNat) ++ [xx]) ++ (nums ns).drop ((at_.fmod (m : Int))).toNat)))
      have xr := xb.same (dsame p (same_new (o := .lst ((((nums ns).take ((at_.fmod (m : Int))).toNat) ++ [xx]) ++ (nums ns).drop ((at_.fmod (m : Int))).toNat)) nr))
      refine q _ _ (kb.trans (Keep.new nr)) (pb.new nr) ?_
      refine bado_lst hr' ?_ (it_mid xr (it_nums o.hp m24)) fun ns' e o' => ?_
      · rw [List.length_append, List.length_append, List.length_take, List.length_drop, List.length_map]
        show _ + 1 + _ ≤ _
        omega
      · exact dup_mid hy e o'.hp.1 fb.1 (by rw [List.length_map]; omega)
    refine ⟨.ref l, rfl, .int (at_.fmod (m : Int)), rfl, (at_.fmod (m : Int)), rfl, l, _, rfl, SqL.of (kS _ _ lp hl0), fun a na => ?_⟩
    have ka := kS.trans (Keep.new (o := .lst (cutV (nums ns) none (some (at_.fmod (m : Int))))) na)
    have pa := pS.new (o := .lst (cutV (nums ns) none (some (at_.fmod (m : Int))))) na
    have ap := pS.ne na
    have ha := upd_same (H := Hs) (a := a) (o := .lst (cutV (nums ns) none (some (at_.fmod (m : Int)))))
    generalize upd Hs a (.lst (cutV (nums ns) none (some (at_.fmod (m : Int))))) = Ha at ka pa ha
    refine ⟨.int (m : Int), rfl, 1, rfl, (by show 1 ≤ sizeLine; decide), fun T nT => ?_⟩
    have sT := same_new (o := .tup [.int 0]) nT
    have hT := upd_same (H := Ha) (a := T) (o := .tup [.int 0])
    have kT := ka.trans (Keep.new (o := .tup [.int 0]) nT)
    have pT := pa.new (o := .tup [.int 0]) nT
    have Tp := pa.ne nT
    replace ha := sT _ _ ha
    generalize upd Ha T (.tup [.int 0]) = HT at sT hT kT pT ha
    replace ka := kT
    replace pa := pT
    refine ⟨(by show 5 ≤ sizeLine; decide), fun I nI => ?_⟩
    have sI := same_new (o := .lst [V.int (m : Int), V.int (-1), V.non, V.str "0", V.ref T]) nI
    have hI := upd_same (H := HT) (a := I) (o := .lst [V.int (m : Int), V.int (-1), V.non, V.str "0", V.ref T])
    have kI := ka.trans (Keep.new (o := .lst [V.int (m : Int), V.int (-1), V.non, V.str "0", V.ref T]) nI)
    have pI := pa.new (o := .lst [V.int (m : Int), V.int (-1), V.non, V.str "0", V.ref T]) nI
    have Ip := pa.ne nI
    replace ha := sI _ _ ha
    replace hT := sI _ _ hT
    generalize upd HT I (.lst [V.int (m : Int), V.int (-1), V.non, V.str "0", V.ref T]) = HI at sI hI kI pI ha hT
    refine ⟨.ref p, rfl, p, _, rfl, by decide, by decide, pI, fun k' Hx k0' k1'' kk' px => ?_⟩
    replace ha := kk' _ _ ap ha
    replace hT := kk' _ _ Tp hT
    obtain ⟨xx, hy, my⟩ := at_in (xs := [V.int (m : Int), V.int (-1), V.non, V.str "0", V.ref T]) k0' k1''
    have xo : It (dlp Hx p) xx ∧ ∀ z : Int, 0 ≤ z → z < (m : Int) → xx ≠ .int z := by
      simp only [List.mem_cons, List.not_mem_nil, or_false] at my
      rcases my with rfl | rfl | rfl | rfl | rfl
      · exact ⟨.int (by omega), fun z z0 z1 e => by have := V.int.inj e; omega⟩
      · exact ⟨.int (by omega), fun z z0 z1 e => by have := V.int.inj e; omega⟩
      · exact ⟨.non, fun z z0 z1 e => nomatch e⟩
      · exact ⟨.str0, fun z z0 z1 e => nomatch e⟩
      · exact ⟨.tup0 ((dlp_ne Tp).trans hT), fun z z0 z1 e => nomatch e⟩
    have kx := kI.trans kk'
    refine ⟨I, _, k', xx, rfl, rfl, SqL.of (kk' _ _ Ip hI), hy, ?_⟩
    refine ⟨(by show 1 ≤ sizeLine; decide), fun J nJ => ?_⟩
    have kJ := kx.trans (Keep.new (o := .lst [xx]) nJ)
    have xJ := xo.1.same (dsame p (same_new (o := .lst [xx]) nJ))
    have pJ := px.new (o := .lst [xx]) nJ
    have hJ := upd_same (H := Hx) (a := J) (o := .lst [xx])
    replace ha := same_new (o := .lst [xx]) nJ _ _ ha
    generalize upd Hx J (.lst [xx]) = H9 at kJ pJ hJ ha xJ
    have lc := cutV_length (nums ns) none (some (at_.fmod (m : Int)))
    rw [List.length_map] at lc
    refine ⟨a, J, _, _, rfl, rfl, ha, hJ, (by rw [sizeLine_eq]; show _ + 1 ≤ _; omega), fun c1 nc => ?_⟩
    have kc := kJ.trans (Keep.new (o := .lst ((cutV (nums ns) none (some (at_.fmod (m : Int)))) ++ [xx])) nc)
    have xc := xJ.same (dsame p (same_new (o := .lst ((cutV (nums ns) none (some (at_.fmod (m : Int)))) ++ [xx])) nc))
    have pc := pJ.new (o := .lst ((cutV (nums ns) none (some (at_.fmod (m : Int)))) ++ [xx])) nc
    have hc := upd_same (H := H9) (a := c1) (o := .lst ((cutV (nums ns) none (some (at_.fmod (m : Int)))) ++ [xx]))
    generalize upd H9 c1 (.lst ((cutV (nums ns) none (some (at_.fmod (m : Int)))) ++ [xx])) = H10 at kc pc hc xc
    refine ⟨.ref l, rfl, .int (at_.fmod (m : Int)), rfl, (at_.fmod (m : Int)), 1, rfl, rfl, (at_.fmod (m : Int)) + 1, rfl, l, _, rfl, SqL.of (kc _ _ lp hl0), fun b nb => ?_⟩
    have kb := kc.trans (Keep.new (o := .lst (cutV (nums ns) (some (at_.fmod (m : Int) + 1)) none)) nb)
    have xb := xc.same (dsame p (same_new (o := .lst (cutV (nums ns) (some (at_.fmod (m : Int) + 1)) none)) nb))
    have pb := pc.new (o := .lst (cutV (nums ns) (some (at_.fmod (m : Int) + 1)) none)) nb
    have hb := upd_same (H := H10) (a := b) (o := .lst (cutV (nums ns) (some (at_.fmod (m : Int) + 1)) none))
    replace hc := same_new (o := .lst (cutV (nums ns) (some (at_.fmod (m : Int) + 1)) none)) nb _ _ hc
    generalize upd H10 b (.lst (cutV (nums ns) (some (at_.fmod (m : Int) + 1)) none)) = H11 at kb pb hb hc xb
    have lc2 := cutV_length (nums ns) (some (at_.fmod (m : Int) + 1)) none
    rw [List.length_map] at lc2
    refine ⟨c1, b, _, _, rfl, rfl, hc, hb, (by rw [sizeLine_eq, List.length_append]; show _ + 1 + _ ≤ _; omega), fun r nr => ?_⟩
    rw [cut_take fb.1, cut_drop (by omega)] at *
    have hr' := (dlp_ne (pb.ne nr)).trans (upd_same (H := H11) (a := r) (o := .lst ((((nums ns).take ((at_.fmod (m : Int))).toNat) ++ [xx]) ++ (nums ns).drop ((at_.fmod (m : Int) + 1)).toNat)))
    have xr := xb.same (dsame p (same_new (o := .lst ((((nums ns).take ((at_.fmod (m : Int))).toNat) ++ [xx]) ++ (nums ns).drop ((at_.fmod (m : Int) + 1)).toNat)) nr))
    refine q _ _ (kb.trans (Keep.new nr)) (pb.new nr) ?_
    refine bado_lst hr' ?_ (it_mid xr (it_nums o.hp m24)) fun ns' e o' => ?_
    · rw [List.length_append, List.length_append, List.length_take, List.length_drop, List.length_map]
      show _ + 1 + _ ≤ _
      omega
    · have ln : ns'.length = m := by
        have l1 := congrArg List.length e
        rw [List.length_append, List.length_append, List.length_take, List.length_drop, List.length_map, List.length_map] at l1
        have l2 : ([xx] : List V).length = 1 := rfl
        omega
      have : xx ∈ nums ns' := by
        rw [← e]
        exact List.mem_append_left _ (List.mem_append_right _ (List.mem_singleton.mpr rfl))
      obtain ⟨z, hz, ez⟩ := List.mem_map.mp this
      have := o'.hp.2 z hz
      exact xo.2 z this.1 (by omega) ez.symm
theorem hp_snoc {i : Nat} {zs : List Int} (h : IsHp (i : Int) zs) : IsHp ((i + 1 : Nat) : Int) (zs ++ [(i : Int)]) := by
  refine ⟨List.nodup_append.mpr ⟨h.1, by simp, fun a ha b hb e => ?_⟩, fun z hz => ?_⟩
  · rw [List.mem_singleton.mp hb] at e
    have := h.2 a ha
    omega
  · rcases List.mem_append.mp hz with w | w
    · have := h.2 z w
      omega
    · rw [List.mem_singleton.mp w]
      omega
theorem hp_more {i j : Nat} {zs : List Int} (h : IsHp (i : Int) zs) (l : i ≤ j) : IsHp (j : Int) zs := ⟨h.1, fun z hz => by have := h.2 z hz; omega⟩
theorem keep_app {H1 H : Hp} {p D : Addr} {o : HO} (k : Keep p H1 H) (n : H1 D = none) : Keep p H1 (upd H D o) := fun b o' nb e => by
  rw [upd_ne (ne_of_none e n)]
  exact k b o' nb e
def spBadH : Sp := fun vs H Q _ => ∃ (p : Addr) (m : Nat), vs = [.ref p, .int (m : Int)] ∧ Pot H p ∧ m ≤ 24 ∧ ∀ (v : V) (H' : Hp), Keep p H H' → Pot H' p → BadHp m (dlp H' p) v → Q v H'
theorem scBadH : FnScope ["_law_pot_here", "_law_many", "_law_way", "_law_good", "_law_at", "_law_thing"] ["_law_pot_here", "_law_many"] (defScope tp24) := ⟨rfl, rfl, rfl, by decide +kernel, rfl, by decide +kernel, by decide +kernel⟩
theorem kn_bad_heap (h : At K mg "_law_bad_heap" tp24) (B : Bl mg) (kn__law_take : Kn P w K mg base 1 "_law_take" ["_law_pot_here", "_law_many"] spTake) : Kn P w K mg base 2 "_law_bad_heap" ["_law_pot_here", "_law_many"] spBadH := by
  refine kn_of h scBadH (fun _ _ _ _ _ _ us hl => match us, hl with | [_, _], _ => rfl) (fun vs H Q E h => ?_) (fun f cdv A outer s H vs Q E hr h => ?_)
  · obtain ⟨p, m, rfl, _⟩ := h
    rfl
  · obtain ⟨p, m, rfl, pt0, m24, q⟩ := h
    refine ⟨_, (pss_cons (ps_set (i := 2) scBadH.nd rfl (Or.inl rfl) (pe_kn kn__law_take hr (by decide) (by rfl) (pa_cons (pv 0) (pa_cons pe_int pa_nil))))
      (pss_cons (ps_if (pt_cmpR op_eq (pv 2) pe_int (nomark _)) (pss_one (ps_ret (pe_ix (kix_list K) (pe_lst (pa_cons pe_non (pa_cons pe_int (pa_cons pe_str (pa_cons pe_dnewK (pa_cons pe_bl (pa_cons (pe_tup pa_nil) (pa_cons (pe_tup (pa_cons pe_int pa_nil)) pa_nil)))))))) (pe_kn kn__law_take hr (by decide) (by rfl) (pa_cons (pv 0) (pa_cons pe_int pa_nil))) (fun _ _ => rfl)))) pss_nil)
      (pss_cons (ps_setLc (i := 3) (own := [("_law_thing", 5)]) (g := gName 5)  rfl scBadH.nd rfl rfl (sw_true rfl rfl rfl (by decide +kernel)) (pi_range1 (by rfl) B.range (pa_cons (pv 1) pa_nil)) (blkOk_by (own := [("_law_thing", 5)]) (N := ["_law_pot_here", "_law_many", "_law_way", "_law_good", "_law_at", "_law_thing"]) (sc := (defScope tp24)) (by decide +kernel)) (fun _ _ _ _ _ => pg_name (i := 5) scBadH.nd rfl (Or.inl rfl)) (fun _ _ _ _ _ => pts_one (pt_cmpR op_eq (pe_kn kn__law_take hr (by decide) (by rfl) (pa_cons (pv 0) (pa_cons pe_int pa_nil))) pe_int (nomark _))) (fun _ _ _ _ _ => (pv 5)))
      (pss_cons (ps_if (PW.pt (pw_and (pt_cmpR op_eq (pv 2) pe_int (nomark _)) (pw_and1 (pt_cmpR (kop_neD K hr.units) (pv 3) (pe_lst pa_nil) (nomark _))))) (pss_one (ps_ret (pe_op op_cat (pv 3) (pe_slice sl_list (pv 3) po_none (po_some pe_int))))) pss_nil)
      (pss_cons (ps_set (i := 4) scBadH.nd rfl (Or.inl rfl) (pe_kn kn__law_take hr (by decide) (by rfl) (pa_cons (pv 0) (pa_cons (pe_op op_add (pe_callB (kcall_len K) (by rfl) B.len (by decide +kernel) (pa_cons (pv 3) pa_nil)) pe_int) pa_nil))))
      (pss_one (ps_ret (pe_op op_cat (pe_op op_cat (pe_slice sl_list (pv 3) po_none (po_some (pv 4))) (pe_lst (pa_cons (pe_ix (kix_list K) (pe_lst (pa_cons (pv 1) (pa_cons (pe_un un_neg pe_int) (pa_cons pe_non (pa_cons pe_str (pa_cons pe_bl (pa_cons (pe_op op_pow pe_int pe_int) pa_nil))))))) (pe_kn kn__law_take hr (by decide) (by rfl) (pa_cons (pv 0) (pa_cons pe_int pa_nil))) (fun _ _ => rfl)) pa_nil))) (pe_slice sl_list (pv 3) (po_some (pv 4)) po_none))))))))), ?_⟩
    refine ⟨.ref p, rfl, p, _, rfl, by decide, by decide, pt0, fun way H1 w0 w1 k1 pt1 => ?_⟩
    refine ⟨.int way, rfl, rfl, _, rfl, ite2 (fun c => ?_) (fun c => ?_)⟩
    · intro d nd
      have kd : Keep p H (upd H1 d (.dK [])) := k1.trans (Keep.new nd)
      have pd := pt1.new (o := .dK []) nd
      have dp := pt1.ne nd
      have hd := upd_same (H := H1) (a := d) (o := .dK [])
      generalize upd H1 d (.dK []) = H2 at kd pd hd
      refine ⟨Nat.zero_le _, fun T nT => ?_⟩
      have Tp := pd.ne nT
      have sT := same_new (o := .tup []) nT
      have hT := upd_same (H := H2) (a := T) (o := .tup [])
      have pT := pd.new (o := .tup []) nT
      generalize upd H2 T (.tup []) = H3 at sT hT pT
      refine ⟨(by show 1 ≤ sizeLine; decide), fun T2 nT2 => ?_⟩
      have T2p := pT.ne nT2
      have sT2 := same_new (o := .tup [.int 0]) nT2
      have hT2 := upd_same (H := H3) (a := T2) (o := .tup [.int 0])
      have pT2 := pT.new (o := .tup [.int 0]) nT2
      generalize upd H3 T2 (.tup [.int 0]) = H6 at sT2 hT2 pT2
      refine ⟨(by show 7 ≤ sizeLine; decide), fun M nM => ?_⟩
      have Mp := pT2.ne nM
      have sM := fun o => same_new (o := o) nM
      refine ⟨.ref p, rfl, p, _, rfl, by decide, by decide, pT2.new nM, fun k H' k0 k1' kk ptk => ?_⟩
      have hM := kk _ _ Mp upd_same
      have hd' := (dlp_ne dp).trans <| kk _ _ dp (sM _ _ _ (sT2 _ _ (sT _ _ hd)))
      have hT' := (dlp_ne Tp).trans <| kk _ _ Tp (sM _ _ _ (sT2 _ _ hT))
      have hT2' := (dlp_ne T2p).trans <| kk _ _ T2p (sM _ _ _ hT2)
      obtain ⟨x, hx, mx⟩ := at_in (xs := [V.non, V.int 3, V.str "", V.ref d, V.bl true, V.ref T, V.ref T2]) k0 k1'
      refine ⟨M, _, k, x, rfl, rfl, SqL.of hM, hx, q x H' ((kd.trans (Keep.same ((sT.trans sT2).trans (sM _)))).trans kk) ptk ?_⟩
      simp only [List.mem_cons, List.not_mem_nil, or_false] at mx
      rcases mx with rfl | rfl | rfl | rfl | rfl | rfl | rfl
      · exact badh2_not (its_one .non fun _ _ e => nomatch e) fun _ _ e => nomatch e
      · exact badh2_not (its_one (.int (by decide)) fun _ _ e => nomatch e) fun _ _ e => nomatch e
      · exact badh2_not (its_one .strE fun _ _ e => nomatch e) fun _ _ e => nomatch e
      · have n : ∀ l' xs, V.ref d = .ref l' → dlp H' p l' ≠ some (.lst xs) := fun l' xs e h => by cases e; rw [hd'] at h; cases h
        exact badh2_not (its_one (.dE hd') n) n
      · exact badh2_not (its_one (.bl _) fun _ _ e => nomatch e) fun _ _ e => nomatch e
      · have n : ∀ l' xs, V.ref T = .ref l' → dlp H' p l' ≠ some (.lst xs) := fun l' xs e h => by cases e; rw [hT'] at h; cases h
        exact badh2_not (its_one (.tupE hT') n) n
      · have n : ∀ l' xs, V.ref T2 = .ref l' → dlp H' p l' ≠ some (.lst xs) := fun l' xs e h => by cases e; rw [hT2'] at h; cases h
        exact badh2_not (its_one (.tup0 hT2') n) n
    refine ⟨.int (m : Int), rfl, (m : Int), rfl, by omega, by omega, fun l hD => lc_range (n := m) (fun i H' => ∃ zs : List Int, H' l = some (.lst (nums zs)) ∧ IsHp (i : Int) zs ∧ Keep p H1 H' ∧ Pot H' p) ⟨[], upd_same, ⟨List.nodup_nil, fun z hz => nomatch hz⟩, Keep.new hD, pt1.new hD⟩ ?_ ?_⟩
    · rintro i H' hi ⟨zs, hl, hz, kz, pz⟩
      have lp : l ≠ p := pt1.ne hD
      refine ⟨rfl, ?_⟩
      refine ⟨.ref p, rfl, p, _, rfl, by decide, by decide, pz, fun dv H2 d0 d1 k2 p2 => ?_⟩
      have hl2 := k2 _ _ lp hl
      refine ⟨rfl, _, rfl, ite2 (fun c => ?_) (fun c => ?_)⟩
      · refine ⟨.int (0 + (i : Int)), rfl, nums zs, hl2, ?_, zs ++ [(i : Int)], ?_, hp_snoc hz, keep_app (kz.trans k2) hD, p2.off lp⟩
        · have := hz.len
          rw [List.length_map, sizeLine_eq]
          omega
        · rw [upd_same, Int.zero_add, nums_snoc]
      · exact ⟨zs, hl2, hp_more hz (by omega), kz.trans k2, p2⟩
    · rintro H2 ⟨ns, hl0, hz, kz, pz⟩
      have k02 := k1.trans kz
      have lp : l ≠ p := pt1.ne hD
      have nl := hz.len
      have q2 : ∀ (v : V) (H' : Hp), Keep p H2 H' → Pot H' p → BadHp m (dlp H' p) v → Q v H' := fun v H' k => q v H' (k02.trans k)
      replace q := q2
      refine ⟨.int way, rfl, rfl, _, rfl, ?_⟩
      refine ite2 (fun c1 => ?_) (fun c1 => ?_)
      · refine ⟨.ref l, rfl, Nat.zero_le _, fun e ne => ?_⟩
        have se := same_new (o := .lst []) ne
        have he := upd_same (H := H2) (a := e) (o := .lst [])
        have pe := pz.new (o := .lst []) ne
        generalize upd H2 e (.lst []) = H3 at se he pe
        refine ⟨dInts ns, dInts [], dp_ints (SqL.of (se _ _ hl0)), dp_ints (ns := []) (SqL.of he), shaped_ints _, shaped_ints _, _, rfl, ?_⟩
        rw [eqv_ints]
        by_cases cn : ns = []
        · rw [decide_eq_true cn]
          refine iteF ?_
          refine ⟨.ref p, rfl, .ref l, rfl, l, _, rfl, .inl (SqL.of (se _ _ hl0)), _, _, rfl, rfl, p, _, rfl, by rw [List.length_map]; omega, by rw [List.length_map]; exact Int.lt_of_le_of_lt (b := 25) (by omega) (by decide), pe, fun at_ Hs a0 a1 k2 pS => ?_⟩
          have kS : Keep p H2 Hs := (Keep.same se).trans k2
          refine ⟨.ref l, rfl, .int at_, rfl, at_, rfl, l, _, rfl, SqL.of (kS _ _ lp hl0), fun a na => ?_⟩
          have ka := kS.trans (Keep.new (o := .lst (cutV (nums ns) none (some at_))) na)
          have pa := pS.new (o := .lst (cutV (nums ns) none (some at_))) na
          have ap := pS.ne na
          have ha := upd_same (H := Hs) (a := a) (o := .lst (cutV (nums ns) none (some at_)))
          generalize upd Hs a (.lst (cutV (nums ns) none (some at_))) = Ha at ka pa ha
          refine ⟨.int (m : Int), rfl, 1, rfl, 10, 20, rfl, rfl, ⟨by decide, by decide, by decide⟩, (by show 6 ≤ sizeLine; decide), fun I nI => ?_⟩
          have sI := same_new (o := .lst [V.int (m : Int), V.int (-1), V.non, V.str "0", V.bl true, V.int (10 ^ (20 : Int).toNat)]) nI
          have hI := upd_same (H := Ha) (a := I) (o := .lst [V.int (m : Int), V.int (-1), V.non, V.str "0", V.bl true, V.int (10 ^ (20 : Int).toNat)])
          have kI := ka.trans (Keep.new (o := .lst [V.int (m : Int), V.int (-1), V.non, V.str "0", V.bl true, V.int (10 ^ (20 : Int).toNat)]) nI)
          have pI := pa.new (o := .lst [V.int (m : Int), V.int (-1), V.non, V.str "0", V.bl true, V.int (10 ^ (20 : Int).toNat)]) nI
          have Ip := pa.ne nI
          replace ha := sI _ _ ha
          generalize upd Ha I (.lst [V.int (m : Int), V.int (-1), V.non, V.str "0", V.bl true, V.int (10 ^ (20 : Int).toNat)]) = HI at sI hI kI pI ha
          refine ⟨.ref p, rfl, p, _, rfl, by decide, by decide, pI, fun k' Hx k0' k1'' kk' px => ?_⟩
          replace ha := kk' _ _ ap ha
          obtain ⟨xx, hy, my⟩ := at_in (xs := [V.int (m : Int), V.int (-1), V.non, V.str "0", V.bl true, V.int (10 ^ (20 : Int).toNat)]) k0' k1''
          have xo : It (dlp Hx p) xx ∧ ∀ z : Int, 0 ≤ z → z < (m : Int) → xx ≠ .int z := by
            simp only [List.mem_cons, List.not_mem_nil, or_false] at my
            rcases my with rfl | rfl | rfl | rfl | rfl | rfl
            · exact ⟨.int (by omega), fun z z0 z1 e => by have := V.int.inj e; omega⟩
            · exact ⟨.int (by omega), fun z z0 z1 e => by have := V.int.inj e; omega⟩
            · exact ⟨.non, fun z z0 z1 e => nomatch e⟩
            · exact ⟨.str0, fun z z0 z1 e => nomatch e⟩
            · exact ⟨.bl _, fun z z0 z1 e => nomatch e⟩
            · refine ⟨.int (by decide), fun z z0 z1 e => ?_⟩
              have := V.int.inj e
              have e2 : (10 : Int) ^ (20 : Int).toNat = 100000000000000000000 := by decide
              omega
          have kx := kI.trans kk'
          refine ⟨I, _, k', xx, rfl, rfl, SqL.of (kk' _ _ Ip hI), hy, ?_⟩
          refine ⟨(by show 1 ≤ sizeLine; decide), fun J nJ => ?_⟩
          have kJ := kx.trans (Keep.new (o := .lst [xx]) nJ)
          have xJ := xo.1.same (dsame p (same_new (o := .lst [xx]) nJ))
          have pJ := px.new (o := .lst [xx]) nJ
          have hJ := upd_same (H := Hx) (a := J) (o := .lst [xx])
          replace ha := same_new (o := .lst [xx]) nJ _ _ ha
          generalize upd Hx J (.lst [xx]) = H9 at kJ pJ hJ ha xJ
          have lc := cutV_length (nums ns) none (some at_)
          rw [List.length_map] at lc
          refine ⟨a, J, _, _, rfl, rfl, ha, hJ, (by rw [sizeLine_eq]; show _ + 1 ≤ _; omega), fun c1 nc => ?_⟩
          have kc := kJ.trans (Keep.new (o := .lst ((cutV (nums ns) none (some at_)) ++ [xx])) nc)
          have xc := xJ.same (dsame p (same_new (o := .lst ((cutV (nums ns) none (some at_)) ++ [xx])) nc))
          have pc := pJ.new (o := .lst ((cutV (nums ns) none (some at_)) ++ [xx])) nc
          have hc := upd_same (H := H9) (a := c1) (o := .lst ((cutV (nums ns) none (some at_)) ++ [xx]))
          generalize upd H9 c1 (.lst ((cutV (nums ns) none (some at_)) ++ [xx])) = H10 at kc pc hc xc
          refine ⟨.ref l, rfl, .int at_, rfl, at_, rfl, l, _, rfl, SqL.of (kc _ _ lp hl0), fun b nb => ?_⟩
          have kb := kc.trans (Keep.new (o := .lst (cutV (nums ns) (some at_) none)) nb)
          have xb := xc.same (dsame p (same_new (o := .lst (cutV (nums ns) (some at_) none)) nb))
          have pb := pc.new (o := .lst (cutV (nums ns) (some at_) none)) nb
          have hb := upd_same (H := H10) (a := b) (o := .lst (cutV (nums ns) (some at_) none))
          replace hc := same_new (o := .lst (cutV (nums ns) (some at_) none)) nb _ _ hc
          generalize upd H10 b (.lst (cutV (nums ns) (some at_) none)) = H11 at kb pb hb hc xb
          have lc2 := cutV_length (nums ns) (some at_) none
          rw [List.length_map] at lc2
          refine ⟨c1, b, _, _, rfl, rfl, hc, hb, (by rw [sizeLine_eq, List.length_append]; show _ + 1 + _ ≤ _; omega), fun r nr => ?_⟩
          rw [cut_take a0, cut_drop a0] at *
          have hr' := (dlp_ne (pb.ne nr)).trans (upd_same (H := H11) (a := r) (o := .lst ((((nums ns).take (at_).toNat) ++ [xx]) ++ (nums ns).drop (at_).toNat)))
          have xr := xb.same (dsame p (same_new (o := .lst ((((nums ns).take (at_).toNat) ++ [xx]) ++ (nums ns).drop (at_).toNat)) nr))
          refine q _ _ (kb.trans (Keep.new nr)) (pb.new nr) ?_
          refine badh2_lst hr' ?_ (it_mid xr (it_nums hz m24)) fun ns' e o' => ?_
          · rw [List.length_append, List.length_append, List.length_take, List.length_drop, List.length_map]
            show _ + 1 + _ ≤ _
            omega
          · have : xx ∈ nums ns' := by
              rw [← e]
              exact List.mem_append_left _ (List.mem_append_right _ (List.mem_singleton.mpr rfl))
            obtain ⟨z, hz, ez⟩ := List.mem_map.mp this
            have := o'.2 z hz
            exact xo.2 z this.1 this.2 ez.symm
        · rw [decide_eq_false cn]
          refine iteT ?_
          refine ⟨.ref l, rfl, .ref l, rfl, 1, rfl, l, _, rfl, SqL.of (se _ _ hl0), fun a na => ?_⟩
          rw [cut_take (by decide)]
          have sa := same_new (o := .lst ((nums ns).take (1 : Int).toNat)) na
          have ha := upd_same (H := H3) (a := a) (o := .lst ((nums ns).take (1 : Int).toNat))
          have pa := pe.new (o := .lst ((nums ns).take (1 : Int).toNat)) na
          generalize upd H3 a (.lst ((nums ns).take (1 : Int).toNat)) = H4 at sa ha pa
          have s24 := se.trans sa
          refine ⟨l, a, _, _, rfl, rfl, s24 _ _ hl0, ha, ?_, fun r nr => ?_⟩
          · rw [List.length_map, List.length_take, sizeLine_eq]
            omega
          refine q _ _ (Keep.same (s24.trans (same_new nr))) (pa.new nr) ?_
          have hr' := (dlp_ne (pa.ne nr)).trans (upd_same (H := H4) (a := r) (o := .lst (nums ns ++ (nums ns).take (1 : Int).toNat)))
          have it := it_nums (H := dlp (upd H4 r (.lst (nums ns ++ (nums ns).take (1 : Int).toNat))) p) hz m24
          refine badh2_lst hr' ?_ (fun x hx => ?_) fun ns' e o' => ?_
          · rw [List.length_append, List.length_map, List.length_take]
            omega
          · rcases List.mem_append.mp hx with w | w
            · exact it x w
            · exact it x (List.mem_of_mem_take w)
          · cases ns with
            | nil => exact cn rfl
            | cons z r =>
              have e2 : nums (z :: r ++ [z]) = nums ns' := by
                rw [← e]
                exact List.map_append
              have e3 := nums_inj e2
              have nd := o'.1
              rw [← e3] at nd
              exact (List.nodup_append.mp nd).2.2 z List.mem_cons_self z (List.mem_singleton.mpr rfl) rfl
      · refine ⟨.ref p, rfl, .ref l, rfl, l, _, rfl, .inl (SqL.of hl0), _, _, rfl, rfl, p, _, rfl, by rw [List.length_map]; omega, by rw [List.length_map]; exact Int.lt_of_le_of_lt (b := 25) (by omega) (by decide), pz, fun at_ Hs a0 a1 k2 pS => ?_⟩
        have kS : Keep p H2 Hs := k2
        refine ⟨.ref l, rfl, .int at_, rfl, at_, rfl, l, _, rfl, SqL.of (kS _ _ lp hl0), fun a na => ?_⟩
        have ka := kS.trans (Keep.new (o := .lst (cutV (nums ns) none (some at_))) na)
        have pa := pS.new (o := .lst (cutV (nums ns) none (some at_))) na
        have ap := pS.ne na
        have ha := upd_same (H := Hs) (a := a) (o := .lst (cutV (nums ns) none (some at_)))
        generalize upd Hs a (.lst (cutV (nums ns) none (some at_))) = Ha at ka pa ha
        refine ⟨.int (m : Int), rfl, 1, rfl, 10, 20, rfl, rfl, ⟨by decide, by decide, by decide⟩, (by show 6 ≤ sizeLine; decide), fun I nI => ?_⟩
        have sI := same_new (o := .lst [V.int (m : Int), V.int (-1), V.non, V.str "0", V.bl true, V.int (10 ^ (20 : Int).toNat)]) nI
        have hI := upd_same (H := Ha) (a := I) (o := .lst [V.int (m : Int), V.int (-1), V.non, V.str "0", V.bl true, V.int (10 ^ (20 : Int).toNat)])
        have kI := ka.trans (Keep.new (o := .lst [V.int (m : Int), V.int (-1), V.non, V.str "0", V.bl true, V.int (10 ^ (20 : Int).toNat)]) nI)
        have pI := pa.new (o := .lst [V.int (m : Int), V.int (-1), V.non, V.str "0", V.bl true, V.int (10 ^ (20 : Int).toNat)]) nI
        have Ip := pa.ne nI
        replace ha := sI _ _ ha
        generalize upd Ha I (.lst [V.int (m : Int), V.int (-1), V.non, V.str "0", V.bl true, V.int (10 ^ (20 : Int).toNat)]) = HI at sI hI kI pI ha
        refine ⟨.ref p, rfl, p, _, rfl, by decide, by decide, pI, fun k' Hx k0' k1'' kk' px => ?_⟩
        replace ha := kk' _ _ ap ha
        obtain ⟨xx, hy, my⟩ := at_in (xs := [V.int (m : Int), V.int (-1), V.non, V.str "0", V.bl true, V.int (10 ^ (20 : Int).toNat)]) k0' k1''
        have xo : It (dlp Hx p) xx ∧ ∀ z : Int, 0 ≤ z → z < (m : Int) → xx ≠ .int z := by
          simp only [List.mem_cons, List.not_mem_nil, or_false] at my
          rcases my with rfl | rfl | rfl | rfl | rfl | rfl
          · exact ⟨.int (by omega), fun z z0 z1 e => by have := V.int.inj e; omega⟩
          · exact ⟨.int (by omega), fun z z0 z1 e => by have := V.int.inj e; omega⟩
          · exact ⟨.non, fun z z0 z1 e => nomatch e⟩
          · exact ⟨.str0, fun z z0 z1 e => nomatch e⟩
          · exact ⟨.bl _, fun z z0 z1 e => nomatch e⟩
          · refine ⟨.int (by decide), fun z z0 z1 e => ?_⟩
            have := V.int.inj e
            have e2 : (10 : Int) ^ (20 : Int).toNat = 100000000000000000000 := by decide
            omega
        have kx := kI.trans kk'
        refine ⟨I, _, k', xx, rfl, rfl, SqL.of (kk' _ _ Ip hI), hy, ?_⟩
        refine ⟨(by show 1 ≤ sizeLine; decide), fun J nJ => ?_⟩
        have kJ := kx.trans (Keep.new (o := .lst [xx]) nJ)
        have xJ := xo.1.same (dsame p (same_new (o := .lst [xx]) nJ))
        have pJ := px.new (o := .lst [xx]) nJ
        have hJ := upd_same (H := Hx) (a := J) (o := .lst [xx])
        replace ha := same_new (o := .lst [xx]) nJ _ _ ha
        generalize upd Hx J (.lst [xx]) = H9 at kJ pJ hJ ha xJ
        have lc := cutV_length (nums ns) none (some at_)
        rw [List.length_map] at lc
        refine ⟨a, J, _, _, rfl, rfl, ha, hJ, (by rw [sizeLine_eq]; show _ + 1 ≤ _; omega), fun c1 nc => ?_⟩
        have kc := kJ.trans (Keep.new (o := .lst ((cutV (nums ns) none (some at_)) ++ [xx])) nc)
        have xc := xJ.same (dsame p (same_new (o := .lst ((cutV (nums ns) none (some at_)) ++ [xx])) nc))
        have pc := pJ.new (o := .lst ((cutV (nums ns) none (some at_)) ++ [xx])) nc
        have hc := upd_same (H := H9) (a := c1) (o := .lst ((cutV (nums ns) none (some at_)) ++ [xx]))
        generalize upd H9 c1 (.lst ((cutV (nums ns) none (some at_)) ++ [xx])) = H10 at kc pc hc xc
        refine ⟨.ref l, rfl, .int at_, rfl, at_, rfl, l, _, rfl, SqL.of (kc _ _ lp hl0), fun b nb => ?_⟩
        have kb := kc.trans (Keep.new (o := .lst (cutV (nums ns) (some at_) none)) nb)
        have xb := xc.same (dsame p (same_new (o := .lst (cutV (nums ns) (some at_) none)) nb))
        have pb := pc.new (o := .lst (cutV (nums ns) (some at_) none)) nb
        have hb := upd_same (H := H10) (a := b) (o := .lst (cutV (nums ns) (some at_) none))
        replace hc := same_new (o := .lst (cutV (nums ns) (some at_) none)) nb _ _ hc
        generalize upd H10 b (.lst (cutV (nums ns) (some at_) none)) = H11 at kb pb hb hc xb
        have lc2 := cutV_length (nums ns) (some at_) none
        rw [List.length_map] at lc2
        refine ⟨c1, b, _, _, rfl, rfl, hc, hb, (by rw [sizeLine_eq, List.length_append]; show _ + 1 + _ ≤ _; omega), fun r nr => ?_⟩
        rw [cut_take a0, cut_drop a0] at *
        have hr' := (dlp_ne (pb.ne nr)).trans (upd_same (H := H11) (a := r) (o := .lst ((((nums ns).take (at_).toNat) ++ [xx]) ++ (nums ns).drop (at_).toNat)))
        have xr := xb.same (dsame p (same_new (o := .lst ((((nums ns).take (at_).toNat) ++ [xx]) ++ (nums ns).drop (at_).toNat)) nr))
        refine q _ _ (kb.trans (Keep.new nr)) (pb.new nr) ?_
        refine badh2_lst hr' ?_ (it_mid xr (it_nums hz m24)) fun ns' e o' => ?_
        · rw [List.length_append, List.length_append, List.length_take, List.length_drop, List.length_map]
          show _ + 1 + _ ≤ _
          omega
        · have : xx ∈ nums ns' := by
            rw [← e]
            exact List.mem_append_left _ (List.mem_append_right _ (List.mem_singleton.mpr rfl))
          obtain ⟨z, hz, ez⟩ := List.mem_map.mp this
          have := o'.2 z hz
          exact xo.2 z this.1 this.2 ez.symm
end
end Nal

namespace Nal
open PySem PySem.Spec PyProof.Rows L2 LamX NdefX
theorem kcall_reprX {X : Cx} {k : Nat} (K : PySem.W.Frag) (S : SysIn K) (hgd : X.A.guards = some []) (hr : Room k X.A) (h : X.K = K := by rfl) : CallR X (.builtin "repr") rReprX := by
  subst h
  exact call_reprX S hgd hr
theorem tif_join {t : TT} {b e u : TS} {D : Ends} {σ : L2.St} {H : Hp} (Out : L2.St → Hp → Prop) (h1 : ∀ nx : L2.St → Hp → Prop, (∀ σ H, Out σ H → nx σ H) → tIfS t b e { D with nx := nx } σ H) (h2 : ∀ σ H, Out σ H → u D σ H) : tSeq (tIfS t b e) u D σ H := h1 (u D) h2
/-- data, its repr short -/
def Da (H : Hp) (v : V) : Prop := Ods H v ∧ ∃ d, Dx H v d ∧ Showx 2000 2 d
theorem Da.same {H H' : Hp} {v : V} (h : Da H v) (s : Same H H') : Da H' v := by
  obtain ⟨h1, d, h2, h3⟩ := h
  exact ⟨h1.same s, d, Dx.same s d _ h2, h3⟩
theorem BadO.same {H H' : Hp} {v : V} (h : BadO H v) (s : Same H H') : BadO H' v := ⟨Da.same h.1 s, fun m z => h.2 m (ordv_back s h.1.1 z)⟩
theorem BadHp.same {m : Nat} {H H' : Hp} {v : V} (h : BadHp m H v) (s : Same H H') : BadHp m H' v := ⟨Da.same h.1 s, fun z => h.2 (heapv_back s h.1.1 z)⟩
/-- a heap or what is none -/
def HV (c : Bool) (m : Nat) (xs : List Int) (H : Hp) (v : V) : Prop := match c with
  | true => BadHp m H v
  | false => ∃ a, v = .ref a ∧ H a = some (.lst (nums xs)) ∧ IsHp m xs
theorem HV.same {c : Bool} {m : Nat} {xs : List Int} {H H' : Hp} {v : V} (h : HV c m xs H v) (s : Same H H') : HV c m xs H' v := by
  cases c with
  | true => exact BadHp.same h s
  | false =>
    obtain ⟨a, e, ha, p⟩ := h
    exact ⟨a, e, s _ _ ha, p⟩
theorem HV.da {c : Bool} {m : Nat} {xs : List Int} {H : Hp} {v : V} (h : HV c m xs H v) (m24 : m ≤ 24) : Da H v := by
  cases c with
  | true => exact h.1
  | false =>
    obtain ⟨a, rfl, ha, p⟩ := h
    have := p.len
    exact its_lst ha (by rw [List.length_map]; omega) (it_nums p m24)
/-- an order or what is none -/
def OV (c : Bool) (ns : List Int) (H : Hp) (v : V) : Prop := match c with
  | true => BadO H v
  | false => ∃ a, v = .ref a ∧ H a = some (.lst (nums ns))
theorem OV.same {c : Bool} {ns : List Int} {H H' : Hp} {v : V} (h : OV c ns H v) (s : Same H H') : OV c ns H' v := by
  cases c with
  | true => exact BadO.same h s
  | false =>
    obtain ⟨a, e, ha⟩ := h
    exact ⟨a, e, s _ _ ha⟩
theorem OV.da {c : Bool} {m : Nat} {ns : List Int} {H : Hp} {v : V} (h : OV c ns H v) (o : IsOrd m ns) (m24 : m ≤ 24) : Da H v := by
  cases c with
  | true => exact h.1
  | false =>
    obtain ⟨a, rfl, ha⟩ := h
    have := o.len
    exact its_lst ha (by rw [List.length_map]; omega) (it_nums o.hp m24)
/-- what is due -/
def dueO (c0 c1 c2 : Bool) (ns xs ys : List Int) : Out := match c0 with
  | true => .noO
  | false => if (c1 || c2) = true then .noH else .told (later ns xs ys)
theorem later_is {c0 c1 c2 : Bool} {m : Nat} {ns xs ys : List Int} {H : Hp} {v a b : V} (o : IsOrd m ns) (m24 : m ≤ 24) (hv : OV c0 ns H v) (ha : HV c1 m xs H a) (hb : HV c2 m ys H b) : LaterIs H v a b (dueO c0 c1 c2 ns xs ys) := by
  have om : IsOrd ns.length ns := by rw [o.len]; exact o
  have e : ns.length = m := o.len
  cases c0 with
  | true => exact .noO hv.2
  | false =>
    obtain ⟨l, rfl, hl⟩ := hv
    cases c1 with
    | true => exact .noH hl om (by omega) (.inl (by rw [e]; exact ha.2))
    | false =>
      cases c2 with
      | true => exact .noH hl om (by omega) (.inr (by rw [e]; exact hb.2))
      | false =>
        obtain ⟨a', rfl, h1, p1⟩ := ha
        obtain ⟨b', rfl, h2, p2⟩ := hb
        exact .told hl om (by omega) h1 h2 (by rw [e]; exact p1) (by rw [e]; exact p2)
/-- the drawn heaps, by what is kept -/
theorem keep_dlp {H H' : Hp} {p a : Addr} {o : HO} (k : Keep p H H') (h : dlp H p a = some o) : dlp H' p a = some o := dkeep k _ _ h
/-- what is shown of it -/
def dOut : Out → PyData
  | .told t => .tuple [.str "told", .bool t]
  | .noO => .tuple [.str "refused", .bool true, .bool false, .bool false, .bool true]
  | .noH => .tuple [.str "refused", .bool false, .bool true, .bool false, .bool true]
theorem dp_out {K : PySem.W.Frag} {o : Out} {H : Hp} {x : Addr} (h : H x = some (.tup (outV o))) : Dp K H (.ref x) (dOut o) := by
  cases o with
  | told t => exact .tup (SqT.of h) (.cons (.str _) (.cons (.bl _) .nil))
  | noO => exact .tup (SqT.of h) (.cons (.str _) (.cons (.bl _) (.cons (.bl _) (.cons (.bl _) (.cons (.bl _) .nil)))))
  | noH => exact .tup (SqT.of h) (.cons (.str _) (.cons (.bl _) (.cons (.bl _) (.cons (.bl _) (.cons (.bl _) .nil)))))
theorem showy_out (o : Out) : Showy 200000 60 (dOut o) := by
  have st : Showy 10 58 (.str "told") := Showy.str (by decide +kernel) (by decide +kernel)
  have sr : Showy 10 58 (.str "refused") := Showy.str (by decide +kernel) (by decide +kernel)
  cases o with
  | told t => exact (Showy.tuple (ShowyAll.cons st (ShowyAll.cons (m := 0) (Showy.bool _) (ShowyAll.nil (n := 0))))).mono (by decide) (by decide)
  | noO => exact (Showy.tuple (ShowyAll.cons sr (ShowyAll.cons (m := 0) (Showy.bool _) (ShowyAll.cons (m := 0) (Showy.bool _) (ShowyAll.cons (m := 0) (Showy.bool _) (ShowyAll.cons (m := 0) (Showy.bool _) (ShowyAll.nil (n := 0)))))))).mono (by decide) (by decide)
  | noH => exact (Showy.tuple (ShowyAll.cons sr (ShowyAll.cons (m := 0) (Showy.bool _) (ShowyAll.cons (m := 0) (Showy.bool _) (ShowyAll.cons (m := 0) (Showy.bool _) (ShowyAll.cons (m := 0) (Showy.bool _) (ShowyAll.nil (n := 0)))))))).mono (by decide) (by decide)
theorem set_if_join {i : Nat} {v : V} {t : TT} {b e u : TS} {D : Ends} {σ : L2.St} {H : Hp} (Out : L2.St → Hp → Prop) (h1 : ∀ nx : L2.St → Hp → Prop, (∀ σ H, Out σ H → nx σ H) → tIfS t b e { D with nx := nx } (σ.set i (some v)) H) (h2 : ∀ σ H, Out σ H → u D σ H) : gName i v σ H (tSeq (tIfS t b e) u D) := h1 (u D) h2
theorem rep_all (n : Nat) : (List.replicate n true).all id = true := by
  rw [List.all_eq_true]
  intro b hb
  exact List.eq_of_mem_replicate hb
theorem later_self (ns xs : List Int) : later ns xs xs = false := by
  unfold later
  rw [List.find?_eq_none.mpr fun z _ => by simp]
theorem Pot.same' {H H' : Hp} {p : Addr} (h : Pot H p) (s : Same H H') : Pot H' p := h.at (q := p) fun o e => s _ _ e
section
variable {P : Program} {w : World} {K : PySem.W.Frag} {mg : Str → Option Value} {base : Heap}
def spRight : Sp := fun vs H Q _ => ∃ p : Addr, vs = [.ref p] ∧ Pot H p ∧ ∀ H' : Hp, Keep p H H' → Q (.bl true) H'
theorem scRight : FnScope ["_law_pot_here", "_law_is_bad", "_law_many", "_law_line", "_law_first", "_law_far", "_law_second", "_law_due_here", "_law_kept", "_law_k", "_law_thing"] ["_law_pot_here"] (defScope tp25) := ⟨rfl, rfl, rfl, by decide +kernel, rfl, by decide +kernel, by decide +kernel⟩
theorem kn_right (h : At K mg "_law_right" tp25) (B : Bl mg) (hsys : SysIn K) (kn__law_take : Kn P w K mg base 1 "_law_take" ["_law_pot_here", "_law_many"] spTake) (kn__law_shuffled : Kn P w K mg base 2 "_law_shuffled" ["_law_pot_here", "_law_some"] (spShuffled K))
    (kn__law_due : Kn P w K mg base 1 "_law_due" ["_law_line", "_law_first", "_law_second"] spDueL) (kn__law_told : Kn P w K mg base 5 "_law_told" ["_law_line", "_law_first", "_law_second"] spTold) (kn__law_bad_order : Kn P w K mg base 2 "_law_bad_order" ["_law_pot_here", "_law_line"] spBadO) (kn__law_bad_heap : Kn P w K mg base 2 "_law_bad_heap" ["_law_pot_here", "_law_many"] spBadH)
    (kn_is_later : Kn P w K mg base 4 "is_later" ["order", "one", "other"] spIsLater) (knk_is_later : KnK P w K mg base 4 "is_later" ["order", "one", "other"] ["other", "one", "order"] (fun _ ws => ws.reverse) spIsLater) :
    KnG P w K mg base 6 "_law_right" ["_law_pot_here"] spRight := by
  refine kng_of h scRight (fun _ _ _ _ _ _ us hl => match us, hl with | [_], _ => rfl) (fun vs H Q E h => ?_) (fun f cdv A outer s H vs Q E hgd hr h => ?_)
  · obtain ⟨p, rfl, _⟩ := h
    rfl
  · obtain ⟨p, rfl, hp, q⟩ := h
    refine ⟨_, (pss_cons (ps_setLc (i := 1) (own := [("_law_k", 9)]) (g := gName 9) (tt := tYes)  rfl scRight.nd rfl rfl (sw_true rfl rfl rfl (by decide +kernel)) (pi_range1 (by rfl) B.range (pa_cons pe_int pa_nil)) (blkOk_by (own := [("_law_k", 9)]) (N := ["_law_pot_here", "_law_is_bad", "_law_many", "_law_line", "_law_first", "_law_far", "_law_second", "_law_due_here", "_law_kept", "_law_k", "_law_thing"]) (sc := (defScope tp25)) (by decide +kernel)) (fun _ _ _ _ _ => pg_name (i := 9) scRight.nd rfl (Or.inl rfl)) (fun _ _ _ _ _ => pts_nil) (fun _ _ _ _ _ => (pe_cmpR op_eq (pe_kn kn__law_take hr (by decide) (by rfl) (pa_cons (pv 0) (pa_cons pe_int pa_nil))) pe_int (nomark _))))
      (pss_cons (ps_set (i := 2) scRight.nd rfl (Or.inl rfl) (pe_ix (kix_list K) (pe_lst (pa_cons (pe_kn kn__law_take hr (by decide) (by rfl) (pa_cons (pv 0) (pa_cons pe_int pa_nil))) (pa_cons (pe_kn kn__law_take hr (by decide) (by rfl) (pa_cons (pv 0) (pa_cons pe_int pa_nil))) pa_nil))) (pe_kn kn__law_take hr (by decide) (by rfl) (pa_cons (pv 0) (pa_cons pe_int pa_nil))) (fun _ _ => rfl)))
      (pss_cons (ps_set (i := 3) scRight.nd rfl (Or.inl rfl) (pe_kn kn__law_shuffled hr (by decide) (by rfl) (pa_cons (pv 0) (pa_cons (pe_listRg rfl (by rfl) B.t_list (prg_1 (by rfl) B.range (pv 2))) pa_nil))))
      (pss_cons (ps_set (i := 4) scRight.nd rfl (Or.inr rfl) (pe_lc (own := [("_law_thing", 10)]) (g := gName 10)  rfl scRight.nd (pi_range1 (by rfl) B.range (pa_cons (pv 2) pa_nil)) (blkOk_by (own := [("_law_thing", 10)]) (N := ["_law_pot_here", "_law_is_bad", "_law_many", "_law_line", "_law_first", "_law_far", "_law_second", "_law_due_here", "_law_kept", "_law_k", "_law_thing"]) (sc := (defScope tp25)) (by decide +kernel)) (fun _ _ _ _ _ => pg_name (i := 10) scRight.nd rfl (Or.inl rfl)) (fun _ _ _ _ _ => pts_one (pt_cmpR op_eq (pe_kn kn__law_take hr (by decide) (by rfl) (pa_cons (pv 0) (pa_cons pe_int pa_nil))) pe_int (nomark _))) (fun _ _ _ _ _ => (pv 10))))
      (pss_cons (ps_set (i := 5) scRight.nd rfl (Or.inr rfl) (pe_ix (kix_list K) (pe_lst (pa_cons pe_int (pa_cons pe_int (pa_cons (pe_op op_add (pv 2) pe_int) pa_nil)))) (pe_kn kn__law_take hr (by decide) (by rfl) (pa_cons (pv 0) (pa_cons pe_int pa_nil))) (fun _ _ => rfl)))
      (pss_cons (ps_setLc (i := 6) (own := [("_law_thing", 10)]) (g := gName 10)  rfl scRight.nd rfl rfl (sw_true rfl rfl rfl (by decide +kernel)) (pi_range1 (by rfl) B.range (pa_cons (pv 2) pa_nil)) (blkOk_by (own := [("_law_thing", 10)]) (N := ["_law_pot_here", "_law_is_bad", "_law_many", "_law_line", "_law_first", "_law_far", "_law_second", "_law_due_here", "_law_kept", "_law_k", "_law_thing"]) (sc := (defScope tp25)) (by decide +kernel)) (fun _ _ _ _ _ => pg_name (i := 10) scRight.nd rfl (Or.inl rfl)) (fun _ _ _ _ _ => pts_one (pt_cmpR op_ne (pe_cmpR (kop_in K) (pv 10) (pv 4) (by rfl)) (pe_cmpR op_eq (pe_kn kn__law_take hr (by decide) (by rfl) (pa_cons (pv 0) (pa_cons (pv 5) pa_nil))) pe_int (nomark _)) (nomark _))) (fun _ _ _ _ _ => (pv 10)))
      (pss_cons (ps_asg (pe_tup (pa_cons (pe_kn kn__law_shuffled hr (by decide) (by rfl) (pa_cons (pv 0) (pa_cons (pv 4) pa_nil))) (pa_cons (pe_kn kn__law_shuffled hr (by decide) (by rfl) (pa_cons (pv 0) (pa_cons (pv 6) pa_nil))) pa_nil))) (kpg_tup (n := 2) K (by rfl) (pgs_cons (pg_name (i := 4) scRight.nd rfl (Or.inr rfl)) (pgs_cons (pg_name (i := 6) scRight.nd rfl (Or.inl rfl)) pgs_nil))))
      (pss_cons (ps_set (i := 7) scRight.nd rfl (Or.inl rfl) (pe_tup (pa_cons pe_str (pa_cons (pe_kn kn__law_due hr (by decide) (by rfl) (pa_cons (pv 3) (pa_cons (pv 4) (pa_cons (pv 6) pa_nil)))) pa_nil))))
      (pss_cons (ps_if (pt_val (pe_ix (kix_list K) (pv 1) pe_int (fun _ _ => rfl))) (pss_one (ps_set (i := 6) scRight.nd rfl (Or.inl rfl) (pe_kn kn__law_bad_heap hr (by decide) (by rfl) (pa_cons (pv 0) (pa_cons (pv 2) pa_nil))))) pss_nil)
      (pss_cons (ps_if (pt_val (pe_ix (kix_list K) (pv 1) pe_int (fun _ _ => rfl))) (pss_one (ps_set (i := 4) scRight.nd rfl (Or.inr rfl) (pe_kn kn__law_bad_heap hr (by decide) (by rfl) (pa_cons (pv 0) (pa_cons (pv 2) pa_nil))))) pss_nil)
      (pss_cons (ps_if (PW.pt (pw_or (pt_val (pe_ix (kix_list K) (pv 1) pe_int (fun _ _ => rfl))) (pw_or1 (pt_val (pe_ix (kix_list K) (pv 1) pe_int (fun _ _ => rfl)))))) (pss_one (ps_set (i := 7) scRight.nd rfl (Or.inl rfl) (pe_tup (pa_cons pe_str (pa_cons pe_bl (pa_cons pe_bl (pa_cons pe_bl (pa_cons pe_bl pa_nil)))))))) pss_nil)
      (pss_cons (ps_if (pt_val (pe_ix (kix_list K) (pv 1) pe_int (fun _ _ => rfl))) (pss_cons (ps_set (i := 3) scRight.nd rfl (Or.inl rfl) (pe_kn kn__law_bad_order hr (by decide) (by rfl) (pa_cons (pv 0) (pa_cons (pv 3) pa_nil))))
      (pss_one (ps_set (i := 7) scRight.nd rfl (Or.inl rfl) (pe_tup (pa_cons pe_str (pa_cons pe_bl (pa_cons pe_bl (pa_cons pe_bl (pa_cons pe_bl pa_nil))))))))) pss_nil)
      (pss_cons (ps_set (i := 8) scRight.nd rfl (Or.inl rfl) (pe_callB (kcall_reprX K hsys hgd hr) (by rfl) B.repr (by decide +kernel) (pa_cons (pe_lst (pa_cons (pv 3) (pa_cons (pv 4) (pa_cons (pv 6) pa_nil)))) pa_nil)))
      (pss_cons (ps_if (PW.pt (pw_or (pt_cmpR op_ne (pe_callB (call_repr hgd hr) (by rfl) B.repr (by decide +kernel) (pa_cons (pe_kn kn__law_told hr (by decide) (by rfl) (pa_cons (pv 3) (pa_cons (pv 4) (pa_cons (pv 6) pa_nil)))) pa_nil)) (pe_callB (call_repr hgd hr) (by rfl) B.repr (by decide +kernel) (pa_cons (pv 7) pa_nil)) (nomark _)) (pw_or1 (pt_cmpR op_ne (pe_callB (kcall_reprX K hsys hgd hr) (by rfl) B.repr (by decide +kernel) (pa_cons (pe_lst (pa_cons (pv 3) (pa_cons (pv 4) (pa_cons (pv 6) pa_nil)))) pa_nil)) (pv 8) (nomark _))))) (pss_one (ps_ret pe_bl)) pss_nil)
      (pss_cons (ps_if (PW.pt (pw_and (pt_cmpR op_eq (pe_ix (kix_tup K) (pv 7) pe_int (fun _ _ => rfl)) pe_str (nomark _)) (pw_and1 (pt_cmpR op_ne (pe_callB call_reprB (by rfl) B.repr (by decide +kernel) (pa_cons (pe_knK knk_is_later hr (by decide) (by rfl) (pk_cons (pv 6) (pk_cons (pv 4) (pk_cons (pv 3) pk_nil)))) pa_nil)) (pe_callB call_reprB (by rfl) B.repr (by decide +kernel) (pa_cons (pe_ix (kix_tup K) (pv 7) pe_int (fun _ _ => rfl)) pa_nil)) (nomark _))))) (pss_one (ps_ret pe_bl)) pss_nil)
      (pss_one (ps_ret (pe_or (pe_cmpR op_ne (pe_ix (kix_tup K) (pv 7) pe_int (fun _ _ => rfl)) pe_str (nomark _)) (pe_one (pe_cmpR op_isBl (pe_kn kn_is_later hr (by decide) (by rfl) (pa_cons (pv 3) (pa_cons (pv 4) (pa_cons (pe_callTy (kcall_list K) (by rfl) B.t_list (by decide +kernel) (pa_cons (pv 4) pa_nil)) pa_nil)))) pe_bl (nomark _))))))))))))))))))))), ?_⟩
    -- which are bad
    refine ⟨3, rfl, by decide, by decide, fun ib nib => lc_range (n := 3) (fun i H' => ∃ bs : List Bool, H' ib = some (.lst (bs.map V.bl)) ∧ bs.length = i ∧ Keep p H H' ∧ Pot H' p) ⟨[], upd_same, rfl, Keep.new nib, hp.new nib⟩ ?_ ?_⟩
    · rintro i H' hi ⟨bs, hl, lb, kz, pz⟩
      refine ⟨rfl, ?_⟩
      refine ⟨.ref p, rfl, p, _, rfl, by decide, by decide, pz, fun dv H2 d0 d1 k2 p2 => ⟨rfl, bs.map V.bl, k2 _ _ (hp.ne nib) hl, ?_, bs ++ [decide (V.int dv = V.int 0)], ?_, ?_, keep_app (kz.trans k2) nib, p2.off (hp.ne nib)⟩⟩
      · rw [List.length_map, sizeLine_eq]
        omega
      · rw [upd_same, List.map_append]
        rfl
      · rw [List.length_append, lb]
        rfl
    rintro H1 ⟨bs, hib, lb, k1, p1⟩
    have ibp : ib ≠ p := hp.ne nib
    obtain ⟨c0, c1, c2, rfl⟩ : ∃ c0 c1 c2 : Bool, bs = [c0, c1, c2] := match bs, lb with | [a, b, c], _ => ⟨a, b, c, rfl⟩
    clear lb
    -- how many
    refine ⟨.ref p, rfl, p, _, rfl, by decide, by decide, p1, fun m1 H2 u0 u1 k2 p2 => ?_⟩
    refine ⟨.ref p, rfl, p, _, rfl, by decide, by decide, p2, fun m2 H3 v0 v1 k3 p3 => ?_⟩
    refine ⟨(by show 2 ≤ sizeLine; decide), fun M nM => ?_⟩
    have Mp := p3.ne nM
    refine ⟨.ref p, rfl, p, _, rfl, by decide, by decide, p3.new nM, fun k H4 k0 k1' k4 p4 => ?_⟩
    have hM := k4 _ _ Mp upd_same
    have k14 : Keep p H H4 := (((k1.trans k2).trans k3).trans (Keep.new nM)).trans k4
    have hib4 := k4 _ _ ibp (same_new nM _ _ (k3 _ _ ibp (k2 _ _ ibp hib)))
    obtain ⟨x, hx, mx⟩ := at_in (xs := [V.int m1, V.int m2]) k0 k1'
    obtain ⟨m, rfl, m24⟩ : ∃ m : Nat, x = .int (m : Int) ∧ m ≤ 24 := by
      simp only [List.mem_cons, List.not_mem_nil, or_false] at mx
      rcases mx with rfl | rfl
      · exact ⟨m1.toNat, by congr 1; omega, by omega⟩
      · exact ⟨m2.toNat, by congr 1; omega, by omega⟩
    refine ⟨M, _, k, _, rfl, rfl, SqL.of hM, hx, ?_⟩
    clear hx mx hM
    -- the line
    refine ⟨.ref p, rfl, .int (m : Int), rfl, (m : Int), rfl, RgOk.of_le (by omega) (by omega) (by omega) (by omega), fun e ne => ?_⟩
    rw [rg_nums]
    have se := same_new (o := .lst (nums (upTo m))) ne
    have pe := p4.new (o := .lst (nums (upTo m))) ne
    refine ⟨p, e, nums (upTo m), rfl, p4.ne ne, SqL.of upd_same, by rw [List.length_map, List.length_map, List.length_range]; omega, pe, fun ys l H5 pm nr k5 p5 hl5 => ?_⟩
    obtain ⟨ns, rfl, po⟩ := perm_nums pm
    have od : IsOrd m ns := ⟨(range_hp m).perm po, by rw [po.length_eq, List.length_map, List.length_range]⟩
    have lp : l ≠ p := pe.ne nr
    have k05 : Keep p H H5 := (k14.trans (Keep.same se)).trans k5
    have hib5 := k5 _ _ ibp (se _ _ hib4)
    -- the first
    refine ⟨.int (m : Int), rfl, (m : Int), rfl, by omega, by omega, fun l1 hD1 => lc_range (n := m) (fun i H' => ∃ zs : List Int, H' l1 = some (.lst (nums zs)) ∧ IsHp (i : Int) zs ∧ Keep p H5 H' ∧ Pot H' p) ⟨[], upd_same, ⟨List.nodup_nil, fun z hz => nomatch hz⟩, Keep.new hD1, p5.new hD1⟩ ?_ ?_⟩
    · rintro i H' hi ⟨zs, hl, hz, kz, pz⟩
      have lp1 : l1 ≠ p := p5.ne hD1
      refine ⟨rfl, ?_⟩
      refine ⟨.ref p, rfl, p, _, rfl, by decide, by decide, pz, fun dv H2 d0 d1 k2 p2 => ?_⟩
      have hl2 := k2 _ _ lp1 hl
      refine ⟨rfl, _, rfl, ite2 (fun c => ?_) (fun c => ?_)⟩
      · refine ⟨.int (0 + (i : Int)), rfl, nums zs, hl2, ?_, zs ++ [(i : Int)], ?_, hp_snoc hz, keep_app (kz.trans k2) hD1, p2.off lp1⟩
        · have := hz.len
          rw [List.length_map, sizeLine_eq]
          omega
        · rw [upd_same, Int.zero_add, nums_snoc]
      · exact ⟨zs, hl2, hp_more hz (by omega), kz.trans k2, p2⟩
    rintro H6 ⟨xs, hx1, hpx, k6, p6⟩
    have lp1 : l1 ≠ p := p5.ne hD1
    have k06 := k05.trans k6
    have hib6 := k6 _ _ ibp hib5
    have hl6 := k6 _ _ lp hl5
    -- how far
    refine ⟨.int (m : Int), rfl, _, _, rfl, rfl, (by show 3 ≤ sizeLine; decide), fun M2 nM2 => ?_⟩
    have Mp2 := p6.ne nM2
    have sM2 := same_new (o := .lst [V.int 2, .int 8, .int ((m : Int) + 1)]) nM2
    refine ⟨.ref p, rfl, p, _, rfl, by decide, by decide, p6.new nM2, fun k' H7 k0' k1'' k7 p7 => ?_⟩
    have hM2 := k7 _ _ Mp2 upd_same
    obtain ⟨x2, hx2, mx2⟩ := at_in (xs := [V.int 2, .int 8, .int ((m : Int) + 1)]) k0' k1''
    obtain ⟨fr, rfl, f0, f1⟩ : ∃ fr : Int, x2 = .int fr ∧ 0 < fr ∧ fr < 10 ^ 31 := by
      simp only [List.mem_cons, List.not_mem_nil, or_false] at mx2
      rcases mx2 with rfl | rfl | rfl
      · exact ⟨_, rfl, by decide, by decide⟩
      · exact ⟨_, rfl, by decide, by decide⟩
      · exact ⟨_, rfl, by omega, Int.lt_of_le_of_lt (b := 25) (by omega) (by decide)⟩
    have k07 : Keep p H H7 := (k06.trans (Keep.same sM2)).trans k7
    have hib7 := k7 _ _ ibp (sM2 _ _ hib6)
    have hl7 := k7 _ _ lp (sM2 _ _ hl6)
    have hx7 := k7 _ _ lp1 (sM2 _ _ hx1)
    refine ⟨M2, _, k', _, rfl, rfl, SqL.of hM2, hx2, ?_⟩
    clear hx2 mx2 hM2
    -- the second
    refine ⟨.int (m : Int), rfl, (m : Int), rfl, by omega, by omega, fun l2 hD2 => lc_range (n := m) (fun i H' => ∃ zs : List Int, H' l2 = some (.lst (nums zs)) ∧ IsHp (i : Int) zs ∧ Keep p H7 H' ∧ Pot H' p) ⟨[], upd_same, ⟨List.nodup_nil, fun z hz => nomatch hz⟩, Keep.new hD2, p7.new hD2⟩ ?_ ?_⟩
    · rintro i H' hi ⟨zs, hl, hz, kz, pz⟩
      have lp2 : l2 ≠ p := p7.ne hD2
      refine ⟨rfl, ?_⟩
      refine ⟨.int (0 + (i : Int)), rfl, .ref l1, rfl, l1, _, rfl, .inl (SqL.of (kz _ _ lp1 hx7)), rfl, flat_nums _, ?_⟩
      refine ⟨.ref p, rfl, .int fr, rfl, p, _, rfl, f0, f1, pz, fun dv H2 d0 d1 k2 p2 => ?_⟩
      have hl2 := k2 _ _ lp2 hl
      refine ⟨rfl, rfl, _, rfl, ite2 (fun c => ?_) (fun c => ?_)⟩
      · refine ⟨.int (0 + (i : Int)), rfl, nums zs, hl2, ?_, zs ++ [(i : Int)], ?_, hp_snoc hz, keep_app (kz.trans k2) hD2, p2.off lp2⟩
        · have := hz.len
          rw [List.length_map, sizeLine_eq]
          omega
        · rw [upd_same, Int.zero_add, nums_snoc]
      · exact ⟨zs, hl2, hp_more hz (by omega), kz.trans k2, p2⟩
    rintro H8 ⟨ys, hy2, hpy, k8, p8⟩
    have lp2 : l2 ≠ p := p7.ne hD2
    have k08 := k07.trans k8
    have hib8 := k8 _ _ ibp hib7
    have hl8 := k8 _ _ lp hl7
    have hx8 := k8 _ _ lp1 hx7
    have xl := hpx.len
    have yl := hpy.len
    refine ⟨.ref p, rfl, .ref l1, rfl, p, l1, nums xs, rfl, lp1, SqL.of hx8, by rw [List.length_map]; omega, p8, fun vs1 a1 H9 pm1 n1 k9 p9 ha9 => ?_⟩
    obtain ⟨xs', rfl, pox⟩ := perm_nums pm1
    have ap1 : a1 ≠ p := p8.ne n1
    refine ⟨.ref p, rfl, .ref l2, rfl, p, l2, nums ys, rfl, lp2, SqL.of (k9 _ _ lp2 hy2), by rw [List.length_map]; omega, p9, fun vs2 a2 H10 pm2 n2 k10 p10 ha10 => ?_⟩
    obtain ⟨ys', rfl, poy⟩ := perm_nums pm2
    have ap2 : a2 ≠ p := p9.ne n2
    refine ⟨(by show 2 ≤ sizeLine; decide), fun T nT => ?_⟩
    refine ⟨T, _, rfl, SqT.of upd_same, rfl, _, _, rfl, _, _, rfl, rfl, ?_⟩
    have sT := same_new (o := .tup [V.ref a1, V.ref a2]) nT
    have hl10 := sT _ _ (k10 _ _ lp (k9 _ _ lp hl8))
    have ha11 := sT _ _ (k10 _ _ ap1 ha9)
    have hb11 := sT _ _ ha10
    refine ⟨.ref l, rfl, .ref a1, rfl, .ref a2, rfl, l, a1, a2, ns, xs', ys', rfl, hl10, ha11, hb11, fun H12 s12 => ⟨(by show 2 ≤ sizeLine; decide), fun t nt => ?_⟩⟩
    have st := s12.trans (same_new (o := .tup [V.str "told", .bl (later ns xs' ys')]) nt)
    have tp : t ≠ p := ((p10.new (o := .tup [V.ref a1, V.ref a2]) nT).same' s12).ne nt
    have kW : Keep p H (upd H12 t (.tup [V.str "told", .bl (later ns xs' ys')])) := (((k08.trans k9).trans k10).trans (Keep.same sT)).trans (Keep.same st)
    have pW : Pot (upd H12 t (.tup [V.str "told", .bl (later ns xs' ys')])) p := ((p10.new (o := .tup [V.ref a1, V.ref a2]) nT).same' s12).new nt
    have hib := (dlp_ne (H := upd H12 t (.tup [V.str "told", .bl (later ns xs' ys')])) ibp).trans (st _ _ (sT _ _ (k10 _ _ ibp (k9 _ _ ibp hib8))))
    have hl := (dlp_ne (H := upd H12 t (.tup [V.str "told", .bl (later ns xs' ys')])) lp).trans (st _ _ hl10)
    have ha := (dlp_ne (H := upd H12 t (.tup [V.str "told", .bl (later ns xs' ys')])) ap1).trans (st _ _ ha11)
    have hb := (dlp_ne (H := upd H12 t (.tup [V.str "told", .bl (later ns xs' ys')])) ap2).trans (st _ _ hb11)
    have ht := (dlp_ne (H := upd H12 t (.tup [V.str "told", .bl (later ns xs' ys')])) tp).trans upd_same
    have hpx' := hpx.perm pox
    have hpy' := hpy.perm poy
    generalize upd H12 t (.tup [V.str "told", .bl (later ns xs' ys')]) = W at kW pW hib hl ha hb ht
    dsimp only
    refine set_if_join (fun σ H' => ∃ b : V, σ = [some (.ref p), some (.ref ib), some (.int (m : Int)), some (.ref l), some (.ref a1), some (.int fr), some b, some (.ref t), none, none, none] ∧ Keep p H H' ∧ Pot H' p ∧ Same (dlp W p) (dlp H' p) ∧ HV c2 m ys' (dlp H' p) b) ?_ ?_
    · intro nx rest
      refine ⟨.ref ib, rfl, ib, _, 2, .bl c2, rfl, rfl, SqL.of (dsub _ _ hib), atI_nat (j := 2) rfl, c2, rfl, ?_⟩
      cases c2 with
      | true => exact iteT ⟨.ref p, rfl, .int (m : Int), rfl, p, m, rfl, pW, m24, fun v H' kk pp bad => rest _ _ ⟨v, rfl, kW.trans kk, pp, dkeep kk, bad⟩⟩
      | false => exact iteF (rest _ _ ⟨_, rfl, kW, pW, fun _ _ e => e, a2, rfl, hb, hpy'⟩)
    rintro σ1 W1 ⟨b, rfl, kW1, pW1, d1, vb⟩
    refine tif_join (fun σ H' => ∃ a b : V, σ = [some (.ref p), some (.ref ib), some (.int (m : Int)), some (.ref l), some a, some (.int fr), some b, some (.ref t), none, none, none] ∧ Keep p H H' ∧ Pot H' p ∧ Same (dlp W p) (dlp H' p) ∧ HV c1 m xs' (dlp H' p) a ∧ HV c2 m ys' (dlp H' p) b) ?_ ?_
    · intro nx rest
      refine ⟨.ref ib, rfl, ib, _, 1, .bl c1, rfl, rfl, SqL.of (dsub _ _ (d1 _ _ hib)), atI_nat (j := 1) rfl, c1, rfl, ?_⟩
      cases c1 with
      | true => exact iteT ⟨.ref p, rfl, .int (m : Int), rfl, p, m, rfl, pW1, m24, fun v H' kk pp bad => rest _ _ ⟨v, b, rfl, kW1.trans kk, pp, d1.trans (dkeep kk), bad, vb.same (dkeep kk)⟩⟩
      | false => exact iteF (rest _ _ ⟨_, b, rfl, kW1, pW1, d1, ⟨a1, rfl, d1 _ _ ha, hpx'⟩, vb⟩)
    clear vb
    rintro σ2 W2 ⟨a, b, rfl, kW2, pW2, d2, va, vb⟩
    refine tif_join (fun σ H' => ∃ (t : Addr), σ = [some (.ref p), some (.ref ib), some (.int (m : Int)), some (.ref l), some a, some (.int fr), some b, some (.ref t), none, none, none] ∧ Keep p H H' ∧ Pot H' p ∧ Same (dlp W p) (dlp H' p) ∧ HV c1 m xs' (dlp H' p) a ∧ HV c2 m ys' (dlp H' p) b ∧ dlp H' p t = some (.tup (outV (dueO false c1 c2 ns xs' ys')))) ?_ ?_
    · intro nx rest
      have body : ∀ (t' : Addr), W2 t' = none → (c1 || c2) = true → nx [some (.ref p), some (.ref ib), some (.int (m : Int)), some (.ref l), some a, some (.int fr), some b, some (.ref t'), none, none, none] (upd W2 t' (.tup [.str "refused", .bl false, .bl true, .bl false, .bl true])) := fun t' nt' cc => by
        have s' := same_new (o := .tup [V.str "refused", .bl false, .bl true, .bl false, .bl true]) nt'
        refine rest _ _ ⟨t', rfl, kW2.trans (Keep.same s'), pW2.new nt', d2.trans (dsame p s'), va.same (dsame p s'), vb.same (dsame p s'), ?_⟩
        rw [dlp_ne (pW2.ne nt'), upd_same]
        unfold dueO
        rw [if_pos cc]
        rfl
      refine ⟨.ref ib, rfl, ib, _, 1, .bl c1, rfl, rfl, SqL.of (dsub _ _ (d2 _ _ hib)), atI_nat (j := 1) rfl, c1, rfl, ?_⟩
      cases c1 with
      | true => exact iteT (iteT ⟨(by show 5 ≤ sizeLine; decide), fun t' nt' => body t' nt' rfl⟩)
      | false =>
        refine iteF ⟨.ref ib, rfl, ib, _, 2, .bl c2, rfl, rfl, SqL.of (dsub _ _ (d2 _ _ hib)), atI_nat (j := 2) rfl, c2, rfl, ?_⟩
        cases c2 with
        | true => exact iteT ⟨(by show 5 ≤ sizeLine; decide), fun t' nt' => body t' nt' rfl⟩
        | false => exact iteF (rest _ _ ⟨t, rfl, kW2, pW2, d2, va, vb, d2 _ _ ht⟩)
    clear va vb
    rintro σ3 W3 ⟨t3, rfl, kW3, pW3, d3, va, vb, ht3⟩
    refine tif_join (fun σ H' => ∃ (v : V) (t : Addr), σ = [some (.ref p), some (.ref ib), some (.int (m : Int)), some v, some a, some (.int fr), some b, some (.ref t), none, none, none] ∧ Keep p H H' ∧ Pot H' p ∧ OV c0 ns (dlp H' p) v ∧ HV c1 m xs' (dlp H' p) a ∧ HV c2 m ys' (dlp H' p) b ∧ dlp H' p t = some (.tup (outV (dueO c0 c1 c2 ns xs' ys')))) ?_ ?_
    · intro nx rest
      refine ⟨.ref ib, rfl, ib, _, 0, .bl c0, rfl, rfl, SqL.of (dsub _ _ (d3 _ _ hib)), atI_nat (j := 0) rfl, c0, rfl, ?_⟩
      cases c0 with
      | true =>
        refine iteT ⟨.ref p, rfl, .ref l, rfl, p, l, ns, m, rfl, lp, pW3, dsub _ _ (d3 _ _ hl), od, m24, fun v H' kk pp bad => ⟨(by show 5 ≤ sizeLine; decide), fun t' nt' => ?_⟩⟩
        have s' := same_new (o := .tup [V.str "refused", .bl true, .bl false, .bl false, .bl true]) nt'
        refine rest _ _ ⟨v, t', rfl, (kW3.trans kk).trans (Keep.same s'), pp.new nt', BadO.same bad (dsame p s'), va.same ((dkeep kk).trans (dsame p s')), vb.same ((dkeep kk).trans (dsame p s')), ?_⟩
        rw [dlp_ne (pp.ne nt'), upd_same]
        rfl
      | false => exact iteF (rest _ _ ⟨.ref l, t3, rfl, kW3, pW3, ⟨l, rfl, d3 _ _ hl⟩, va, vb, ht3⟩)
    clear va vb ht3
    rintro σ4 W4 ⟨v, t4, rfl, kW4, pW4, vv, va, vb, ht4⟩
    have la := later_is od m24 vv va vb
    have dv := vv.da od m24
    have da := va.da m24
    have db := vb.da m24
    clear vv va vb
    generalize dueO c0 c1 c2 ns xs' ys' = o at la ht4
    replace la := la.same dsub dv.1 da.1 db.1
    replace dv := Da.same dv dsub
    replace da := Da.same da dsub
    replace db := Da.same db dsub
    replace ht4 := dsub _ _ ht4
    obtain ⟨ov, d1', x1, y1⟩ := dv
    obtain ⟨oa, d2', x2, y2⟩ := da
    obtain ⟨ob, d3', x3, y3⟩ := db
    have shw : Showx 200000 60 (.list [d1', d2', d3']) := (Showx.list (ShowxAll.cons y1 (ShowxAll.cons y2 (ShowxAll.cons y3 (ShowxAll.nil (n := 0)))))).mono (by decide) (by decide)
    have dxl : ∀ {G : Hp} {R : Addr}, Same W4 G → G R = some (.lst [v, a, b]) → Dx G (.ref R) (.list [d1', d2', d3']) := fun s hR => .lst hR (.cons (Dx.same s _ _ x1) (.cons (Dx.same s _ _ x2) (.cons (Dx.same s _ _ x3) .nil)))
    refine ⟨v, rfl, a, rfl, b, rfl, (by show 3 ≤ sizeLine; decide), fun R nR => ?_⟩
    have sR := same_new (o := .lst [v, a, b]) nR
    refine ⟨R, _, rfl, dxl sR upd_same, shw, ?_⟩
    refine ⟨v, rfl, a, rfl, b, rfl, v, a, b, o, rfl, ov.same sR, oa.same sR, ob.same sR, la.same sR ov oa ob, fun r W5 nr s5 hr5 => ?_⟩
    have s45 := sR.trans s5
    have dpo : ∀ {G : Hp} {x : Addr}, G x = some (.tup (outV o)) → Dp K G (.ref x) (dOut o) := fun h => dp_out h
    refine ⟨r, dOut o, rfl, dpo hr5, showy_out o, .ref t4, rfl, t4, dOut o, rfl, dpo (s45 _ _ ht4), showy_out o, rfl, _, rfl, ?_⟩
    rw [ne_false]
    refine iteF ⟨v, rfl, a, rfl, b, rfl, (by show 3 ≤ sizeLine; decide), fun R2 nR2 => ?_⟩
    have sR2 := same_new (o := .lst [v, a, b]) nR2
    have s46 := s45.trans sR2
    refine ⟨R2, _, rfl, dxl s46 upd_same, shw, _, rfl, rfl, _, rfl, ?_⟩
    rw [ne_false]
    refine iteF ?_
    have ht6 := s46 _ _ ht4
    have la6 := la.same s46 ov oa ob
    have k46 := kW4.trans (Keep.same s46)
    generalize upd W5 R2 (.lst [v, a, b]) = W6 at ht6 la6 k46
    cases o with
    | noO =>
      refine ⟨.ref t4, rfl, t4, _, 0, _, rfl, rfl, SqT.of ht6, atI_nat (j := 0) rfl, rfl, _, rfl, ?_⟩
      refine iteF (iteF ?_)
      exact ⟨.ref t4, rfl, t4, _, 0, _, rfl, rfl, SqT.of ht6, atI_nat (j := 0) rfl, rfl, _, rfl, iteT (q _ k46)⟩
    | noH =>
      refine ⟨.ref t4, rfl, t4, _, 0, _, rfl, rfl, SqT.of ht6, atI_nat (j := 0) rfl, rfl, _, rfl, ?_⟩
      refine iteF (iteF ?_)
      exact ⟨.ref t4, rfl, t4, _, 0, _, rfl, rfl, SqT.of ht6, atI_nat (j := 0) rfl, rfl, _, rfl, iteT (q _ k46)⟩
    | told z =>
      refine ⟨.ref t4, rfl, t4, _, 0, _, rfl, rfl, SqT.of ht6, atI_nat (j := 0) rfl, rfl, _, rfl, ?_⟩
      refine iteT ?_
      refine ⟨b, rfl, a, rfl, v, rfl, rfl, rfl, ?_⟩
      refine ⟨v, a, b, z, rfl, la6, fun W7 s7 => ?_⟩
      refine ⟨z, rfl, .ref t4, rfl, t4, _, 1, _, rfl, rfl, SqT.of (s7 _ _ ht6), atI_nat (j := 1) rfl, z, rfl, rfl, _, rfl, ?_⟩
      rw [ne_false]
      refine iteF ?_
      refine ⟨.ref t4, rfl, t4, _, 0, _, rfl, rfl, SqT.of (s7 _ _ ht6), atI_nat (j := 0) rfl, rfl, _, rfl, iteF ?_⟩
      cases la6 with
      | @told l' a' b' ns' xs2 ys2 hl' o' m' ha' hb' px' py' =>
        refine ⟨.ref l', rfl, .ref a', rfl, .ref a', rfl, a', _, rfl, .inl (SqL.of (s7 _ _ ha')), fun l2 nl2 => ?_⟩
        have s8 := s7.trans (same_new (o := .lst (nums xs2)) nl2)
        refine ⟨.ref l', .ref a', .ref l2, later ns' xs2 xs2, rfl, .told (s8 _ _ hl') o' m' (s8 _ _ ha') upd_same px' px', fun W8 s9 => ⟨_, false, rfl, rfl, ?_⟩⟩
        rw [later_self]
        exact q _ (k46.trans (Keep.same (s8.trans s9)))
def spLaw (K : PySem.W.Frag) : Sp := fun vs H Q _ => ∃ (a : Addr) (sc : List Int), vs = [.ref a] ∧ SqL K H a (nums sc) ∧ ∀ H', Q (.bl true) H'
theorem scLaw : FnScope ["_law_script", "_law_k"] ["_law_script"] (defScope tp26) := ⟨rfl, rfl, rfl, by decide +kernel, rfl, by decide +kernel, by decide +kernel⟩
theorem ok_law {f : Addr} {fd : FuncData} (F : Fun K "law" "law" tp26 f fd) (B : Bl mg)
    (kn__law_pot : Kn P w K mg base 1 "_law_pot" ["_law_script", "_law_k"] (spPot K)) (kn__law_right : KnG P w K mg base 6 "_law_right" ["_law_pot_here"] spRight) :
    FnG P w K mg base CX0 7 f fd ["_law_script"] (spLaw K) := by
  refine okG F scLaw (fun vs H Q E h => ?_) (fun cdv A outer s H vs Q E hgd hr h => ?_)
  · obtain ⟨a, sc, rfl, _⟩ := h
    rfl
  · obtain ⟨a, sc, rfl, hS, q⟩ := h
    refine ⟨_, (pss_one (ps_ret (pe_callB (cr_all rfl) (by rfl) B.all (by decide +kernel) (pa_cons (pe_lc (own := [("_law_k", 1)]) (g := gName 1) (tt := tYes)  rfl scLaw.nd (pi_range1 (by rfl) B.range (pa_cons (pe_callB (call_max2 rfl) (by rfl) B.max (by decide +kernel) (pa_cons pe_int (pa_cons (pe_callB (call_min2 rfl) (by rfl) B.min (by decide +kernel) (pa_cons (pe_callB (kcall_len K) (by rfl) B.len (by decide +kernel) (pa_cons (pv 0) pa_nil)) (pa_cons pe_int pa_nil))) pa_nil))) pa_nil)) (blkOk_by (own := [("_law_k", 1)]) (N := ["_law_script", "_law_k"]) (sc := (defScope tp26)) (by decide +kernel)) (fun _ _ _ _ _ => pg_name (i := 1) scLaw.nd rfl (Or.inl rfl)) (fun _ _ _ _ _ => pts_nil) (fun _ _ _ _ _ => (pe_kng kn__law_right hgd hr (by decide) (by rfl) (pa_cons (pe_kn kn__law_pot hr (by decide) (by rfl) (pa_cons (pv 0) (pa_cons (pv 1) pa_nil))) pa_nil)))) pa_nil)))), ?_⟩
    refine ⟨.ref a, rfl, a, _, rfl, .inl hS, _, 4, rfl, 1, _, rfl, ?_⟩
    generalize hv : (if (if 4 < ((nums sc).length : Int) then (4 : Int) else ((nums sc).length : Int)) > 1 then (if 4 < ((nums sc).length : Int) then (4 : Int) else ((nums sc).length : Int)) else 1) = v
    have v0 : 0 ≤ v ∧ v ≤ 4 := by
      rw [← hv]
      split <;> split <;> omega
    refine ⟨v, rfl, by omega, by omega, fun D hD => lc_range (n := v.toNat) (fun i H' => H' D = some (.lst ((List.replicate i true).map V.bl)) ∧ Same H H') ⟨upd_same, same_new hD⟩ ?_ ?_⟩
    · rintro i H0 hi ⟨hD0, x0⟩
      have hS0 := x0.seq hS
      refine ⟨rfl, ?_⟩
      refine ⟨.ref a, rfl, .int (0 + (i : Int)), rfl, a, sc, i, by rw [Int.zero_add]; rfl, by omega, hS0, fun p H1 np s1 p1 => ?_⟩
      have Dp : D ≠ p := fun z => by
        rw [← z, hD0] at np
        cases np
      refine ⟨p, rfl, p1, fun H2 kk => ?_⟩
      have hD2 : H2 D = some (.lst ((List.replicate i true).map V.bl)) := kk _ _ Dp (s1 _ _ hD0)
      refine ⟨_, hD2, ?_, ?_, ?_⟩
      · rw [List.length_map, List.length_replicate, sizeLine_eq]
        omega
      · rw [upd_same, List.replicate_succ', List.map_append]
        rfl
      · intro b o hb
        rw [upd_ne (ne_of_none hb hD)]
        have h0 := x0 b o hb
        exact kk b o (ne_of_none h0 np) (s1 _ _ h0)
    · rintro H1 ⟨hD1, _⟩
      refine ⟨D, _, rfl, SqL.of hD1, ?_⟩
      rw [rep_all]
      exact q H1
end
end Nal

namespace Nal
open PySem PySem.Spec PyProof.Rows L2 LamX NdefX
theorem assemble {l : PySem.W.OpenLaw} {w : World} {K : PySem.W.Frag} {mg : Str → Option Value} {fa : Addr} {h : Heap} {k_g24 : Tok}
    (hfa : mg "law" = some (.ref fa)) (B : Bl mg) (B2 : Bl2 mg)
    (g24 : mg "MOST_THINGS" = some (.int 24 k_g24))
    (a_is_whole : At K mg "is_whole" tp8) (a_is_heap : At K mg "is_heap" tp11) (a_rising_heap : At K mg "rising_heap" tp12) (a_check_order : At K mg "check_order" tp14) (a_is_later : At K mg "is_later" tp16) (a__law_pot : At K mg "_law_pot" tp18) (a__law_take : At K mg "_law_take" tp19) (a__law_shuffled : At K mg "_law_shuffled" tp20) (a__law_due : At K mg "_law_due" tp21) (a__law_told : At K mg "_law_told" tp22) (a__law_bad_order : At K mg "_law_bad_order" tp23) (a__law_bad_heap : At K mg "_law_bad_heap" tp24) (a__law_right : At K mg "_law_right" tp25) (a_law : At K mg "law" tp26)
    {C_NoOrder C_NoHeap C_YardError C_NoText C_NotLeast C_NoYard : Addr} (bl_ValueError : mg "ValueError" = none) (gc_NoOrder : mg "NoOrder" = some (.ref C_NoOrder)) (gc_NoHeap : mg "NoHeap" = some (.ref C_NoHeap)) (gc_YardError : mg "YardError" = some (.ref C_YardError)) (gc_NoText : mg "NoText" = some (.ref C_NoText)) (gc_NotLeast : mg "NotLeast" = some (.ref C_NotLeast)) (gc_NoYard : mg "NoYard" = some (.ref C_NoYard)) (eo_NoOrder : ExO K mg "NoOrder" C_NoOrder) (eo_NoHeap : ExO K mg "NoHeap" C_NoHeap) (xm_NoOrder : PySem.W.exmOne K (.ref C_NoOrder) (.ref C_YardError) = some true) (xm_NoHeap : PySem.W.exmOne K (.ref C_NoHeap) (.ref C_YardError) = some true) (ki_NoOrder_NoOrder : PySem.W.kitOne K (.ref C_NoOrder) (.ref C_NoOrder) = some true) (ki_NoOrder_NoHeap : PySem.W.kitOne K (.ref C_NoOrder) (.ref C_NoHeap) = some false) (ki_NoHeap_NoOrder : PySem.W.kitOne K (.ref C_NoHeap) (.ref C_NoOrder) = some false) (ki_NoHeap_NoHeap : PySem.W.kitOne K (.ref C_NoHeap) (.ref C_NoHeap) = some true) (kb_NoOrder_ValueError : PySem.W.kitOne K (.ref C_NoOrder) (.type "ValueError") = some true) (kb_NoHeap_ValueError : PySem.W.kitOne K (.ref C_NoHeap) (.type "ValueError") = some true) (ka_NoOrder_0 : PySem.W.kitAny K (.ref C_NoOrder) [.ref C_NoText, .ref C_NotLeast, .ref C_NoYard] = some false) (ka_NoHeap_1 : PySem.W.kitAny K (.ref C_NoHeap) [.ref C_NoText, .ref C_NotLeast, .ref C_NoYard] = some false)
    (hsys : (K.lookup sysModules).isSome = true) : KnownAt l w K 7 63 "_law_script" mg fa h := by
  obtain ⟨f, fd, F, gf⟩ := a_law.ex
  have ef : f = fa := by
    have e := gf.symm.trans hfa
    cases e
    rfl
  subst ef
  refine ⟨fd, [], spLaw K, (fun p hp => nomatch hp), (fun p hp => nomatch hp), (fun p hp => nomatch hp), ?_, fun H a ns _ hT hS => ?_, fun base kb gb tb => ?_⟩
  · obtain ⟨oc', od', kV', doc', pm', an', cdv', ct', osl', rfl, _, _⟩ := F.ex
    exact fun s v => .of_eq rfl
  · exact ⟨a, ns, rfl, hS, fun _ => rfl⟩
  · have n_is_whole : Kn l.prog w K mg base 1 "is_whole" ["number", "least", "most"] spWhole := kn_whole a_is_whole B
    have n_is_heap := kn_is_heap a_is_heap B g24 n_is_whole
    have n_rising := kn_rising a_rising_heap B n_is_heap
    have k_pot : Kn l.prog w K mg base 1 "_law_pot" ["_law_script", "_law_k"] (spPot K) := kn_pot a__law_pot B
    have k_take : Kn l.prog w K mg base 1 "_law_take" ["_law_pot_here", "_law_many"] spTake := kn_take a__law_take B
    have k_shuf := kn_shuffled a__law_shuffled B k_take
    have n_wa : Kn l.prog w K mg base 1 "is_whole" ["number", "least", "most"] spWholeA := kn_wholeA a_is_whole B
    have n_ha := kn_is_heapA a_is_heap B g24 n_wa
    have n_co := kn_check_order a_check_order B n_is_heap
    have x_co := knx_check_order a_check_order B eo_NoOrder n_ha
    have x_ri := knx_rising a_rising_heap B eo_NoHeap n_ha
    have n_il := knk_is_later a_is_later B B2 n_co n_rising
    have x_il := knx_is_later a_is_later B B2 eo_NoOrder x_co x_ri
    have k_du : Kn l.prog w K mg base 1 "_law_due" ["_law_line", "_law_first", "_law_second"] spDueL := kn_dueL a__law_due B
    have k_to := kn_told a__law_told B bl_ValueError gc_YardError gc_NoOrder gc_NoHeap gc_NoText gc_NotLeast gc_NoYard ⟨xm_NoOrder, eo_NoOrder.c, ki_NoOrder_NoOrder, ki_NoOrder_NoHeap, kb_NoOrder_ValueError, ka_NoOrder_0⟩ ⟨xm_NoHeap, eo_NoHeap.c, ki_NoHeap_NoOrder, ki_NoHeap_NoHeap, kb_NoHeap_ValueError, ka_NoHeap_1⟩ x_il
    have k_bo := kn_bad_order a__law_bad_order B k_take
    have k_bh := kn_bad_heap a__law_bad_heap B k_take
    have k_ri := kn_right a__law_right B hsys k_take k_shuf k_du k_to k_bo k_bh n_il.kn n_il
    exact ok_law F B k_pot k_ri
end Nal

namespace Nal
open PySem PySem.Spec PyProof.Rows L2 LamX NdefX
set_option maxHeartbeats 0 in
theorem hKnown {w : World} {mg : Str → Option Value} {f : Addr} {h : Heap} {K : PySem.W.Frag} (KX : K.In h) (G : h.Ns mainGlobals mg) (hmg : mg "law" = some (.ref f)) (c : SaysN hFa hFn hTf hEx h K) : KnownAt PySem.Challenge.rw_noaslong_k65_which_heap_is_later w K 7 63 "_law_script" mg f h := by
  have B : Bl mg := ⟨(He.free_ok KX G (c.f 0 _ rfl)), (He.free_ok KX G (c.f 1 _ rfl)), (He.free_ok KX G (c.f 2 _ rfl)), (He.free_ok KX G (c.f 3 _ rfl)), (He.free_ok KX G (c.f 4 _ rfl)), (He.free_ok KX G (c.f 5 _ rfl)), (He.free_ok KX G (c.f 6 _ rfl)), (He.free_ok KX G (c.f 7 _ rfl)), (He.free_ok KX G (c.f 8 _ rfl)), (He.free_ok KX G (c.f 9 _ rfl)), (He.free_ok KX G (c.f 10 _ rfl)), (He.free_ok KX G (c.f 11 _ rfl)), (He.free_ok KX G (c.f 12 _ rfl)), (He.free_ok KX G (c.f 13 _ rfl)), (He.free_ok KX G (c.f 14 _ rfl)), (He.free_ok KX G (c.f 15 _ rfl))⟩
  have B2 : Bl2 mg := ⟨(He.free_ok KX G (c.f 16 _ rfl)), (He.free_ok KX G (c.f 17 _ rfl)), (He.free_ok KX G (c.f 18 _ rfl)), (He.free_ok KX G (c.f 19 _ rfl))⟩
  obtain ⟨_, g24⟩ := He.int_ok KX G (c.f 20 _ rfl)
  exact assemble hmg B B2
    g24
    (c.at KX G 0 21 rfl rfl) (c.at KX G 1 22 rfl rfl) (c.at KX G 2 23 rfl rfl) (c.at KX G 3 24 rfl rfl) (c.at KX G 4 25 rfl rfl) (c.at KX G 5 26 rfl rfl) (c.at KX G 6 27 rfl rfl) (c.at KX G 7 28 rfl rfl) (c.at KX G 8 29 rfl rfl) (c.at KX G 9 30 rfl rfl) (c.at KX G 10 31 rfl rfl) (c.at KX G 11 32 rfl rfl) (c.at KX G 12 33 rfl rfl) (c.at KX G 13 34 rfl rfl)
    (He.free_ok KX G (c.f 35 _ rfl)) (He.glo_ok KX G (c.f 36 _ rfl)) (He.glo_ok KX G (c.f 37 _ rfl)) (He.glo_ok KX G (c.f 38 _ rfl)) (He.glo_ok KX G (c.f 39 _ rfl)) (He.glo_ok KX G (c.f 40 _ rfl)) (He.glo_ok KX G (c.f 41 _ rfl)) ⟨(He.glo_ok KX G (c.f 36 _ rfl)), (of_decide_eq_true (c.x 0 _ rfl)), (of_decide_eq_true (c.x 1 _ rfl)), (of_decide_eq_true (c.x 2 _ rfl)), ⟨(He.eqO_ok (c.x 3 _ rfl)), (He.eqO_ok (c.x 4 _ rfl)), (of_decide_eq_true (c.x 5 _ rfl)), (of_decide_eq_true (c.x 6 _ rfl)), (He.eqO_ok (c.x 7 _ rfl)), (He.eqO_ok (c.x 8 _ rfl)), (of_decide_eq_true (c.x 9 _ rfl)), (of_decide_eq_true (c.x 10 _ rfl))⟩⟩ ⟨(He.glo_ok KX G (c.f 37 _ rfl)), (of_decide_eq_true (c.x 11 _ rfl)), (of_decide_eq_true (c.x 12 _ rfl)), (of_decide_eq_true (c.x 13 _ rfl)), ⟨(He.eqO_ok (c.x 14 _ rfl)), (He.eqO_ok (c.x 15 _ rfl)), (of_decide_eq_true (c.x 16 _ rfl)), (of_decide_eq_true (c.x 17 _ rfl)), (He.eqO_ok (c.x 18 _ rfl)), (He.eqO_ok (c.x 8 _ rfl)), (of_decide_eq_true (c.x 9 _ rfl)), (of_decide_eq_true (c.x 19 _ rfl))⟩⟩ (of_decide_eq_true (c.x 20 _ rfl)) (of_decide_eq_true (c.x 21 _ rfl)) (of_decide_eq_true (c.x 22 _ rfl)) (of_decide_eq_true (c.x 23 _ rfl)) (of_decide_eq_true (c.x 24 _ rfl)) (of_decide_eq_true (c.x 25 _ rfl)) (of_decide_eq_true (c.x 26 _ rfl)) (of_decide_eq_true (c.x 27 _ rfl)) (of_decide_eq_true (c.x 28 _ rfl)) (of_decide_eq_true (c.x 29 _ rfl))
    (of_decide_eq_true (c.x 30 _ rfl))
end Nal
open PySem PySem.W PySem.Calls PyProof.Rows
set_option maxHeartbeats 0 in
theorem PySem.Challenge.cw_noaslong_k65_which_heap_is_later_holds : PySem.Challenge.rw_noaslong_k65_which_heap_is_later.Holds := by
  w_on; o_law
  refine HandSHeadRun.head_any (r := OpenLaw.row PySem.Challenge.rw_noaslong_k65_which_heap_is_later) (q := view (OpenLaw.row PySem.Challenge.rw_noaslong_k65_which_heap_is_later).prog [26]) (H := Nal.hHk) (ob := Nal.hOb) (M := 16000) (loose := Nal.hLo) (d := HandSHeadRun.topDef (OpenLaw.row PySem.Challenge.rw_noaslong_k65_which_heap_is_later).prog 26) (kwd := []) Nal.hOb_eq
    (by kernel_rfl) (fun s => by kernel_rfl) Nal.hRun (by kernel_rfl) (by kernel_rfl) (by kernel_rfl) (by rfl) (by first | assumption | decide +kernel) (by decide +kernel) ⟨rfl, rfl, rfl, rfl, rfl, by decide +kernel⟩ ?hw ?hc
  case hw => w_witness2
  case hc =>
    refine Nal.walkGE (l := PySem.Challenge.rw_noaslong_k65_which_heap_is_later) (n := 63) (k := 7) (x := "_law_script") rfl (by decide) (by kernel_rfl) ⟨rfl, by decide, by decide⟩ ?F
    intro w mg fa h Y G hmg0
    obtain ⟨K, KX, c⟩ := Y
    have hmg : mg ("law" : PySem.Str) = some (.ref fa) := by
      have e : (HandSHeadRun.topDef (OpenLaw.row PySem.Challenge.rw_noaslong_k65_which_heap_is_later).prog 26).name = ("law" : PySem.Str) := by kernel_rfl
      rw [← e]
      exact hmg0
    exact ⟨K, KX, Nal.hKnown KX G hmg c⟩

