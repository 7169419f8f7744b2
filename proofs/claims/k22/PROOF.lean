import PyProof.Rows.All
import Wide.All
import OpenK.AllK
import Wide.FinOn
import HandS.ForMost
import HandS.ForExc
import HandS.EndTab
import HandS.Nested
import KE.KNestM
import PyProof.ReprRoads
import PyProof.ReprBulk
import PyProof.ReprText
import HandS.Conv
import HandS.Style
import HandS.Zip
import HandS.IsInst
import HandS.WideBits
import HandS.SetFor
import HandS.Strs
import KE.GoesEnum
import PySem.Challenge.RW_noaslong_k22_whole_seats_by_the_least
set_option Elab.async false
set_option linter.all false
set_option maxRecDepth 100000
set_option maxHeartbeats 4000000
/-! Defs whose promise leans on it that no repr is under way around them (repr of a list looks down the stack): the promise FnG, its body, its call, the law's end. -/
namespace Nal
open PySem PySem.Spec PyProof.Rows L2 LamX
/-- as FnOk, where no guard stands on the stack -/
structure FnG (P : Program) (w : World) (K : PySem.W.Frag) (mg : Str → Option Value) (base : Heap) (CX : CXT)
    (k : Nat) (f : Addr) (fd : FuncData) (ps : List Str) (sp : Sp) : Prop where
  len : ∀ vs H Q E, sp vs H Q E → vs.length = ps.length
  go : ∀ (A : Around) (outer : List Env) (s : Shared) (H : Hp) (args : Args) (us : List Value) (vs : List V) (Q : VK) (E : XK),
    A.guards = some [] → Room k A → Env0 P w K mg base A outer s H → BindsTo s fd args (ps.zip us) → Vals vs us →
    sp vs H Q E → codeAny (model P w) A (.call (.ref f) args) (CR CX outer P w H s Q E) s
section
variable {P : Program} {w : World} {K : PySem.W.Frag} {mg : Str → Option Value} {base : Heap}
/-- a def by its body, the guards told -/
theorem okG {x qual : Str} {st : Stmt} {f : Addr} {fd : FuncData} {N ps : List Str} {k : Nat} {sp : Sp}
    (F : Fun K x qual st f fd) (S : FnScope N ps (defScope st)) (len : ∀ vs H Q E, sp vs H Q E → vs.length = ps.length)
    (hbody : ∀ (cdv : Value) (A : Around) (outer : List Env) (s : Shared) (H : Hp) (vs : List V) (Q : VK) (E : XK), A.guards = some [] →
      Room k (A.deeper (envOfC qual (defScope st) s.heap.objs.size f cdv)) → sp vs H Q E →
      ∃ t, PSs (cxOf CX0 P w K mg base N qual (defScope st) f cdv A outer s H E).nox (defBody st) t ∧
        t { nx := fun _ H' => Q .non H', rt := Q } (start N vs) H) :
    FnG P w K mg base CX0 (k + 1) f fd ps sp := by
  obtain ⟨oc, od, kV, doc, pm, an, cdv, ct, osl, rfl, lk, hcd⟩ := F.ex
  refine ⟨len, fun A outer s H args us vs Q E hgd hr e0 hb r hsp => ?_⟩
  refine run_ofS lk hcd S hr e0 hb r (len _ _ _ _ hsp) fun hr' => ?_
  obtain ⟨t, h, q⟩ := hbody cdv A outer s H vs Q E hgd hr' hsp
  exact ⟨t, h.nox, q⟩
end
/-- a plain promise is one here, too -/
theorem FnG.of {P : Program} {w : World} {K : PySem.W.Frag} {mg : Str → Option Value} {base : Heap} {CX : CXT} {k : Nat} {f : Addr}
    {fd : FuncData} {ps : List Str} {sp : Sp} (F : FnOk P w K mg base CX k f fd ps sp) : FnG P w K mg base CX k f fd ps sp :=
  ⟨F.len, fun A outer s H args us vs Q E _ hr => F.run A outer s H args us vs Q E hr⟩
section
variable {X : Cx} {CX : CXT} {k : Nat} {f : Addr} {fd : FuncData} {ps : List Str} {sp : Sp} {dvs : List V} {ds : List Value} {E : XK}
variable {x : Str} {p pos : Pos} {e : Expr} {es : List Expr} {t : TA}
theorem goG {pins : List (Addr × Obj)} {σ : L2.St} {H : Hp} {s : Shared} {Q : VK} {us : List Value} {vs : List V}
    (F : FnG X.prog X.w X.K X.mg X.base CX k f fd ps sp) (hgd : X.A.guards = some []) (hr : Room k X.A)
    (hb : Binds X.K fd ps ds) (hd : Vals dvs ds) (hx : Passes CX X E) (I : Inv X pins σ H s) (r : Vals vs us)
    (h : sp (vs ++ dvs) H Q E) : wpAny (model X.prog X.w) X.A (call (.ref f) us) (EP X pins σ Q) X.xe s := by
  have both : Vals (vs ++ dvs) (us ++ ds) := r.append hd
  have many : (us ++ ds).length = ps.length := by
    rw [← both.length]
    exact F.len _ _ _ _ h
  have run := F.go X.A X.stack s H ⟨us, []⟩ (us ++ ds) (vs ++ dvs) Q E hgd hr I.env0 (hb s us I.kIn many) both h
  refine wpAny_call (codeAny_mono run fun res s' z => ?_)
  match res, z with
  | .error e, z => exact hx pins σ H s e s' I z
  | .ok (.ret u), z => exact I.after z
  | .ok .next, z => exact False.elim z
  | .ok .brk, z => exact False.elim z
  | .ok .cont, z => exact False.elim z
/-- f(e, ..) -/
theorem pe_callG (F : FnG X.prog X.w X.K X.mg X.base CX k f fd ps sp) (hgd : X.A.guards = some []) (hr : Room k X.A)
    (hg : Gl X x) (hm : X.mg x = some (.ref f)) (hk : PySem.W.keepIn X.K (.ref f) = true) (hb : Binds X.K fd ps ds)
    (hd : Vals dvs ds) (hx : Passes CX X E) (ha : PA X (e :: es) t) (hdb : (x == ("__debug__" : Str)) = false := by decide)
    (he : starEach (e :: es) X.env = (false, eval e X.env) :: starEach es X.env := by rfl)
    (hpl : (backTo pos (starEach es X.env)).any (·.1) = false := by rfl) :
    PE X (.Call (.Name x p) (e :: es) [] pos) (tCall sp dvs E t) := by
  refine ⟨fun pins s σ H Q I h => wpAny_Call_Name_kw (ld_glob I hg hm ?_ hdb)⟩
  have args := ha.run pos pins s σ H _ I h
  refine PySem.W.callWith_K (h₀ := X.base) I.ok.mod.kin hk (thn args fun us s1 z => ?_) he hpl
  obtain ⟨vs, H1, I1, r, q⟩ := z
  exact ⟨I1.kIn, goG F hgd hr hb hd hx I1 r q⟩
end
end Nal

namespace Nal
open PySem PySem.Spec PyProof.Rows L2 LamX
section
variable {P : Program} {w : World} {K : PySem.W.Frag} {mg mb : Str → Option Value} {CX : CXT} {k : Nat} {fa a : Addr}
variable {ts : List (Addr × Addr)} {fd : FuncData} {x : Str} {sp : Sp} {s₁ : Shared} {vs : List Value} {ns : List Int}
/-- the abstract heap at the law's entry: the script, locked, and the empty tables -/
def entryH (a : Addr) (lock : Bool) (ob : Obj) (ns : List Int) (ts : List (Addr × Addr)) : Hp := fun b =>
  if b ∈ ts.map (·.2) then some (.tbl #[]) else if lock = true ∧ b = a then some (.frz ob (.lst (ns.map V.int))) else none
/-- the law's def called at the head's heap; its promise may lean on it that no guard stands on the stack -/
theorem lawG (KX : K.In s₁.heap) (gl : s₁.heap.Ns mainGlobals mg) (bl : s₁.heap.Ns builtinsNs mb)
    (bb : ∀ y : Str, y ≠ "__name__" → mb y = bootBuiltins y) (lim : s₁.heap.NoLimit) (gs : s₁.gens = #[])
    (tE : ∀ p ∈ ts, s₁.heap.get? p.2 = some { cls := .none, data := .fields #[] }) (tK : ∀ p ∈ ts, K.lookup p.2 = none)
    (tC : ∀ p ∈ ts, PySem.W.CodeHd s₁.heap p.1 p.2)
    (bmod : ∃ (bm : Addr) (ob : Obj), mg "__builtins__" = some (.ref bm) ∧ bm ≠ builtinsNs ∧ s₁.heap.get? bm = some ob ∧
      ob.cls = .type "module" ∧ ob.dict = some builtinsNs ∧ ob.data = .plain)
    (ha : s₁.heap.get? a = some { cls := .type "list", data := .seq vs.toArray }) (hi : IntsAre vs ns) (hl : ns.length ≤ sizeLine)
    (hr : Room k callerA)
    (F : ∀ base : Heap, K.In base → base.Ns mainGlobals mg → (∀ p ∈ ts, TabB base mg p.1 p.2) → FnG P w K mg base CX k fa fd [x] sp)
    (hbind : ∀ (s : Shared) (u : Value), BindsTo s fd ⟨[u], []⟩ [(x, u)])
    (hsp : ∀ H : Hp, (∀ p ∈ ts, H p.2 = some (.tbl #[])) → SqL K H a (ns.map V.int) → sp [.ref a] H (fun v _ => v = .bl true) fun _ _ _ => False)
    (hCX : ∀ H e s', CX [] H s₁ (fun _ _ _ => False) e s' → False) :
    codeAny (model P w) callerA (.call (.ref fa) ⟨[.ref a], []⟩)
      (fun r s' => r = .ok (.ret (.bool true)) ∧ OldK s₁.heap s'.heap ∧ s'.os = s₁.os ∧ AllBare s'.gens) s₁ := by
  have tab : ∀ b, b ∈ ts.map (·.2) → s₁.heap.get? b = some { cls := .none, data := .fields #[] } ∧ K.lookup b = none := by
    intro b hb
    obtain ⟨p, hp, rfl⟩ := List.mem_map.mp hb
    exact ⟨tE p hp, tK p hp⟩
  have mem : ∀ p ∈ ts, p.2 ∈ ts.map (·.2) := fun p hp => List.mem_map.mpr ⟨p, hp, rfl⟩
  have aN : a ∉ ts.map (·.2) := fun z => by
    have q := (tab a z).1.symm.trans ha
    cases Option.some.inj q
  -- whether the script stands in the written part
  obtain ⟨lock, hlock⟩ : ∃ lock : Bool, (lock = true ↔ K.lookup a = none) := ⟨decide (K.lookup a = none), by simp⟩
  let ob : Obj := { cls := .type "list", data := .seq vs.toArray }
  let H : Hp := entryH a lock ob ns ts
  have Ht : ∀ b, b ∈ ts.map (·.2) → H b = some (.tbl #[]) := fun b hb => if_pos hb
  have Hn : ∀ b, b ∉ ts.map (·.2) → (b ≠ a ∨ K.lookup a ≠ none) → H b = none := fun b hb hq => by
    show (if b ∈ ts.map (·.2) then _ else _) = _
    rw [if_neg hb, if_neg]
    rintro ⟨z1, z2⟩
    rcases hq with q | q
    · exact q z2
    · exact q (hlock.mp z1)
  have Ha : K.lookup a = none → H a = some (.frz ob (.lst (ns.map V.int))) := fun q => by
    show (if a ∈ ts.map (·.2) then _ else _) = _
    rw [if_neg aN, if_pos ⟨hlock.mpr q, rfl⟩]
  -- what is tracked is one of the three
  have three : ∀ b, H b = none ∨ (b ∈ ts.map (·.2) ∧ H b = some (.tbl #[])) ∨ (b = a ∧ K.lookup a = none ∧ H b = some (.frz ob (.lst (ns.map V.int)))) := fun b => by
    by_cases h1 : b ∈ ts.map (·.2)
    · exact .inr (.inl ⟨h1, Ht b h1⟩)
    · by_cases h2 : b = a
      · by_cases h3 : K.lookup a = none
        · refine .inr (.inr ⟨h2, h3, ?_⟩)
          rw [h2]
          exact Ha h3
        · exact .inl (Hn b h1 (.inr h3))
      · exact .inl (Hn b h1 (.inl h2))
  have vi := vals_ints hi
  have vl := hi.length
  have hok : HOk P w H s₁.heap := fun b u e => by
    rcases three b with z | ⟨z1, z2⟩ | ⟨z1, _, z2⟩
    · rw [z] at e
      cases e
    · rw [z2] at e
      cases e
      exact (tab b z1).1
    · rw [z2] at e
      cases e
      rw [z1]
      refine ⟨ha, ?_, vs, _, vi, ha⟩
      rw [List.length_map]
      exact hl
  have sq : SqL K H a (ns.map V.int) := by
    cases q : K.lookup a with
    | none => exact .inl (.inr ⟨ob, Ha q⟩)
    | some o =>
      have z := (KX a o q).symm.trans ha
      cases Option.some.inj z
      refine .inr ⟨_, vs.toArray, _, q, rfl, rfl, rfl, ?_, by simpa using vi⟩
      rw [List.size_toArray, vl]
      exact hl
  -- an object that is neither a list nor an empty record is not tracked
  have free : ∀ {b : Addr} {o : Obj}, s₁.heap.get? b = some o → (∀ q n, o.data ≠ .seq q n) → o.data ≠ .fields #[] → H b = none := by
    intro b o e n1 n2
    rcases three b with z | ⟨z1, _⟩ | ⟨z1, _, _⟩
    · exact z
    · have q := (tab b z1).1.symm.trans e
      cases Option.some.inj q
      exact absurd rfl n2
    · rw [z1] at e
      have q := ha.symm.trans e
      cases Option.some.inj q
      exact absurd rfl (n1 _ _)
  have keepB : ∀ {b : Addr} {o : Obj}, s₁.heap.get? b = some o → H b = none → (hidT s₁.heap H).get? b = some o := fun e n => hidT_get e n
  have spaces : ∀ {b : Addr} {m : Str → Option Value}, s₁.heap.Ns b m → (hidT s₁.heap H).Ns b m := by
    rintro b m ⟨o, es, ep, e, d, r⟩
    refine ⟨o, es, ep, keepB e (free e (fun q n z => ?_) fun z => ?_), d, r⟩
    all_goals rw [d] at z; cases z
  have kb : K.In (hidT s₁.heap H) := fun b o e => keepB (KX b o e) (by
    rcases three b with z | ⟨z1, _⟩ | ⟨z1, z2, _⟩
    · exact z
    · rw [(tab b z1).2] at e
      cases e
    · rw [z1, z2] at e
      cases e)
  have md : L2.Mod K mg (hidT s₁.heap H) := by
    obtain ⟨mc, l1, l2⟩ := lim
    exact ⟨kb, spaces gl, ⟨mb, spaces bl, bb⟩, ⟨mc, spaces l1, l2⟩⟩
  have tb : ∀ p ∈ ts, TabB (hidT s₁.heap H) mg p.1 p.2 := by
    intro p hp
    have ep := tE p hp
    have gP : mainGlobals ≠ p.2 := fun z => by
      obtain ⟨o, es, n, e, d, _⟩ := gl
      rw [z, ep] at e
      cases Option.some.inj e
      cases d
    refine ⟨?_, ?_, gP⟩
    · obtain ⟨o, us, file, tf, flags, tg, inF, text, tt, e1, r1, r2, r3, rs⟩ := tC p hp
      refine ⟨o, us, file, tf, flags, tg, inF, text, tt, keepB e1 (free e1 (fun q n z => ?_) fun z => ?_), r1, r2, r3, rs⟩
      · rw [r2] at z
        cases z
      · rw [r2] at z
        cases z
        cases r3
    · obtain ⟨bm, o, b1, b2, b3, b4, b5, b6⟩ := bmod
      have nG : bm ≠ mainGlobals := fun z => by
        obtain ⟨o', es, n, e, d, _⟩ := gl
        rw [z, e] at b3
        cases Option.some.inj b3
        rw [d] at b6
        cases b6
      have nP : bm ≠ p.2 := fun z => by
        rw [z, ep] at b3
        cases Option.some.inj b3
        cases b6
      refine ⟨bm, o, b1, b2, nG, nP, keepB b3 (free b3 (fun q n z => ?_) fun z => ?_), b4, b5, b6⟩
      all_goals rw [b6] at z; cases z
  have none_in : ∀ b : Addr, b ∉ frs ([] : List Env) := fun b z => nomatch (show b ∈ ([] : List Addr) from z)
  have e0 : Env0 P w K mg (hidT s₁.heap H) callerA [] s₁ H :=
    ⟨rfl, md, fun b o e => of_hidT e, Nat.le_of_eq (hidT_size _ _), trivial, fun b z => absurd z (none_in b), hok, .of_eq gs⟩
  have run := (F _ kb (spaces gl) tb).go callerA [] s₁ H ⟨[.ref a], []⟩ [.ref a] [.ref a] _ _ rfl hr e0 (hbind s₁ (.ref a)) (.cons rfl .nil)
    (hsp H (fun p hp => Ht p.2 (mem p hp)) sq)
  refine codeAny_mono run fun res s' z => ?_
  match res, z with
  | .error e, z => exact (hCX H e s' z).elim
  | .ok .next, z => exact False.elim z
  | .ok .brk, z => exact False.elim z
  | .ok .cont, z => exact False.elim z
  | .ok (.ret u), z =>
    obtain ⟨v, H', z1, z2, un, hok', rv, hv⟩ := z
    have hv' : v = .bl true := hv
    rw [hv'] at rv
    have hu : u = Value.bool true := rv
    subst hu
    -- a table may have grown, all else that stood before stands
    have grown : ∀ p ∈ ts, ∃ more : Array Value, s'.heap.get? p.2 = some { cls := .none, data := .fields more } := fun p hp => by
      obtain ⟨more, q⟩ := un.tbls p.2 #[] (Ht p.2 (mem p hp))
      exact ⟨_, hok' p.2 _ q⟩
    have still : ∀ b o, b ∉ ts.map (·.2) → s₁.heap.get? b = some o → s'.heap.get? b = some o := fun b o nb e => by
      rcases three b with q | ⟨q, _⟩ | ⟨_, _, q⟩
      · exact un.keep b o e q (none_in b) (fun z => nomatch z)
      · exact absurd q nb
      · have f1 := hok b _ q
        have f2 := hok' b _ (un.frzs b _ _ q)
        rw [← f1.1.symm.trans e]
        exact f2.1
    refine ⟨rfl, ⟨fun b o e => ?_, fun b o e => ?_⟩, z1, z2⟩
    · by_cases hb : b ∈ ts.map (·.2)
      · obtain ⟨p, hp, rfl⟩ := List.mem_map.mp hb
        obtain ⟨more, hm⟩ := grown p hp
        cases Option.some.inj ((tE p hp).symm.trans e)
        exact .inr (.inl ⟨((tC p hp).tab (tE p hp)).isCodeTable, rfl, #[], more, rfl, by rw [Array.empty_append]; exact hm⟩)
      · exact .inl (still b o hb e)
    · by_cases hb : b ∈ ts.map (·.2)
      · obtain ⟨p, hp, rfl⟩ := List.mem_map.mp hb
        obtain ⟨more, hm⟩ := grown p hp
        exact ⟨_, hm⟩
      · exact ⟨o, still b o hb e⟩
end
/-- what is known of the law at the head's heap h -/
def KnownAt (l : PySem.W.OpenLaw) (w : World) (K : PySem.W.Frag) (k n : Nat) (x : Str) (mg : Str → Option Value) (fa : Addr) (h : Heap) : Prop :=
  ∃ (fd : FuncData) (ts : List (Addr × Addr)) (sp : Sp), (∀ p ∈ ts, h.get? p.2 = some { cls := .none, data := .fields #[] }) ∧
    (∀ p ∈ ts, K.lookup p.2 = none) ∧ (∀ p ∈ ts, PySem.W.CodeHd h p.1 p.2) ∧ (∀ (s : Shared) (u : Value), BindsTo s fd ⟨[u], []⟩ [(x, u)]) ∧
    (∀ (H : Hp) (a : Addr) (ns : List Int), ns.length ≤ n → (∀ p ∈ ts, H p.2 = some (.tbl #[])) → SqL K H a (ns.map V.int) →
      sp [.ref a] H (fun v _ => v = .bl true) fun _ _ _ => False) ∧
    ∀ base : Heap, K.In base → base.Ns mainGlobals mg → (∀ p ∈ ts, TabB base mg p.1 p.2) → FnG l.prog w K mg base CX0 k fa fd [x] sp
theorem walkG {l : PySem.W.OpenLaw} {n k : Nat} {q : Program} {loose : List Str} {XP : (Str → Option Value) → Heap → Prop}
    {YP : World → Heap → Prop} {d : DefRec} {K : Params → PySem.W.Frag} {x : Str} (hn : l.most = some n) (hn2 : n ≤ sizeLine)
    (hdf : d.params.defaults = []) (hr : Room k callerA) (hY : ∀ (w : World) (h : Heap), YP w h → (K w.params).In h)
    (F : ∀ (w : World) (mg : Str → Option Value) (fa : Addr) (h : Heap), YP w h → (K w.params).In h → h.Ns mainGlobals mg →
      mg d.name = some (.ref fa) → KnownAt l w (K w.params) k n x mg fa h) :
    PySem.W.WalkO q loose XP YP l.row.toRowW d [] (fun f vs => PySem.call f vs) := by
  refine Att.attach_callB hn hdf fun w s₀ s₁ mg mb fa o pm cd doc a vs ns G Y ho hd hcd hmg hobj hints hlen hbits gs => ?_
  have KX := hY w _ Y
  obtain ⟨fd, ts, sp, t1, t2, t3, hb, hsp, hF⟩ := F w mg fa _ Y KX G.T.g hmg
  exact lawG KX G.T.g G.T.b G.T.builtins G.T.nolimit gs t1 t2 t3 G.T.bmain hobj hints (Nat.le_trans hlen hn2) hr hF hb
    (fun H hH hS => hsp H a ns hlen hH hS) fun H e s' z => z
end Nal

/-! repr of data (None, truths, whole numbers, texts, lists, tuples at any depth) by what is shown of them. -/
namespace Nal
open PySem PySem.Spec PyProof.Rows L2
/-- data whose repr is short enough: n its bulk at most, dp its depth at most -/
structure Showy (n dp : Nat) (d : PyData) : Prop where
  show_ : d.showable = true
  nod : d.hasDict = false
  dep : d.depth ≤ dp
  leaf : d.leavesShort 64 = true
  blk : d.bulk ≤ n
structure ShowyAll (n dp : Nat) (ds : List PyData) : Prop where
  show_ : PyData.showableAll ds = true
  nod : PyData.hasDictAll ds = false
  dep : PyData.depthAll ds ≤ dp
  leaf : PyData.leavesShortAll 64 ds = true
  blk : PyData.bulkAll ds ≤ n
theorem log2_lt {m : Nat} (h : m < 2 ^ 200) : m.log2 < 1920 := by
  by_cases e : m = 0
  · subst e
    decide
  · have : m.log2 < 200 := (Nat.log2_lt e).mpr h
    omega
theorem shown_int64 {i : Int} (h : i.natAbs < 10 ^ 40) : (PyData.shown (.int i)).length ≤ 64 := by
  have e := int_text_length_le10 (k := 40) (by decide) h
  have q : (Str.ofString (toString i)).length ≤ 41 := by
    rw [PySem.ofString_length]
    exact e
  rw [PyData.shown_int]
  exact Nat.le_trans q (by decide)
theorem Showy.none {n dp : Nat} : Showy n dp .none := ⟨by simp only [PyData.showable], by simp only [PyData.hasDict], by simp [PyData.depth], by simp only [PyData.leavesShort], by simp [PyData.bulk]⟩
theorem Showy.bool {n dp : Nat} (b : Bool) : Showy n dp (.bool b) := ⟨by simp only [PyData.showable], by simp only [PyData.hasDict], by simp [PyData.depth], by simp only [PyData.leavesShort], by simp [PyData.bulk]⟩
theorem Showy.int {n dp : Nat} {i : Int} (h : i.natAbs < 10 ^ 40) : Showy n dp (.int i) := by
  refine ⟨?_, by simp only [PyData.hasDict], by simp [PyData.depth], ?_, by simp [PyData.bulk]⟩
  · simp only [PyData.showable]
    exact decide_eq_true (log2_lt (Nat.lt_of_lt_of_le h (by decide)))
  · simp only [PyData.leavesShort]
    exact decide_eq_true (shown_int64 h)
theorem Showy.str {n dp : Nat} {x : Str} (h : ∀ c ∈ x.cps.toList, c < 16 ^ 8) (hl : x.cps.size ≤ n) : Showy n dp (.str x) := by
  refine ⟨by simp only [PyData.showable], by simp only [PyData.hasDict], by simp [PyData.depth], ?_, by simpa [PyData.bulk] using hl⟩
  simp only [PyData.leavesShort, List.all_eq_true, decide_eq_true_eq]
  exact h
theorem Showy.list {n dp : Nat} {ds : List PyData} (h : ShowyAll n dp ds) : Showy n (dp + 1) (.list ds) :=
  ⟨by simpa only [PyData.showable] using h.show_, by simpa only [PyData.hasDict] using h.nod, by simpa only [PyData.depth] using Nat.succ_le_succ h.dep,
    by simpa only [PyData.leavesShort] using h.leaf, by simpa only [PyData.bulk] using h.blk⟩
theorem Showy.tuple {n dp : Nat} {ds : List PyData} (h : ShowyAll n dp ds) : Showy n (dp + 1) (.tuple ds) :=
  ⟨by simpa only [PyData.showable] using h.show_, by simpa only [PyData.hasDict] using h.nod, by simpa only [PyData.depth] using Nat.succ_le_succ h.dep,
    by simpa only [PyData.leavesShort] using h.leaf, by simpa only [PyData.bulk] using h.blk⟩
theorem ShowyAll.nil {n dp : Nat} : ShowyAll n dp [] :=
  ⟨by simp only [PyData.showableAll], by simp only [PyData.hasDictAll], by simp [PyData.depthAll], by simp only [PyData.leavesShortAll], by simp [PyData.bulkAll]⟩
theorem ShowyAll.cons {m n dp : Nat} {d : PyData} {ds : List PyData} (h : Showy m dp d) (hs : ShowyAll n dp ds) : ShowyAll (m + 1 + n) dp (d :: ds) := by
  refine ⟨?_, ?_, ?_, ?_, ?_⟩
  · simp only [PyData.showableAll, h.show_, hs.show_, Bool.and_self]
  · simp only [PyData.hasDictAll, h.nod, hs.nod, Bool.or_self]
  · simp only [PyData.depthAll]
    exact Nat.max_le.mpr ⟨h.dep, hs.dep⟩
  · simp only [PyData.leavesShortAll, h.leaf, hs.leaf, Bool.and_self]
  · simp only [PyData.bulkAll]
    have := h.blk
    have := hs.blk
    omega
theorem Showy.mono {m n dp dq : Nat} {d : PyData} (h : Showy m dp d) (hm : m ≤ n) (hd : dp ≤ dq) : Showy n dq d :=
  ⟨h.show_, h.nod, Nat.le_trans h.dep hd, h.leaf, Nat.le_trans h.blk hm⟩
theorem ShowyAll.mono {m n dp dq : Nat} {d : List PyData} (h : ShowyAll m dp d) (hm : m ≤ n) (hd : dp ≤ dq) : ShowyAll n dq d :=
  ⟨h.show_, h.nod, Nat.le_trans h.dep hd, h.leaf, Nat.le_trans h.blk hm⟩
/-- all items alike -/
theorem ShowyAll.of {m dp : Nat} : ∀ {ds : List PyData}, (∀ d ∈ ds, Showy m dp d) → ShowyAll ((m + 1) * ds.length) dp ds
  | [], _ => .nil
  | d :: r, h => (ShowyAll.cons (h d List.mem_cons_self) (ShowyAll.of (fun x hx => h x (List.mem_cons_of_mem _ hx)))).mono
      (by rw [List.length_cons, Nat.mul_succ]; omega) (Nat.le_refl _)
theorem ShowyAll.ints {ns : List Int} (h : ∀ z ∈ ns, z.natAbs < 10 ^ 40) : ShowyAll ns.length 0 (ns.map PyData.int) := by
  have q := ShowyAll.of (m := 0) (dp := 0) (ds := ns.map PyData.int) fun d hd => by
    obtain ⟨z, hz, rfl⟩ := List.mem_map.mp hd
    exact Showy.int (h z hz)
  rw [List.length_map] at q
  exact q.mono (by omega) (Nat.le_refl _)
theorem Showy.fits {n dp : Nat} {d : PyData} (h : Showy n dp d) (hn : n ≤ 200000) : d.shown.length ≤ sizeLine := by
  have q := PyData.shown_le_bulk 64 (by decide) d h.leaf
  have b := h.blk
  rw [sizeLine_eq]
  have : (64 + 2) * d.bulk ≤ 66 * 200000 := Nat.mul_le_mul_left _ (Nat.le_trans b hn)
  omega
/-- repr(x), x a list or a tuple of data -/
def rRepr (K : PySem.W.Frag) : List V → Hp → VK → Prop := fun xs H Q =>
  ∃ (a : Addr) (d : PyData), xs = [.ref a] ∧ Dp K H (.ref a) d ∧ Showy 200000 60 d ∧ Q (.str d.shown) H
theorem call_repr {X : Cx} {k : Nat} (hgd : X.A.guards = some []) (hr : Room k X.A) : CallR X (.builtin "repr") (rRepr X.K) := by
  intro pins s σ H xs us Q I r h
  obtain ⟨a, d, rfl, hd, hs, q⟩ := h
  cases r with
  | cons ra rn =>
    cases rn
    cases ra
    obtain ⟨as, rd⟩ := Dp.reads I d (.ref a) (.ref a) hd rfl
    have hu : X.A.units + (d.depth + 1) < cLine := by
      have h1 := hr.units
      have h2 := hs.dep
      omega
    refine repr_of_reads' rd hs.show_ (PyData.noDict_hsm hs.nod) hgd hu (fun _ _ e => e) (fun h' u tk hk => ?_) (hs.fits (Nat.le_refl _))
    exact ⟨.str d.shown, H, I.kept hk, ⟨_, rfl⟩, q⟩
end Nal

/-! g(e, lambda a: body): a lambda of one parameter, made in a def's body (captured names read), handed to a def of two parameters that calls it. -/
namespace Nal
open PySem PySem.Spec PyProof.Rows L2 LamX NdefX
/-- the lambda's words -/
def lamF (X : Cx) (params : Arguments) (scope : Scope) (c' : Addr) : NF :=
  ⟨"<lambda>", X.env.qual ++ "<lambda>", params, [], scope, cloFrom X.env.cells scope.names [], c'⟩
section
variable {X : Cx} {pins : List (Addr × Obj)} {σ : L2.St} {H : Hp} {s : Shared}
/-- the context of the def that got the lambda, entered at s -/
abbrev gotCx (X : Cx) (Ng : List Str) (qg : Str) (sg : Scope) (g : Addr) (cdg : Value) (s : Shared) (H : Hp) : Cx :=
  (cxOf CX0 X.prog X.w X.K X.mg X.base Ng qg sg g cdg X.A X.stack s H E0).nox
theorem cells_off (I : Inv X pins σ H s) (hfn : ∀ y, X.fn y = true) {y : Str} {c : Addr} (e : X.env.cells.lookup y = some c) : c ∉ frs X.stack := fun z => by
  rcases List.mem_cons.mp (I.stkSub c z) with q | q
  · exact I.cne y c e q
  · obtain ⟨_, o, ho, _⟩ := I.ok.funs.mem q
    exact Nat.lt_irrefl _ (Nat.lt_of_lt_of_le (Heap.lt_size ho) (I.ok.cab y c (hfn y) e))
/-- a(e) in the def that got the lambda by its parameter a (slot i) -/
theorem pe_act1 {Ng N fr : List Str} {js : List Nat} {qg x : Str} {sg : Scope} {g f c' : Addr} {cdg pm ctv : Value} {params : Arguments} {body e : Expr}
    {scope : Scope} {k i : Nat} {a : Str} {tb te : TE} {p1 p2 : Pos} (I : Inv X pins σ H s) (hfn : ∀ y, X.fn y = true)
    (S : NScope N [x] fr scope) (cp : Caps X (cloFrom X.env.cells scope.names []) fr js)
    (hf : s.heap.get? f = some (PySem.W.kla_obj "<lambda>" (X.env.qual ++ "<lambda>") params body scope (cloFrom X.env.cells scope.names []) pm c' ctv))
    (hn : H f = none) (hfr : f ∉ frs X.stack)
    (hbind : ∀ u : Value, bindArgs (PySem.W.kla_fn "<lambda>" (X.env.qual ++ "<lambda>") params body scope (cloFrom X.env.cells scope.names []) pm (.ref c') ctv) ⟨[u], []⟩ = pure [(x, u)])
    (hr : Room (k + 1) (X.A.deeper (envOfC qg sg s.heap.objs.size g cdg)))
    (hbody : ∀ (A : Around) (outer : List Env) (s : Shared) (H : Hp), Room k (A.deeper (envF (lamF X params scope c') f s.heap.objs.size)) →
      PE (ncx CX0 X.prog X.w X.K X.mg X.base N (lamF X params scope c') f A outer s H E0).nox body tb)
    (hN : Ng[i]? = some a) (hv : Vis sg a) (he : PE (gotCx X Ng qg sg g cdg s H) e te) (hd : (a == ("__debug__" : Str)) = false := by decide)
    (hcd : (a == ("__classdict__" : Str)) = false := by decide)
    (hst : starEach [e] (gotCx X Ng qg sg g cdg s H).env = (false, eval e (gotCx X Ng qg sg g cdg s H).env) :: starEach [] (gotCx X Ng qg sg g cdg s H).env := by rfl) :
    PE (gotCx X Ng qg sg g cdg s H) (.Call (.Name a p1) [e] [] p2)
      (fun σZ HZ Q => σZ[i]? = some (some (.ref f)) ∧ te σZ HZ fun v H1 => H1 c' = some (CodeO c' (X.env.qual ++ "<lambda>")) ∧ tb (startF N [v] (js.map (slotAt σ))) H1 Q) := by
  refine ⟨fun pinsZ sZ σZ HZ Q IZ h => ?_⟩
  obtain ⟨hs, ht⟩ := h
  have nm := (pe_var (X := gotCx X Ng qg sg g cdg s H) (pos := p1) (i := i) hN hv hd hcd).run pinsZ sZ σZ HZ (fun v H1 => v = .ref f ∧ H1 = HZ) IZ ⟨.ref f, hs, rfl, rfl⟩
  refine wpAny_Call_Name_kw (thn nm fun u s1 z => ?_)
  obtain ⟨v, H1, I1, r1, ev, eH⟩ := z
  subst ev
  rw [eH] at I1
  obtain rfl : u = Value.ref f := r1
  have stands : ∀ {sY : Shared} {σY : L2.St} {HY : Hp}, Inv (gotCx X Ng qg sg g cdg s H) pinsZ σY HY sY →
      sY.heap.get? f = some (PySem.W.kla_obj "<lambda>" (X.env.qual ++ "<lambda>") params body scope (cloFrom X.env.cells scope.names []) pm c' ctv) :=
    fun J => J.base.keep f _ hf hn hfr (fun z => nomatch (show f ∈ ([] : List Addr) from z))
  have at_ : ∀ {sY : Shared} {σY : L2.St} {HY : Hp}, Inv (gotCx X Ng qg sg g cdg s H) pinsZ σY HY sY → PySem.W.FnAt f sY.heap := fun J => ⟨_, _, _, _, stands J⟩
  have args := (pa_cons he (pa_nil (X := gotCx X Ng qg sg g cdg s H)) hst).run p2 pinsZ s1 σZ HZ (fun vs H1 => ∃ v, vs = [v] ∧ H1 c' = some (CodeO c' (X.env.qual ++ "<lambda>")) ∧ tb (startF N [v] (js.map (slotAt σ))) H1 Q) I1
    (by
      show te σZ HZ _
      have e0 : (fun (x : V) (H1 : Hp) => tNil σZ H1 fun xs H2 => ∃ v, x :: xs = [v] ∧ H2 c' = some (CodeO c' (X.env.qual ++ "<lambda>")) ∧ tb (startF N [v] (js.map (slotAt σ))) H2 Q)
          = fun v H1 => H1 c' = some (CodeO c' (X.env.qual ++ "<lambda>")) ∧ tb (startF N [v] (js.map (slotAt σ))) H1 Q := by
        funext v H1
        refine propext ⟨fun z => ?_, fun z => ⟨v, rfl, z⟩⟩
        obtain ⟨v', e1, z⟩ := z
        cases e1
        exact z
      rw [e0]
      exact ht)
  refine PySem.W.callWith_F (first := []) (at_ I1) (thn args fun us s2 z => ?_) hst rfl
  obtain ⟨vs, H2, I2, r2, v, ev, hc, hq⟩ := z
  subst ev
  refine ⟨at_ I2, ?_⟩
  cases r2 with
  | cons rv rn =>
    rename_i uv us'
    cases rn
    show wpAny _ _ (call (.ref f) [uv]) _ _ _
    have C0 : CellsAt (cloFrom X.env.cells scope.names []) fr (js.map (slotAt σ)) s.heap H := cells_of I cp
    have C2 : CellsAt (cloFrom X.env.cells scope.names []) fr (js.map (slotAt σ)) s2.heap H2 :=
      CellsAt.later (X := gotCx X Ng qg sg g cdg s H) C0 (fun y c e => cells_off I hfn (cp.sub y c e)) (fun y c e z => nomatch (show c ∈ ([] : List Addr) from z)) I2
    have cd := codeO_at I2.hok hc
    have run : codeAny (model X.prog X.w) (X.A.deeper (envOfC qg sg s.heap.objs.size g cdg)) (.call (.ref f) ⟨[uv], []⟩)
        (CR CX0 (envOfC qg sg s.heap.objs.size g cdg :: X.stack) X.prog X.w H2 s2 Q E0) s2 := by
      refine PySem.W.kla_callFunE hr.depth (stands I2) rfl S.co S.gen rfl cd ?_
      rw [hbind uv]
      refine wpAny_pure (wpAny_newFunctionEnv S.nocell (fun y hy => ?_) (fun h₁ hns hsb => ⟨I2.nolimit.fresh _ hsb, ?_⟩) S.kind)
      · have hy' : y = (x, uv) := by simpa using hy
        rw [hy']
        exact S.par x List.mem_cons_self
      show codeAny _ _ (.expr body (envF (lamF X params scope c') f s2.heap.objs.size)) _ _
      have kp : ∀ b o, s2.heap.get? b = some o → h₁.get? b = some o := fun b o q => hsb.extBut b o (Nat.ne_of_lt (Heap.lt_size q)) (Heap.get?_push_of_some _ q)
      have J : Inv (ncx CX0 X.prog X.w X.K X.mg X.base N (lamF X params scope c') f (X.A.deeper (envOfC qg sg s.heap.objs.size g cdg)) (envOfC qg sg s.heap.objs.size g cdg :: X.stack) s2 H2 E0) []
          (startF N [v] (js.map (slotAt σ))) H2 { s2 with heap := h₁, toks := s2.toks + ([(x, uv)] : List (Str × Value)).length } :=
        inv_startN (F := lamF X params scope c') (ps := [x]) (us := [uv]) S hr.hd I2.env0 rfl (.cons rv .nil) C2 hns kp
      refine PySem.W.kla_codeExpr (wpAny_mono ((hbody _ _ s2 H2 (hr.deeper _)).run [] _ _ H2 Q (J.wish _) hq) (fun u' s' z => ?_) fun e' s' z => False.elim z)
      obtain ⟨w', H', J', rw', q'⟩ := z
      exact ⟨w', H', J'.os, J'.bare, J'.base, J'.hok, rw', q'⟩
    refine wpAny_call (codeAny_mono run fun res s' z => ?_)
    match res, z with
    | .error e, z => exact False.elim z
    | .ok (.ret u), z => exact I2.after z
    | .ok .next, z => exact False.elim z
    | .ok .brk, z => exact False.elim z
    | .ok .cont, z => exact False.elim z
end
/-- the def that calls what it got by its second parameter: TT, what it makes of the lambda's reading tl -/
def Gives2 (X : Cx) (Ng : List Str) (x : Str) (sg : Scope) (g : Addr) (cdg : Value) (bg : List Stmt) (a q : Str) (k : Nat)
    (TT : (V → Hp → VK → Prop) → V → Hp → VK → Prop) : Prop :=
  ∀ (f c' : Addr) (s : Shared) (H : Hp) (Q : VK) (tl : V → Hp → VK → Prop) (v1 : V),
    Room k (X.A.deeper (envOfC x sg s.heap.objs.size g cdg)) →
    (∀ (p1 p2 : Pos) (e : Expr) (te : TE), PE (gotCx X Ng x sg g cdg s H) e te →
      starEach [e] (gotCx X Ng x sg g cdg s H).env = (false, eval e (gotCx X Ng x sg g cdg s H).env) :: starEach [] (gotCx X Ng x sg g cdg s H).env →
      PE (gotCx X Ng x sg g cdg s H) (.Call (.Name a p1) [e] [] p2)
        (fun σZ HZ Q => σZ[1]? = some (some (.ref f)) ∧ te σZ HZ fun v H1 => H1 c' = some (CodeO c' q) ∧ tl v H1 Q)) →
    H c' = some (CodeO c' q) → TT tl v1 H Q →
    ∃ t, PSs (gotCx X Ng x sg g cdg s H) bg t ∧ t { nx := fun _ H' => Q .non H', rt := Q } (L2.start Ng [v1, .ref f]) H
/-- the reading of g(e1, lambda y: body) -/
def tLam2 (T : List (Addr × Str)) (TT : (V → Hp → VK → Prop) → V → Hp → VK → Prop) (N : List Str) (js : List Nat) (te : TE) (tb : TE) : TE := fun σ H Q =>
  te σ H fun v1 H0 => Tabs T H0 ∧ ∀ H1, ExtN H0 H1 → Tabs T H1 → TT (fun v H' Q' => tb (startF N [v] (js.map (slotAt σ))) H' Q') v1 H1 Q
section
variable {X : Cx}
theorem pe_lam2 {T : List (Addr × Str)} {TT : (V → Hp → VK → Prop) → V → Hp → VK → Prop} {x a y : Str} {g c P : Addr} {k : Nat} {pg : Arguments} {bg : List Stmt}
    {sg : Scope} {dV kV doc pm cdv ct oc : Value} {an od : Option Addr} {osl : Array (Option Value)} {Ng N fr : List Str} {js : List Nat} {b1 : Str}
    {params : Arguments} {body e1 : Expr} {scope : Scope} {te tb : TE} {p lpos pos : Pos} (hg : Gl X x) (hm : X.mg x = some (.ref g))
    (hk : PySem.W.keepIn X.K (.ref g) = true) (lk : X.K.lookup g = some ⟨oc, od, .func (PySem.W.fnOf x x pg bg sg dV kV doc pm an cdv ct), osl⟩)
    (hcg : PySem.W.codeIn X.K cdv x = true) (hb : L2.Binds X.K (PySem.W.fnOf x x pg bg sg dV kV doc pm an cdv ct) [b1, a] []) (Sg : FnScope Ng [b1, a] sg)
    (hNg : Ng[1]? = some a) (hva : Vis sg a) (hG : Gives2 X Ng x sg g cdv bg a (X.env.qual ++ "<lambda>") (k + 1) TT) (TB : TabB X.base X.mg c P)
    (hcode : X.env.code = .ref c) (hmT : (P, X.env.qual ++ "<lambda>") ∈ T) (hu : ∀ p ∈ T, p.1 = P → p.2 = X.env.qual ++ "<lambda>")
    (hr : Room (k + 2) X.A) (hfn : ∀ y, X.fn y = true) (S : NScope N [y] fr scope) (hnd : ndefB X.env.scope scope fr = true)
    (hjs : js.map (fun j => X.N[j]?) = fr.map some) (hdef : defaultsOf params X.env = ([], []))
    (hbind : ∀ (q : Str) (cl : List (Str × Addr)) (pm cv ctv u : Value), bindArgs (PySem.W.kla_fn "<lambda>" q params body scope cl pm cv ctv) ⟨[u], []⟩ = pure [(y, u)])
    (hbody : ∀ (A : Around) (outer : List Env) (s : Shared) (H : Hp) (f c' : Addr), Room k (A.deeper (envF (lamF X params scope c') f s.heap.objs.size)) →
      PE (ncx CX0 X.prog X.w X.K X.mg X.base N (lamF X params scope c') f A outer s H E0).nox body tb) (he1 : PE X e1 te)
    (hdb : (x == ("__debug__" : Str)) = false := by decide) (hd : (a == ("__debug__" : Str)) = false := by decide)
    (hcd : (a == ("__classdict__" : Str)) = false := by decide)
    (hst : starEach (e1 :: [.Lambda params body scope lpos]) X.env = (false, eval e1 X.env) :: starEach [.Lambda params body scope lpos] X.env := by rfl) :
    PE X (.Call (.Name x p) [e1, .Lambda params body scope lpos] [] pos) (tLam2 T TT N js te tb) := by
  have hfree := ndef_free hnd
  refine ⟨fun pins s σ H Q I h => wpAny_Call_Name_kw (ld_glob I hg hm ?_ hdb)⟩
  refine PySem.W.callWith_K (h₀ := X.base) I.ok.mod.kin hk ?_ hst (by rfl)
  rw [hst]
  show wpAny _ _ (spliced ((false, eval e1 X.env) :: backTo pos (starEach [.Lambda params body scope lpos] X.env))) _ _ s
  refine Calls.spliced_cons (thn (he1.run pins s σ H _ I h) fun u1 s0 z => ?_)
  obtain ⟨v1, H0, I0, r1, hT, hh⟩ := z
  show wpAny _ _ (spliced ((false, eval (.Lambda params body scope lpos) X.env) :: backTo pos (starEach [] X.env))) _ _ s0
  have has : ∀ z ∈ scope.names, z.2 = .free → ∃ c, X.env.cells.lookup z.1 = some c := fun z hz e => (hfree z hz e).elim (fun q => I.ok.has _ (.inl q)) fun q => I.ok.has _ (.inr q)
  refine Calls.spliced_cons (lam_make2 I0 TB hcode hmT hu hT hdef has fun f c' pm' ctv H1 s' I1 eN T1 hf hn hfr hco => ?_)
  refine Calls.spliced_nil ⟨I1.kIn, ?_⟩
  have cp : Caps X (cloFrom X.env.cells scope.names []) fr js := Caps.made I1.ok hfree (ndef_fr hnd) hjs
  have run : codeAny (model X.prog X.w) X.A (.call (.ref g) ⟨[u1, .ref f], []⟩) (CR CX0 X.stack X.prog X.w H1 s' Q E0) s' := by
    refine run_ofS (N := Ng) (ps := [b1, a]) (us := [u1, .ref f]) (vs := [v1, .ref f]) lk hcg Sg hr I1.env0 (hb s' [u1, .ref f] I1.kIn rfl) (.cons r1 (.cons rfl .nil)) rfl fun hr' => ?_
    obtain ⟨t', ht', hq'⟩ := hG f c' s' H1 Q (fun v H' Q' => tb (startF N [v] (js.map (slotAt σ))) H' Q') v1 hr'
      (fun p1 p2 e te pe hst' => pe_act1 (i := 1) I1 hfn S cp hf hn hfr (fun u => hbind _ _ _ _ _ u) hr' (fun A outer s H hr2 => hbody A outer s H f c' hr2) hNg hva pe hd hcd hst') hco (hh H1 eN T1)
    exact ⟨t', ht'.nox, hq'⟩
  refine wpAny_call (codeAny_mono run fun res s2 z => ?_)
  match res, z with
  | .error e, z => exact False.elim z
  | .ok (.ret u), z => exact I1.after z
  | .ok .next, z => exact False.elim z
  | .ok .brk, z => exact False.elim z
  | .ok .cont, z => exact False.elim z
end
end Nal

/-! len(o), repr(o): o an instance of an own class, by its own __len__, __repr__. -/
namespace Nal
open PySem PySem.Spec PyProof.Rows L2
section
variable {X : Cx} {C f : Addr} {fd : FuncData} {sp : Sp} {k : Nat} {x : Str}
/-- the call of the own method in the built-in -/
theorem goO {pins : List (Addr × Obj)} {σ : L2.St} {H : Hp} {s : Shared} {Q : VK} {a : Addr} (F : FnG X.prog X.w X.K X.mg X.base CX0 k f fd [x] sp)
    (hgd : X.A.guards = some []) (hr : Room (k + 1) X.A) (hb : Binds X.K fd [x] []) (I : Inv X pins σ H s) (h : sp [.ref a] H Q E0)
    {R : Value → Shared → Prop} (hR : ∀ u s', EP X pins σ Q u s' → R u s') : wpAny (model X.prog X.w) X.A.in1 (call (.ref f) [.ref a]) R X.xe s := by
  have one : Vals [V.ref a] [Value.ref a] := .cons rfl .nil
  have run := F.go X.A.in1 X.stack s H ⟨[.ref a], []⟩ [.ref a] [.ref a] Q E0 hgd hr.in1 I.env0.in1 (hb s [.ref a] I.kIn rfl) one h
  refine wpAny_call (codeAny_mono run fun res s' z => ?_)
  match res, z with
  | .error e, z => exact False.elim z
  | .ok (.ret u), z => exact hR u s' (I.after z)
  | .ok .next, z => exact False.elim z
  | .ok .brk, z => exact False.elim z
  | .ok .cont, z => exact False.elim z
def rLenO (C : Addr) (sp : Sp) : List V → Hp → VK → Prop := fun xs H Q => ∃ (a dx : Addr) (fs : List (Str × V)), xs = [.ref a] ∧ H a = some (.ins C dx fs) ∧
  sp [.ref a] H (fun v H' => ∃ n : Nat, v = .int n ∧ n < 2 ^ 63 ∧ Q (.int n) H') E0
theorem call_lenO (hm : PySem.W.findIn X.K (.ref C) "__len__" = some (some (.ref f))) (hf : PySem.W.isFn X.K (.ref f) = true)
    (F : FnOk X.prog X.w X.K X.mg X.base CX0 k f fd [x] sp) (hr : Room (k + 1) X.A) (hb : Binds X.K fd [x] []) : CallR X (.builtin "len") (rLenO C sp) := by
  intro pins s σ H xs us Q I r h
  obtain ⟨a, dx, fs, rfl, ea, hq⟩ := h
  cases r with
  | cons ra rn =>
    cases rn
    cases ra
    obtain ⟨mA, O, _⟩ := ins_get I.hok ea
    obtain ⟨od, J, _⟩ := O.look
    obtain ⟨m, fr⟩ := I.fr
    refine PySem.W.len_K fr I.ok.mod.kin J hm hf ?_
    have one : Vals [V.ref a] [Value.ref a] := .cons rfl .nil
    have run := F.run X.A.in1 X.stack s H ⟨[.ref a], []⟩ [.ref a] [.ref a] _ E0 hr.in1 I.env0.in1 (hb s [.ref a] I.kIn rfl) one hq
    refine wpAny_call (codeAny_mono run fun res s' z => ?_)
    match res, z with
    | .error e, z => exact False.elim z
    | .ok .next, z => exact False.elim z
    | .ok .brk, z => exact False.elim z
    | .ok .cont, z => exact False.elim z
    | .ok (.ret u), z =>
      obtain ⟨v, H', I', rv, n, rfl, hn, q⟩ := I.after z
      obtain ⟨t, rfl⟩ := rv
      exact ⟨⟨Int.natCast_nonneg _, by omega⟩, ⟨.int n, H', I'.tok _, ⟨_, rfl⟩, q⟩⟩
def rReprO (C : Addr) (sp : Sp) : List V → Hp → VK → Prop := fun xs H Q => ∃ (a dx : Addr) (fs : List (Str × V)), xs = [.ref a] ∧ H a = some (.ins C dx fs) ∧
  sp [.ref a] H (fun v H' => ∃ z : Str, v = .str z ∧ Q (.str z) H') E0
theorem call_reprO (hm : PySem.W.findIn X.K (.ref C) "__repr__" = some (some (.ref f))) (hf : PySem.W.isFn X.K (.ref f) = true)
    (F : FnG X.prog X.w X.K X.mg X.base CX0 k f fd [x] sp) (hgd : X.A.guards = some []) (hr : Room (k + 1) X.A) (hb : Binds X.K fd [x] []) : CallR X (.builtin "repr") (rReprO C sp) := by
  intro pins s σ H xs us Q I r h
  obtain ⟨a, dx, fs, rfl, ea, hq⟩ := h
  cases r with
  | cons ra rn =>
    cases rn
    cases ra
    obtain ⟨mA, O, _⟩ := ins_get I.hok ea
    obtain ⟨od, J, _⟩ := O.look
    obtain ⟨m, fr⟩ := I.fr
    have hu : X.A.in1.units < cLine := hr.in1.units0
    refine PySem.W.repr_K hu fr I.ok.mod.kin J hm hf (goO F hgd hr hb I hq fun u s' z => ?_)
    obtain ⟨v, H', I', rv, y, rfl, q⟩ := z
    obtain ⟨t, rfl⟩ := rv
    exact ⟨.str y, H', I', ⟨_, rfl⟩, q⟩
end
end Nal

/-! Short words: what is known of a def by its name, of a method; built-in names that are not shadowed; heaps. -/
namespace Nal
open PySem PySem.Spec PyProof.Rows L2
/-- the def of the name x keeps the promise sp -/
structure Kn (P : Program) (w : World) (K : PySem.W.Frag) (mg : Str → Option Value) (base : Heap) (k : Nat) (x : Str) (ps : List Str) (sp : Sp) : Prop where
  ex : ∃ (f : Addr) (fd : FuncData), FnOk P w K mg base CX0 k f fd ps sp ∧ mg x = some (.ref f) ∧ PySem.W.keepIn K (.ref f) = true ∧ Binds K fd ps []
structure KnG (P : Program) (w : World) (K : PySem.W.Frag) (mg : Str → Option Value) (base : Heap) (k : Nat) (x : Str) (ps : List Str) (sp : Sp) : Prop where
  ex : ∃ (f : Addr) (fd : FuncData), FnG P w K mg base CX0 k f fd ps sp ∧ mg x = some (.ref f) ∧ PySem.W.keepIn K (.ref f) = true ∧ Binds K fd ps []
/-- the method m of the class at C -/
structure Mt (P : Program) (w : World) (K : PySem.W.Frag) (mg : Str → Option Value) (base : Heap) (C : Addr) (k : Nat) (m : Str) (ps : List Str) (sp : Sp) : Prop where
  ex : ∃ (f : Addr) (fd : FuncData), FnOk P w K mg base CX0 k f fd ps sp ∧ Meth K C m f ∧ Binds K fd ps []
/-- the def stands in the text -/
structure At (K : PySem.W.Frag) (mg : Str → Option Value) (x : Str) (st : Stmt) : Prop where
  ex : ∃ (f : Addr) (fd : FuncData), Fun K x x st f fd ∧ mg x = some (.ref f)
structure AtM (K : PySem.W.Frag) (C : Addr) (m q : Str) (st : Stmt) : Prop where
  ex : ∃ (f : Addr) (fd : FuncData), Fun K m q st f fd ∧ Meth K C m f
section
variable {P : Program} {w : World} {K : PySem.W.Frag} {mg : Str → Option Value} {base : Heap} {C : Addr}
theorem kn_of {x : Str} {st : Stmt} {N ps : List Str} {k : Nat} {sp : Sp} (h : At K mg x st) (S : FnScope N ps (defScope st))
    (hb : ∀ (kV doc pm : Value) (an : Option Addr) (cdv ct : Value) (us : List Value), us.length = ps.length →
      bindArgs (PySem.W.fnOf x x (defArgs st) (defBody st) (defScope st) .none kV doc pm an cdv ct) ⟨us, []⟩ = pure (ps.zip us))
    (len : ∀ vs H Q E, sp vs H Q E → vs.length = ps.length)
    (hbody : ∀ (f : Addr) (cdv : Value) (A : Around) (outer : List Env) (s : Shared) (H : Hp) (vs : List V) (Q : VK) (E : XK),
      Room k (A.deeper (envOfC x (defScope st) s.heap.objs.size f cdv)) → sp vs H Q E →
      ∃ t, PSs (cxOf CX0 P w K mg base N x (defScope st) f cdv A outer s H E).nox (defBody st) t ∧ t { nx := fun _ H' => Q .non H', rt := Q } (start N vs) H) :
    Kn P w K mg base (k + 1) x ps sp := by
  obtain ⟨f, fd, F, g⟩ := h.ex
  exact ⟨f, fd, F.ok S len (hbody f), g, F.kp, F.binds hb⟩
theorem kng_of {x : Str} {st : Stmt} {N ps : List Str} {k : Nat} {sp : Sp} (h : At K mg x st) (S : FnScope N ps (defScope st))
    (hb : ∀ (kV doc pm : Value) (an : Option Addr) (cdv ct : Value) (us : List Value), us.length = ps.length →
      bindArgs (PySem.W.fnOf x x (defArgs st) (defBody st) (defScope st) .none kV doc pm an cdv ct) ⟨us, []⟩ = pure (ps.zip us))
    (len : ∀ vs H Q E, sp vs H Q E → vs.length = ps.length)
    (hbody : ∀ (f : Addr) (cdv : Value) (A : Around) (outer : List Env) (s : Shared) (H : Hp) (vs : List V) (Q : VK) (E : XK), A.guards = some [] →
      Room k (A.deeper (envOfC x (defScope st) s.heap.objs.size f cdv)) → sp vs H Q E →
      ∃ t, PSs (cxOf CX0 P w K mg base N x (defScope st) f cdv A outer s H E).nox (defBody st) t ∧ t { nx := fun _ H' => Q .non H', rt := Q } (start N vs) H) :
    KnG P w K mg base (k + 1) x ps sp := by
  obtain ⟨f, fd, F, g⟩ := h.ex
  exact ⟨f, fd, okG F S len (hbody f), g, F.kp, F.binds hb⟩
theorem mt_of {m q : Str} {st : Stmt} {N ps : List Str} {k : Nat} {sp : Sp} (h : AtM K C m q st) (S : FnScope N ps (defScope st))
    (hb : ∀ (kV doc pm : Value) (an : Option Addr) (cdv ct : Value) (us : List Value), us.length = ps.length →
      bindArgs (PySem.W.fnOf m q (defArgs st) (defBody st) (defScope st) .none kV doc pm an cdv ct) ⟨us, []⟩ = pure (ps.zip us))
    (len : ∀ vs H Q E, sp vs H Q E → vs.length = ps.length)
    (hbody : ∀ (f : Addr) (cdv : Value) (A : Around) (outer : List Env) (s : Shared) (H : Hp) (vs : List V) (Q : VK) (E : XK),
      Room k (A.deeper (envOfC q (defScope st) s.heap.objs.size f cdv)) → sp vs H Q E →
      ∃ t, PSs (cxOf CX0 P w K mg base N q (defScope st) f cdv A outer s H E).nox (defBody st) t ∧ t { nx := fun _ H' => Q .non H', rt := Q } (start N vs) H) :
    Mt P w K mg base C (k + 1) m ps sp := by
  obtain ⟨f, fd, F, g⟩ := h.ex
  exact ⟨f, fd, F.ok S len (hbody f), g, F.binds hb⟩
theorem Kn.mono {j k : Nat} {x : Str} {ps : List Str} {sp : Sp} (h : Kn P w K mg base j x ps sp) (hk : j ≤ k) : Kn P w K mg base k x ps sp := by
  obtain ⟨f, fd, F, r⟩ := h.ex
  exact ⟨f, fd, F.mono hk, r⟩
end
section
variable {X : Cx} {k j : Nat} {ps : List Str} {sp : Sp} {x m : Str} {C : Addr} {p pos apos : Pos} {e o : Expr} {es : List Expr} {t : TA} {ta : TE}
theorem pe_kn (h : Kn X.prog X.w X.K X.mg X.base j x ps sp) (hr : Room k X.A) (hk : j ≤ k) (hg : Gl X x) (ha : PA X (e :: es) t)
    (hdb : (x == ("__debug__" : Str)) = false := by decide) (he : starEach (e :: es) X.env = (false, eval e X.env) :: starEach es X.env := by rfl)
    (hpl : (backTo pos (starEach es X.env)).any (·.1) = false := by rfl) : PE X (.Call (.Name x p) (e :: es) [] pos) (tCall sp [] E0 t) := by
  obtain ⟨f, fd, F, hm, kp, b⟩ := h.ex
  exact pe_call F (hr.mono hk) hg hm kp b .nil pass0 ha hdb he hpl
theorem pe_kng (h : KnG X.prog X.w X.K X.mg X.base j x ps sp) (hgd : X.A.guards = some []) (hr : Room k X.A) (hk : j ≤ k) (hg : Gl X x) (ha : PA X (e :: es) t)
    (hdb : (x == ("__debug__" : Str)) = false := by decide) (he : starEach (e :: es) X.env = (false, eval e X.env) :: starEach es X.env := by rfl)
    (hpl : (backTo pos (starEach es X.env)).any (·.1) = false := by rfl) : PE X (.Call (.Name x p) (e :: es) [] pos) (tCall sp [] E0 t) := by
  obtain ⟨f, fd, F, hm, kp, b⟩ := h.ex
  exact pe_callG F hgd (hr.mono hk) hg hm kp b .nil pass0 ha hdb he hpl
theorem pe_mth {pl : Sem Bool} (he : PE X o ta) (c : Cls X.K C) (h : Mt X.prog X.w X.K X.mg X.base C j m ps sp) (hr : Room k X.A) (hk : j ≤ k) (ha : PA X (e :: es) t)
    (hst : starEach (e :: es) X.env = (false, eval e X.env) :: starEach es X.env := by rfl) (hpl : (backTo pos (starEach es X.env)).any (·.1) = false := by rfl)
    (ht : eval (.Call (.Attribute o m apos) (e :: es) [] pos) X.env = (do
      let v ← eval o X.env
      standAt apos.atName
      let (f, first) ← holding [v] (getMethod v m pl)
      callWith pos f first (backTo pos (starEach (e :: es) X.env)) (backToKw pos (keywordEach [] X.env))) := by rfl) :
    PE X (.Call (.Attribute o m apos) (e :: es) [] pos) (tMeth C m sp [] E0 ta t) := by
  obtain ⟨f, fd, F, hm, b⟩ := h.ex
  exact pe_meth (pl := pl) he c hm F (hr.mono hk) b .nil pass0 ha hst hpl ht
theorem pe_mth0 {pl : Sem Bool} (he : PE X o ta) (c : Cls X.K C) (h : Mt X.prog X.w X.K X.mg X.base C j m ps sp) (hr : Room k X.A) (hk : j ≤ k)
    (ht : eval (.Call (.Attribute o m apos) [] [] pos) X.env = (do
      let v ← eval o X.env
      standAt apos.atName
      let (f, first) ← holding [v] (getMethod v m pl)
      callWith pos f first (backTo pos (starEach [] X.env)) (backToKw pos (keywordEach [] X.env))) := by rfl) :
    PE X (.Call (.Attribute o m apos) [] [] pos) (tMeth C m sp [] E0 ta tNil) := by
  obtain ⟨f, fd, F, hm, b⟩ := h.ex
  exact pe_meth0 (pl := pl) he c hm F (hr.mono hk) b .nil pass0 ht
end
/-- the class of the name x at C, made by its __init__ -/
structure MkC (P : Program) (w : World) (K : PySem.W.Frag) (mg : Str → Option Value) (base : Heap) (C : Addr) (k : Nat) (x : Str) (ps : List Str) (sp : Sp) : Prop where
  ex : ∃ (f : Addr) (fd : FuncData), Mk K C f ∧ FnOk P w K mg base CX0 k f fd ps sp ∧ Binds K fd ps [] ∧ mg x = some (.ref C)
theorem pe_mkc {X : Cx} {C : Addr} {j k : Nat} {x : Str} {ps : List Str} {sp : Sp} {p pos : Pos} {e : Expr} {es : List Expr} {t : TA}
    (h : MkC X.prog X.w X.K X.mg X.base C j x ps sp) (hr : Room k X.A) (hk : j + 1 ≤ k) (hg : Gl X x) (ha : PA X (e :: es) t)
    (hdb : (x == ("__debug__" : Str)) = false := by decide) (he : starEach (e :: es) X.env = (false, eval e X.env) :: starEach es X.env := by rfl)
    (hpl : (backTo pos (starEach es X.env)).any (·.1) = false := by rfl) : PE X (.Call (.Name x p) (e :: es) [] pos) (tMake C sp [] E0 t) := by
  obtain ⟨f, fd, M, F, b, hm⟩ := h.ex
  exact pe_make M F (hr.mono hk) hg hm b .nil pass0 ha hdb he hpl
/-- for i, x in enumerate(xs) -/
theorem for_enumL {K : PySem.W.Frag} {a : Addr} {xs : List V} {g : TG} {tb : TS} {D : Ends} {σ : L2.St} {H : Hp} (Pv : Nat → L2.St → Hp → Prop) (h0 : Pv 0 σ H)
    (hl : ∀ i σ H, i ≤ xs.length → Pv i σ H → SqL K H a xs)
    (hs : ∀ (i : Nat) (x : V) (T : Addr) (σ : L2.St) (H : Hp), xs[i]? = some x → Pv i σ H → H T = none →
      g (.ref T) σ (upd H T (.tup [.int (i : Nat), x])) fun σ2 H2 => tb { D with nx := Pv (i + 1), ct := Pv (i + 1), bk := D.nx } σ2 H2)
    (hd : ∀ σ H, Pv xs.length σ H → D.nx σ H) :
    ∃ W : Nat → Nat → L2.St → Hp → Prop, (∃ m, W 0 m σ H) ∧ ∀ i m σ H, W i m σ H →
      ((Ite K a).stop i H ∧ D.nx σ H) ∨ ((Ite K a).go i H ∧ ∃ N : L2.St → Hp → Prop, (∀ σ' H', N σ' H' → ∃ m', m' < m ∧ W (i + 1) m' σ' H') ∧
        ∀ x H', (Ite K a).yld i H x H' → g x σ H' fun σ2 H2 => tb { D with nx := N, ct := N, bk := D.nx } σ2 H2) := by
  refine ⟨fun i m σ H => m + i = xs.length ∧ Pv i σ H, ⟨xs.length, rfl, h0⟩, fun i m σ H z => ?_⟩
  obtain ⟨e, pv⟩ := z
  have sq := hl i σ H (by omega) pv
  by_cases c : i < xs.length
  · have at_ : xs[i]? = some xs[i] := List.getElem?_eq_getElem c
    refine .inr ⟨⟨xs, _, sq, at_⟩, Pv (i + 1), fun σ' H' z => ⟨m - 1, by omega, by omega, z⟩, fun y H' z => ?_⟩
    obtain ⟨T, x, rfl, nT, rfl, f⟩ := z
    exact hs i x T σ H (f xs sq) pv nT
  · refine .inl ⟨⟨xs, sq, by omega⟩, hd σ H ?_⟩
    have e2 : i = xs.length := by omega
    rw [← e2]
    exact pv
/-! rules whose reading names the written part K outright (within a comprehension the context is another one) -/
section
variable {X : Cx}
theorem kix_list (K : PySem.W.Frag) (h : X.K = K := by rfl) : IxR X (rIxL K) := by
  subst h
  exact ix_list
theorem kix_tup (K : PySem.W.Frag) (h : X.K = K := by rfl) : IxR X (rIxT K) := by
  subst h
  exact ix_tup
def rLenK (K : PySem.W.Frag) : List V → Hp → VK → Prop := fun xs H Q => ∃ p ys, xs = [.ref p] ∧ (SqL K H p ys ∨ SqT K H p ys) ∧ Q (.int ys.length) H
theorem kcall_len (K : PySem.W.Frag) (h : X.K = K := by rfl) : CallR X (.builtin "len") (rLenK K) := by
  subst h
  exact call_len_seq
theorem kop_in (K : PySem.W.Frag) (h : X.K = K := by rfl) : OpR X (compareOp .In) (rIn K false) := by
  subst h
  exact op_in_seq
theorem kop_notin (K : PySem.W.Frag) (h : X.K = K := by rfl) : OpR X (compareOp .NotIn) (rIn K true) := by
  subst h
  exact op_notIn_seq
theorem kop_eqD (K : PySem.W.Frag) (hu : X.A.units + 64 < cLine) (h : X.K = K := by rfl) : OpR X (compareOp .Eq) (rEqD K) := by
  subst h
  exact op_eqD hu
theorem kop_neD (K : PySem.W.Frag) (hu : X.A.units + 64 < cLine) (h : X.K = K := by rfl) : OpR X (compareOp .NotEq) (rNeD K) := by
  subst h
  exact op_neD hu
theorem kcall_isi (K : PySem.W.Frag) (h : X.K = K := by rfl) : CallR X (.builtin "isinstance") (rIsi K) := by
  subst h
  exact call_isi
def rListK (K : PySem.W.Frag) : List V → Hp → VK → Prop := fun xs H Q => ∃ p ys, xs = [.ref p] ∧ (SqL K H p ys ∨ SqT K H p ys) ∧ ∀ l, H l = none → Q (.ref l) (upd H l (.lst ys))
theorem kcall_list (K : PySem.W.Frag) (h : X.K = K := by rfl) : CallR X (.type "list") (rListK K) := by
  subst h
  exact call_list_of
def rTupK (K : PySem.W.Frag) : List V → Hp → VK → Prop := fun xs H Q => ∃ p ys, xs = [.ref p] ∧
  ((SqL K H p ys ∧ ∀ l, H l = none → Q (.ref l) (upd H l (.tup ys))) ∨ (SqT K H p ys ∧ Q (.ref p) H))
theorem kcall_tuple (K : PySem.W.Frag) (h : X.K = K := by rfl) : CallR X (.type "tuple") (rTupK K) := by
  subst h
  exact call_tuple_of
end
/-- the built-in names that the text leaves as they are -/
structure Bl (mg : Str → Option Value) : Prop where
  len : mg "len" = none
  abs : mg "abs" = none
  max : mg "max" = none
  min : mg "min" = none
  range : mg "range" = none
  divmod : mg "divmod" = none
  isinstance : mg "isinstance" = none
  sorted : mg "sorted" = none
  all : mg "all" = none
  repr : mg "repr" = none
  enumerate : mg "enumerate" = none
  t_int : mg "int" = none
  t_bool : mg "bool" = none
  t_list : mg "list" = none
  t_tuple : mg "tuple" = none
  t_set : mg "set" = none
/-- all but p stays -/
def Keep (p : Addr) (H H' : Hp) : Prop := ∀ b o, b ≠ p → H b = some o → H' b = some o
theorem Keep.refl (p : Addr) (H : Hp) : Keep p H H := fun _ _ _ h => h
theorem Keep.trans {p : Addr} {H H1 H2 : Hp} (a : Keep p H H1) (b : Keep p H1 H2) : Keep p H H2 := fun c o n h => b c o n (a c o n h)
theorem Keep.same {p : Addr} {H H' : Hp} (h : Same H H') : Keep p H H' := fun b o _ e => h b o e
theorem Keep.upd {p : Addr} {H : Hp} {o : HO} : Keep p H (upd H p o) := fun b _ n e => by rw [upd_ne n]; exact e
theorem Keep.new {p q : Addr} {H : Hp} {o : HO} (h : H q = none) : Keep p H (L2.upd H q o) := fun b _ _ e => by rw [upd_ne (ne_of_none e h)]; exact e
theorem Keep.gone {p q : Addr} {H H' : Hp} (k : Keep p H H') (n : q ≠ p) (h : H' q = none) : H q = none := by
  cases e : H q with
  | none => rfl
  | some o => rw [k q o n e] at h; cases h
theorem Keep.noneP {p q : Addr} {H H' : Hp} {o : HO} (k : Keep p H H') (hp : H' p = some o) (h : H' q = none) : H q = none :=
  k.gone (fun e => by rw [e, hp] at h; cases h) h
theorem Keep.seq {p a : Addr} {K : PySem.W.Frag} {H H' : Hp} {xs : List V} (k : Keep p H H') (n : a ≠ p) (h : SqL K H a xs) : SqL K H' a xs := by
  rcases h with (h | ⟨o, h⟩) | h
  · exact .inl (.inl (k _ _ n h))
  · exact .inl (.inr ⟨o, k _ _ n h⟩)
  · exact .inr h
theorem Keep.seqT {p a : Addr} {K : PySem.W.Frag} {H H' : Hp} {xs : List V} (k : Keep p H H') (n : a ≠ p) (h : SqT K H a xs) : SqT K H' a xs := by
  rcases h with (h | ⟨o, h⟩) | h
  · exact .inl (.inl (k _ _ n h))
  · exact .inl (.inr ⟨o, k _ _ n h⟩)
  · exact .inr h
theorem new_ne {H : Hp} {p q : Addr} {o : HO} (h : upd H p o q = none) : q ≠ p ∧ H q = none := by
  have n : q ≠ p := fun e => by
    rw [e, upd_same] at h
    cases h
  rw [upd_ne n] at h
  exact ⟨n, h⟩
theorem same_new {H : Hp} {p : Addr} {o : HO} (h : H p = none) : Same H (upd H p o) := fun b x e => by
  rw [upd_ne (ne_of_none e h)]
  exact e
theorem Same.seqT {K : PySem.W.Frag} {H H' : Hp} {a : Addr} {xs : List V} (e : Same H H') (h : SqT K H a xs) : SqT K H' a xs := by
  rcases h with (h | ⟨o, h⟩) | h
  · exact .inl (.inl (e _ _ h))
  · exact .inl (.inr ⟨o, e _ _ h⟩)
  · exact .inr h
end Nal

/-! lists of whole numbers as data: ==, repr -/
namespace Nal
open PySem PySem.Spec PyProof.Rows L2
/-- a list of whole numbers as data -/
abbrev dInts (ns : List Int) : PyData := .list (ns.map PyData.int)
section
variable {K : PySem.W.Frag} {H : Hp} {a : Addr}
theorem dpAll_ints : ∀ ns : List Int, DpAll K H (ns.map V.int) (ns.map PyData.int)
  | [] => .nil
  | n :: r => .cons (.int n) (dpAll_ints r)
theorem dp_ints {ns : List Int} (h : SqL K H a (ns.map V.int)) : Dp K H (.ref a) (dInts ns) := .lst h (dpAll_ints ns)
end
theorem canLay_ints : ∀ ns : List Int, PyData.canLayAll0 (ns.map PyData.int) = true
  | [] => by simp [PyData.canLayAll0]
  | n :: r => by simp [PyData.canLayAll0, PyData.canLay0, canLay_ints r]
theorem depth_ints : ∀ ns : List Int, PyData.depthAll (ns.map PyData.int) = 0
  | [] => by simp [PyData.depthAll]
  | n :: r => by simp [PyData.depthAll, PyData.depth, depth_ints r]
theorem lay_ints (ns : List Int) : (dInts ns).canLay0 = true := by
  show PyData.canLay0 (.list _) = true
  simp only [PyData.canLay0, canLay_ints]
theorem shaped_ints (ns : List Int) : SeqAt.shaped (dInts ns) = true := by
  unfold SeqAt.shaped
  rw [lay_ints, Bool.true_and]
  refine decide_eq_true ?_
  simp only [PyData.depth, depth_ints]
  decide
theorem eqv_ints : ∀ ns ms : List Int, PyData.eqv (dInts ns) (dInts ms) = decide (ns = ms) := by
  have all : ∀ ns ms : List Int, PyData.eqvAll (ns.map PyData.int) (ms.map PyData.int) = decide (ns = ms) := by
    intro ns
    induction ns with
    | nil =>
      intro ms
      cases ms with
      | nil => simp [PyData.eqvAll]
      | cons m r => simp [PyData.eqvAll]
    | cons n r ih =>
      intro ms
      cases ms with
      | nil => simp [PyData.eqvAll]
      | cons m q =>
        rw [List.map_cons, List.map_cons]
        simp only [PyData.eqvAll, PyData.eqv, ih q]
        by_cases c : n = m
        · subst c
          simp
        · simp [c]
  intro ns ms
  simp only [PyData.eqv]
  exact all ns ms
theorem eqv_same (ns : List Int) : PyData.eqv (dInts ns) (dInts ns) = true := by rw [eqv_ints, decide_eq_true rfl]
theorem showy_ints {ns : List Int} {n : Nat} (h : ∀ z ∈ ns, z.natAbs < 10 ^ 40) (hn : ns.length ≤ n) : Showy n 1 (dInts ns) :=
  Showy.list ((ShowyAll.ints h).mono hn (Nat.le_refl _))
end Nal

/-! lists of lists of whole numbers as data -/
namespace Nal
open PySem PySem.Spec PyProof.Rows L2
abbrev dLists (ls : List (List Int)) : PyData := .list (ls.map dInts)
theorem canLay_lists : ∀ ls : List (List Int), PyData.canLayAll0 (ls.map dInts) = true
  | [] => by simp [PyData.canLayAll0]
  | l :: r => by
    have h := lay_ints l
    have ih := canLay_lists r
    rw [List.map_cons]
    simp only [PyData.canLayAll0]
    rw [ih, Bool.and_true]
    exact h
theorem depth_lists : ∀ ls : List (List Int), PyData.depthAll (ls.map dInts) ≤ 1
  | [] => by simp [PyData.depthAll]
  | l :: r => by
    have ih := depth_lists r
    rw [List.map_cons]
    simp only [PyData.depthAll, PyData.depth, depth_ints]
    omega
theorem shaped_lists (ls : List (List Int)) : SeqAt.shaped (dLists ls) = true := by
  unfold SeqAt.shaped
  have h1 : (dLists ls).canLay0 = true := by
    show PyData.canLay0 (.list _) = true
    simp only [PyData.canLay0, canLay_lists]
  rw [h1, Bool.true_and]
  refine decide_eq_true ?_
  have := depth_lists ls
  simp only [PyData.depth]
  omega
theorem eqv_listsAll : ∀ ls : List (List Int), PyData.eqvAll (ls.map dInts) (ls.map dInts) = true
  | [] => by simp [PyData.eqvAll]
  | l :: r => by
    have ih := eqv_listsAll r
    have h := eqv_same l
    rw [List.map_cons]
    simp only [PyData.eqvAll]
    rw [ih, Bool.and_true]
    exact h
theorem eqv_lists (ls : List (List Int)) : PyData.eqv (dLists ls) (dLists ls) = true := by
  simp only [PyData.eqv]
  exact eqv_listsAll ls
theorem showy_lists {ls : List (List Int)} {n : Nat} (h : ∀ l ∈ ls, l.length ≤ n ∧ ∀ z ∈ l, z.natAbs < 10 ^ 40) (m : Nat) (hm : (n + 1) * ls.length ≤ m) : Showy m 2 (dLists ls) := by
  have q := ShowyAll.of (m := n) (dp := 1) (ds := ls.map dInts) fun d hd => by
    obtain ⟨l, hl, rfl⟩ := List.mem_map.mp hd
    exact showy_ints (h l hl).2 (h l hl).1
  rw [List.length_map] at q
  exact Showy.list (q.mono hm (Nat.le_refl _))
end Nal

namespace Nal
open PySem PySem.Spec PyProof.Rows L2 LamX
section
variable {X : Cx}
/-- a, b as a target, the written part named outright -/
theorem kpg_tup {es : List Expr} {k n : Nat} {t : TGs} {pos : Pos} (K : PySem.W.Frag) (hc : X.calm = true) (h : PGs X es t) (hn : (assignEach es X.env).length = n := by rfl)
    (hst : (assignEach es X.env).findIdx? (·.1) = none := by rfl) (hK : X.K = K := by rfl) : PG X (.Tuple es k pos) (gTup K n t) := by
  subst hK
  exact pg_tup hc h hn hst
end
/-- tuples stay -/
def Tups (H H' : Hp) : Prop := ∀ b xs, H b = some (.tup xs) → H' b = some (.tup xs)
theorem Tups.same {H H' : Hp} (s : Same H H') : Tups H H' := fun b xs e => s _ _ e
theorem Tups.ext {H H' : Hp} (s : ExtN H H') : Tups H H' := fun b xs e => s _ _ e (fun _ z => by cases z)
theorem Tups.keep {p : Addr} {H H' : Hp} {ys : List V} (hp : H p = some (.lst ys)) (k : Keep p H H') : Tups H H' := fun b xs e => k _ _ (ne_of e hp (by intro z; cases z)) e
/-- a tie as a value -/
def TieAt (H : Hp) (x : V) (t : Nat × Nat) : Prop := ∃ b, x = .ref b ∧ H b = some (.tup [.int (t.1 : Int), .int (t.2 : Int)])
abbrev TiesAt (H : Hp) : List V → List (Nat × Nat) → Prop := Paired (TieAt H)
theorem TieAt.more {H H' : Hp} {x : V} {t : Nat × Nat} (h : TieAt H x t) (k : Tups H H') : TieAt H' x t := by
  obtain ⟨b, e, h⟩ := h
  exact ⟨b, e, k _ _ h⟩
theorem TiesAt.more {H H' : Hp} {xs : List V} {ts : List (Nat × Nat)} (h : TiesAt H xs ts) (k : Tups H H') : TiesAt H' xs ts := Paired.mapP h fun _ _ z => z.more k
theorem TiesAt.len {H : Hp} {xs : List V} {ts : List (Nat × Nat)} (h : TiesAt H xs ts) : xs.length = ts.length := Paired.length h
theorem TiesAt.at {H : Hp} : ∀ {xs : List V} {ts : List (Nat × Nat)} {i : Nat} {x : V}, TiesAt H xs ts → xs[i]? = some x → ∃ t, ts[i]? = some t ∧ TieAt H x t
  | _, _, _, _, .nil, e => by simp at e
  | _, _, 0, _, .cons r _, e => by
    simp at e
    subst e
    exact ⟨_, rfl, r⟩
  | _, _, i + 1, x, .cons _ q, e => by
    obtain ⟨t, h1, h2⟩ := TiesAt.at (i := i) (x := x) q (by simpa using e)
    exact ⟨t, by simpa using h1, h2⟩
theorem TiesAt.snoc {H : Hp} : ∀ {xs : List V} {ts : List (Nat × Nat)} {x : V} {t : Nat × Nat}, TiesAt H xs ts → TieAt H x t → TiesAt H (xs ++ [x]) (ts ++ [t])
  | _, _, _, _, .nil, h => .cons h .nil
  | _, _, _, _, .cons r q, h => .cons r (TiesAt.snoc q h)
theorem TiesAt.mem {H : Hp} {xs : List V} {ts : List (Nat × Nat)} {x : V} (h : TiesAt H xs ts) (hx : x ∈ xs) : ∃ t ∈ ts, TieAt H x t := by
  obtain ⟨i, hi⟩ := List.mem_iff_getElem?.mp hx
  obtain ⟨t, h1, h2⟩ := h.at hi
  exact ⟨t, List.mem_of_getElem? h1, h2⟩
/-- ties as data -/
def dTie (t : Nat × Nat) : PyData := .tuple [.int (t.1 : Int), .int (t.2 : Int)]
abbrev dTies (ts : List (Nat × Nat)) : PyData := .list (ts.map dTie)
section
variable {K : PySem.W.Frag} {H : Hp}
theorem dp_tie {x : V} {t : Nat × Nat} (h : TieAt H x t) : Dp K H x (dTie t) := by
  obtain ⟨b, rfl, h⟩ := h
  exact .tup (.inl (.inl h)) (.cons (.int _) (.cons (.int _) .nil))
theorem dp_tiesAll : ∀ {xs : List V} {ts : List (Nat × Nat)}, TiesAt H xs ts → DpAll K H xs (ts.map dTie)
  | _, _, .nil => .nil
  | _, _, .cons r q => .cons (dp_tie r) (dp_tiesAll q)
theorem dp_ties {a : Addr} {xs : List V} {ts : List (Nat × Nat)} (hl : SqL K H a xs) (h : TiesAt H xs ts) : Dp K H (.ref a) (dTies ts) := .lst hl (dp_tiesAll h)
end
theorem lay_tiesAll : ∀ ts : List (Nat × Nat), PyData.canLayAll0 (ts.map dTie) = true
  | [] => by simp [PyData.canLayAll0]
  | t :: r => by simp [PyData.canLayAll0, dTie, PyData.canLay0, lay_tiesAll r]
theorem depth_tiesAll : ∀ ts : List (Nat × Nat), PyData.depthAll (ts.map dTie) ≤ 1
  | [] => by simp [PyData.depthAll]
  | t :: r => by
    have := depth_tiesAll r
    simp only [List.map_cons, PyData.depthAll, dTie, PyData.depth]
    omega
theorem shaped_ties (ts : List (Nat × Nat)) : SeqAt.shaped (dTies ts) = true := by
  unfold SeqAt.shaped
  have h1 : (dTies ts).canLay0 = true := by
    show PyData.canLay0 (.list _) = true
    simp only [PyData.canLay0, lay_tiesAll]
  rw [h1, Bool.true_and]
  refine decide_eq_true ?_
  have := depth_tiesAll ts
  simp only [PyData.depth]
  omega
theorem eqv_tiesAll : ∀ ts : List (Nat × Nat), PyData.eqvAll (ts.map dTie) (ts.map dTie) = true
  | [] => by simp [PyData.eqvAll]
  | t :: r => by
    have ih := eqv_tiesAll r
    simp only [List.map_cons, PyData.eqvAll, dTie, PyData.eqv, beq_self_eq_true, Bool.true_and]
    exact ih
theorem eqv_ties (ts : List (Nat × Nat)) : PyData.eqv (dTies ts) (dTies ts) = true := by
  simp only [PyData.eqv]
  exact eqv_tiesAll ts
theorem eqv_ties_nil (ts : List (Nat × Nat)) : PyData.eqv (dTies ts) (dTies []) = ts.isEmpty := by
  cases ts with
  | nil => rfl
  | cons t r => rfl
theorem showy_ties {ts : List (Nat × Nat)} (h : ∀ t ∈ ts, t.1 < 1000 ∧ t.2 < 1000) (hl : ts.length ≤ 100) : Showy 300 2 (dTies ts) := by
  have q := ShowyAll.of (m := 2) (dp := 1) (ds := ts.map dTie) fun d hd => by
    obtain ⟨t, ht, rfl⟩ := List.mem_map.mp hd
    have hb := h t ht
    have s : ∀ n : Nat, n < 1000 → (n : Int).natAbs < 10 ^ 40 := fun n hn => Nat.lt_of_lt_of_le (show (n : Int).natAbs < 1000 by omega) (by decide)
    exact (Showy.tuple (.cons (Showy.int (n := 0) (dp := 0) (s _ hb.1)) (.cons (Showy.int (n := 0) (dp := 0) (s _ hb.2)) (.nil (n := 0))))).mono (by omega) (by omega)
  rw [List.length_map] at q
  exact Showy.list (q.mono (by omega) (by omega))
end Nal

/-! o.m(..) and len(o): o an instance of one of several own classes, one promise for all. -/
namespace Nal
open PySem PySem.Spec PyProof.Rows L2
/-- the promise sp, where the first is an instance of C -/
def spAt (C : Addr) (sp : Sp) : Sp := fun vs H Q E => (∃ (a dx : Addr) (fs : List (Str × V)) (rest : List V), vs = .ref a :: rest ∧ H a = some (.ins C dx fs)) ∧ sp vs H Q E
/-- each class of S has a method m that keeps sp -/
structure MtU (P : Program) (w : World) (K : PySem.W.Frag) (mg : Str → Option Value) (base : Heap) (S : Addr → Prop) (k : Nat) (m : Str) (ps : List Str) (sp : Sp) : Prop where
  ex : ∀ C, S C → Cls K C ∧ Mt P w K mg base C k m ps (spAt C sp)
theorem Mt.imp {P : Program} {w : World} {K : PySem.W.Frag} {mg : Str → Option Value} {base : Heap} {C : Addr} {k j : Nat} {m : Str} {ps : List Str} {sp sp' : Sp} (h : Mt P w K mg base C k m ps sp) (hk : k ≤ j)
    (i : ∀ vs H Q E, sp' vs H Q E → sp vs H Q E) : Mt P w K mg base C j m ps sp' := by
  obtain ⟨f, fd, F, r⟩ := h.ex
  exact ⟨f, fd, (F.imp i).mono hk, r⟩
def tMethU (S : Addr → Prop) (m : Str) (sp : Sp) (ta : TE) (t : TA) : TE := fun σ H Q => ta σ H fun x H1 => ∃ (C a dx : Addr) (fs : List (Str × V)), S C ∧ x = .ref a ∧ H1 a = some (.ins C dx fs) ∧ fs.lookup m = none ∧
  t σ H1 fun vs H2 => (∃ dx' fs', H2 a = some (.ins C dx' fs')) ∧ sp (x :: vs) H2 Q E0
section
variable {X : Cx} {k j : Nat} {ps : List Str} {sp : Sp} {x m : Str} {S : Addr → Prop} {p pos apos : Pos} {e o : Expr} {es : List Expr} {t : TA} {ta : TE}
theorem pe_mthU {pl : Sem Bool} (he : PE X o ta) (h : MtU X.prog X.w X.K X.mg X.base S j m ps sp) (hr : Room k X.A) (hk : j ≤ k) (ha : PA X (e :: es) t)
    (hst : starEach (e :: es) X.env = (false, eval e X.env) :: starEach es X.env := by rfl) (hpl : (backTo pos (starEach es X.env)).any (·.1) = false := by rfl)
    (ht : eval (.Call (.Attribute o m apos) (e :: es) [] pos) X.env = (do
      let v ← eval o X.env
      standAt apos.atName
      let (f, first) ← holding [v] (getMethod v m pl)
      callWith pos f first (backTo pos (starEach (e :: es) X.env)) (backToKw pos (keywordEach [] X.env))) := by rfl) :
    PE X (.Call (.Attribute o m apos) (e :: es) [] pos) (tMethU S m sp ta t) := by
  refine ⟨fun pins s σ H Q I h1 => ?_⟩
  refine PySem.W.methodCall_KW (pl := pl) (thn (he.run pins s σ H _ I h1) fun u s1 ⟨x, H1, I1, rx, C, a, dx, fs, hS, ex, ea, l, q⟩ => ?_) ht
  subst ex
  obtain rfl : u = Value.ref a := rx
  obtain ⟨c, M⟩ := h.ex C hS
  obtain ⟨f, fd, F, hm, b⟩ := M.ex
  refine getmeth_ok I1 ea c hm l ?_
  refine PySem.W.callWith_K (first := [.ref a]) (h₀ := X.base) I.ok.mod.kin hm.kp (thn (ha.run pos pins s1 σ H1 _ I1 q) fun us s2 ⟨vs, H2, I2, r, ⟨dx', fs', ea'⟩, q2⟩ => ⟨I2.kIn, ?_⟩) hst hpl
  exact run_fn (dvs := []) (us := .ref a :: us) (vs := .ref a :: vs) F (hr.mono hk) b .nil pass0 I2 (.cons rfl r) (by rw [List.append_nil]; exact ⟨⟨a, dx', fs', vs, rfl, ea'⟩, q2⟩)
theorem pe_mthU0 {pl : Sem Bool} (he : PE X o ta) (h : MtU X.prog X.w X.K X.mg X.base S j m ps sp) (hr : Room k X.A) (hk : j ≤ k)
    (ht : eval (.Call (.Attribute o m apos) [] [] pos) X.env = (do
      let v ← eval o X.env
      standAt apos.atName
      let (f, first) ← holding [v] (getMethod v m pl)
      callWith pos f first (backTo pos (starEach [] X.env)) (backToKw pos (keywordEach [] X.env))) := by rfl) :
    PE X (.Call (.Attribute o m apos) [] [] pos) (tMethU S m sp ta tNil) := by
  refine ⟨fun pins s σ H Q I h1 => ?_⟩
  refine PySem.W.methodCall_KW (pl := pl) (thn (he.run pins s σ H _ I h1) fun u s1 ⟨x, H1, I1, rx, C, a, dx, fs, hS, ex, ea, l, ⟨dx', fs', ea'⟩, q⟩ => ?_) ht
  subst ex
  obtain rfl : u = Value.ref a := rx
  obtain ⟨c, M⟩ := h.ex C hS
  obtain ⟨f, fd, F, hm, b⟩ := M.ex
  have sp1 : spAt C sp [.ref a] H1 Q E0 := ⟨⟨a, dx', fs', [], rfl, ea'⟩, q⟩
  refine getmeth_ok I1 ea c hm l ?_
  exact PySem.W.callWith_K0 (first := [.ref a]) I1.kIn hm.kp (run_fn (dvs := []) (us := [.ref a]) (vs := [.ref a]) F (hr.mono hk) b .nil pass0 I1 (.cons rfl .nil) (by exact sp1))
def rLenU (S : Addr → Prop) (sp : Sp) : List V → Hp → VK → Prop := fun xs H Q => ∃ (C a dx : Addr) (fs : List (Str × V)), S C ∧ xs = [.ref a] ∧ H a = some (.ins C dx fs) ∧
  sp [.ref a] H (fun v H' => ∃ n : Nat, v = .int n ∧ n < 2 ^ 63 ∧ Q (.int n) H') E0
theorem call_lenU (h : MtU X.prog X.w X.K X.mg X.base S j "__len__" [x] sp) (hr : Room (k + 1) X.A) (hk : j ≤ k) : CallR X (.builtin "len") (rLenU S sp) := by
  intro pins s σ H xs us Q I r h1
  obtain ⟨C, a, dx, fs, hS, rfl, ea, hq⟩ := h1
  obtain ⟨c, M⟩ := h.ex C hS
  obtain ⟨f, fd, F, hm, b⟩ := M.ex
  exact call_lenO (C := C) hm.at_ hm.fn (F.mono hk) hr b pins s σ H _ us Q I r ⟨a, dx, fs, rfl, ea, ⟨a, dx, fs, [], rfl, ea⟩, hq⟩
end
end Nal

/-! set(l): l a list of whole numbers; the set is one that sorted() takes. -/
namespace Nal
open PySem PySem.Spec PyProof.Rows L2
/-- a set with nothing in it -/
abbrev bareSet (w : World) : Obj := { cls := .type "set", dict := none, data := .set #[] 0 (.fresh 0 0 (!w.params.followText "set-order")) }
/-- behind it: the set of ns at the first free address, all else as it was -/
def Filled (w : World) (s : Shared) (ns : List Int) (h' : Heap) (c : Nat) : Prop := SetR w h' s.heap.objs.size (fun j => decide (j ∈ ns)) c ∧ c ≤ ns.length ∧ ∀ b o, s.heap.get? b = some o → h'.get? b = some o
section
variable {P : Program} {w : World} {A : Around} {E : Value → Shared → Prop} {s : Shared}
/-- the walk over the list fills the bare set -/
theorem fill_walk {l : Addr} {items : Array Value} {ns : List Int} {R : Result → Shared → Prop} (hh : A.in1.handled = none) (hl : s.heap.IsList l items) (hit : IntsAre items.toList ns) (hb : ns.length + 1 < scanBound)
    (hR : ∀ (h' : Heap) (tk c : Nat), Filled w s ns h' c → R (.ok (.ret .none)) { s with heap := h', toks := tk }) :
    codeAny (model P w) A (.builtin "set.update.loop" ⟨[.ref s.heap.objs.size, .ref (s.heap.push (bareSet w)).objs.size], []⟩) R
      { s with heap := (s.heap.push (bareSet w)).push { cls := .type "list_iterator", data := .fields #[.ref l, .int 0 0] } } := by
  have len : items.size = ns.length := by
    rw [← Array.length_toList]
    exact IntsAre.length hit
  have at0 : (s.heap.push (bareSet w)).get? s.heap.objs.size = some (bareSet w) := Heap.get?_push_size _ rfl
  have sz : (s.heap.push (bareSet w)).objs.size = s.heap.objs.size + 1 := Heap.size_push ..
  have lS : l < s.heap.objs.size := by
    obtain ⟨o, ho, _⟩ := hl
    exact Heap.lt_size ho
  have hl1 : (s.heap.push (bareSet w)).IsList l items := by
    obtain ⟨o, ho, r⟩ := hl
    exact ⟨o, Heap.get?_push_of_some _ ho, r⟩
  have lI : l ≠ (s.heap.push (bareSet w)).objs.size := Nat.ne_of_lt (by rw [sz]; exact Nat.lt_succ_of_lt lS)
  have off : s.heap.objs.size ∉ [(s.heap.push (bareSet w)).objs.size, l] := by
    rw [sz]
    simp only [List.mem_cons, List.not_mem_nil, or_false, not_or]
    exact ⟨Nat.ne_of_lt (Nat.lt_succ_self _), Nat.ne_of_gt lS⟩
  have vals : ∀ (i : Nat) (v : Value), items[i]? = some v → ∃ k t, ns[i]? = some k ∧ v = .int k t := fun i v hv => by
    have hi : i < ns.length := by
      rw [← len]
      exact (Array.getElem?_eq_some_iff.mp hv).1
    obtain ⟨t, e⟩ := IntsAre.int_at hit i v (by rw [Array.getElem?_toList]; exact hv)
    refine ⟨ns[i], t, List.getElem?_eq_getElem hi, ?_⟩
    rw [e, List.getD_eq_getElem?_getD, List.getElem?_eq_getElem hi]
    rfl
  refine set_update_ints ((Walks.list hh _ l lI items).toS) s.heap.objs.size off ns len hb vals (items.size - 0) 0 _ (by omega) (Nat.zero_le _) ⟨⟨_, Heap.get?_push_size _ rfl, rfl, rfl⟩, hl1.push _⟩
    ⟨0, Nat.le_refl 0, setR_new_at (Heap.get?_push_of_some _ at0)⟩ fun s' c hm hc hS => ?_
  obtain ⟨h', g', d', tk', os'⟩ := s'
  obtain rfl : g' = s.gens := hm.gens
  obtain rfl : d' = s.drawn := hm.drawn
  obtain rfl : os' = s.os := hm.os
  refine hR h' tk' c ⟨hS, by omega, fun b o e => ?_⟩
  have hb0 := Heap.lt_size e
  refine hm.heap b o ?_ (Heap.get?_push_of_some _ (Heap.get?_push_of_some _ e))
  rw [sz]
  simp only [List.mem_cons, List.not_mem_nil, or_false, not_or]
  exact ⟨Nat.ne_of_lt hb0, Nat.ne_of_lt (Nat.lt_succ_of_lt hb0)⟩
/-- set(l) -/
theorem call_setL {l : Addr} {items : Array Value} {ns : List Int} {Q : Value → Shared → Prop} (hh : A.handled = none) (hl : s.heap.IsList l items) (hit : IntsAre items.toList ns) (hb : ns.length + 1 < scanBound)
    (h : ∀ (h' : Heap) (tk c : Nat), Filled w s ns h' c → Q (.ref s.heap.objs.size) { s with heap := h', toks := tk }) : wpAny (model P w) A (call (.type "set") [.ref l]) Q E s := by
  obtain ⟨c, tl, hmro⟩ := F.called_set.mro
  have hmade := F.called_set.made
  have hsub := F.called_set.sub
  have h1 := F.called_set.notType
  have h2 := F.called_set.canCreate
  have hct := F.typeCall_set_1 (.ref l)
  have at0 : (s.heap.push (bareSet w)).get? s.heap.objs.size = some (bareSet w) := Heap.get?_push_size _ rfl
  have hT : Shared.TypeIs { s with heap := s.heap.push (bareSet w) } (.ref s.heap.objs.size) "set" := ⟨_, at0, rfl⟩
  have hli := F.called_set.init.lookup
  have hbi := F.called_set.init.bind (.ref s.heap.objs.size)
  refine wpAny_call (codeAny_of_tree ?_)
  show wpAny _ _ (callAny (.type "set") _) _ _ _
  refine wpAny_pure ⟨Code.quiet_builtin _ (by decide +kernel), codeAny_builtin F.entry_type_call ?_⟩
  rw [Around.under_plain (weight_type_call_type "set" [.ref l] []) rfl]
  repeat (any_goals (first | assumption | wp_step))
  refine codeAny_mono (code_set_led1 (.ref l) (E := E) (Q₁ := fun obj s₁ => obj = .ref s.heap.objs.size ∧ s₁ = { s with heap := s.heap.push (bareSet w) }) ⟨rfl, rfl⟩) fun r s₁ hr => ?_
  match r, hr with
  | .error e, hr => exact hr
  | .ok .next, hr => exact False.elim hr
  | .ok .brk, hr => exact False.elim hr
  | .ok .cont, hr => exact False.elim hr
  | .ok (.ret obj), hr =>
    obtain ⟨rfl, rfl⟩ := hr
    repeat (any_goals (first | assumption | wp_step))
    refine codeAny_mono (codeAny_call_builtin (R := wants (fun r s₂ => r = .none ∧ ∃ h' tk c, s₂ = { s with heap := h', toks := tk } ∧ Filled w s ns h' c) E) F.called_set.init.plain F.entry_set_init (check_set_init_1 hT ?_)) fun r₂ s₂ hr₂ => ?_
    · have hl0 := hl
      obtain ⟨⟨ocls, odict, odata, oslots⟩, ho, hcl, n, hd⟩ := hl
      simp only at hcl hd
      subst hcl
      subst hd
      have ho1 : (s.heap.push (bareSet w)).get? l = some { cls := .type "list", dict := odict, data := .seq items n, slots := oslots } := Heap.get?_push_of_some _ ho
      have n1 := F.sub_list_set
      have n2 := F.sub_list_frozenset
      have n3 : (Value.type "list" == Value.type "dict") = false := by decide
      have hl1 : (s.heap.push (bareSet w)).IsList l items := ⟨_, ho1, rfl, n, rfl⟩
      unfold Builtin.«set.__init__» noKeywords Builtin.Frozenset.updateFrom
      generalize hPI : pyIter = PI
      wp_walk
      subst hPI
      refine wpAny_pyIter_list hl1 (wpAny_bind (wpAny_runValue (fill_walk (by simp [hh]) hl0 hit hb fun h' tk c hf => ?_)))
      show wpAny _ _ _ _ _ _
      refine wpAny_pure ?_
      show wpAny _ _ (ret Value.none) _ _ _
      exact wpAny_pure ⟨rfl, h', tk, c, rfl, hf⟩
    · match r₂, hr₂ with
      | .error e, hr₂ => exact hr₂
      | .ok .next, hr₂ => exact False.elim hr₂
      | .ok .brk, hr₂ => exact False.elim hr₂
      | .ok .cont, hr₂ => exact False.elim hr₂
      | .ok (.ret v), hr₂ =>
        obtain ⟨rfl, h', tk, c, rfl, hf⟩ := hr₂
        repeat (any_goals (first | assumption | wp_step))
        exact h _ _ _ hf
end
section
variable {X : Cx}
/-- set(l) -/
def rSetL (K : PySem.W.Frag) (w : World) : List V → Hp → VK → Prop := fun xs H Q => ∃ (l : Addr) (ns : List Int), xs = [.ref l] ∧ SqL K H l (ns.map V.int) ∧ ns.length ≤ 4000 ∧
  ∀ (p : Addr) (c : Nat), c ≤ ns.length → H p = none → Q (.ref p) (upd H p (SetO w p (fun j => decide (j ∈ ns)) c))
theorem cr_setL (hc : X.calm = true) : CallR X (.type "set") (rSetL X.K X.w) := by
  intro pins s σ H xs us Q I r h
  obtain ⟨l, ns, rfl, hs, hl, q⟩ := h
  rw [Vals.ref1 r]
  obtain ⟨its, rv, pl, hz⟩ := I.list hs
  refine call_setL (I.ok.hd hc) pl.isList (by simpa using RZ.intsAre_vals rv) (by unfold scanBound; omega) fun h' tk c hf => ?_
  exact ⟨.ref _, upd H s.heap.objs.size (SetO X.w s.heap.objs.size (fun j => decide (j ∈ ns)) c), I.laid (t' := tk) hf.2.2 (Nat.le_refl _) (setO_new hf.1), rfl, q _ c hf.2.1 (I.hok.fresh (Nat.le_refl _))⟩
theorem kcall_set (K : PySem.W.Frag) (w : World) (hc : X.calm = true) (h : X.K = K := by rfl) (hw : X.w = w := by rfl) : CallR X (.type "set") (rSetL K w) := by
  subst h
  subst hw
  exact cr_setL hc
end
end Nal

/-! len(set(l)): how many unlike ones. -/
namespace Nal
open PySem PySem.Spec PyProof.Rows L2
section
variable {X : Cx}
def rLenSet (w : World) : List V → Hp → VK → Prop := fun xs H Q => ∃ (p : Addr) (S : Int → Bool) (n : Nat), xs = [.ref p] ∧ H p = some (SetO w p S n) ∧
  ∀ zs : List Int, zs.Nodup → (∀ z, z ∈ zs ↔ S z = true) → zs.length = n → Q (.int (n : Int)) H
theorem kcall_lenSet (w : World) (hw : X.w = w := by rfl) : CallR X (.builtin "len") (rLenSet w) := by
  subst hw
  rintro pins s σ H xs us Q I r ⟨p, S, n, rfl, hp, q⟩
  rw [Vals.ref1 r]
  have R : SetR X.w s.heap p S n := by
    have z := I.hok p _ hp
    exact z.1
  obtain ⟨o, es, ep, t, ho, hex, hd, _, nd, mem, sb, hf, hn, _, _⟩ := R
  have n0 : n < scanBound := by
    rw [← hn]
    exact sb
  refine call_len_set ho hex hd hf ?_ ⟨.int (n : Int), H, I.tok _, ⟨_, by rw [hn]⟩, q (es.toList.map keyOf) nd (fun z => (mem z).symm) (by rw [List.length_map, ← hn]; rfl)⟩
  rw [hn]
  unfold scanBound at n0
  omega
end
end Nal

/-! enumerate(t), t.count(n) of a tuple: the way of the library's own turn for lists, over its Draws. -/
namespace Nal
open PySem PySem.Spec PyProof.Rows L2
/-- what enumerate tells of the tuple at a -/
def Itet (K : PySem.W.Frag) (a : Addr) : It where
  go := fun i H => ∃ (xs : List V) (x : V), SqT K H a xs ∧ xs[i]? = some x
  yld := fun i H v H' => ∃ (q : Addr) (x : V), v = .ref q ∧ H q = none ∧ H' = upd H q (.tup [.int (i : Nat), x]) ∧ ∀ xs, SqT K H a xs → xs[i]? = some x
  stop := fun i H => ∃ ys : List V, SqT K H a ys ∧ ys.length ≤ i
/-- the enumerate at e stands at the place i of the tuple a, by the iterator at it -/
structure EnT (a e it : Addr) (i : Nat) (h : Heap) : Prop where
  en : ∃ was, IsEnum h e it ((i : Nat) : Int) was
  ti : h.IsTupleIter it a i
  n1 : e ≠ it
  n2 : a ≠ it
  n3 : e ≠ a
theorem two_of {b e it : Addr} (h : b ∈ [e, it]) : b = e ∨ b = it := by simpa using h
theorem enT_done {X : Cx} {a e it : Addr} {i : Nat} {pins : List (Addr × Obj)} {s : Shared} {σ : L2.St} {H : Hp} {E : Value → Shared → Prop} (hc : X.calm = true) (I : Inv X pins σ H s) (fp : FpOk X pins H it) (st : EnT a e it i s.heap)
    (ex : ∃ ys : List V, SqT X.K H a ys ∧ ys.length ≤ i) : wpAny (model X.prog X.w) X.A (pyNext (.ref e)) (fun r s1 => r = none ∧ Inv X pins σ H s1) E s := by
  obtain ⟨ys, hy, yl⟩ := ex
  obtain ⟨was, en⟩ := st.en
  obtain ⟨its, vals, tup, _⟩ := I.tuple hy
  have no : its.toArray[i]? = none := by
    have := vals.length
    refine Array.getElem?_eq_none ?_
    simp only [List.size_toArray]
    omega
  have D : Draws X.prog X.w X.A.in1 it [it, a] i (fun _ _ => True) (fun j h => j = i ∧ h.IsTupleIter it a i ∧ h.IsTuple a its.toArray) :=
    { live := fun _ _ z => let ⟨o, ho, _⟩ := z.2.1; ⟨o, ho⟩
      frame := fun _ _ _ z k => ⟨z.1, z.2.1.at fun o q => k it (by simp) o q, z.2.2.at fun o q => k a (by simp) o q⟩
      item := fun j s Q E hj z => absurd z.1 (Nat.ne_of_lt hj)
      done := fun s Q E z hE => wpAny_nextOf_tuple_end (I.ok.hd hc) z.2.1 z.2.2 no hE }
  obtain ⟨g0, g1, _, g3, g4, g5⟩ := fp
  exact wpAny_pyNext_enum_endD D en ⟨rfl, st.ti, tup⟩ fun h' eb => ⟨rfl, I.turned (t' := s.toks) (fun b o n q => eb b o n q) g0 g1 g3 g4 g5⟩
theorem enT_item {X : Cx} {elts : List Expr} {kk : Nat} {tpos : Pos} {a e it : Addr} {i : Nat} {pins : List (Addr × Obj)} {s : Shared} {σ : L2.St} {H : Hp} {E : Value → Shared → Prop} (hc : X.calm = true) (I : Inv X pins σ H s) (fp : ∀ b ∈ [e, it], FpOk X pins H b) (st : EnT a e it i s.heap)
    (ex : (Itet X.K a).go i H) : wpAny (model X.prog X.w) X.A (pyNext (.ref e)) (fun r s1 => ∃ u, r = some u ∧
      wpAny (model X.prog X.w) X.A (letOwnedTupleGo (.Tuple elts kk tpos) (.ref e) u) (fun _ s2 => ∃ x H', Inv X pins σ H' s2 ∧ RelV x u ∧ (Itet X.K a).yld i H x H' ∧ EnT a e it (i + 1) s2.heap ∧ ∀ b ∈ [e, it], H' b = none) E s1) E s := by
  obtain ⟨ys, y, hy, hi⟩ := ex
  obtain ⟨was, en⟩ := st.en
  obtain ⟨its, vals, tup, _⟩ := I.tuple hy
  obtain ⟨u, hu, ru⟩ := vals.get hi
  have at_ : its.toArray[i]? = some u := by simpa using hu
  have lt : i < its.toArray.size := (Array.getElem?_eq_some_iff.mp at_).1
  have low : ∀ b ∈ [e, it], b < s.heap.objs.size := fun b hb => by
    rcases two_of hb with z | z
    · rw [z]
      exact Heap.lt_size en
    · rw [z]
      obtain ⟨_, q, _⟩ := st.ti
      exact Heap.lt_size q
  have le := low e (by simp)
  have out : e ∉ [it, a] := by simp [st.n1, st.n3]
  refine wpAny_pyNext_enum_itemC (Draws.tuple (A := X.A.in1) (I.ok.hd hc) it a st.n2 its.toArray) en ⟨st.ti, tup⟩ lt st.n1 out fun v h1 tk hv ho z pair _ old => ?_
  have ev : v = u := Option.some.inj (hv.symm.trans at_)
  subst ev
  refine ⟨_, rfl, wpAny_letOwnedTupleGo_enum (s := { s with heap := h1, toks := tk + 1 }) ho fun h2 en2 sb => ?_⟩
  have new : ObjOk X.prog X.w (upd H s.heap.objs.size (.tup [.int (i : Nat), y])) h2 s.heap.objs.size (.tup [.int (i : Nat), y]) :=
    ⟨by show 2 ≤ sizeLine; decide, [.int i tk, v], .cons ⟨_, rfl⟩ (.cons ru .nil), ⟨_, (sb.2 _ (Nat.ne_of_gt le)).trans pair, rfl, _, rfl⟩⟩
  have keep : ∀ b o, b ∉ [e, it] → s.heap.get? b = some o → h2.get? b = some o := fun b o nb q => by
    have n1 : b ≠ e := fun w => nb (by simp [w])
    have n2 : b ≠ it := fun w => nb (by simp [w])
    exact (sb.2 b n1).trans (old b o n1 n2 q)
  refine ⟨.ref s.heap.objs.size, _, I.turnedNew (t' := tk + 1) keep fp (Nat.le_refl _) new, rfl, ⟨_, y, rfl, I.hok.fresh (Nat.le_refl _), rfl, fun zs hz => by rw [I.tuple_inj hz hy]; exact hi⟩, ⟨⟨v, ?_⟩, z.1.at fun o q => (sb.2 it st.n1.symm).trans q, st.n1, st.n2, st.n3⟩, fun b hb => ?_⟩
  · have c : ((i + 1 : Nat) : Int) = (i : Int) + 1 := by omega
    rw [c]
    exact en2
  · rw [upd_ne (Nat.ne_of_lt (low b hb))]
    exact (fp b hb).1
theorem turn_enT {P : Program} {w : World} {K : PySem.W.Frag} {elts : List Expr} {kk : Nat} {tpos : Pos} (a e it : Addr) : Turn P w K (.Tuple elts kk tpos) (Itet K a) [e, it] e (EnT a e it) where
  mem := List.mem_cons_self
  obj := fun i h st b hb => by
    obtain ⟨was, en⟩ := st.en
    obtain ⟨o, q1, _, q2⟩ := st.ti
    rcases two_of hb with rfl | rfl
    · exact ⟨_, en, fun v z => nomatch z⟩
    · exact ⟨o, q1, fun v z => by rw [q2] at z; cases z⟩
  keep := fun i h h' st k => by
    obtain ⟨was, en⟩ := st.en
    exact ⟨⟨was, k e List.mem_cons_self _ en⟩, st.ti.at fun o q => k it (by simp) o q, st.n1, st.n2, st.n3⟩
  item := fun X e1 e2 e3 hc i pins s σ H E I fp st ex => by
    subst e1 e2 e3
    exact enT_item hc I fp st ex
  done := fun X e1 e2 e3 hc i pins s σ H E I fp st ex => by
    subst e1 e2 e3
    exact enT_done hc I (fp it (by simp)) st ex
  self := fun A i s Q E st h => by
    obtain ⟨was, en⟩ := st.en
    exact wpAny_pyIter_enum en h
/-- what enumerate of one thing leaves -/
abbrev enHeap (h : Heap) (o : Obj) : Heap := (h.push o).push { cls := .type "enumerate", data := .fields #[.none, .bool false, .ref h.objs.size, rawInt 0, .none, .none] }
theorem enum_new {v : Value} {o : Obj} {J : Heap → Prop} (B : Begins v o J) : Meets (Builtin.«enumerate.__new__» ⟨[.type "enumerate", v], []⟩) (fun _ R s => J s.heap ∧ R (.ok (.ret (.ref (s.heap.push o).objs.size))) { s with heap := enHeap s.heap o }) :=
  .of_wp fun prog w A R s h => by
    obtain ⟨h0, g, d, tk, os⟩ := s
    obtain ⟨hj, h⟩ := h
    have hsub := sub_enumerate
    have go : ∀ {A' : Around} {E : Value → Shared → Prop} {Q : Value → Shared → Prop}, Q (.ref h0.objs.size) ⟨h0.push o, g, d, tk, os⟩ → wpAny (model prog w) A' (pyIter v) Q E ⟨h0, g, d, tk, os⟩ := fun q => B.iter prog w _ _ ⟨h0, g, d, tk, os⟩ _ hj q
    wp_walk using go
    refine wpAny_stack_any fun st => wpAny_pure ?_
    split
    · rename_i c _ _ _ _ _
      cases (c == Value.type "enumerate")
      · wp_walk using go
        exact ⟨_, rfl, h⟩
      · wp_walk using go
        exact ⟨_, rfl, h⟩
    · wp_walk using go
      exact ⟨_, rfl, h⟩
theorem enum_tup {prog : Program} {w : World} {A : Around} {E : Value → Shared → Prop} {s : Shared} {l : Addr} {items : Array Value} {Q : Value → Shared → Prop} (hT : s.heap.IsTuple l items)
    (h : ∀ h', IsEnum h' (s.heap.objs.size + 1) s.heap.objs.size 0 .none → h'.IsTupleIter s.heap.objs.size l 0 → (∀ b o, s.heap.get? b = some o → h'.get? b = some o) → Q (.ref (s.heap.objs.size + 1)) { s with heap := h' }) :
    wpAny (model prog w) A (call (.type "enumerate") [.ref l]) Q E s := by
  have B := begins_tuple l items
  refine callType_new F.called_enumerate (by decide) (F.typeCall_enumerate_1 _) (F.newCall_enumerate_1 _) (fun obj => F.args_object_init_2 obj _) F.entry_enumerate_new (enum_new B) ⟨hT, ?_⟩
  let o : Obj := { cls := .type "tuple_iterator", data := .fields #[.ref l, .int 0 0] }
  have z : (s.heap.push o).objs.size = s.heap.objs.size + 1 := Heap.size_push ..
  have en : IsEnum (enHeap s.heap o) (s.heap.objs.size + 1) s.heap.objs.size 0 .none := by
    rw [← z]
    exact Heap.get?_push_size (s.heap.push o) rfl
  show _ ∧ _
  rw [z]
  exact ⟨⟨_, en, rfl⟩, h _ en ⟨_, Heap.get?_push_of_some _ (Heap.get?_push_size _ rfl), rfl, rfl⟩ fun b x q => Heap.get?_push_of_some _ (Heap.get?_push_of_some _ q)⟩
def iEnumT (K : PySem.W.Frag) (ta : TA) : TI := fun σ H R => ta σ H fun vs H1 => ∃ (a : Addr) (xs : List V), vs = [.ref a] ∧ SqT K H1 a xs ∧ R (Itet K a) H1
theorem pi_enumT {X : Cx} {e : Expr} {ta : TA} {p pos tpos : Pos} {elts : List Expr} {kk : Nat} (K : PySem.W.Frag) (hg : Gl X "enumerate") (hm : X.mg "enumerate" = none) (ha : PA X [e] ta) (hK : X.K = K := by rfl) (hs : starEach [e] X.env = [(false, eval e X.env)] := by rfl) :
    PI X (.Tuple elts kk tpos) (.Call (.Name "enumerate" p) [e] [] pos) (iEnumT K ta) := by
  subst hK
  refine ⟨fun pins s σ H R I h => Call_ (ld_blt I hg hm boot_enumerate (PyProof.Rows.callWith_type1 (thn (ha.run pos pins s σ H _ I h) fun us s1 ⟨vs, H1, I1, r1, a, xs, ex, hq, q⟩ => ?_) hs rfl))⟩
  subst ex
  rw [Vals.ref1 r1]
  obtain ⟨its, _, tup, _⟩ := I1.tuple hq
  have al : a < s1.heap.objs.size := by
    obtain ⟨_, z, _⟩ := tup
    exact Heap.lt_size z
  refine enum_tup tup fun h' en ti old => wpAny_pyIter_enum en ⟨s1.heap.objs.size + 1, [s1.heap.objs.size + 1, s1.heap.objs.size], _, _, H1, rfl, I1.kept (t' := s1.toks) old, turn_enT a (s1.heap.objs.size + 1) s1.heap.objs.size,
    ⟨⟨.none, en⟩, ti, Nat.succ_ne_self _, Nat.ne_of_lt al, Nat.ne_of_gt (Nat.lt_succ_of_lt al)⟩, fun b hb => ?_, q⟩
  have hle : s1.heap.objs.size ≤ b := by
    rcases two_of hb with z | z
    · rw [z]
      exact Nat.le_succ _
    · rw [z]
      exact Nat.le_refl _
  exact I1.fpOk hle (I1.hok.fresh hle)
/-- [.. for i, x in enumerate(t)] -/
theorem lc_enumT {K : PySem.W.Frag} {a : Addr} {xs : List V} {g : TG} {tt : TT} {te : TE} {vs : List Nat} {σ : L2.St} {H1 : Hp} {D : Addr} {Qd : Hp → Prop} (Pv : Nat → Hp → Prop) (h0 : Pv 0 (upd H1 D (.lst []))) (hl : ∀ i H, i ≤ xs.length → Pv i H → SqT K H a xs)
    (hs : ∀ (i : Nat) (x : V) (q : Addr) (H : Hp), xs[i]? = some x → Pv i H → H q = none → g (.ref q) (wipe σ vs) (upd H q (.tup [.int (i : Nat), x])) fun σ2 H2 => wipe σ2 vs = wipe σ vs ∧ tt σ2 H2 fun b H3 =>
      if b = true then te σ2 H3 fun y H4 => ∃ acc, H4 D = some (.lst acc) ∧ acc.length < sizeLine ∧ Pv (i + 1) (upd H4 D (.lst (acc ++ [y]))) else Pv (i + 1) H3) (hd : ∀ H, Pv xs.length H → Qd H) :
    ∃ W : Nat → Nat → Hp → Prop, (∃ m, W 0 m (upd H1 D (.lst []))) ∧ ∀ i m H, W i m H →
      ((Itet K a).stop i H ∧ Qd H) ∨ ((Itet K a).go i H ∧ ∃ Nx : Hp → Prop, (∀ H', Nx H' → ∃ m', m' < m ∧ W (i + 1) m' H') ∧ ∀ x H', (Itet K a).yld i H x H' → g x (wipe σ vs) H' fun σ2 H2 => wipe σ2 vs = wipe σ vs ∧ tt σ2 H2 fun b H3 =>
        if b = true then te σ2 H3 fun y H4 => ∃ acc, H4 D = some (.lst acc) ∧ acc.length < sizeLine ∧ Nx (upd H4 D (.lst (acc ++ [y]))) else Nx H3) := by
  refine ⟨fun i m H => m + i = xs.length ∧ Pv i H, ⟨xs.length, rfl, h0⟩, fun i m H z => ?_⟩
  obtain ⟨e, pv⟩ := z
  have sq := hl i H (by omega) pv
  by_cases c : i < xs.length
  · have at_ : xs[i]? = some xs[i] := List.getElem?_eq_getElem c
    refine .inr ⟨⟨xs, _, sq, at_⟩, Pv (i + 1), fun H' z => ⟨m - 1, by omega, by omega, z⟩, fun y H' z => ?_⟩
    obtain ⟨q, x, rfl, nq, rfl, f⟩ := z
    exact hs i x q H (f xs sq) pv nq
  · refine .inl ⟨⟨xs, sq, by omega⟩, hd H ?_⟩
    have e2 : i = xs.length := by omega
    rw [← e2]
    exact pv
/-- the same of a list -/
theorem lc_enumL {K : PySem.W.Frag} {a : Addr} {xs : List V} {g : TG} {tt : TT} {te : TE} {vs : List Nat} {σ : L2.St} {H1 : Hp} {D : Addr} {Qd : Hp → Prop} (Pv : Nat → Hp → Prop) (h0 : Pv 0 (upd H1 D (.lst []))) (hl : ∀ i H, i ≤ xs.length → Pv i H → SqL K H a xs)
    (hs : ∀ (i : Nat) (x : V) (q : Addr) (H : Hp), xs[i]? = some x → Pv i H → H q = none → g (.ref q) (wipe σ vs) (upd H q (.tup [.int (i : Nat), x])) fun σ2 H2 => wipe σ2 vs = wipe σ vs ∧ tt σ2 H2 fun b H3 =>
      if b = true then te σ2 H3 fun y H4 => ∃ acc, H4 D = some (.lst acc) ∧ acc.length < sizeLine ∧ Pv (i + 1) (upd H4 D (.lst (acc ++ [y]))) else Pv (i + 1) H3) (hd : ∀ H, Pv xs.length H → Qd H) :
    ∃ W : Nat → Nat → Hp → Prop, (∃ m, W 0 m (upd H1 D (.lst []))) ∧ ∀ i m H, W i m H →
      ((Ite K a).stop i H ∧ Qd H) ∨ ((Ite K a).go i H ∧ ∃ Nx : Hp → Prop, (∀ H', Nx H' → ∃ m', m' < m ∧ W (i + 1) m' H') ∧ ∀ x H', (Ite K a).yld i H x H' → g x (wipe σ vs) H' fun σ2 H2 => wipe σ2 vs = wipe σ vs ∧ tt σ2 H2 fun b H3 =>
        if b = true then te σ2 H3 fun y H4 => ∃ acc, H4 D = some (.lst acc) ∧ acc.length < sizeLine ∧ Nx (upd H4 D (.lst (acc ++ [y]))) else Nx H3) := by
  refine ⟨fun i m H => m + i = xs.length ∧ Pv i H, ⟨xs.length, rfl, h0⟩, fun i m H z => ?_⟩
  obtain ⟨e, pv⟩ := z
  have sq := hl i H (by omega) pv
  by_cases c : i < xs.length
  · have at_ : xs[i]? = some xs[i] := List.getElem?_eq_getElem c
    refine .inr ⟨⟨xs, _, sq, at_⟩, Pv (i + 1), fun H' z => ⟨m - 1, by omega, by omega, z⟩, fun y H' z => ?_⟩
    obtain ⟨q, x, rfl, nq, rfl, f⟩ := z
    exact hs i x q H (f xs sq) pv nq
  · refine .inl ⟨⟨xs, sq, by omega⟩, hd H ?_⟩
    have e2 : i = xs.length := by omega
    rw [← e2]
    exact pv
section
variable {X : Cx}
theorem kpi_enum {e : Expr} {ta : TA} {p pos tpos : Pos} {elts : List Expr} {kk : Nat} (K : PySem.W.Frag) (hg : Gl X "enumerate") (hm : X.mg "enumerate" = none) (ha : PA X [e] ta) (hK : X.K = K := by rfl) (hs : starEach [e] X.env = [(false, eval e X.env)] := by rfl) :
    PI X (.Tuple elts kk tpos) (.Call (.Name "enumerate" p) [e] [] pos) (iEnum K ta) := by
  subst hK
  exact pi_enum hg hm ha hs
theorem klcount (K : PySem.W.Frag) (h : X.K = K := by rfl) : MtR X "list.count" (rCntI K) := by
  subst h
  exact mt_lcount
/-- o.m(..) of a built-in type, the written part named outright -/
theorem kpe_bm {T : String} {id : String} {name : Str} {o e : Expr} {es : List Expr} {apos cpos : Pos} {to : TE} {t : TA} {r : V → List V → Hp → VK → Prop} (K : PySem.W.Frag) (pa : PlainAttrs T) (slot : Slot T name id) (hty : typeOf (.builtin id) = pure (.type "method_descriptor")) (hm : MtR X id r) (ho : PE X o to) (ha : PA X (e :: es) t) (hK : X.K = K := by rfl)
    (hbase : attributeBase o name X.env (eval o X.env) = eval o X.env := by rfl)
    (hfew : ((backTo cpos (starEach (e :: es) X.env)).all (fun x => !x.1) && (backToKw cpos (keywordEach [] X.env)).all (fun x => x.1.isSome) && decide ((e :: es).length + ([] : List Keyword).length + (if ([] : List Keyword).isEmpty then 0 else 1) < 30)) = true := by rfl)
    (hline : (apos.endLine == cpos.line) = true := by rfl) (hs : starEach (e :: es) X.env = (false, eval e X.env) :: starEach es X.env := by rfl) (hplain : (backTo cpos (starEach es X.env)).any (·.1) = false := by rfl) :
    PE X (.Call (.Attribute o name apos) (e :: es) [] cpos) (tBM K T r to t) := by
  subst hK
  exact pe_bm pa slot hty hm ho ha hbase hfew hline hs hplain
/-- tuple(l), and that the new tuple has no dict of its own -/
def rTupF (K : PySem.W.Frag) : List V → Hp → VK → Prop := fun xs H Q => ∃ (p : Addr) (ys : List V), xs = [.ref p] ∧ SqL K H p ys ∧ ∀ (l : Addr) (o : Obj), H l = none → o.dict = none → Q (.ref l) (upd H l (.frz o (.tup ys)))
theorem ktupF (K : PySem.W.Frag) (h : X.K = K := by rfl) : CallR X (.type "tuple") (rTupF K) := by
  subst h
  rintro pins s σ H xs us Q I r ⟨p, ys, rfl, hq, q⟩
  rw [Vals.ref1 r]
  obtain ⟨its, vals, pl, z⟩ := I.list hq
  have len := vals.length
  refine call_tuple_list pl.isList (fun h1 old => ?_) (by simp only [List.size_toArray] <;> omega)
  have I1 := I.kept (t' := s.toks) old
  let o : Obj := { cls := .type "tuple", data := .seq its.toArray }
  refine ⟨.ref h1.objs.size, upd H h1.objs.size (.frz o (.tup ys)), I1.laid (t' := s.toks) (fun b x e => Heap.get?_push_of_some _ e) (Nat.le_refl _) ?_, rfl, q _ o (I1.hok.fresh (Nat.le_refl _)) rfl⟩
  exact ⟨Heap.get?_push_size _ rfl, z, its, vals, IsTup.new _ _⟩
/-- t.count(k), whole numbers, of such a tuple -/
def tTCount (K : PySem.W.Frag) (to : TE) (t : TA) : TE := fun σ H Q => to σ H fun x H1 => ∃ (p : Addr) (ob : Obj) (ys : List V), x = .ref p ∧ H1 p = some (.frz ob (.tup ys)) ∧ ob.dict = none ∧
  t σ H1 fun vs H2 => ∃ (ns : List Int) (k : Int), vs = [.int k] ∧ SqT K H2 p (ns.map V.int) ∧ Q (.int ((ns.count k : Nat) : Int)) H2
theorem pe_tcount {o e : Expr} {apos cpos : Pos} {to : TE} {t : TA} (K : PySem.W.Frag) (ho : PE X o to) (ha : PA X [e] t) (hK : X.K = K := by rfl)
    (hbase : attributeBase o "count" X.env (eval o X.env) = eval o X.env := by rfl)
    (hfew : ((backTo cpos (starEach [e] X.env)).all (fun x => !x.1) && (backToKw cpos (keywordEach [] X.env)).all (fun x => x.1.isSome) && decide ([e].length + ([] : List Keyword).length + (if ([] : List Keyword).isEmpty then 0 else 1) < 30)) = true := by rfl)
    (hline : (apos.endLine == cpos.line) = true := by rfl) (hs : starEach [e] X.env = [(false, eval e X.env)] := by rfl) :
    PE X (.Call (.Attribute o "count" apos) [e] [] cpos) (tTCount K to t) := by
  subst hK
  refine ⟨fun pins s σ H Q I h => wpAny_Call_method_late hbase hfew hline rfl (thn (ho.run pins s σ H _ I h) fun v s1 ⟨x, H1, I1, r1, p, ob, ys, ex, hp, nd, q1⟩ => ?_)⟩
  subst ex
  obtain rfl : v = Value.ref p := r1
  have g := (I1.hok p _ hp).1
  obtain ⟨its0, _, tup0, _⟩ := I1.tuple (xs := ys) (.inl (.inr ⟨ob, hp⟩))
  have ty : s1.TypeIs (.ref p) "tuple" := by
    obtain ⟨o', g', c, _⟩ := tup0
    exact ⟨o', g', c⟩
  refine ⟨"tuple", "tuple.count", PySem.F.plainAttrs_tuple, PySem.F.slot_tuple_count, PySem.F.type_tuple_count, ty, fun a e => ?_, ?_⟩
  · cases e
    exact ⟨ob, g, nd⟩
  have hA := ha.run cpos pins s1 σ H1 _ I1 q1
  rw [hs] at hA ⊢
  refine Calls.callWith_builtin rfl (Calls.evalArgs_plain (thn hA fun us s2 ⟨vs, H2, I2, r2, ns, k, ev, hq, q2⟩ => ?_))
  subst ev
  obtain ⟨u, rfl, ru⟩ := r2.one
  obtain ⟨tk, rfl⟩ := ru
  obtain ⟨its, vals, ⟨⟨cls, dd, data, sl⟩, ho2, hc, n, hd⟩, _⟩ := I2.tuple hq
  simp only at hc hd
  subst hc hd
  have hi := ints_of_vals vals
  refine call_meets PySem.F.slot_tuple_count ⟨_, ho2, rfl⟩ PySem.F.entry_tuple_count (PySem.F.args_tuple_count_2 _ _) (SeqAt.tuple_countAt p its.toArray n dd sl (.int k tk) (eqk k)) ⟨ho2, fun y hy => (eqk_gives hi y (by simpa using hy)).at _ _, ?_⟩
  have ec : its.toArray.toList.countP (eqk k) = ns.count k := eqk_count hi
  rw [ec]
  exact ⟨.int (ns.count k : Nat), H2, I2.tok _, ⟨s2.toks, rfl⟩, q2⟩
end
end Nal

/-! a list walked within another comprehension -/
namespace Nal
open PySem PySem.Spec PyProof.Rows L2
theorem kpi_list {X : Cx} {tg e : Expr} {te : TE} (K : PySem.W.Frag) (he : PE X e te) (hK : X.K = K := by rfl) : PI X tg e (iList K te) := by
  subst hK
  exact pi_list he
end Nal

/-! Worths that grow by none or one with each thing: by what depends on what. -/
namespace Rk
structure Ranked {α : Type} (ok : α → Prop) (dep : List α → α → Prop) (R : List α → Nat → Prop) : Prop where
  nil : R [] 0
  uniq : ∀ {l a b}, R l a → R l b → a = b
  same : ∀ {l m k}, (∀ x, x ∈ l ↔ x ∈ m) → R l k → R m k
  stay : ∀ {l k x}, (∀ y ∈ l, ok y) → ok x → dep l x → R l k → R (x :: l) k
  grow : ∀ {l k x}, (∀ y ∈ l, ok y) → ok x → ¬ dep l x → R l k → R (x :: l) (k + 1)
  mono : ∀ {l m x}, (∀ y ∈ l, y ∈ m) → dep l x → dep m x
section
variable {α : Type} {ok : α → Prop} {dep : List α → α → Prop} {R : List α → Nat → Prop}
theorem tl {l : List α} {x : α} (h : ∀ y ∈ x :: l, ok y) : ∀ y ∈ l, ok y := fun y hy => h y (List.mem_cons_of_mem _ hy)
theorem Ranked.ex (r : Ranked ok dep R) : ∀ l : List α, (∀ y ∈ l, ok y) → ∃ k, R l k
  | [], _ => ⟨0, r.nil⟩
  | x :: l, h => by
    obtain ⟨k, hk⟩ := r.ex l (tl h)
    by_cases d : dep l x
    · exact ⟨k, r.stay (tl h) (h x List.mem_cons_self) d hk⟩
    · exact ⟨k + 1, r.grow (tl h) (h x List.mem_cons_self) d hk⟩
/-- a thing more adds 0 or 1 -/
theorem Ranked.one (r : Ranked ok dep R) {l : List α} {x : α} {a b : Nat} (h : ∀ y ∈ l, ok y) (hx : ok x) (ra : R l a) (rb : R (x :: l) b) : b = a ∨ b = a + 1 := by
  by_cases d : dep l x
  · exact .inl (r.uniq rb (r.stay h hx d ra))
  · exact .inr (r.uniq rb (r.grow h hx d ra))
theorem Ranked.len (r : Ranked ok dep R) : ∀ {l : List α} {k : Nat}, (∀ y ∈ l, ok y) → R l k → k ≤ l.length
  | [], k, _, h => Nat.le_of_eq (r.uniq h r.nil)
  | x :: l, k, ho, h => by
    obtain ⟨a, ha⟩ := r.ex l (tl ho)
    have := r.len (tl ho) ha
    have := r.one (tl ho) (ho x List.mem_cons_self) ha h
    rw [List.length_cons]
    omega
/-- two heaps, the one within the other, both made more by D: the lesser grows no less -/
theorem Ranked.more (r : Ranked ok dep R) : ∀ {D A B : List α} {a b c d : Nat}, (∀ y ∈ D, ok y) → (∀ y ∈ B, ok y) → (∀ y ∈ A, y ∈ B) → R A a → R B b → R (D ++ A) c → R (D ++ B) d → a ≤ c ∧ b ≤ d ∧ d + a ≤ c + b
  | [], A, B, a, b, c, d, _, _, _, ra, rb, rc, rd => by
    have e1 := r.uniq rc ra
    have e2 := r.uniq rd rb
    omega
  | x :: D, A, B, a, b, c, d, hD, hB, sub, ra, rb, rc, rd => by
    have hA : ∀ y ∈ A, ok y := fun y hy => hB y (sub y hy)
    have oA : ∀ y ∈ D ++ A, ok y := fun y hy => (List.mem_append.mp hy).elim (tl hD y) (hA y)
    have oB : ∀ y ∈ D ++ B, ok y := fun y hy => (List.mem_append.mp hy).elim (tl hD y) (hB y)
    have ox := hD x List.mem_cons_self
    obtain ⟨c1, hc1⟩ := r.ex (D ++ A) oA
    obtain ⟨d1, hd1⟩ := r.ex (D ++ B) oB
    have ih := r.more (tl hD) hB sub ra rb hc1 hd1
    have sAB : ∀ y ∈ D ++ A, y ∈ D ++ B := fun y hy => (List.mem_append.mp hy).elim (fun z => List.mem_append_left _ z) fun z => List.mem_append_right _ (sub y z)
    have q1 := r.one oA ox hc1 rc
    have q2 := r.one oB ox hd1 rd
    by_cases e : dep (D ++ A) x
    · have w1 := r.uniq rc (r.stay oA ox e hc1)
      have w2 := r.uniq rd (r.stay oB ox (r.mono sAB e) hd1)
      omega
    · have w1 := r.uniq rc (r.grow oA ox e hc1)
      omega
/-- a heap within another is worth no more -/
theorem Ranked.le (r : Ranked ok dep R) {l m : List α} {a b : Nat} (h : ∀ y ∈ m, ok y) (sub : ∀ y ∈ l, y ∈ m) (ra : R l a) (rb : R m b) : a ≤ b := by
  have e : ∀ x, x ∈ m ↔ x ∈ m ++ l := fun x => by
    rw [List.mem_append]
    exact ⟨.inl, fun z => z.elim id (sub x)⟩
  obtain ⟨k, hk⟩ := r.ex (m ++ m) (fun y hy => (List.mem_append.mp hy).elim (h y) (h y))
  exact (r.more h h sub ra rb (r.same e rb) hk).1
/-- joined and common: no more than the two -/
theorem Ranked.sub (r : Ranked ok dep R) {one other both all : List α} {a b c d : Nat} (h1 : ∀ y ∈ one, ok y) (h2 : ∀ y ∈ other, ok y)
    (hb : ∀ x, x ∈ both ↔ x ∈ one ∧ x ∈ other) (ha : ∀ x, x ∈ all ↔ x ∈ one ∨ x ∈ other) (r1 : R one a) (r2 : R other b) (rb : R both c) (ra : R all d) : d + c ≤ a + b := by
  have e1 : ∀ x, x ∈ other ↔ x ∈ other ++ both := fun x => by
    rw [List.mem_append, hb]
    exact ⟨.inl, fun z => z.elim id (·.2)⟩
  have e2 : ∀ x, x ∈ all ↔ x ∈ other ++ one := fun x => by
    rw [List.mem_append, ha]
    exact Or.comm
  have q := r.more h2 h1 (fun y hy => ((hb y).mp hy).1) rb r1 (r.same e1 r2) (r.same e2 ra)
  omega
end
end Rk

/-! Things on seats: who sits where, and why no more can. -/
namespace St
open Rk
/-- an injective choice -/
theorem inj_le {α β : Type} [DecidableEq β] : ∀ {S : List α} {U : List β} (R : α → β → Prop), S.Nodup → (∀ s ∈ S, ∃ u ∈ U, R s u) → (∀ s ∈ S, ∀ t ∈ S, ∀ u, R s u → R t u → s = t) → S.length ≤ U.length
  | [], U, _, _, _, _ => Nat.zero_le _
  | s :: S, U, R, nd, ex, inj => by
    obtain ⟨u, hu, ru⟩ := ex s List.mem_cons_self
    obtain ⟨ns, nd'⟩ := List.nodup_cons.mp nd
    have ih : S.length ≤ (U.erase u).length := inj_le R nd' (fun t ht => by
      obtain ⟨v, hv, rv⟩ := ex t (List.mem_cons_of_mem _ ht)
      have ne : v ≠ u := fun e => by
        subst e
        have := inj s List.mem_cons_self t (List.mem_cons_of_mem _ ht) v ru rv
        subst this
        exact ns ht
      exact ⟨v, (List.mem_erase_of_ne ne).mpr hv, rv⟩) fun a ha b hb => inj a (List.mem_cons_of_mem _ ha) b (List.mem_cons_of_mem _ hb)
    have : (U.erase u).length + 1 = U.length := by
      rw [List.length_erase_of_mem hu]
      have := List.length_pos_of_mem hu
      omega
    show S.length + 1 ≤ _
    omega
abbrev Tb := List (Nat × Int)
def look (m : Tb) (s : Nat) : Option Int := (m.find? fun p => decide (p.1 = s)).map (·.2)
def put (m : Tb) (s : Nat) (t : Int) : Tb := if (m.any fun p => decide (p.1 = s)) = true then m.map (fun p => if p.1 = s then (p.1, t) else p) else m ++ [(s, t)]
theorem look_nil (s : Nat) : look [] s = none := rfl
theorem look_pos {p : Nat × Int} {r : Tb} {s : Nat} (e : p.1 = s) : look (p :: r) s = some p.2 := by simp [look, List.find?_cons, e]
theorem look_neg {p : Nat × Int} {r : Tb} {s : Nat} (e : ¬ p.1 = s) : look (p :: r) s = look r s := by simp [look, List.find?_cons, e]
theorem look_any (s : Nat) : ∀ m : Tb, (m.any fun p => decide (p.1 = s)) = (look m s).isSome
  | [] => rfl
  | p :: r => by
    rw [List.any_cons]
    by_cases e : p.1 = s
    · simp only [look_pos e, decide_eq_true e, Bool.true_or, Option.isSome_some]
    · rw [look_neg e, decide_eq_false e, Bool.false_or]; exact look_any s r
theorem look_map (k j : Nat) (y : Int) : ∀ m : Tb, look (m.map fun p => if p.1 = k then (p.1, y) else p) j = (look m j).map fun x => if j = k then y else x
  | [] => rfl
  | p :: r => by
    have ih := look_map k j y r
    rw [List.map_cons]
    by_cases h : p.1 = k
    · rw [if_pos h]
      by_cases e : p.1 = j
      · rw [look_pos (p := (p.1, y)) e, look_pos e, Option.map_some, if_pos (e.symm.trans h)]
      · rw [look_neg (p := (p.1, y)) e, look_neg e, ih]
    · rw [if_neg h]
      by_cases e : p.1 = j
      · rw [look_pos (p := p) e, look_pos e, Option.map_some, if_neg (fun z => h (e.trans z))]
      · rw [look_neg (p := p) e, look_neg e, ih]
theorem look_snoc (k j : Nat) (y : Int) : ∀ m : Tb, look m k = none → look (m ++ [(k, y)]) j = if j = k then some y else look m j
  | [], _ => by
    by_cases e : k = j
    · rw [if_pos e.symm]; exact look_pos (p := (k, y)) e
    · rw [if_neg (fun z => e z.symm)]; exact look_neg (p := (k, y)) e
  | p :: r, hn => by
    rw [List.cons_append]
    have hk : ¬ p.1 = k := fun z => by rw [look_pos z] at hn; cases hn
    rw [look_neg hk] at hn
    have ih := look_snoc k j y r hn
    by_cases e : p.1 = j
    · rw [look_pos e, look_pos e, if_neg (fun z => hk (e.trans z))]
    · rw [look_neg e, look_neg e, ih]
theorem look_put (m : Tb) (k j : Nat) (y : Int) : look (put m k y) j = if j = k then some y else look m j := by
  unfold put
  by_cases a : (m.any fun p => decide (p.1 = k)) = true
  · rw [if_pos a, look_map]
    rw [look_any] at a
    by_cases e : j = k
    · obtain ⟨x, hx⟩ := Option.isSome_iff_exists.mp a
      rw [if_pos e, e, hx, Option.map_some, if_pos rfl]
    · rw [if_neg e]
      cases look m j with
      | none => rfl
      | some x => rw [Option.map_some, if_neg e]
  · rw [if_neg a]
    refine look_snoc k j y m ?_
    rw [look_any] at a
    cases q : look m k with
    | none => rfl
    | some x => rw [q] at a; exact (a rfl).elim
theorem put_new {m : Tb} {s : Nat} (t : Int) (h : look m s = none) : put m s t = m ++ [(s, t)] := by
  unfold put
  rw [look_any, h]
  exact if_neg (by decide)
theorem put_old {m : Tb} {s : Nat} {y : Int} (t : Int) (h : look m s = some y) : put m s t = m.map (fun p => if p.1 = s then (p.1, t) else p) := by
  unfold put
  rw [look_any, h]
  exact if_pos rfl
theorem look_mem {m : Tb} {s : Nat} {t : Int} (h : look m s = some t) : (s, t) ∈ m := by
  unfold look at h
  obtain ⟨p, hp, e⟩ := Option.map_eq_some_iff.mp h
  have h1 := List.find?_some hp
  have h2 := List.mem_of_find?_eq_some hp
  have h3 : p.1 = s := of_decide_eq_true h1
  rw [← h3, ← e]
  exact h2
theorem mem_look : ∀ {m : Tb} {s : Nat} {t : Int}, (m.map (·.1)).Nodup → (s, t) ∈ m → look m s = some t
  | [], _, _, _, h => absurd h (by simp)
  | p :: r, s, t, nd, h => by
    rw [List.map_cons] at nd
    obtain ⟨n1, n2⟩ := List.nodup_cons.mp nd
    rcases List.mem_cons.mp h with e | e
    · rw [← e]
      exact look_pos (p := (s, t)) rfl
    · have ne : ¬ p.1 = s := fun z => n1 (List.mem_map.mpr ⟨(s, t), e, z.symm⟩)
      rw [look_neg ne]
      exact mem_look n2 e
theorem look_none {m : Tb} {s : Nat} (h : look m s = none) : s ∉ m.map (·.1) := fun z => by
  have a := look_any s m
  rw [h] at a
  obtain ⟨p, hp, e⟩ := List.mem_map.mp z
  have b := List.any_eq_false.mp a p hp
  exact b (decide_eq_true e)
theorem put_keys (m : Tb) (s : Nat) (t : Int) (nd : (m.map (·.1)).Nodup) : ((put m s t).map (·.1)).Nodup := by
  cases e : look m s with
  | none =>
    rw [put_new t e, List.map_append]
    refine List.nodup_append.mpr ⟨nd, by simp, fun a ha b hb z => ?_⟩
    simp at hb
    subst hb
    subst z
    exact look_none e ha
  | some y =>
    rw [put_old t e, List.map_map]
    have : ((fun x : Nat × Int => x.1) ∘ fun p : Nat × Int => if p.1 = s then (p.1, t) else p) = fun p => p.1 := by
      funext p
      show (if p.1 = s then (p.1, t) else p).1 = p.1
      split <;> rfl
    rw [this]
    exact nd
theorem put_len (m : Tb) (s : Nat) (t : Int) : (put m s t).length = m.length + (if look m s = none then 1 else 0) := by
  cases e : look m s with
  | none => rw [put_new t e, List.length_append]; simp
  | some y => rw [put_old t e, List.length_map]; simp
section
variable {N : Int → List Nat}
/-- who sits on seats that are not excused sits right, each once -/
structure Run (N : Int → List Nat) (m : Tb) (E : List Nat) : Prop where
  nd : (m.map (·.1)).Nodup
  fit : ∀ s t, s ∉ E → look m s = some t → s ∈ N t
  inj : ∀ s s' t, s ∉ E → s' ∉ E → look m s = some t → look m s' = some t → s = s'
def Closed (N : Int → List Nat) (m : Tb) (T : List Nat) : Prop := ∀ s ∈ T, ∃ t, look m s = some t ∧ ∀ u ∈ N t, u ∈ T
structure Won (N : Int → List Nat) (m : Tb) (E : List Nat) (x : Int) (tr : List Nat) (m' : Tb) : Prop where
  run : Run N m' E
  vals : ∀ t, (∃ s, s ∉ E ∧ look m' s = some t) ↔ (∃ s, s ∉ E ∧ look m s = some t) ∨ t = x
  len : m'.length = m.length + 1
  kept : ∀ s ∈ tr, look m' s = look m s
  shut : ∀ T, Closed N m T → (∃ s ∈ N x, s ∉ T) ∧ ∀ s ∈ T, look m' s = look m s
structure Lost (N : Int → List Nat) (m : Tb) (tr0 done tr : List Nat) : Prop where
  sub : ∀ s ∈ tr0, s ∈ tr
  own : ∀ s ∈ done, s ∈ tr
  new : ∀ s ∈ tr, s ∉ tr0 → ∃ t, look m s = some t ∧ ∀ u ∈ N t, u ∈ tr
theorem Won.less {m m' : Tb} {E tr tr' : List Nat} {x : Int} (h : Won N m E x tr m') (sub : ∀ s ∈ tr', s ∈ tr) : Won N m E x tr' m' :=
  ⟨h.run, h.vals, h.len, fun s hs => h.kept s (sub s hs), h.shut⟩
theorem won_free {m : Tb} {E tr : List Nat} {x : Int} {s : Nat} (r : Run N m E) (hx : ∀ u, u ∉ E → look m u ≠ some x) (hE : ∀ u ∈ E, u ∈ tr) (hs : s ∉ tr) (hN : s ∈ N x) (e : look m s = none) :
    Won N m E x tr (put m s x) where
  run := ⟨put_keys m s x r.nd, fun u t hu h => by
      rw [look_put] at h
      by_cases c : u = s
      · rw [if_pos c] at h
        cases h
        rw [c]
        exact hN
      · rw [if_neg c] at h
        exact r.fit u t hu h, fun u v t hu hv h1 h2 => by
      rw [look_put] at h1 h2
      by_cases c : u = s
      · by_cases d : v = s
        · rw [c, d]
        · rw [if_pos c] at h1
          rw [if_neg d] at h2
          cases h1
          exact absurd h2 (hx v hv)
      · by_cases d : v = s
        · rw [if_neg c] at h1
          rw [if_pos d] at h2
          cases h2
          exact absurd h1 (hx u hu)
        · rw [if_neg c] at h1
          rw [if_neg d] at h2
          exact r.inj u v t hu hv h1 h2⟩
  vals := fun t => by
    have sE : s ∉ E := fun z => hs (hE s z)
    constructor
    · rintro ⟨u, hu, h⟩
      rw [look_put] at h
      by_cases c : u = s
      · rw [if_pos c] at h
        cases h
        exact .inr rfl
      · rw [if_neg c] at h
        exact .inl ⟨u, hu, h⟩
    · rintro (⟨u, hu, h⟩ | rfl)
      · have c : u ≠ s := fun z => by rw [z, e] at h; cases h
        exact ⟨u, hu, by rw [look_put, if_neg c]; exact h⟩
      · exact ⟨s, sE, by rw [look_put, if_pos rfl]⟩
  len := by rw [put_len, if_pos e]
  kept := fun u hu => by
    rw [look_put, if_neg]
    intro z
    subst z
    exact hs hu
  shut := fun T hT => by
    have sT : s ∉ T := fun z => by
      obtain ⟨t, h, _⟩ := hT s z
      rw [e] at h
      cases h
    exact ⟨⟨s, hN, sT⟩, fun u hu => by rw [look_put, if_neg]; intro z; subst z; exact sT hu⟩
theorem won_deep {m m' : Tb} {E tr : List Nat} {x y : Int} {s : Nat} (r : Run N m E) (hx : ∀ u, u ∉ E → look m u ≠ some x) (hE : ∀ u ∈ E, u ∈ tr) (hs : s ∉ tr) (hN : s ∈ N x) (e : look m s = some y)
    (w : Won N m (s :: E) y (tr ++ [s]) m') : Won N m E x tr (put m' s x) where
  run := by
    have sE : s ∉ E := fun z => hs (hE s z)
    have no : ∀ u, u ∉ E → u ≠ s → look m' u ≠ some x := fun u hu c h => by
      rcases (w.vals x).mp ⟨u, fun z => (List.mem_cons.mp z).elim c hu, h⟩ with ⟨v, hv, h2⟩ | h2
      · exact hx v (fun z => hv (List.mem_cons_of_mem _ z)) h2
      · rw [← h2] at e
        exact hx s sE e
    refine ⟨put_keys m' s x w.run.nd, fun u t hu h => ?_, fun u v t hu hv h1 h2 => ?_⟩
    · rw [look_put] at h
      by_cases c : u = s
      · rw [if_pos c] at h
        cases h
        rw [c]
        exact hN
      · rw [if_neg c] at h
        exact w.run.fit u t (fun z => (List.mem_cons.mp z).elim c hu) h
    · rw [look_put] at h1 h2
      by_cases c : u = s
      · by_cases d : v = s
        · rw [c, d]
        · rw [if_pos c] at h1
          rw [if_neg d] at h2
          cases h1
          exact absurd h2 (no v hv d)
      · by_cases d : v = s
        · rw [if_neg c] at h1
          rw [if_pos d] at h2
          cases h2
          exact absurd h1 (no u hu c)
        · rw [if_neg c] at h1
          rw [if_neg d] at h2
          exact w.run.inj u v t (fun z => (List.mem_cons.mp z).elim c hu) (fun z => (List.mem_cons.mp z).elim d hv) h1 h2
  vals := fun t => by
    have sE : s ∉ E := fun z => hs (hE s z)
    constructor
    · rintro ⟨u, hu, h⟩
      rw [look_put] at h
      by_cases c : u = s
      · rw [if_pos c] at h
        cases h
        exact .inr rfl
      · rw [if_neg c] at h
        rcases (w.vals t).mp ⟨u, fun z => (List.mem_cons.mp z).elim c hu, h⟩ with ⟨v, hv, h2⟩ | h2
        · exact .inl ⟨v, fun z => hv (List.mem_cons_of_mem _ z), h2⟩
        · exact .inl ⟨s, sE, by rw [h2]; exact e⟩
    · rintro (⟨u, hu, h⟩ | rfl)
      · by_cases c : u = s
        · rw [c, e] at h
          have ty : y = t := Option.some.inj h
          obtain ⟨v, hv, h2⟩ := (w.vals t).mpr (.inr ty.symm)
          have vs : v ≠ s := fun z => hv (by rw [z]; exact List.mem_cons_self)
          exact ⟨v, fun z => hv (List.mem_cons_of_mem _ z), by rw [look_put, if_neg vs]; exact h2⟩
        · obtain ⟨v, hv, h2⟩ := (w.vals t).mpr (.inl ⟨u, fun z => (List.mem_cons.mp z).elim c hu, h⟩)
          have vs : v ≠ s := fun z => hv (by rw [z]; exact List.mem_cons_self)
          exact ⟨v, fun z => hv (List.mem_cons_of_mem _ z), by rw [look_put, if_neg vs]; exact h2⟩
      · exact ⟨s, sE, by rw [look_put, if_pos rfl]⟩
  len := by
    have k := w.kept s (List.mem_append_right _ (List.mem_singleton.mpr rfl))
    rw [put_len, k, e, w.len]
    simp
  kept := fun u hu => by
    have c : u ≠ s := fun z => hs (by rw [← z]; exact hu)
    rw [look_put, if_neg c]
    exact w.kept u (List.mem_append_left _ hu)
  shut := fun T hT => by
    obtain ⟨⟨u, hu, nu⟩, k⟩ := w.shut T hT
    have sT : s ∉ T := fun z => by
      obtain ⟨t, h, c⟩ := hT s z
      rw [e] at h
      cases h
      exact nu (c u hu)
    exact ⟨⟨s, hN, sT⟩, fun v hv => by
      rw [look_put, if_neg]
      · exact k v hv
      · intro z
        subst z
        exact sT hv⟩
theorem Lost.start {m : Tb} {tr0 : List Nat} : Lost N m tr0 [] tr0 := ⟨fun s h => h, fun s h => (nomatch h), fun s h n => absurd h n⟩
theorem Lost.seen {m : Tb} {tr0 done tr : List Nat} {s : Nat} (h : Lost N m tr0 done tr) (hs : s ∈ tr) : Lost N m tr0 (done ++ [s]) tr :=
  ⟨h.sub, fun u hu => (List.mem_append.mp hu).elim (h.own u) fun z => by rw [List.mem_singleton.mp z]; exact hs, h.new⟩
theorem Lost.deep {m : Tb} {tr0 done tr tr2 : List Nat} {s : Nat} {y : Int} (h : Lost N m tr0 done tr) (e : look m s = some y) (d : Lost N m (tr ++ [s]) (N y) tr2) : Lost N m tr0 (done ++ [s]) tr2 where
  sub := fun u hu => d.sub u (List.mem_append_left _ (h.sub u hu))
  own := fun u hu => (List.mem_append.mp hu).elim (fun z => d.sub u (List.mem_append_left _ (h.own u z))) fun z => d.sub u (List.mem_append_right _ z)
  new := fun u hu n => by
    by_cases c : u ∈ tr
    · obtain ⟨t, h1, h2⟩ := h.new u c n
      exact ⟨t, h1, fun v hv => d.sub v (List.mem_append_left _ (h2 v hv))⟩
    · by_cases c2 : u = s
      · exact ⟨y, by rw [c2]; exact e, fun v hv => d.own v hv⟩
      · exact d.new u hu fun z => (List.mem_append.mp z).elim c fun z => c2 (List.mem_singleton.mp z)
/-- the tried ones: below n, no two alike -/
structure Tried (n : Nat) (tr : List Nat) : Prop where
  nd : tr.Nodup
  lt : ∀ s ∈ tr, s < n
theorem Tried.len {n : Nat} {tr : List Nat} (h : Tried n tr) : tr.length ≤ n := by
  have q := inj_le (S := tr) (U := List.range n) (fun a b => a = b) h.nd (fun s hs => ⟨s, List.mem_range.mpr (h.lt s hs), rfl⟩) fun s _ t _ u a b => a.trans b.symm
  rw [List.length_range] at q
  exact q
theorem Tried.snoc {n : Nat} {tr : List Nat} {s : Nat} (h : Tried n tr) (hs : s ∉ tr) (lt : s < n) : Tried n (tr ++ [s]) := by
  refine ⟨List.nodup_append.mpr ⟨h.nd, by simp, fun a ha b hb z => ?_⟩, fun u hu => (List.mem_append.mp hu).elim (h.lt u) fun z => by rw [List.mem_singleton.mp z]; exact lt⟩
  rw [List.mem_singleton.mp hb] at z
  rw [z] at ha
  exact hs ha
theorem Tried.nil (n : Nat) : Tried n [] := ⟨List.nodup_nil, fun s h => (nomatch h)⟩
/-- one or the other -/
theorem search (n : Nat) (hn : ∀ x, ∀ s ∈ N x, s < n) : ∀ (d : Nat) (m : Tb) (E : List Nat) (x : Int) (tr : List Nat), n < tr.length + d → Tried n tr → Run N m E → (∀ u, u ∉ E → look m u ≠ some x) → (∀ u ∈ E, u ∈ tr) →
    (∃ m', Won N m E x tr m') ∨ ∃ tr', Lost N m tr (N x) tr' ∧ Tried n tr'
  | 0, m, E, x, tr, hd, ht, _, _, _ => by
    have := ht.len
    omega
  | d + 1, m, E, x, tr, hd, ht, r, hx, hE => by
    have step : ∀ (rest done tr1 : List Nat), done ++ rest = N x → Lost N m tr done tr1 → Tried n tr1 → tr.length ≤ tr1.length → (∃ m', Won N m E x tr m') ∨ ∃ tr', Lost N m tr (N x) tr' ∧ Tried n tr' := by
      intro rest
      induction rest with
      | nil =>
        intro done tr1 e l t _
        rw [List.append_nil] at e
        rw [← e]
        exact .inr ⟨tr1, l, t⟩
      | cons s rest ih =>
        intro done tr1 e l t tl
        have sN : s ∈ N x := by rw [← e]; exact List.mem_append_right _ List.mem_cons_self
        have e2 : (done ++ [s]) ++ rest = N x := by rw [List.append_assoc]; exact e
        by_cases c : s ∈ tr1
        · exact ih _ tr1 e2 (l.seen c) t tl
        · have E1 : ∀ u ∈ E, u ∈ tr1 := fun u hu => l.sub u (hE u hu)
          have t2 := t.snoc c (hn x s sN)
          cases q : look m s with
          | none => exact .inl ⟨_, (won_free r hx E1 c sN q).less l.sub⟩
          | some y =>
            have sE : s ∉ E := fun z => c (E1 s z)
            have r2 : Run N m (s :: E) := ⟨r.nd, fun u v hu => r.fit u v fun z => hu (List.mem_cons_of_mem _ z), fun u v w hu hv => r.inj u v w (fun z => hu (List.mem_cons_of_mem _ z)) fun z => hv (List.mem_cons_of_mem _ z)⟩
            have ll : (tr1 ++ [s]).length = tr1.length + 1 := by rw [List.length_append]; rfl
            rcases search n hn d m (s :: E) y (tr1 ++ [s]) (by omega) t2 r2 (fun u hu h => hu (by
              rw [r.inj u s y (fun z => hu (List.mem_cons_of_mem _ z)) sE h q]
              exact List.mem_cons_self)) (fun u hu => (List.mem_cons.mp hu).elim (fun z => by rw [z]; exact List.mem_append_right _ (List.mem_singleton.mpr rfl)) fun z => List.mem_append_left _ (E1 u z)) with ⟨m', w⟩ | ⟨tr', l2, t3⟩
            · exact .inl ⟨_, (won_deep r hx E1 c sN q w).less l.sub⟩
            · have : tr1.length + 1 ≤ tr'.length := by
                rw [← ll]
                exact inj_le (fun a b => a = b) t2.nd (fun u hu => ⟨u, l2.sub u hu, rfl⟩) fun s _ t _ u a b => a.trans b.symm
              exact ih _ tr' e2 (l.deep q l2) t3 (by omega)
    exact step (N x) [] tr rfl Lost.start ht (Nat.le_refl _)
/-- things that were looked at, and who sits -/
structure Table (N : Int → List Nat) (Ps : List Int) (m : Tb) : Prop where
  run : Run N m []
  vals : ∀ s t, look m s = some t → t ∈ Ps
  shut : ∃ T, T.Nodup ∧ Closed N m T ∧ ∀ x ∈ Ps, (∃ s, look m s = some x) ∨ ∀ u ∈ N x, u ∈ T
theorem Table.start : Table N [] [] := ⟨⟨List.nodup_nil, fun s t _ h => (nomatch h), fun s s' t _ _ h => (nomatch h)⟩, fun s t h => (nomatch h), [], List.nodup_nil, fun s h => (nomatch h), fun x h => (nomatch h)⟩
theorem Table.won {Ps : List Int} {m m' : Tb} {x : Int} (h : Table N Ps m) (w : Won N m [] x [] m') : Table N (Ps ++ [x]) m' := by
  obtain ⟨T, nd, cl, un⟩ := h.shut
  obtain ⟨_, k⟩ := w.shut T cl
  refine ⟨w.run, fun s t e => ?_, T, nd, fun s hs => ?_, fun y hy => ?_⟩
  · rcases (w.vals t).mp ⟨s, by simp, e⟩ with ⟨u, _, e2⟩ | e2
    · exact List.mem_append_left _ (h.vals u t e2)
    · rw [e2]; exact List.mem_append_right _ (List.mem_singleton.mpr rfl)
  · obtain ⟨t, h1, h2⟩ := cl s hs
    exact ⟨t, by rw [k s hs]; exact h1, h2⟩
  · rcases List.mem_append.mp hy with z | z
    · rcases un y z with ⟨s, e⟩ | e
      · obtain ⟨u, _, e2⟩ := (w.vals y).mpr (.inl ⟨s, by simp, e⟩)
        exact .inl ⟨u, e2⟩
      · exact .inr e
    · rw [List.mem_singleton.mp z]
      obtain ⟨u, _, e2⟩ := (w.vals x).mpr (.inr rfl)
      exact .inl ⟨u, e2⟩
theorem Table.lost {Ps : List Int} {m : Tb} {x : Int} {tr : List Nat} (h : Table N Ps m) (l : Lost N m [] (N x) tr) (tn : tr.Nodup) : Table N (Ps ++ [x]) m := by
  obtain ⟨T, nd, cl, un⟩ := h.shut
  have cl2 : ∀ s ∈ tr, ∃ t, look m s = some t ∧ ∀ u ∈ N t, u ∈ tr := fun s hs => l.new s hs (by simp)
  have mm : ∀ u, u ∈ T ++ tr.filter (fun s => decide (s ∉ T)) ↔ u ∈ T ∨ u ∈ tr := fun u => by
    rw [List.mem_append, List.mem_filter, decide_eq_true_iff]
    constructor
    · rintro (z | z)
      · exact .inl z
      · exact .inr z.1
    · rintro (z | z)
      · exact .inl z
      · by_cases c : u ∈ T
        · exact .inl c
        · exact .inr ⟨z, c⟩
  refine ⟨h.run, fun s t e => List.mem_append_left _ (h.vals s t e), T ++ tr.filter (fun s => decide (s ∉ T)), ?_, fun s hs => ?_, fun y hy => ?_⟩
  · refine List.nodup_append.mpr ⟨nd, tn.sublist List.filter_sublist, fun a ha b hb z => ?_⟩
    rw [← z] at hb
    exact (of_decide_eq_true (List.mem_filter.mp hb).2) ha
  · rcases (mm s).mp hs with z | z
    · obtain ⟨t, h1, h2⟩ := cl s z
      exact ⟨t, h1, fun u hu => (mm u).mpr (.inl (h2 u hu))⟩
    · obtain ⟨t, h1, h2⟩ := cl2 s z
      exact ⟨t, h1, fun u hu => (mm u).mpr (.inr (h2 u hu))⟩
  · rcases List.mem_append.mp hy with z | z
    · rcases un y z with e | e
      · exact .inl e
      · exact .inr fun u hu => (mm u).mpr (.inl (e u hu))
    · rw [List.mem_singleton.mp z]
      exact .inr fun u hu => (mm u).mpr (.inr (l.own u hu))
/-- k of them can sit, and no more -/
def SW (N : Int → List Nat) (l : List Int) (k : Nat) : Prop :=
  (∃ m : Tb, (m.map (·.1)).Nodup ∧ (m.map (·.2)).Nodup ∧ (∀ p ∈ m, p.2 ∈ l ∧ p.1 ∈ N p.2) ∧ m.length = k) ∧ ∃ (T : List Nat) (C : List Int), (∀ x ∈ l, x ∈ C ∨ ∀ u ∈ N x, u ∈ T) ∧ T.length + C.length ≤ k
theorem Table.done {Ps : List Int} {m : Tb} (h : Table N Ps m) : SW N Ps m.length := by
  obtain ⟨T, nd, cl, un⟩ := h.shut
  refine ⟨⟨m, h.run.nd, ?_, fun p hp => ?_, rfl⟩, T, (m.filter fun p => decide (p.1 ∉ T)).map (·.2), fun x hx => ?_, ?_⟩
  · have nd1 := h.run.nd
    rw [List.Nodup, List.pairwise_map] at nd1 ⊢
    refine nd1.imp_of_mem fun {p q} hp hq ne e => ne ?_
    have e1 : look m p.1 = some p.2 := mem_look h.run.nd hp
    have e2 : look m q.1 = some q.2 := mem_look h.run.nd hq
    rw [← e] at e2
    exact h.run.inj p.1 q.1 p.2 (by simp) (by simp) e1 e2
  · have e1 : look m p.1 = some p.2 := mem_look h.run.nd hp
    exact ⟨h.vals _ _ e1, h.run.fit _ _ (by simp) e1⟩
  · rcases un x hx with ⟨s, e⟩ | e
    · by_cases c : s ∈ T
      · obtain ⟨t, h1, h2⟩ := cl s c
        rw [e] at h1
        cases h1
        exact .inr h2
      · exact .inl (List.mem_map.mpr ⟨(s, x), List.mem_filter.mpr ⟨look_mem e, decide_eq_true c⟩, rfl⟩)
    · exact .inr e
  · have q : T.length ≤ (m.filter fun p => decide (p.1 ∈ T)).length := inj_le (fun s p => p.1 = s) nd (fun s hs => by
      obtain ⟨t, h1, _⟩ := cl s hs
      exact ⟨(s, t), List.mem_filter.mpr ⟨look_mem h1, decide_eq_true hs⟩, rfl⟩) fun s _ t _ u a b => a.symm.trans b
    have : ∀ l : Tb, (l.filter fun p => decide (p.1 ∈ T)).length + (l.filter fun p => decide (p.1 ∉ T)).length = l.length := by
      intro l
      induction l with
      | nil => rfl
      | cons p r ih =>
        by_cases c : p.1 ∈ T
        · simp [List.filter_cons, c]
          simp at ih
          omega
        · simp [List.filter_cons, c]
          simp at ih
          omega
    rw [List.length_map]
    have := this m
    omega
theorem two (l : Tb) (P : Nat × Int → Prop) [DecidablePred P] : (l.filter fun p => decide (P p)).length + (l.filter fun p => decide (¬ P p)).length = l.length := by
  induction l with
  | nil => rfl
  | cons p r ih =>
    by_cases c : P p
    · simp [List.filter_cons, c]
      simp at ih
      omega
    · simp [List.filter_cons, c]
      simp at ih
      omega
/-- no more than a cover -/
theorem dual {l : List Int} {m : Tb} {T : List Nat} {C : List Int} (n1 : (m.map (·.1)).Nodup) (n2 : (m.map (·.2)).Nodup) (hm : ∀ p ∈ m, p.2 ∈ l ∧ p.1 ∈ N p.2) (hc : ∀ x ∈ l, x ∈ C ∨ ∀ u ∈ N x, u ∈ T) :
    m.length ≤ T.length + C.length := by
  have a : (m.filter fun p => decide (p.2 ∈ C)).length ≤ C.length := by
    have q := inj_le (S := (m.filter fun p => decide (p.2 ∈ C)).map (·.2)) (U := C) (fun a b => a = b) (n2.sublist (List.filter_sublist.map _)) (fun s hs => by
      obtain ⟨p, hp, rfl⟩ := List.mem_map.mp hs
      exact ⟨p.2, of_decide_eq_true (List.mem_filter.mp hp).2, rfl⟩) fun s _ t _ u a b => a.trans b.symm
    rw [List.length_map] at q
    exact q
  have b : (m.filter fun p => decide (¬ p.2 ∈ C)).length ≤ T.length := by
    have q := inj_le (S := (m.filter fun p => decide (¬ p.2 ∈ C)).map (·.1)) (U := T) (fun a b => a = b) (n1.sublist (List.filter_sublist.map _)) (fun s hs => by
      obtain ⟨p, hp, rfl⟩ := List.mem_map.mp hs
      obtain ⟨h1, h2⟩ := List.mem_filter.mp hp
      have h3 := hm p h1
      exact ⟨p.1, (hc p.2 h3.1).elim (fun z => absurd z (of_decide_eq_true h2)) (fun z => z p.1 h3.2), rfl⟩) fun s _ t _ u a b => a.trans b.symm
    rw [List.length_map] at q
    exact q
  have := two m fun p => p.2 ∈ C
  omega
theorem SW.le {l l' : List Int} {a b : Nat} (sub : ∀ x ∈ l, x ∈ l') (h : SW N l a) (h' : SW N l' b) : a ≤ b := by
  obtain ⟨⟨m, n1, n2, hm, rfl⟩, _⟩ := h
  obtain ⟨_, T, C, hc, q⟩ := h'
  exact Nat.le_trans (dual n1 n2 (fun p hp => ⟨sub _ (hm p hp).1, (hm p hp).2⟩) hc) q
theorem SW.same {l l' : List Int} {k : Nat} (e : ∀ x, x ∈ l ↔ x ∈ l') (h : SW N l k) : SW N l' k := by
  obtain ⟨⟨m, n1, n2, hm, h1⟩, T, C, hc, q⟩ := h
  exact ⟨⟨m, n1, n2, fun p hp => ⟨(e _).mp (hm p hp).1, (hm p hp).2⟩, h1⟩, T, C, fun x hx => hc x ((e x).mpr hx), q⟩
theorem SW.ex {n : Nat} (hn : ∀ x, ∀ s ∈ N x, s < n) (l : List Int) : ∃ k, SW N l k := by
  have : ∀ l : List Int, ∃ (Ps : List Int) (m : Tb), (∀ x, x ∈ Ps ↔ x ∈ l) ∧ Table N Ps m := by
    intro l
    induction l with
    | nil => exact ⟨[], [], fun x => Iff.rfl, Table.start⟩
    | cons x l ih =>
      obtain ⟨Ps, m, e, t⟩ := ih
      have e2 : ∀ y, y ∈ Ps ++ [x] ↔ y ∈ x :: l := fun y => by
        rw [List.mem_append, List.mem_singleton, List.mem_cons, e]
        exact Or.comm
      by_cases c : ∃ s, look m s = some x
      · obtain ⟨s, hs⟩ := c
        have xl : x ∈ l := (e x).mp (t.vals s x hs)
        exact ⟨Ps, m, fun y => by
          rw [e, List.mem_cons]
          exact ⟨.inr, fun z => z.elim (fun z => by rw [z]; exact xl) id⟩, t⟩
      · rcases search n hn (n + 1) m [] x [] (by simp) (Tried.nil n) t.run (fun u _ h => c ⟨u, h⟩) (fun u h => (nomatch h)) with ⟨m', w⟩ | ⟨tr', l2, t3⟩
        · exact ⟨_, m', e2, t.won w⟩
        · exact ⟨_, m, e2, t.lost l2 t3.nd⟩
  obtain ⟨Ps, m, e, t⟩ := this l
  exact ⟨_, t.done.same e⟩
theorem SW.step {l : List Int} {x : Int} {a b : Nat} (h : SW N l a) (h' : SW N (x :: l) b) : a ≤ b ∧ b ≤ a + 1 := by
  refine ⟨h.le (fun y hy => List.mem_cons_of_mem _ hy) h', ?_⟩
  obtain ⟨_, T, C, hc, q⟩ := h
  obtain ⟨⟨m, n1, n2, hm, rfl⟩, _⟩ := h'
  have := dual (C := x :: C) (T := T) n1 n2 hm fun y hy => (List.mem_cons.mp hy).elim (fun z => .inl (by rw [z]; exact List.mem_cons_self)) fun z => (hc y z).elim (fun w => .inl (List.mem_cons_of_mem _ w)) .inr
  rw [List.length_cons] at this
  omega
theorem cut {α : Type} (l : List α) (p : α → Bool) : (l.filter p).length + (l.filter fun a => !p a).length = l.length := by
  induction l with
  | nil => rfl
  | cons a r ih =>
    cases c : p a with
    | true => simp [List.filter_cons, c]; omega
    | false => simp [List.filter_cons, c]; omega
theorem seats {n : Nat} (hn : ∀ x, ∀ s ∈ N x, s < n) (ok : Int → Prop) : Ranked ok (fun l x => ∃ k, SW N l k ∧ SW N (x :: l) k) (SW N) where
  nil := ⟨⟨[], List.nodup_nil, List.nodup_nil, fun p h => (nomatch h), rfl⟩, [], [], fun x h => (nomatch h), Nat.le_refl _⟩
  uniq := fun a b => Nat.le_antisymm (a.le (fun _ h => h) b) (b.le (fun _ h => h) a)
  same := fun h a => a.same h
  stay := fun {l k x} _ _ ⟨j, h1, h2⟩ a => by
    have e : j = k := Nat.le_antisymm (h1.le (fun _ h => h) a) (a.le (fun _ h => h) h1)
    rw [← e]
    exact h2
  grow := fun {l k x} _ _ nd a => by
    obtain ⟨j, hj⟩ := SW.ex hn (x :: l)
    have q := a.step hj
    have ne : j ≠ k := fun e => nd ⟨k, a, by rw [← e]; exact hj⟩
    have e : j = k + 1 := by omega
    rw [← e]
    exact hj
  mono := fun {l l2 x} sub ⟨k, h1, h2⟩ => by
    obtain ⟨k2, h3⟩ := SW.ex hn l2
    refine ⟨k2, h3, ?_⟩
    by_cases xl : x ∈ l2
    · exact h3.same fun y => by
        rw [List.mem_cons]
        exact ⟨.inr, fun z => z.elim (fun z => by rw [z]; exact xl) id⟩
    have xl1 : x ∉ l := fun z => xl (sub x z)
    obtain ⟨⟨m, n1, n2, hm, ek⟩, _⟩ := h1
    obtain ⟨_, T, C, hc, q⟩ := h2
    obtain ⟨⟨m2, p1, p2, hm2, ek2⟩, T2, C2, hc2, q2⟩ := h3
    have xC : x ∉ C := fun z => by
      have := dual (C := C.erase x) (T := T) n1 n2 hm fun y hy => by
        have ne : y ≠ x := fun e => xl1 (by rw [← e]; exact hy)
        exact (hc y (List.mem_cons_of_mem _ hy)).elim (fun w => .inl ((List.mem_erase_of_ne ne).mpr w)) .inr
      rw [List.length_erase_of_mem z] at this
      have := List.length_pos_of_mem z
      omega
    have xT : ∀ u ∈ N x, u ∈ T := (hc x List.mem_cons_self).elim (fun z => absurd z xC) id
    let pT : Nat → Bool := fun s => decide (s ∈ T2)
    let pC : Int → Bool := fun y => decide (y ∈ C ∨ y ∉ l)
    have c1 := cut T pT
    have c2 := cut C2 pC
    -- all of the lesser one
    have lo := dual (C := C ++ C2.filter fun y => !pC y) (T := T.filter pT) n1 n2 hm fun y hy => by
      by_cases a : y ∈ C
      · exact .inl (List.mem_append_left _ a)
      · by_cases b : y ∈ C2
        · refine .inl (List.mem_append_right _ (List.mem_filter.mpr ⟨b, ?_⟩))
          show (!decide (y ∈ C ∨ y ∉ l)) = true
          rw [decide_eq_false]
          · rfl
          · rintro (z | z)
            · exact a z
            · exact z hy
        · refine .inr fun u hu => List.mem_filter.mpr ⟨?_, decide_eq_true ?_⟩
          · exact (hc y (List.mem_cons_of_mem _ hy)).elim (fun z => absurd z a) fun z => z u hu
          · exact (hc2 y (sub y hy)).elim (fun z => absurd z b) fun z => z u hu
    rw [List.length_append] at lo
    refine ⟨⟨m2, p1, p2, fun p hp => ⟨List.mem_cons_of_mem _ (hm2 p hp).1, (hm2 p hp).2⟩, ek2⟩, T2 ++ T.filter (fun s => !pT s), C2.filter pC, fun y hy => ?_, ?_⟩
    · have inU : ∀ u, u ∈ T → u ∈ T2 ++ T.filter (fun s => !pT s) := fun u hu => by
        by_cases c : u ∈ T2
        · exact List.mem_append_left _ c
        · refine List.mem_append_right _ (List.mem_filter.mpr ⟨hu, ?_⟩)
          show (!decide (u ∈ T2)) = true
          rw [decide_eq_false c]
          rfl
      rcases List.mem_cons.mp hy with rfl | hy
      · exact .inr fun u hu => inU u (xT u hu)
      · rcases hc2 y hy with b | b
        · by_cases a : y ∈ C ∨ y ∉ l
          · exact .inl (List.mem_filter.mpr ⟨b, decide_eq_true a⟩)
          · have yl : y ∈ l := Classical.byContradiction fun z => a (.inr z)
            have yC : y ∉ C := fun z => a (.inl z)
            exact .inr fun u hu => inU u ((hc y (List.mem_cons_of_mem _ yl)).elim (fun z => absurd z yC) fun z => z u hu)
        · exact .inr fun u hu => List.mem_append_left _ (b u hu)
    · rw [List.length_append]
      omega
end
end St

/-! Lots that count up to their tops. -/
namespace Lt
open Rk
/-- of each lot, from the number i on, how many are counted -/
def lw : Nat → List Nat → List Nat → Nat
  | _, [], _ => 0
  | i, t :: ts, c => min t (c.count i) + lw (i + 1) ts c
theorem lw_congr : ∀ {ts : List Nat} {i : Nat} {c d : List Nat}, (∀ a, c.count a = d.count a) → lw i ts c = lw i ts d
  | [], _, _, _, _ => rfl
  | t :: ts, i, c, d, h => by
    show min t (c.count i) + lw (i + 1) ts c = min t (d.count i) + lw (i + 1) ts d
    rw [h i, lw_congr h]
theorem lw_nil : ∀ (ts : List Nat) (i : Nat), lw i ts [] = 0
  | [], _ => rfl
  | t :: ts, i => by
    show min t (([] : List Nat).count i) + lw (i + 1) ts [] = 0
    rw [lw_nil ts]
    simp
theorem lw_cons : ∀ (ts : List Nat) (i a : Nat) (c : List Nat), lw i ts (a :: c) = lw i ts c + (if i ≤ a ∧ c.count a < ts.getD (a - i) 0 then 1 else 0)
  | [], i, a, c => by
    have : ¬ (i ≤ a ∧ c.count a < ([] : List Nat).getD (a - i) 0) := fun z => by simp at z
    rw [if_neg this]
    rfl
  | t :: ts, i, a, c => by
    show min t ((a :: c).count i) + lw (i + 1) ts (a :: c) = min t (c.count i) + lw (i + 1) ts c + _
    rw [lw_cons ts (i + 1) a c]
    by_cases e : a = i
    · subst e
      have h1 : ¬ (a + 1 ≤ a ∧ c.count a < ts.getD (a - (a + 1)) 0) := fun z => by omega
      rw [if_neg h1, List.count_cons_self]
      have h2 : (t :: ts).getD (a - a) 0 = t := by rw [Nat.sub_self]; rfl
      rw [h2]
      by_cases q : c.count a < t
      · rw [if_pos ⟨Nat.le_refl _, q⟩]
        omega
      · rw [if_neg fun z => q z.2]
        omega
    · rw [List.count_cons_of_ne e]
      by_cases q : i ≤ a
      · have q2 : i + 1 ≤ a := by omega
        have h2 : (t :: ts).getD (a - i) 0 = ts.getD (a - (i + 1)) 0 := by
          have : a - i = (a - (i + 1)) + 1 := by omega
          rw [this]
          rfl
        rw [h2]
        by_cases w : c.count a < ts.getD (a - (i + 1)) 0
        · rw [if_pos ⟨q2, w⟩, if_pos ⟨q, w⟩]
          omega
        · rw [if_neg fun z => w z.2, if_neg fun z => w z.2]
          omega
      · rw [if_neg fun z => q (by omega), if_neg fun z => q z.1]
        omega
section
variable {f : Int → Nat} {ts : List Nat}
def LW (f : Int → Nat) (ts : List Nat) (l : List Int) (k : Nat) : Prop := ∃ l' : List Int, l'.Nodup ∧ (∀ z, z ∈ l' ↔ z ∈ l) ∧ lw 0 ts (l'.map f) = k
theorem count_le {l m : List Int} (nd : l.Nodup) (h : ∀ z ∈ l, z ∈ m) (a : Nat) : (l.map f).count a ≤ (m.map f).count a := by
  have e : ∀ l : List Int, (l.map f).count a = (l.filter fun z => f z == a).length := fun l => by
    rw [List.count_eq_countP, List.countP_map, List.countP_eq_length_filter]
    rfl
  rw [e, e]
  refine St.inj_le (fun x y => x = y) (nd.sublist List.filter_sublist) (fun s hs => ?_) fun s _ t _ u p q => p.trans q.symm
  obtain ⟨h1, h2⟩ := List.mem_filter.mp hs
  exact ⟨s, List.mem_filter.mpr ⟨h s h1, h2⟩, rfl⟩
theorem dedup : ∀ l : List Int, ∃ l' : List Int, l'.Nodup ∧ ∀ z, z ∈ l' ↔ z ∈ l
  | [] => ⟨[], List.nodup_nil, fun _ => Iff.rfl⟩
  | x :: l => by
    obtain ⟨l', nd, e⟩ := dedup l
    by_cases c : x ∈ l'
    · exact ⟨l', nd, fun z => by
        rw [e, List.mem_cons]
        exact ⟨.inr, fun q => q.elim (fun q => by rw [q]; exact (e x).mp c) id⟩⟩
    · exact ⟨x :: l', List.nodup_cons.mpr ⟨c, nd⟩, fun z => by rw [List.mem_cons, List.mem_cons, e]⟩
theorem lots (f : Int → Nat) (ts : List Nat) (ok : Int → Prop) : Ranked ok (fun l x => x ∈ l ∨ ∃ l' : List Int, l'.Nodup ∧ (∀ z, z ∈ l' ↔ z ∈ l) ∧ ts.getD (f x) 0 ≤ (l'.map f).count (f x)) (LW f ts) where
  nil := ⟨[], List.nodup_nil, fun _ => Iff.rfl, lw_nil ts 0⟩
  uniq := fun ⟨l1, n1, e1, h1⟩ ⟨l2, n2, e2, h2⟩ => by
    rw [← h1, ← h2]
    exact lw_congr fun a => Nat.le_antisymm (count_le n1 (fun z hz => (e2 z).mpr ((e1 z).mp hz)) a) (count_le n2 (fun z hz => (e1 z).mpr ((e2 z).mp hz)) a)
  same := fun h ⟨l1, n1, e1, h1⟩ => ⟨l1, n1, fun z => (e1 z).trans (h z), h1⟩
  stay := fun {l k x} _ _ d ⟨l1, n1, e1, h1⟩ => by
    by_cases c : x ∈ l
    · exact ⟨l1, n1, fun z => by
        rw [e1, List.mem_cons]
        exact ⟨.inr, fun q => q.elim (fun q => by rw [q]; exact c) id⟩, h1⟩
    · obtain ⟨l2, n2, e2, h2⟩ := d.elim (fun z => absurd z c) id
      have c1 : x ∉ l1 := fun z => c ((e1 x).mp z)
      refine ⟨x :: l1, List.nodup_cons.mpr ⟨c1, n1⟩, fun z => by rw [List.mem_cons, List.mem_cons, e1], ?_⟩
      have := count_le (f := f) n2 (fun z hz => (e1 z).mpr ((e2 z).mp hz)) (f x)
      rw [List.map_cons, lw_cons, if_neg, h1]
      · rfl
      · rw [Nat.sub_zero]
        omega
  grow := fun {l k x} _ _ d ⟨l1, n1, e1, h1⟩ => by
    have c : x ∉ l := fun z => d (.inl z)
    have c1 : x ∉ l1 := fun z => c ((e1 x).mp z)
    refine ⟨x :: l1, List.nodup_cons.mpr ⟨c1, n1⟩, fun z => by rw [List.mem_cons, List.mem_cons, e1], ?_⟩
    have : ¬ ts.getD (f x) 0 ≤ (l1.map f).count (f x) := fun z => d (.inr ⟨l1, n1, e1, z⟩)
    rw [List.map_cons, lw_cons, if_pos, h1]
    rw [Nat.sub_zero]
    omega
  mono := fun {l m x} h d => by
    rcases d with d | ⟨l1, n1, e1, h1⟩
    · exact .inl (h x d)
    · obtain ⟨l2, n2, e2⟩ := dedup m
      have := count_le (f := f) n1 (fun z hz => (e2 z).mpr (h z ((e1 z).mp hz))) (f x)
      exact .inr ⟨l2, n2, e2, by omega⟩
end
end Lt

/-! Sums of rows: the span of a list of numbers by bitwise sums, how many members it has. -/
namespace Span
/-- x is the sum of some of the list -/
def Sp : List Nat → Nat → Prop
  | [], x => x = 0
  | a :: l, x => Sp l x ∨ Sp l (x ^^^ a)
theorem xx (a : Nat) : a ^^^ a = 0 := Nat.xor_self a
theorem cancel (x a : Nat) : x ^^^ a ^^^ a = x := by rw [Nat.xor_assoc, Nat.xor_self, Nat.xor_zero]
theorem swap (x a b : Nat) : x ^^^ a ^^^ b = x ^^^ b ^^^ a := by rw [Nat.xor_assoc, Nat.xor_comm a b, ← Nat.xor_assoc]
theorem zero : ∀ l, Sp l 0
  | [] => rfl
  | _ :: l => .inl (zero l)
theorem xor : ∀ {l : List Nat} {x y : Nat}, Sp l x → Sp l y → Sp l (x ^^^ y)
  | [], x, y, h1, h2 => by
    have e1 : x = 0 := h1
    have e2 : y = 0 := h2
    rw [e1, e2]
    rfl
  | a :: l, x, y, h1, h2 => by
    rcases h1 with h1 | h1 <;> rcases h2 with h2 | h2
    · exact .inl (xor h1 h2)
    · exact .inr (by rw [Nat.xor_assoc]; exact xor h1 h2)
    · exact .inr (by rw [swap]; exact xor h1 h2)
    · refine .inl ?_
      have z := xor h1 h2
      rw [← Nat.xor_assoc, swap, cancel] at z
      exact z
theorem mem : ∀ {l : List Nat} {a : Nat}, a ∈ l → Sp l a
  | b :: l, a, h => by
    rcases List.mem_cons.mp h with e | e
    · subst e
      refine .inr ?_
      rw [xx]
      exact zero l
    · exact .inl (mem e)
theorem lift : ∀ {l m : List Nat}, (∀ a ∈ l, Sp m a) → ∀ {x : Nat}, Sp l x → Sp m x
  | [], m, _, x, h => by
    have e : x = 0 := h
    rw [e]
    exact zero m
  | a :: l, m, k, x, h => by
    have kl : ∀ b ∈ l, Sp m b := fun b hb => k b (List.mem_cons_of_mem _ hb)
    rcases h with h | h
    · exact lift kl h
    · have z := xor (lift kl h) (k a List.mem_cons_self)
      rw [cancel] at z
      exact z
theorem snoc {l : List Nat} {a x : Nat} : Sp (l ++ [a]) x ↔ Sp l x ∨ Sp l (x ^^^ a) := by
  have h1 : ∀ b ∈ l ++ [a], Sp (a :: l) b := fun b hb => by
    rcases List.mem_append.mp hb with q | q
    · exact mem (List.mem_cons_of_mem _ q)
    · exact mem (by rw [List.mem_singleton.mp q]; exact List.mem_cons_self)
  have h2 : ∀ b ∈ a :: l, Sp (l ++ [a]) b := fun b hb => by
    rcases List.mem_cons.mp hb with q | q
    · exact mem (by rw [q]; exact List.mem_append_right _ (List.mem_singleton.mpr rfl))
    · exact mem (List.mem_append_left _ q)
  exact ⟨fun h => lift h1 h, fun h => lift h2 h⟩
/-- the span of l has 2 ^ r members -/
def Cnt (l : List Nat) (r : Nat) : Prop := ∃ L : List Nat, L.Nodup ∧ (∀ x, x ∈ L ↔ Sp l x) ∧ L.length = 2 ^ r
theorem pow_inj {r s : Nat} (h : 2 ^ r = 2 ^ s) : r = s := (Nat.pow_right_inj (by decide : 1 < 2)).mp h
theorem Cnt.same {l m : List Nat} {r s : Nat} (h1 : ∀ a ∈ l, Sp m a) (h2 : ∀ a ∈ m, Sp l a) (c1 : Cnt l r) (c2 : Cnt m s) : r = s := by
  obtain ⟨L, n1, m1, e1⟩ := c1
  obtain ⟨M, n2, m2, e2⟩ := c2
  have p : L.Perm M := (List.perm_ext_iff_of_nodup n1 n2).mpr fun x => by
    rw [m1, m2]
    exact ⟨fun h => lift h1 h, fun h => lift h2 h⟩
  have q := p.length_eq
  rw [e1, e2] at q
  exact pow_inj q
theorem Cnt.nil : Cnt [] 0 := ⟨[0], by simp, fun x => by simp [Sp], rfl⟩
/-- the sums so far, and those with a more -/
theorem both {l L : List Nat} {a : Nat} (nd : L.Nodup) (mm : ∀ x, x ∈ L ↔ Sp l x) (ha : ¬ Sp l a) :
    (L ++ L.map (· ^^^ a)).Nodup ∧ ∀ x, x ∈ L ++ L.map (· ^^^ a) ↔ Sp (l ++ [a]) x := by
  constructor
  · refine List.nodup_append.mpr ⟨nd, ?_, ?_⟩
    · refine (List.pairwise_map).mpr (nd.imp fun {x y} h e => h ?_)
      have z := congrArg (· ^^^ a) e
      simpa only [cancel] using z
    · intro x hx y hy e
      subst e
      obtain ⟨z, hz, e⟩ := List.mem_map.mp hy
      have q := xor ((mm z).mp hz) ((mm x).mp hx)
      rw [← e, ← Nat.xor_assoc, Nat.xor_self, Nat.zero_xor] at q
      exact ha q
  · intro x
    rw [snoc, List.mem_append, mm, List.mem_map]
    refine or_congr_right ⟨fun ⟨z, hz, e⟩ => ?_, fun h => ⟨x ^^^ a, (mm _).mpr h, cancel x a⟩⟩
    rw [← e, cancel]
    exact (mm z).mp hz
theorem Cnt.more {l : List Nat} {r a : Nat} (c : Cnt l r) (ha : ¬ Sp l a) : Cnt (l ++ [a]) (r + 1) := by
  obtain ⟨L, n1, m1, e1⟩ := c
  obtain ⟨q1, q2⟩ := both n1 m1 ha
  refine ⟨_, q1, q2, ?_⟩
  rw [List.length_append, List.length_map, e1, Nat.pow_succ]
  omega
theorem Cnt.less {l : List Nat} {r a : Nat} (c : Cnt l r) (ha : Sp l a) : Cnt (l ++ [a]) r := by
  obtain ⟨L, n1, m1, e1⟩ := c
  refine ⟨L, n1, fun x => ?_, e1⟩
  rw [m1, snoc]
  refine ⟨.inl, fun h => h.elim id fun z => ?_⟩
  have q := xor z ha
  rw [cancel] at q
  exact q
theorem Cnt.of {l m : List Nat} {r : Nat} (h1 : ∀ a ∈ l, Sp m a) (h2 : ∀ a ∈ m, Sp l a) (c : Cnt l r) : Cnt m r := by
  obtain ⟨L, n1, m1, e1⟩ := c
  exact ⟨L, n1, fun x => (m1 x).trans ⟨fun h => lift h1 h, fun h => lift h2 h⟩, e1⟩
/-! ### heads: each lacks the highest bits of those ahead of it -/
/-- t is the highest bit of h -/
def Top (h t : Nat) : Prop := h.testBit t = true ∧ ∀ u, t < u → h.testBit u = false
theorem top_exists {h : Nat} (h0 : h ≠ 0) : ∃ t, Top h t := by
  refine ⟨h.log2, Nat.testBit_log2 h0, fun u hu => Nat.testBit_lt_two_pow ?_⟩
  exact (Nat.log2_lt h0).mp hu
theorem lt_of_bits {x y : Nat} (t : Nat) (hx : x.testBit t = false) (hy : y.testBit t = true) (hu : ∀ j, t < j → x.testBit j = y.testBit j) : x < y := by
  have e : x / 2 ^ t / 2 = y / 2 ^ t / 2 := Nat.eq_of_testBit_eq fun i => by
    rw [Nat.testBit_div_two, Nat.testBit_div_two, Nat.testBit_div_two_pow, Nat.testBit_div_two_pow]
    exact hu _ (by omega)
  rw [Nat.testBit_eq_decide_div_mod_eq] at hx hy
  have h0 := of_decide_eq_false hx
  have h1 := of_decide_eq_true hy
  have lt : x / 2 ^ t < y / 2 ^ t := by omega
  refine Nat.lt_of_not_le fun q => ?_
  have := Nat.div_le_div_right (c := 2 ^ t) q
  omega
def step (rest head : Nat) : Nat := min rest (rest ^^^ head)
def reduce (heads : List Nat) (row : Nat) : Nat := heads.foldl step row
/-- the lesser one lacks the head's highest bit -/
theorem step_lacks {r h t : Nat} (ht : Top h t) : (step r h).testBit t = false := by
  unfold step
  have hi : ∀ u, t < u → (r ^^^ h).testBit u = r.testBit u := fun u hu => by
    rw [Nat.testBit_xor, ht.2 u hu, Bool.xor_false]
  have at_ : (r ^^^ h).testBit t = !r.testBit t := by rw [Nat.testBit_xor, ht.1, Bool.xor_true]
  cases e : r.testBit t with
  | false =>
    rw [e] at at_
    have lt : r < r ^^^ h := lt_of_bits t e at_ fun j hj => (hi j hj).symm
    rw [Nat.min_eq_left (Nat.le_of_lt lt)]
    exact e
  | true =>
    rw [e] at at_
    have lt : r ^^^ h < r := lt_of_bits t at_ e fun j hj => hi j hj
    rw [Nat.min_eq_right (Nat.le_of_lt lt)]
    exact at_
theorem step_or (r h : Nat) : step r h = r ∨ step r h = r ^^^ h := by
  unfold step
  rcases Nat.le_total r (r ^^^ h) with q | q
  · exact .inl (Nat.min_eq_left q)
  · exact .inr (Nat.min_eq_right q)
theorem step_keeps {r h t : Nat} (h1 : r.testBit t = false) (h2 : h.testBit t = false) : (step r h).testBit t = false := by
  rcases step_or r h with e | e
  · rw [e]
    exact h1
  · rw [e, Nat.testBit_xor, h1, h2]
    rfl
/-- a list of heads -/
def Heads : List Nat → Prop
  | [] => True
  | h :: r => (∃ t, Top h t ∧ ∀ g ∈ r, g.testBit t = false) ∧ Heads r
theorem reduce_keeps : ∀ {hs : List Nat} {r t : Nat}, r.testBit t = false → (∀ g ∈ hs, g.testBit t = false) → (reduce hs r).testBit t = false
  | [], _, _, h, _ => h
  | h :: hs, r, t, h1, h2 => reduce_keeps (hs := hs) (r := step r h) (step_keeps h1 (h2 h List.mem_cons_self)) fun g hg => h2 g (List.mem_cons_of_mem _ hg)
theorem reduce_span : ∀ (hs : List Nat) (r : Nat), Sp hs (r ^^^ reduce hs r)
  | [], r => xx r
  | h :: hs, r => by
    have ih := reduce_span hs (step r h)
    show Sp hs (r ^^^ reduce hs (step r h)) ∨ Sp hs (r ^^^ reduce hs (step r h) ^^^ h)
    rcases step_or r h with e | e
    · rw [e] at ih ⊢
      exact .inl ih
    · rw [e] at ih ⊢
      refine .inr ?_
      rw [swap]
      exact ih
/-- what is left lacks the highest bit of each head -/
theorem reduce_lacks : ∀ {hs : List Nat}, Heads hs → ∀ r, ∀ h ∈ hs, ∃ t, Top h t ∧ (reduce hs r).testBit t = false
  | g :: hs, ⟨⟨t, ht, hl⟩, hh⟩, r, h, hm => by
    rcases List.mem_cons.mp hm with e | e
    · subst e
      exact ⟨t, ht, reduce_keeps (hs := hs) (r := step r h) (step_lacks ht) hl⟩
    · exact reduce_lacks hh (step r g) h e
theorem top_uniq {h t u : Nat} (a : Top h t) (b : Top h u) : t = u := by
  rcases Nat.lt_trichotomy t u with q | q | q
  · have := a.2 u q
    rw [b.1] at this
    cases this
  · exact q
  · have := b.2 t q
    rw [a.1] at this
    cases this
/-- a sum of heads that lacks all their highest bits is 0 -/
theorem span_zero : ∀ {hs : List Nat}, Heads hs → ∀ {x : Nat}, Sp hs x → (∀ h ∈ hs, ∃ t, Top h t ∧ x.testBit t = false) → x = 0
  | [], _, x, h, _ => h
  | h :: hs, ⟨⟨t, ht, hl⟩, hh⟩, x, hx, lk => by
    have lacks : ∀ {l : List Nat} {y : Nat}, (∀ g ∈ l, g.testBit t = false) → Sp l y → y.testBit t = false := by
      intro l
      induction l with
      | nil =>
        intro y _ hy
        have e : y = 0 := hy
        rw [e]
        exact Nat.zero_testBit t
      | cons a l ih =>
        intro y hg hy
        have ga := hg a List.mem_cons_self
        have gl : ∀ g ∈ l, g.testBit t = false := fun g q => hg g (List.mem_cons_of_mem _ q)
        rcases hy with q | q
        · exact ih gl q
        · have z := ih gl q
          rw [Nat.testBit_xor, ga, Bool.xor_false] at z
          exact z
    obtain ⟨u, hu, xu⟩ := lk h List.mem_cons_self
    have e := top_uniq ht hu
    rw [← e] at xu
    rcases hx with q | q
    · exact span_zero hh q fun g hg => lk g (List.mem_cons_of_mem _ hg)
    · have z := lacks hl q
      rw [Nat.testBit_xor, xu, ht.1] at z
      cases z
theorem reduce_zero {hs : List Nat} (hh : Heads hs) (r : Nat) : reduce hs r = 0 ↔ Sp hs r := by
  have s := reduce_span hs r
  constructor
  · intro e
    rw [e, Nat.xor_zero] at s
    exact s
  · intro q
    refine span_zero hh ?_ (reduce_lacks hh r)
    have z := xor q s
    rw [← Nat.xor_assoc, Nat.xor_self, Nat.zero_xor] at z
    exact z
theorem Heads.snoc : ∀ {hs : List Nat} {x : Nat}, Heads hs → x ≠ 0 → (∀ h ∈ hs, ∃ t, Top h t ∧ x.testBit t = false) → Heads (hs ++ [x])
  | [], x, _, h0, _ => by
    obtain ⟨t, ht⟩ := top_exists h0
    exact ⟨⟨t, ht, fun g hg => nomatch hg⟩, True.intro⟩
  | h :: hs, x, ⟨⟨t, ht, hl⟩, hh⟩, h0, lk => by
    refine ⟨⟨t, ht, fun g hg => ?_⟩, Heads.snoc hh h0 fun g hg => lk g (List.mem_cons_of_mem _ hg)⟩
    rcases List.mem_append.mp hg with q | q
    · exact hl g q
    · rw [List.mem_singleton.mp q]
      obtain ⟨u, hu, xu⟩ := lk h List.mem_cons_self
      rw [top_uniq ht hu]
      exact xu
/-- the heads of the rows so far: as many as the span asks -/
structure Good (l hs : List Nat) : Prop where
  heads : Heads hs
  cnt : Cnt l hs.length
  up : ∀ a ∈ l, Sp hs a
  down : ∀ h ∈ hs, Sp l h
theorem Good.nil : Good [] [] := ⟨True.intro, Cnt.nil, fun a h => (nomatch h), fun a h => (nomatch h)⟩
theorem Good.test {l hs : List Nat} (g : Good l hs) (r : Nat) : reduce hs r = 0 ↔ Sp l r :=
  (reduce_zero g.heads r).trans ⟨fun h => lift g.down h, fun h => lift g.up h⟩
theorem Good.skip {l hs : List Nat} {r : Nat} (g : Good l hs) (h : reduce hs r = 0) : Good (l ++ [r]) hs := by
  have s := (g.test r).mp h
  refine ⟨g.heads, g.cnt.less s, fun a ha => ?_, fun x hx => snoc.mpr (.inl (g.down x hx))⟩
  rcases List.mem_append.mp ha with q | q
  · exact g.up a q
  · rw [List.mem_singleton.mp q]
    exact (reduce_zero g.heads r).mp h
theorem Good.add {l hs : List Nat} {r : Nat} (g : Good l hs) (h : reduce hs r ≠ 0) : Good (l ++ [r]) (hs ++ [reduce hs r]) := by
  have s : ¬ Sp l r := fun q => h ((g.test r).mpr q)
  have sp := reduce_span hs r
  refine ⟨g.heads.snoc h (reduce_lacks g.heads r), ?_, fun a ha => ?_, fun x hx => ?_⟩
  · rw [List.length_append]
    exact g.cnt.more s
  · rcases List.mem_append.mp ha with q | q
    · exact snoc.mpr (.inl (g.up a q))
    · rw [List.mem_singleton.mp q]
      exact snoc.mpr (.inr sp)
  · rcases List.mem_append.mp hx with q | q
    · exact snoc.mpr (.inl (g.down x q))
    · rw [List.mem_singleton.mp q]
      refine snoc.mpr (.inr ?_)
      rw [Nat.xor_comm]
      exact lift g.down sp
end Span

/-! Places joined by ties: into how many pieces they fall. -/
namespace Pc
abbrev Tie := Nat × Nat
/-- g is the same at both ends of each tie -/
def Fit (ts : List Tie) (g : Nat → Nat) : Prop := ∀ t ∈ ts, g t.1 = g t.2
/-- joined by ties -/
def Con (ts : List Tie) (i j : Nat) : Prop := ∀ g, Fit ts g → g i = g j
theorem Con.refl (ts : List Tie) (i : Nat) : Con ts i i := fun _ _ => rfl
theorem Con.symm {ts : List Tie} {i j : Nat} (h : Con ts i j) : Con ts j i := fun g f => (h g f).symm
theorem Con.trans {ts : List Tie} {i j k : Nat} (h : Con ts i j) (h2 : Con ts j k) : Con ts i k := fun g f => (h g f).trans (h2 g f)
theorem Con.tie {ts : List Tie} {t : Tie} (h : t ∈ ts) : Con ts t.1 t.2 := fun g f => f t h
theorem Con.mono {ts us : List Tie} (h : ∀ t ∈ ts, t ∈ us) {i j : Nat} (c : Con ts i j) : Con us i j := fun g f => c g fun t ht => f t (h t ht)
/-- one place of each piece -/
structure Rep (n : Nat) (ts : List Tie) (S : List Nat) : Prop where
  nd : S.Nodup
  lt : ∀ s ∈ S, s < n
  apart : ∀ s ∈ S, ∀ t ∈ S, Con ts s t → s = t
  all : ∀ i, i < n → ∃ s ∈ S, Con ts i s
/-- an injective choice -/
theorem inj_le : ∀ {S U : List Nat} (R : Nat → Nat → Prop), S.Nodup → (∀ s ∈ S, ∃ u ∈ U, R s u) → (∀ s ∈ S, ∀ t ∈ S, ∀ u, R s u → R t u → s = t) → S.length ≤ U.length
  | [], U, _, _, _, _ => Nat.zero_le _
  | s :: S, U, R, nd, ex, inj => by
    obtain ⟨u, hu, ru⟩ := ex s List.mem_cons_self
    obtain ⟨ns, nd'⟩ := List.nodup_cons.mp nd
    have ih : S.length ≤ (U.erase u).length := inj_le R nd' (fun t ht => by
      obtain ⟨v, hv, rv⟩ := ex t (List.mem_cons_of_mem _ ht)
      have ne : v ≠ u := fun e => by
        subst e
        have := inj s List.mem_cons_self t (List.mem_cons_of_mem _ ht) v ru rv
        subst this
        exact ns ht
      exact ⟨v, (List.mem_erase_of_ne ne).mpr hv, rv⟩) fun a ha b hb => inj a (List.mem_cons_of_mem _ ha) b (List.mem_cons_of_mem _ hb)
    have : (U.erase u).length + 1 = U.length := by
      rw [List.length_erase_of_mem hu]
      have := List.length_pos_of_mem hu
      omega
    show S.length + 1 ≤ _
    omega
theorem Rep.le {n : Nat} {ts us : List Tie} {S U : List Nat} (h : ∀ t, t ∈ ts ↔ t ∈ us) (a : Rep n ts S) (b : Rep n us U) : S.length ≤ U.length := by
  refine inj_le (fun s u => Con ts s u) a.nd (fun s hs => ?_) fun s hs t ht u c1 c2 => a.apart s hs t ht (c1.trans c2.symm)
  obtain ⟨u, hu, c⟩ := b.all s (a.lt s hs)
  exact ⟨u, hu, c.mono fun t ht => (h t).mpr ht⟩
theorem Rep.same {n : Nat} {ts us : List Tie} {S U : List Nat} (h : ∀ t, t ∈ ts ↔ t ∈ us) (a : Rep n ts S) (b : Rep n us U) : S.length = U.length :=
  Nat.le_antisymm (a.le h b) (b.le (fun t => (h t).symm) a)
theorem Rep.of {n : Nat} {ts us : List Tie} {S : List Nat} (h : ∀ t, t ∈ ts ↔ t ∈ us) (a : Rep n ts S) : Rep n us S :=
  ⟨a.nd, a.lt, fun s hs t ht c => a.apart s hs t ht (c.mono fun x hx => (h x).mpr hx), fun i hi => by
    obtain ⟨s, hs, c⟩ := a.all i hi
    exact ⟨s, hs, c.mono fun x hx => (h x).mp hx⟩⟩
/-- k pieces -/
def Pcs (n : Nat) (ts : List Tie) (k : Nat) : Prop := ∃ S, Rep n ts S ∧ S.length = k
theorem Pcs.same {n : Nat} {ts us : List Tie} {k m : Nat} (h : ∀ t, t ∈ ts ↔ t ∈ us) (a : Pcs n ts k) (b : Pcs n us m) : k = m := by
  obtain ⟨S, a, rfl⟩ := a
  obtain ⟨U, b, rfl⟩ := b
  exact a.same h b
theorem Pcs.of {n : Nat} {ts us : List Tie} {k : Nat} (h : ∀ t, t ∈ ts ↔ t ∈ us) (a : Pcs n ts k) : Pcs n us k := by
  obtain ⟨S, a, e⟩ := a
  exact ⟨S, a.of h, e⟩
/-! ### labels -/
/-- the label of i -/
abbrev at_ (f : List Nat) (i : Nat) : Nat := f.getD i 0
/-- labels: each is a place that bears itself; two places bear one label just where they are joined -/
structure Lab (n : Nat) (ts : List Tie) (f : List Nat) : Prop where
  dom : ∀ t ∈ ts, t.1 < n ∧ t.2 < n
  len : f.length = n
  lt : ∀ i, i < n → at_ f i < n
  own : ∀ i, i < n → at_ f (at_ f i) = at_ f i
  fit : Fit ts (at_ f)
  fine : ∀ i j, i < n → j < n → at_ f i = at_ f j → Con ts i j
def roots (n : Nat) (f : List Nat) : List Nat := (List.range n).filter fun i => at_ f i == i
theorem mem_roots {n : Nat} {f : List Nat} {i : Nat} : i ∈ roots n f ↔ i < n ∧ at_ f i = i := by
  unfold roots
  rw [List.mem_filter, List.mem_range, beq_iff_eq]
theorem Lab.rep {n : Nat} {ts : List Tie} {f : List Nat} (h : Lab n ts f) : Rep n ts (roots n f) := by
  refine ⟨List.nodup_range.filter _, fun s hs => (mem_roots.mp hs).1, fun s hs t ht c => ?_, fun i hi => ?_⟩
  · have e := c (at_ f) h.fit
    rw [(mem_roots.mp hs).2, (mem_roots.mp ht).2] at e
    exact e
  · exact ⟨at_ f i, mem_roots.mpr ⟨h.lt i hi, h.own i hi⟩, h.fine i (at_ f i) hi (h.lt i hi) (h.own i hi).symm⟩
theorem at_range {n i : Nat} (h : i < n) : at_ (List.range n) i = i := by
  show (List.range n).getD i 0 = i
  rw [List.getD_eq_getElem?_getD, List.getElem?_range h]
  rfl
theorem Lab.start (n : Nat) : Lab n [] (List.range n) := by
  refine ⟨fun t ht => (nomatch ht), List.length_range, fun i hi => by rw [at_range hi]; exact hi, fun i hi => by rw [at_range hi, at_range hi], fun t ht => (nomatch ht), fun i j hi hj e => ?_⟩
  rw [at_range hi, at_range hj] at e
  rw [e]
  exact Con.refl _ _
theorem roots_start (n : Nat) : (roots n (List.range n)).length = n := by
  unfold roots
  rw [List.filter_eq_self.mpr, List.length_range]
  intro i hi
  rw [at_range (List.mem_range.mp hi)]
  exact beq_self_eq_true i
/-- gone takes the label kept -/
def relab (kept gone : Nat) (f : List Nat) : List Nat := f.map fun p => if p = gone then kept else p
theorem at_relab {f : List Nat} {kept gone i : Nat} (h : i < f.length) : at_ (relab kept gone f) i = if at_ f i = gone then kept else at_ f i := by
  show (f.map _).getD i 0 = if f.getD i 0 = gone then kept else f.getD i 0
  rw [List.getD_eq_getElem?_getD, List.getD_eq_getElem?_getD, List.getElem?_map, List.getElem?_eq_getElem h]
  rfl
theorem dom_snoc {n : Nat} {ts : List Tie} {u v : Nat} (h : ∀ t ∈ ts, t.1 < n ∧ t.2 < n) (hu : u < n) (hv : v < n) : ∀ t ∈ ts ++ [(u, v)], t.1 < n ∧ t.2 < n := fun t ht => by
  rcases List.mem_append.mp ht with q | q
  · exact h t q
  · rw [List.mem_singleton.mp q]
    exact ⟨hu, hv⟩
theorem Lab.skip {n : Nat} {ts : List Tie} {f : List Nat} {u v : Nat} (h : Lab n ts f) (hu : u < n) (hv : v < n) (e : at_ f u = at_ f v) : Lab n (ts ++ [(u, v)]) f := by
  refine ⟨dom_snoc h.dom hu hv, h.len, h.lt, h.own, fun t ht => ?_, fun i j hi hj q => (h.fine i j hi hj q).mono fun t ht => List.mem_append_left _ ht⟩
  rcases List.mem_append.mp ht with q | q
  · exact h.fit t q
  · rw [List.mem_singleton.mp q]
    exact e
theorem Lab.join {n : Nat} {ts : List Tie} {f : List Nat} {u v : Nat} (h : Lab n ts f) (hu : u < n) (hv : v < n) (ne : at_ f u ≠ at_ f v) : Lab n (ts ++ [(u, v)]) (relab (at_ f u) (at_ f v) f) := by
  have at' : ∀ {i}, i < n → at_ (relab (at_ f u) (at_ f v) f) i = if at_ f i = at_ f v then at_ f u else at_ f i := fun hi => at_relab (by rw [h.len]; exact hi)
  have sub : ∀ {i j}, Con ts i j → Con (ts ++ [(u, v)]) i j := fun c => c.mono fun t ht => List.mem_append_left _ ht
  have new : Con (ts ++ [(u, v)]) u v := Con.tie (t := (u, v)) (List.mem_append_right _ (List.mem_singleton.mpr rfl))
  have lu := h.lt u hu
  refine ⟨dom_snoc h.dom hu hv, by unfold relab; rw [List.length_map]; exact h.len, fun i hi => ?_, fun i hi => ?_, fun t ht => ?_, fun i j hi hj e => ?_⟩
  · rw [at' hi]
    split
    · exact lu
    · exact h.lt i hi
  · rw [at' hi]
    split
    · rw [at' lu, h.own u hu, if_neg ne]
    · rename_i c
      rw [at' (h.lt i hi), h.own i hi, if_neg c]
  · have keep : ∀ {i j}, at_ f i = at_ f j → i < n → j < n → at_ (relab (at_ f u) (at_ f v) f) i = at_ (relab (at_ f u) (at_ f v) f) j := fun e hi hj => by rw [at' hi, at' hj, e]
    rcases List.mem_append.mp ht with q | q
    · exact keep (h.fit t q) (h.dom t q).1 (h.dom t q).2
    · rw [List.mem_singleton.mp q]
      rw [at' hu, at' hv, if_neg ne, if_pos rfl]
  · rw [at' hi, at' hj] at e
    by_cases c1 : at_ f i = at_ f v
    · by_cases c2 : at_ f j = at_ f v
      · exact sub (h.fine i j hi hj (c1.trans c2.symm))
      · rw [if_pos c1, if_neg c2] at e
        exact (sub (h.fine i v hi hv c1)).trans (new.symm.trans (sub (h.fine u j hu hj e)))
    · by_cases c2 : at_ f j = at_ f v
      · rw [if_neg c1, if_pos c2] at e
        exact (sub (h.fine i u hi hu e)).trans (new.trans (sub (h.fine j v hj hv c2).symm))
      · rw [if_neg c1, if_neg c2] at e
        exact sub (h.fine i j hi hj e)
/-- a root less -/
theorem roots_join {n : Nat} {ts : List Tie} {f : List Nat} {u v : Nat} (h : Lab n ts f) (hu : u < n) (hv : v < n) (ne : at_ f u ≠ at_ f v) : (roots n (relab (at_ f u) (at_ f v) f)).length + 1 = (roots n f).length := by
  have at' : ∀ {i}, i < n → at_ (relab (at_ f u) (at_ f v) f) i = if at_ f i = at_ f v then at_ f u else at_ f i := fun hi => at_relab (by rw [h.len]; exact hi)
  have lv := h.lt v hv
  have mv : at_ f v ∈ roots n f := mem_roots.mpr ⟨lv, h.own v hv⟩
  have nd : (roots n f).Nodup := List.nodup_range.filter _
  have p : (roots n (relab (at_ f u) (at_ f v) f)).Perm ((roots n f).erase (at_ f v)) := by
    refine (List.perm_ext_iff_of_nodup (List.nodup_range.filter _) (nd.sublist List.erase_sublist)).mpr fun i => ?_
    show i ∈ roots n (relab (at_ f u) (at_ f v) f) ↔ _
    rw [nd.mem_erase_iff, mem_roots, mem_roots]
    constructor
    · rintro ⟨hi, e⟩
      rw [at' hi] at e
      split at e
      · rename_i c
        -- i = at_ f u, which bears itself
        rw [← e, h.own u hu] at c
        exact absurd c ne
      · rename_i c
        exact ⟨fun z => c (by rw [z, h.own v hv]), hi, e⟩
    · rintro ⟨n1, hi, e⟩
      refine ⟨hi, ?_⟩
      rw [at' hi, if_neg, e]
      rw [e]
      exact n1
  rw [p.length_eq, List.length_erase_of_mem mv]
  have := List.length_pos_of_mem mv
  omega
/-! ### going from place to place -/
/-- the neighbours -/
def beside (p : Nat) (ts : List Tie) : List Nat := ts.flatMap fun t => (if p = t.1 then [t.2] else []) ++ (if p = t.2 then [t.1] else [])
theorem mem_beside {p q : Nat} {ts : List Tie} : q ∈ beside p ts ↔ ∃ t ∈ ts, (p = t.1 ∧ q = t.2) ∨ (p = t.2 ∧ q = t.1) := by
  unfold beside
  rw [List.mem_flatMap]
  refine exists_congr fun t => and_congr_right fun _ => ?_
  rw [List.mem_append]
  refine or_congr ?_ ?_
  · by_cases c : p = t.1
    · rw [if_pos c, List.mem_singleton]
      exact ⟨fun h => ⟨c, h⟩, fun h => h.2⟩
    · rw [if_neg c]
      exact ⟨fun h => (nomatch h), fun h => absurd h.1 c⟩
  · by_cases c : p = t.2
    · rw [if_pos c, List.mem_singleton]
      exact ⟨fun h => ⟨c, h⟩, fun h => h.2⟩
    · rw [if_neg c]
      exact ⟨fun h => (nomatch h), fun h => absurd h.1 c⟩
theorem beside_con {p q : Nat} {ts : List Tie} (h : q ∈ beside p ts) : Con ts p q := by
  obtain ⟨t, ht, ⟨rfl, rfl⟩ | ⟨rfl, rfl⟩⟩ := mem_beside.mp h
  · exact Con.tie ht
  · exact (Con.tie ht).symm
/-- seen is closed: with a place its neighbours -/
def Closed (ts : List Tie) (seen : List Nat) : Prop := ∀ p ∈ seen, ∀ q ∈ beside p ts, q ∈ seen
/-- what a closed heap of places has isn't joined with what it hasn't -/
theorem Closed.apart {ts : List Tie} {seen : List Nat} (h : Closed ts seen) {p q : Nat} (hp : p ∈ seen) (hq : q ∉ seen) : ¬ Con ts p q := fun c => by
  have e := c (fun i => if i ∈ seen then 1 else 0) fun t ht => by
    have a : t.1 ∈ seen ↔ t.2 ∈ seen := ⟨fun z => h _ z _ (mem_beside.mpr ⟨t, ht, .inl ⟨rfl, rfl⟩⟩), fun z => h _ z _ (mem_beside.mpr ⟨t, ht, .inr ⟨rfl, rfl⟩⟩)⟩
    show (if t.1 ∈ seen then 1 else 0) = (if t.2 ∈ seen then 1 else 0)
    by_cases z : t.1 ∈ seen
    · rw [if_pos z, if_pos (a.mp z)]
    · rw [if_neg z, if_neg fun y => z (a.mpr y)]
  have e2 : (if p ∈ seen then 1 else 0) = (if q ∈ seen then 1 else 0) := e
  rw [if_pos hp, if_neg hq] at e2
  cases e2
/-- behind some begins: S the begins, seen what was seen -/
structure Seen (n m : Nat) (ts : List Tie) (S seen : List Nat) : Prop where
  nd : S.Nodup
  lt : ∀ s ∈ S, s < n
  apart : ∀ s ∈ S, ∀ t ∈ S, Con ts s t → s = t
  sub : ∀ p ∈ seen, p < n ∧ ∃ s ∈ S, Con ts p s
  sup : ∀ s ∈ S, s ∈ seen
  closed : Closed ts seen
  done : ∀ i, i < m → i ∈ seen
theorem Seen.start (n : Nat) (ts : List Tie) : Seen n 0 ts [] [] := ⟨List.nodup_nil, fun _ h => (nomatch h), fun _ h => (nomatch h), fun _ h => (nomatch h), fun _ h => (nomatch h), fun _ h => (nomatch h), fun i h => absurd h (Nat.not_lt_zero i)⟩
theorem Seen.skip {n m : Nat} {ts : List Tie} {S seen : List Nat} (h : Seen n m ts S seen) (hm : m ∈ seen) : Seen n (m + 1) ts S seen :=
  ⟨h.nd, h.lt, h.apart, h.sub, h.sup, h.closed, fun i hi => by
    rcases Nat.lt_succ_iff_lt_or_eq.mp hi with q | q
    · exact h.done i q
    · rw [q]
      exact hm⟩
theorem Seen.rep {n : Nat} {ts : List Tie} {S seen : List Nat} (h : Seen n n ts S seen) : Rep n ts S :=
  ⟨h.nd, h.lt, h.apart, fun i hi => (h.sub i (h.done i hi)).2⟩
/-- within a search from m: the first at places of the new ones have been looked at -/
structure Search (n m : Nat) (ts : List Tie) (S old seen : List Nat) (k : Nat) : Prop where
  pre : ∃ new, seen = old ++ new ∧ m ∈ new ∧ ∀ p ∈ new, p < n ∧ Con ts p m
  nd : seen.Nodup
  le : k ≤ seen.length
  ol : old.length ≤ k
  look : ∀ p ∈ seen.take k, ∀ q ∈ beside p ts, q ∈ seen
theorem Search.start {n m : Nat} {ts : List Tie} {S old : List Nat} (h : Seen n m ts S old) (nd : old.Nodup) (hm : m < n) (nm : m ∉ old) : Search n m ts S old (old ++ [m]) old.length := by
  refine ⟨⟨[m], rfl, List.mem_singleton.mpr rfl, fun p hp => ?_⟩, ?_, ?_, Nat.le_refl _, fun p hp q hq => ?_⟩
  · rw [List.mem_singleton.mp hp]
    exact ⟨hm, Con.refl _ _⟩
  · refine List.nodup_append.mpr ⟨nd, by simp, fun a ha b hb e => nm ?_⟩
    rw [← List.mem_singleton.mp hb, ← e]
    exact ha
  · rw [List.length_append]
    omega
  · rw [List.take_left'] at hp
    · exact List.mem_append_left _ (h.closed p hp q hq)
    · rfl
/-- the search's end -/
theorem Search.done {n m : Nat} {ts : List Tie} {S old seen : List Nat} (h : Seen n m ts S old) (nm : m ∉ old) (hm : m < n) (s : Search n m ts S old seen seen.length) : Seen n (m + 1) ts (S ++ [m]) seen := by
  obtain ⟨new, e, mn, hn⟩ := s.pre
  have cl : Closed ts seen := fun p hp q hq => s.look p (by rw [List.take_length]; exact hp) q hq
  have nS : ∀ s ∈ S, ¬ Con ts s m := fun s hs => h.closed.apart (h.sup s hs) nm
  refine ⟨?_, fun s hs => ?_, fun a ha b hb c => ?_, fun p hp => ?_, fun s hs => ?_, cl, fun i hi => ?_⟩
  · refine List.nodup_append.mpr ⟨h.nd, by simp, fun a ha b hb e => nS a ha ?_⟩
    rw [e, List.mem_singleton.mp hb]
    exact Con.refl _ _
  · rcases List.mem_append.mp hs with q | q
    · exact h.lt s q
    · rw [List.mem_singleton.mp q]
      exact hm
  · rcases List.mem_append.mp ha with q1 | q1 <;> rcases List.mem_append.mp hb with q2 | q2
    · exact h.apart a q1 b q2 c
    · rw [List.mem_singleton.mp q2] at c
      exact absurd c (nS a q1)
    · rw [List.mem_singleton.mp q1] at c
      exact absurd c.symm (nS b q2)
    · rw [List.mem_singleton.mp q1, List.mem_singleton.mp q2]
  · rw [e] at hp
    rcases List.mem_append.mp hp with q | q
    · obtain ⟨a, s, hs, c⟩ := h.sub p q
      exact ⟨a, s, List.mem_append_left _ hs, c⟩
    · exact ⟨(hn p q).1, m, List.mem_append_right _ (List.mem_singleton.mpr rfl), (hn p q).2⟩
  · rw [e]
    rcases List.mem_append.mp hs with q | q
    · exact List.mem_append_left _ (h.sup s q)
    · rw [List.mem_singleton.mp q]
      exact List.mem_append_right _ mn
  · rw [e]
    rcases Nat.lt_succ_iff_lt_or_eq.mp hi with q | q
    · exact List.mem_append_left _ (h.done i q)
    · rw [q]
      exact List.mem_append_right _ mn
/-- a place's neighbours, those of the first j that weren't seen added -/
def adds (seen : List Nat) (qs : List Nat) : List Nat := qs.foldl (fun s q => if q ∈ s then s else s ++ [q]) seen
theorem adds_snoc (seen qs : List Nat) (q : Nat) : adds seen (qs ++ [q]) = if q ∈ adds seen qs then adds seen qs else adds seen qs ++ [q] := by
  unfold adds
  rw [List.foldl_append]
  rfl
theorem adds_pre : ∀ (qs seen : List Nat), ∃ more, adds seen qs = seen ++ more ∧ ∀ p ∈ more, p ∈ qs
  | [], seen => ⟨[], (List.append_nil _).symm, fun _ h => (nomatch h)⟩
  | q :: qs, seen => by
    show ∃ more, adds (if q ∈ seen then seen else seen ++ [q]) qs = seen ++ more ∧ _
    split
    · obtain ⟨m, e, h⟩ := adds_pre qs seen
      exact ⟨m, e, fun p hp => List.mem_cons_of_mem _ (h p hp)⟩
    · obtain ⟨m, e, h⟩ := adds_pre qs (seen ++ [q])
      refine ⟨q :: m, by rw [e, List.append_assoc]; rfl, fun p hp => ?_⟩
      rcases List.mem_cons.mp hp with z | z
      · rw [z]
        exact List.mem_cons_self
      · exact List.mem_cons_of_mem _ (h p z)
theorem adds_mem : ∀ (qs seen : List Nat) (q : Nat), q ∈ qs → q ∈ adds seen qs
  | p :: qs, seen, q, h => by
    show q ∈ adds (if p ∈ seen then seen else seen ++ [p]) qs
    rcases List.mem_cons.mp h with e | e
    · obtain ⟨m, e2, _⟩ := adds_pre qs (if p ∈ seen then seen else seen ++ [p])
      rw [e2, e]
      refine List.mem_append_left _ ?_
      split
      · assumption
      · exact List.mem_append_right _ (List.mem_singleton.mpr rfl)
    · exact adds_mem qs _ q e
theorem adds_nodup : ∀ (qs seen : List Nat), seen.Nodup → (adds seen qs).Nodup
  | [], _, h => h
  | q :: qs, seen, h => by
    show (adds (if q ∈ seen then seen else seen ++ [q]) qs).Nodup
    split
    · exact adds_nodup qs seen h
    · rename_i c
      refine adds_nodup qs _ (List.nodup_append.mpr ⟨h, by simp, fun a ha b hb e => c ?_⟩)
      rw [← List.mem_singleton.mp hb, ← e]
      exact ha
theorem Search.turn {n m : Nat} {ts : List Tie} {S old seen : List Nat} {k p : Nat} (dom : ∀ t ∈ ts, t.1 < n ∧ t.2 < n) (s : Search n m ts S old seen k) (hp : seen[k]? = some p) : Search n m ts S old (adds seen (beside p ts)) (k + 1) := by
  obtain ⟨new, e, mn, hn⟩ := s.pre
  obtain ⟨more, e2, hm⟩ := adds_pre (beside p ts) seen
  have kl : k < seen.length := (List.getElem?_eq_some_iff.mp hp).1
  have pn : p ∈ new := by
    have q : new[k - old.length]? = some p := by
      rw [e, List.getElem?_append_right s.ol] at hp
      exact hp
    exact List.mem_of_getElem? q
  refine ⟨⟨new ++ more, by rw [e2, e, List.append_assoc], List.mem_append_left _ mn, fun q hq => ?_⟩, adds_nodup _ _ s.nd, ?_, Nat.le_succ_of_le s.ol, fun q hq r hr => ?_⟩
  · rcases List.mem_append.mp hq with z | z
    · exact hn q z
    · have b := hm q z
      have c := beside_con b
      refine ⟨?_, c.symm.trans (hn p pn).2⟩
      obtain ⟨t, ht, ⟨_, e3⟩ | ⟨_, e3⟩⟩ := mem_beside.mp b
      · rw [e3]
        exact (dom t ht).2
      · rw [e3]
        exact (dom t ht).1
  · rw [e2, List.length_append]
    omega
  · rw [e2, List.take_append_of_le_length (by omega), List.take_add_one, hp] at hq
    rcases List.mem_append.mp hq with z | z
    · rw [e2]
      exact List.mem_append_left _ (s.look q z r hr)
    · have e3 : q = p := by simpa using z
      rw [e3] at hr
      exact adds_mem _ _ r hr
end Pc

namespace Rk
theorem Ranked.map {α β : Type} {ok : α → Prop} {ok' : β → Prop} {dep : List α → α → Prop} {R : List α → Nat → Prop} (r : Ranked ok dep R) (f : β → α) (hf : ∀ b, ok' b → ok (f b)) :
    Ranked ok' (fun l x => dep (l.map f) (f x)) (fun l k => R (l.map f) k) where
  nil := r.nil
  uniq := fun a b => r.uniq a b
  same := fun h a => r.same (fun x => by
    rw [List.mem_map, List.mem_map]
    exact ⟨fun ⟨y, hy, e⟩ => ⟨y, (h y).mp hy, e⟩, fun ⟨y, hy, e⟩ => ⟨y, (h y).mpr hy, e⟩⟩) a
  stay := fun ho hx d a => r.stay (fun y hy => by
    obtain ⟨z, hz, rfl⟩ := List.mem_map.mp hy
    exact hf _ (ho z hz)) (hf _ hx) d a
  grow := fun ho hx d a => r.grow (fun y hy => by
    obtain ⟨z, hz, rfl⟩ := List.mem_map.mp hy
    exact hf _ (ho z hz)) (hf _ hx) d a
  mono := fun h d => r.mono (fun y hy => by
    obtain ⟨z, hz, rfl⟩ := List.mem_map.mp hy
    exact List.mem_map.mpr ⟨z, h z hz, rfl⟩) d
theorem rows : Ranked (fun _ : Nat => True) Span.Sp Span.Cnt where
  nil := Span.Cnt.nil
  uniq := fun a b => a.same (fun x hx => Span.mem hx) (fun x hx => Span.mem hx) b
  same := fun h a => a.of (fun x hx => Span.mem ((h x).mp hx)) (fun x hx => Span.mem ((h x).mpr hx))
  stay := fun {l k x} _ _ d a => (a.less d).of (fun y hy => Span.mem (by
    rcases List.mem_append.mp hy with z | z
    · exact List.mem_cons_of_mem _ z
    · rw [List.mem_singleton.mp z]; exact List.mem_cons_self)) (fun y hy => Span.mem (by
    rcases List.mem_cons.mp hy with z | z
    · rw [z]; exact List.mem_append_right _ (List.mem_singleton.mpr rfl)
    · exact List.mem_append_left _ z))
  grow := fun {l k x} _ _ d a => (a.more d).of (fun y hy => Span.mem (by
    rcases List.mem_append.mp hy with z | z
    · exact List.mem_cons_of_mem _ z
    · rw [List.mem_singleton.mp z]; exact List.mem_cons_self)) (fun y hy => Span.mem (by
    rcases List.mem_cons.mp hy with z | z
    · rw [z]; exact List.mem_append_right _ (List.mem_singleton.mpr rfl)
    · exact List.mem_append_left _ z))
  mono := fun h d => Span.lift (fun a ha => Span.mem (h a ha)) d
open Pc
theorem lab_of {n : Nat} {ts us : List Tie} {f : List Nat} (h : ∀ t, t ∈ ts ↔ t ∈ us) (a : Lab n ts f) : Lab n us f :=
  ⟨fun t ht => a.dom t ((h t).mpr ht), a.len, a.lt, a.own, fun t ht => a.fit t ((h t).mpr ht), fun i j hi hj e => (a.fine i j hi hj e).mono fun t ht => (h t).mp ht⟩
theorem snoc_cons {α : Type} (l : List α) (x t : α) : t ∈ l ++ [x] ↔ t ∈ x :: l := by
  rw [List.mem_append, List.mem_singleton, List.mem_cons]
  exact Or.comm
theorem lab_ex (n : Nat) : ∀ ts : List Tie, (∀ t ∈ ts, t.1 < n ∧ t.2 < n) → ∃ f, Lab n ts f
  | [], _ => ⟨_, Lab.start n⟩
  | (u, v) :: ts, h => by
    obtain ⟨f, hf⟩ := lab_ex n ts fun t ht => h t (List.mem_cons_of_mem _ ht)
    have hd := h (u, v) List.mem_cons_self
    by_cases e : at_ f u = at_ f v
    · exact ⟨f, lab_of (snoc_cons ts (u, v)) (hf.skip hd.1 hd.2 e)⟩
    · exact ⟨_, lab_of (snoc_cons ts (u, v)) (hf.join hd.1 hd.2 e)⟩
/-- the ties' worth -/
def TW (n : Nat) (ts : List Tie) (k : Nat) : Prop := ∃ p, Pcs n ts p ∧ k + p = n
theorem ties (n : Nat) : Ranked (fun t : Tie => t.1 < n ∧ t.2 < n) (fun l t => Con l t.1 t.2) (TW n) where
  nil := ⟨n, ⟨_, (Lab.start n).rep, roots_start n⟩, Nat.zero_add _⟩
  uniq := fun ⟨p, a, e⟩ ⟨q, b, e2⟩ => by
    have := a.same (fun _ => Iff.rfl) b
    omega
  same := fun h ⟨p, a, e⟩ => ⟨p, a.of h, e⟩
  stay := fun {l k x} ho hx d ⟨p, a, e⟩ => by
    obtain ⟨f, hf⟩ := lab_ex n l ho
    have ef : at_ f x.1 = at_ f x.2 := d _ hf.fit
    have ep : p = (roots n f).length := a.same (fun _ => Iff.rfl) ⟨_, hf.rep, rfl⟩
    exact ⟨p, ⟨_, ((hf.skip hx.1 hx.2 ef).rep).of (snoc_cons l x), ep.symm⟩, e⟩
  grow := fun {l k x} ho hx d ⟨p, a, e⟩ => by
    obtain ⟨f, hf⟩ := lab_ex n l ho
    have ef : at_ f x.1 ≠ at_ f x.2 := fun z => d (hf.fine _ _ hx.1 hx.2 z)
    have ep : p = (roots n f).length := a.same (fun _ => Iff.rfl) ⟨_, hf.rep, rfl⟩
    have ej := roots_join hf hx.1 hx.2 ef
    exact ⟨_, ⟨_, ((hf.join hx.1 hx.2 ef).rep).of (snoc_cons l x), rfl⟩, by omega⟩
  mono := fun h d => d.mono h
end Rk

/-! Worths as a function: what follows of carrying. -/
namespace Rk
structure Mtd (r : List Int → Nat) : Prop where
  nil : r [] = 0
  same : ∀ {l m : List Int}, (∀ x, x ∈ l ↔ x ∈ m) → r l = r m
  lo : ∀ (l : List Int) (x : Int), r l ≤ r (x :: l)
  hi : ∀ (l : List Int) (x : Int), r (x :: l) ≤ r l + 1
  up : ∀ {l m : List Int} {x : Int}, (∀ y ∈ l, y ∈ m) → r (x :: l) = r l → r (x :: m) = r m
noncomputable def rkOf (R : List Int → Nat → Prop) (n : Nat) (l : List Int) : Nat := @Classical.epsilon Nat ⟨0⟩ (R (l.filter fun z => decide (0 ≤ z ∧ z < (n : Int))))
section
variable {n : Nat} {R : List Int → Nat → Prop} {dep : List Int → Int → Prop}
abbrev okN (n : Nat) : Int → Prop := fun z => 0 ≤ z ∧ z < (n : Int)
abbrev cutN (n : Nat) (l : List Int) : List Int := l.filter fun z => decide (0 ≤ z ∧ z < (n : Int))
theorem cut_ok (n : Nat) (l : List Int) : ∀ y ∈ cutN n l, okN n y := fun y hy => of_decide_eq_true (List.mem_filter.mp hy).2
theorem cut_id {l : List Int} (h : ∀ y ∈ l, okN n y) : cutN n l = l := List.filter_eq_self.mpr fun y hy => decide_eq_true (h y hy)
theorem rk_is (h : Ranked (okN n) dep R) (l : List Int) : R (cutN n l) (rkOf R n l) := by
  obtain ⟨k, hk⟩ := h.ex (cutN n l) (cut_ok n l)
  exact @Classical.epsilon_spec Nat (R (cutN n l)) ⟨k, hk⟩
theorem rk_val (h : Ranked (okN n) dep R) {l : List Int} (ho : ∀ y ∈ l, okN n y) {k : Nat} (hk : R l k) : rkOf R n l = k := by
  have q := rk_is h l
  rw [cut_id ho] at q
  exact h.uniq q hk
theorem rk_mtd (h : Ranked (okN n) dep R) : Mtd (rkOf R n) := by
  have one : ∀ (l : List Int) (x : Int), (okN n x ∧ cutN n (x :: l) = x :: cutN n l) ∨ (cutN n (x :: l) = cutN n l) := fun l x => by
    by_cases c : okN n x
    · exact .inl ⟨c, List.filter_cons_of_pos (decide_eq_true c)⟩
    · exact .inr (List.filter_cons_of_neg fun z => c (of_decide_eq_true z))
  have step : ∀ (l : List Int) (x : Int), rkOf R n (x :: l) = rkOf R n l ∨ rkOf R n (x :: l) = rkOf R n l + 1 := fun l x => by
    have a := rk_is h l
    have b := rk_is h (x :: l)
    rcases one l x with ⟨o, e⟩ | e
    · rw [e] at b
      exact h.one (cut_ok n l) o a b
    · rw [e] at b
      exact .inl (h.uniq b a)
  refine ⟨?_, fun {l m} e => ?_, fun l x => ?_, fun l x => ?_, fun {l m x} sub e => ?_⟩
  · exact h.uniq (rk_is h []) h.nil
  · refine h.uniq (rk_is h l) (h.same (fun x => ?_) (rk_is h m))
    rw [List.mem_filter, List.mem_filter, e]
  · rcases step l x with z | z <;> omega
  · rcases step l x with z | z <;> omega
  · have a := rk_is h l
    have b := rk_is h (x :: l)
    have c := rk_is h m
    have d := rk_is h (x :: m)
    rcases one l x with ⟨o, el⟩ | el
    · have em : cutN n (x :: m) = x :: cutN n m := List.filter_cons_of_pos (decide_eq_true o)
      rw [el] at b
      rw [em] at d
      have dp : dep (cutN n l) x := Classical.byContradiction fun z => by
        have q := h.uniq b (h.grow (cut_ok n l) o z a)
        omega
      have dm : dep (cutN n m) x := h.mono (fun y hy => by
        obtain ⟨h1, h2⟩ := List.mem_filter.mp hy
        exact List.mem_filter.mpr ⟨sub y h1, h2⟩) dp
      exact h.uniq d (h.stay (cut_ok n m) o dm c)
    · by_cases o : okN n x
      · have z : cutN n (x :: l) = x :: cutN n l := List.filter_cons_of_pos (decide_eq_true o)
        have q : (cutN n (x :: l)).length = (cutN n l).length + 1 := by
          rw [z]
          rfl
        rw [el] at q
        omega
      · have em : cutN n (x :: m) = cutN n m := List.filter_cons_of_neg fun z => o (of_decide_eq_true z)
        rw [em] at d
        exact h.uniq d c
end
section
variable {r : List Int → Nat}
theorem Mtd.mem (M : Mtd r) {l : List Int} {x : Int} (h : x ∈ l) : r (x :: l) = r l := M.same fun y => by
  rw [List.mem_cons]
  exact ⟨fun z => z.elim (fun z => by rw [z]; exact h) id, .inr⟩
theorem Mtd.len (M : Mtd r) : ∀ l : List Int, r l ≤ l.length
  | [] => Nat.le_of_eq M.nil
  | x :: l => by
    have := M.len l
    have := M.hi l x
    rw [List.length_cons]
    omega
theorem Mtd.app (M : Mtd r) : ∀ (d l : List Int), r l ≤ r (d ++ l)
  | [], l => Nat.le_refl _
  | x :: d, l => Nat.le_trans (M.app d l) (M.lo (d ++ l) x)
theorem Mtd.app_le (M : Mtd r) : ∀ (d l : List Int), r (d ++ l) ≤ r l + d.length
  | [], l => Nat.le_refl _
  | x :: d, l => by
    have := M.app_le d l
    have := M.hi (d ++ l) x
    show r (x :: (d ++ l)) ≤ r l + (d.length + 1)
    omega
theorem Mtd.le (M : Mtd r) {l m : List Int} (h : ∀ x ∈ l, x ∈ m) : r l ≤ r m := by
  have e : r (m ++ l) = r m := M.same fun x => by
    rw [List.mem_append]
    exact ⟨fun z => z.elim id (h x), .inl⟩
  rw [← e]
  exact M.app m l
theorem Mtd.step (M : Mtd r) (l : List Int) (x : Int) : r (x :: l) = r l ∨ r (x :: l) = r l + 1 := by
  have := M.lo l x
  have := M.hi l x
  omega
/-- all of d carried by l: no more worth -/
theorem Mtd.all (M : Mtd r) : ∀ {d l : List Int}, (∀ x ∈ d, r (x :: l) = r l) → r (d ++ l) = r l
  | [], l, _ => rfl
  | x :: d, l, h => by
    have e := M.all (d := d) (l := l) fun y hy => h y (List.mem_cons_of_mem _ hy)
    have q := M.up (l := l) (m := d ++ l) (x := x) (fun y hy => List.mem_append_right _ hy) (h x List.mem_cons_self)
    show r (x :: (d ++ l)) = _
    rw [q, e]
/-- joined and common -/
theorem Mtd.sub (M : Mtd r) : ∀ (d : List Int) {a b : List Int}, (∀ x ∈ a, x ∈ b) → r (d ++ b) + r a ≤ r (d ++ a) + r b
  | [], a, b, _ => by
    show r b + r a ≤ r a + r b
    omega
  | x :: d, a, b, h => by
    have ih := M.sub d h
    have s : ∀ y ∈ d ++ a, y ∈ d ++ b := fun y hy => (List.mem_append.mp hy).elim (fun z => List.mem_append_left _ z) fun z => List.mem_append_right _ (h y z)
    have h1 := M.step (d ++ a) x
    have h2 := M.step (d ++ b) x
    show r (x :: (d ++ b)) + r a ≤ r (x :: (d ++ a)) + r b
    rcases h1 with e | e
    · have := M.up s e
      omega
    · omega
end
end Rk

/-! Free heaps, rings, by worths alone. -/
namespace Rk
variable {r : List Int → Nat}
/-- l without x -/
abbrev wo (l : List Int) (x : Int) : List Int := l.filter fun z => decide (z ≠ x)
theorem mem_wo {l : List Int} {x z : Int} : z ∈ wo l x ↔ z ∈ l ∧ z ≠ x := by rw [List.mem_filter, decide_eq_true_iff]
theorem wo_nodup {l : List Int} {x : Int} (h : l.Nodup) : (wo l x).Nodup := h.filter _
theorem wo_len : ∀ {l : List Int} {x : Int}, l.Nodup → x ∈ l → (wo l x).length + 1 = l.length
  | [], _, _, h => (nomatch h)
  | y :: l, x, nd, h => by
    obtain ⟨n1, n2⟩ := List.nodup_cons.mp nd
    by_cases e : y = x
    · subst e
      have : wo (y :: l) y = l := by
        show List.filter _ (y :: l) = l
        rw [List.filter_cons_of_neg (by simp)]
        exact List.filter_eq_self.mpr fun z hz => decide_eq_true fun e => n1 (by rw [← e]; exact hz)
      rw [this]
      rfl
    · have hx : x ∈ l := (List.mem_cons.mp h).elim (fun z => absurd z.symm e) id
      have : wo (y :: l) x = y :: wo l x := List.filter_cons_of_pos (decide_eq_true e)
      rw [this]
      have := wo_len n2 hx
      show (wo l x).length + 1 + 1 = l.length + 1
      omega
theorem wo_out {l : List Int} {x : Int} (h : x ∉ l) : wo l x = l := List.filter_eq_self.mpr fun z hz => decide_eq_true fun e => h (by rw [← e]; exact hz)
theorem Mtd.back (M : Mtd r) {l : List Int} {x : Int} (h : x ∈ l) : r (x :: wo l x) = r l := M.same fun y => by
  rw [List.mem_cons, mem_wo]
  constructor
  · rintro (z | z)
    · rw [z]; exact h
    · exact z.1
  · intro z
    by_cases e : y = x
    · exact .inl e
    · exact .inr ⟨z, e⟩
/-- worth as many as it has -/
def Free (r : List Int → Nat) (l : List Int) : Prop := r l = l.length
theorem Mtd.freeSub (M : Mtd r) : ∀ {l m : List Int}, Free r m → m.Nodup → l.Nodup → (∀ x ∈ l, x ∈ m) → Free r l := by
  intro l m
  -- remove one after another
  have : ∀ (n : Nat) (l m : List Int), m.length = n → Free r m → m.Nodup → l.Nodup → (∀ x ∈ l, x ∈ m) → Free r l := by
    intro n
    induction n with
    | zero =>
      intro l m hm f nm nl sub
      have e : m = [] := List.eq_nil_of_length_eq_zero hm
      subst e
      cases l with
      | nil => exact M.nil
      | cons x l => exact absurd (sub x List.mem_cons_self) (by simp)
    | succ n ih =>
      intro l m hm f nm nl sub
      by_cases c : ∀ x ∈ m, x ∈ l
      · have e : r l = r m := M.same fun x => ⟨sub x, c x⟩
        have h1 : l.length ≤ m.length := by
          have := M.len l
          rw [e, f] at this
          have a : ∀ (l m : List Int), l.Nodup → (∀ x ∈ l, x ∈ m) → l.length ≤ m.length := by
            intro l
            induction l with
            | nil => intro m _ _; exact Nat.zero_le _
            | cons x l ih2 =>
              intro m nd s
              obtain ⟨n1, n2⟩ := List.nodup_cons.mp nd
              have q := ih2 (m.erase x) n2 fun y hy => by
                have ne : y ≠ x := fun e => n1 (by rw [← e]; exact hy)
                exact (List.mem_erase_of_ne ne).mpr (s y (List.mem_cons_of_mem _ hy))
              rw [List.length_erase_of_mem (s x List.mem_cons_self)] at q
              have := List.length_pos_of_mem (s x List.mem_cons_self)
              show l.length + 1 ≤ m.length
              omega
          exact a l m nl sub
        have := M.len l
        show r l = l.length
        rw [e, f] at this ⊢
        omega
      · have ⟨x, hx⟩ : ∃ x, x ∈ m ∧ x ∉ l := Classical.byContradiction fun z => c fun x hx => Classical.byContradiction fun q => z ⟨x, hx, q⟩
        have wl := wo_len nm hx.1
        refine ih l (wo m x) (by omega) ?_ (wo_nodup nm) nl fun y hy => mem_wo.mpr ⟨sub y hy, fun e => hx.2 (by rw [← e]; exact hy)⟩
        have h1 := M.hi (wo m x) x
        rw [M.back hx.1, f] at h1
        have := M.len (wo m x)
        show r (wo m x) = (wo m x).length
        omega
  exact this m.length l m rfl
/-- no thing of it is carried by its others -/
theorem Mtd.free_of (M : Mtd r) : ∀ {l : List Int}, l.Nodup → (∀ x ∈ l, r (x :: wo l x) ≠ r (wo l x)) → Free r l := by
  intro l nd h
  have : ∀ (d e : List Int), (d ++ e).Nodup → (∀ x ∈ d ++ e, r (x :: wo (d ++ e) x) ≠ r (wo (d ++ e) x)) → r e = e.length → r (d ++ e) = (d ++ e).length := by
    intro d
    induction d with
    | nil => intro e _ _ h; exact h
    | cons x d ih =>
      intro e nd h he
      have pm : (d ++ x :: e).Perm (x :: d ++ e) := List.perm_middle
      have q := ih (x :: e) (pm.nodup_iff.mpr nd) (fun y hy => by
        have z := h y (pm.mem_iff.mp hy)
        have e1 : r (y :: wo (d ++ x :: e) y) = r (y :: wo (x :: d ++ e) y) := M.same fun w => by rw [List.mem_cons, List.mem_cons, mem_wo, mem_wo, pm.mem_iff]
        have e2 : r (wo (d ++ x :: e) y) = r (wo (x :: d ++ e) y) := M.same fun w => by rw [mem_wo, mem_wo, pm.mem_iff]
        rw [e1, e2]
        exact z) ?_
      · rw [M.same fun w => pm.mem_iff] at q
        rw [q, pm.length_eq]
      · -- x makes e worth more: else the others would carry it
        rcases M.step e x with z | z
        · have nx : x ∉ d ++ e := (List.nodup_cons.mp nd).1
          have sub : ∀ y ∈ e, y ∈ wo (x :: d ++ e) x := fun y hy => mem_wo.mpr ⟨List.mem_append_right _ hy, fun w => nx (by rw [← w]; exact List.mem_append_right _ hy)⟩
          exact absurd (M.up sub z) (h x List.mem_cons_self)
        · rw [z, he]
          rfl
  have q := this l [] (by rw [List.append_nil]; exact nd) (by rw [List.append_nil]; exact h) M.nil
  rw [List.append_nil] at q
  exact q
/-- not free, and free without any one -/
structure Ring (r : List Int → Nat) (l : List Int) : Prop where
  not : r l ≠ l.length
  all : ∀ x ∈ l, r (wo l x) = (wo l x).length
/-- what is left where none can be spared, and the thing -/
theorem Mtd.ring_of (M : Mtd r) {l : List Int} {x : Int} (nd : l.Nodup) (hx : x ∉ l) (c : r (x :: l) = r l) (least : ∀ y ∈ l, r (x :: wo l y) ≠ r (wo l y)) {zs : List Int} (nz : zs.Nodup) (mz : ∀ z, z ∈ zs ↔ z ∈ l ∨ z = x) : Ring r zs := by
  have fl : Free r l := M.free_of nd fun y hy e => by
    refine least y hy ?_
    have h1 : r (x :: wo l y) ≤ r (x :: l) := M.le fun w hw => (List.mem_cons.mp hw).elim (fun z => by rw [z]; exact List.mem_cons_self) fun z => List.mem_cons_of_mem _ (mem_wo.mp z).1
    have h2 := M.lo (wo l y) x
    rw [M.back hy] at e
    omega
  have zl : zs.length = l.length + 1 := by
    have p : zs.Perm (x :: l) := (List.perm_ext_iff_of_nodup nz (List.nodup_cons.mpr ⟨hx, nd⟩)).mpr fun z => by rw [mz, List.mem_cons]; exact Or.comm
    exact p.length_eq
  have rz : r zs = r (x :: l) := M.same fun z => by rw [mz, List.mem_cons]; exact Or.comm
  refine ⟨?_, fun y hy => ?_⟩
  · rw [rz, c, zl]
    have := M.len l
    omega
  · have wl := wo_len nz hy
    by_cases e : y = x
    · have q : r (wo zs y) = r l := M.same fun z => by
        rw [mem_wo, mz, e]
        constructor
        · rintro ⟨a | a, b⟩
          · exact a
          · exact absurd a b
        · exact fun a => ⟨.inl a, fun w => hx (by rw [← w]; exact a)⟩
      rw [q, fl]
      omega
    · have yl : y ∈ l := ((mz y).mp hy).elim id fun z => absurd z e
      have q : r (wo zs y) = r (x :: wo l y) := M.same fun z => by
        rw [mem_wo, mz, List.mem_cons, mem_wo]
        constructor
        · rintro ⟨a | a, b⟩
          · exact .inr ⟨a, b⟩
          · exact .inl a
        · rintro (a | a)
          · exact ⟨.inr a, by rw [a]; exact fun w => e w.symm⟩
          · exact ⟨.inl a.1, a.2⟩
      have h1 := least y yl
      have h2 := M.step (wo l y) x
      have f2 : Free r (wo l y) := M.freeSub fl nd (wo_nodup nd) fun z hz => (mem_wo.mp hz).1
      have w2 := wo_len nd yl
      rw [q]
      unfold Free at f2
      omega
/-- each thing of a ring is carried by its others -/
theorem Ring.carried {l : List Int} (M : Mtd r) (R : Ring r l) (nd : l.Nodup) {x : Int} (hx : x ∈ l) : r (x :: wo l x) = r (wo l x) := by
  have h1 := R.all x hx
  have h2 := wo_len nd hx
  have h3 := M.step (wo l x) x
  have h4 := M.len l
  have h5 := R.not
  rw [M.back hx] at h3 ⊢
  omega
/-- among a free heap's things and a thing more: the ring's others are just those that can't be spared -/
theorem Mtd.ring_is (M : Mtd r) {f D : List Int} {z : Int} (nf : f.Nodup) (ff : Free r f) (zf : z ∉ f) (nD : D.Nodup) (sub : ∀ x ∈ D, x ∈ f ∨ x = z) (R : Ring r D) :
    z ∈ D ∧ ∀ o, o ∈ D ↔ o = z ∨ (o ∈ f ∧ r (z :: wo f o) ≠ r (wo f o)) := by
  have zD : z ∈ D := Classical.byContradiction fun q => R.not (M.freeSub ff nf nD fun x hx => (sub x hx).elim id fun e => absurd (by rw [← e]; exact hx) q)
  refine ⟨zD, fun o => ⟨fun ho => ?_, fun h => ?_⟩⟩
  · by_cases e : o = z
    · exact .inl e
    · have of : o ∈ f := (sub o ho).elim id fun q => absurd q e
      refine .inr ⟨of, fun q => ?_⟩
      have c := R.carried M nD ho
      have s : ∀ y ∈ wo D o, y ∈ z :: wo f o := fun y hy => by
        obtain ⟨h1, h2⟩ := mem_wo.mp hy
        rcases sub y h1 with h | h
        · exact List.mem_cons_of_mem _ (mem_wo.mpr ⟨h, h2⟩)
        · rw [h]; exact List.mem_cons_self
      have u := M.up s c
      have ge : r f ≤ r (o :: z :: wo f o) := M.le fun y hy => by
        by_cases w : y = o
        · rw [w]; exact List.mem_cons_self
        · exact List.mem_cons_of_mem _ (List.mem_cons_of_mem _ (mem_wo.mpr ⟨hy, w⟩))
      have l1 := M.len (wo f o)
      have l2 := wo_len nf of
      unfold Free at ff
      omega
  · rcases h with h | ⟨of, h⟩
    · rw [h]; exact zD
    · refine Classical.byContradiction fun q => h ?_
      have c := R.carried M nD zD
      refine M.up (fun y hy => ?_) c
      obtain ⟨h1, h2⟩ := mem_wo.mp hy
      rcases sub y h1 with w | w
      · exact mem_wo.mpr ⟨w, fun e => q (by rw [← e]; exact h1)⟩
      · exact absurd w h2
end Rk

/-! All heaps of some things. -/
namespace Rk
def subs (l : List Int) : List (List Int) := l.foldl (fun acc x => acc ++ acc.map (· ++ [x])) [[]]
theorem subs_nil : subs [] = [[]] := rfl
theorem subs_snoc (l : List Int) (x : Int) : subs (l ++ [x]) = subs l ++ (subs l).map (· ++ [x]) := by
  unfold subs
  rw [List.foldl_append]
  rfl
theorem rev_ind {P : List Int → Prop} (h0 : P []) (h1 : ∀ l x, P l → P (l ++ [x])) (l : List Int) : P l := by
  have : ∀ r : List Int, P r.reverse := by
    intro r
    induction r with
    | nil => exact h0
    | cons x r ih =>
      rw [List.reverse_cons]
      exact h1 _ x ih
  have q := this l.reverse
  rw [List.reverse_reverse] at q
  exact q
theorem subs_len (l : List Int) : (subs l).length = 2 ^ l.length := by
  induction l using rev_ind with
  | h0 => rfl
  | h1 l x ih => rw [subs_snoc, List.length_append, List.length_map, ih, List.length_append]; show _ = 2 ^ (l.length + 1); omega
theorem subs_sub {l s : List Int} (h : s ∈ subs l) : s.Sublist l := by
  induction l using rev_ind generalizing s with
  | h0 => rw [subs_nil, List.mem_singleton] at h; rw [h]; exact List.Sublist.refl _
  | h1 l x ih =>
    rw [subs_snoc] at h
    rcases List.mem_append.mp h with z | z
    · exact (ih z).trans (List.sublist_append_left l [x])
    · obtain ⟨t, ht, rfl⟩ := List.mem_map.mp z
      exact (ih ht).append (List.Sublist.refl [x])
theorem subs_filter (l : List Int) (p : Int → Bool) : l.filter p ∈ subs l := by
  induction l using rev_ind with
  | h0 => exact List.mem_singleton.mpr rfl
  | h1 l x ih =>
    rw [subs_snoc, List.filter_append]
    cases c : p x with
    | true =>
      have e : [x].filter p = [x] := by simp [c]
      rw [e]
      exact List.mem_append_right _ (List.mem_map.mpr ⟨_, ih, rfl⟩)
    | false =>
      have e : [x].filter p = [] := by simp [c]
      rw [e, List.append_nil]
      exact List.mem_append_left _ ih
theorem subs_nodup {l : List Int} (h : l.Nodup) : (subs l).Nodup := by
  induction l using rev_ind with
  | h0 => simp [subs_nil]
  | h1 l x ih =>
    obtain ⟨n1, n2, n3⟩ := List.nodup_append.mp h
    have nd := ih n1
    rw [subs_snoc]
    refine List.nodup_append.mpr ⟨nd, ?_, fun a ha b hb e => ?_⟩
    · rw [List.Nodup, List.pairwise_map]
      exact nd.imp fun {a b} ne e => ne (List.append_cancel_right e)
    · obtain ⟨t, _, rfl⟩ := List.mem_map.mp hb
      have xa : x ∈ a := by
        rw [e]
        exact List.mem_append_right _ (List.mem_singleton.mpr rfl)
      exact n3 x ((subs_sub ha).subset xa) x (List.mem_singleton.mpr rfl) rfl
/-- of a list without two alike all of which are x: [x], if it is in -/
theorem only {α : Type} {l : List α} {x : α} (nd : l.Nodup) (h : ∀ y ∈ l, y = x) (hx : x ∈ l) : l = [x] := by
  cases l with
  | nil => exact (nomatch hx)
  | cons a l =>
    cases l with
    | nil => rw [h a List.mem_cons_self]
    | cons b l =>
      obtain ⟨n1, _⟩ := List.nodup_cons.mp nd
      have e : a = b := (h a List.mem_cons_self).trans (h b (List.mem_cons_of_mem _ List.mem_cons_self)).symm
      exact absurd (by rw [e]; exact List.mem_cons_self) n1
end Rk

/-! Rings by worths alone: a heap of which nothing can be missed, and none of fewer within it. -/
namespace Rk
variable {r : List Int → Nat}
/-- not empty, and whatever is left out, it is worth as much -/
def Bound (r : List Int → Nat) (l : List Int) : Prop := l ≠ [] ∧ ∀ x ∈ l, r (wo l x) = r l
theorem subs_mem {l s : List Int} (h : s.Sublist l) : s ∈ subs l := by
  induction l using rev_ind generalizing s with
  | h0 => rw [List.sublist_nil.mp h, subs_nil]; exact List.mem_cons_self
  | h1 l x ih =>
    rw [subs_snoc, List.mem_append]
    rcases List.sublist_append_iff.mp h with ⟨a, b, rfl, ha, hb⟩
    cases b with
    | nil => rw [List.append_nil]; exact .inl (ih ha)
    | cons y t =>
      have e : y :: t = [x] := by
        have hl : t.length + 1 ≤ 1 := hb.length_le
        have t0 : t = [] := List.length_eq_zero_iff.mp (by omega)
        subst t0
        have := hb.subset List.mem_cons_self
        rw [List.mem_singleton.mp this]
      rw [e]
      exact .inr (List.mem_map.mpr ⟨a, ih ha, rfl⟩)
theorem nd_len : ∀ {l s : List Int}, l.Nodup → s.Nodup → (∀ x ∈ l, x ∈ s) → l.length ≤ s.length
  | [], _, _, _, _ => Nat.zero_le _
  | x :: t, s, nl, ns, h => by
    have h1 := wo_len ns (h x List.mem_cons_self)
    have nx : x ∉ t := (List.nodup_cons.mp nl).1
    have h2 := nd_len (List.nodup_cons.mp nl).2 (wo_nodup (x := x) ns) fun z hz => mem_wo.mpr ⟨h z (List.mem_cons_of_mem _ hz), fun e => nx (e ▸ hz)⟩
    show t.length + 1 ≤ s.length
    omega
theorem wo_sub (l : List Int) (x : Int) : (wo l x).Sublist l := List.filter_sublist
theorem Ring.bound (M : Mtd r) {l : List Int} (nd : l.Nodup) (R : Ring r l) : Bound r l := by
  refine ⟨fun e => ?_, fun x hx => ?_⟩
  · subst e
    exact R.not M.nil
  · have h1 := R.carried M nd hx
    rw [← h1, M.back hx]
/-- what isn't free holds a ring -/
theorem Mtd.has_ring (M : Mtd r) : ∀ (n : Nat) {l : List Int}, l.length = n → l.Nodup → ¬ Free r l → ∃ s, s.Sublist l ∧ Ring r s := by
  intro n
  induction n using Nat.strongRecOn with
  | _ n ih =>
    intro l hl nd nf
    by_cases h : ∃ x ∈ l, ¬ Free r (wo l x)
    · obtain ⟨x, hx, nfx⟩ := h
      have h1 := wo_len nd hx
      obtain ⟨s, hs, R⟩ := ih (wo l x).length (by omega) rfl (wo_nodup nd) nfx
      exact ⟨s, hs.trans (wo_sub l x), R⟩
    · refine ⟨l, List.Sublist.refl _, ⟨nf, fun x hx => ?_⟩⟩
      exact Classical.byContradiction fun e => h ⟨x, hx, e⟩
theorem Bound.unfree (M : Mtd r) {l : List Int} (nd : l.Nodup) (b : Bound r l) : ¬ Free r l := by
  obtain ⟨ne, h⟩ := b
  match l, ne with
  | x :: t, _ =>
    intro f
    have h1 := h x List.mem_cons_self
    have h2 := M.len (wo (x :: t) x)
    have h3 := wo_len nd (List.mem_cons_self (a := x) (l := t))
    unfold Free at f
    omega
/-- the law's own look -/
theorem ring_iff (M : Mtd r) {l : List Int} (nd : l.Nodup) : Ring r l ↔ Bound r l ∧ ∀ s ∈ subs l, s.length < l.length → ¬ Bound r s := by
  constructor
  · intro R
    refine ⟨R.bound M nd, fun s hs hl b => ?_⟩
    have ss := subs_sub hs
    have ns : s.Nodup := ss.nodup nd
    -- some thing of l is not in s
    obtain ⟨x, hx, nx⟩ : ∃ x ∈ l, x ∉ s := by
      refine Classical.byContradiction fun e => ?_
      have h1 : ∀ x ∈ l, x ∈ s := fun x hx => Classical.byContradiction fun e' => e ⟨x, hx, e'⟩
      have h2 := nd_len nd ns h1
      omega
    have f1 : Free r (wo l x) := R.all x hx
    exact b.unfree M ns (M.freeSub f1 (wo_nodup nd) ns fun z hz => mem_wo.mpr ⟨ss.subset hz, fun e => nx (e ▸ hz)⟩)
  · rintro ⟨b, h⟩
    refine ⟨b.unfree M nd, fun x hx => Classical.byContradiction fun nf => ?_⟩
    obtain ⟨s, hs, R⟩ := M.has_ring _ rfl (wo_nodup nd) nf
    have s1 := hs.trans (wo_sub l x)
    have h1 := wo_len nd hx
    have h2 := hs.length_le
    exact h s (subs_mem s1) (by omega) (R.bound M (s1.nodup nd))
end Rk

/-! The most that can sit, by all parts of a heap: how many are out of the part, and the seats that it reaches. -/
namespace St
variable {N : Int → List Nat}
/-- no part tells less -/
theorem SW.part_le {l s : List Int} {k : Nat} {T : List Nat} (h : SW N l k) (nd : l.Nodup) (hs : s.Sublist l) (hT : ∀ x ∈ s, ∀ u ∈ N x, u ∈ T) : k + s.length ≤ l.length + T.length := by
  obtain ⟨⟨m, n1, n2, hm, rfl⟩, _⟩ := h
  have c := cut l fun x => decide (x ∈ s)
  have e1 : s.length ≤ (l.filter fun x => decide (x ∈ s)).length := Rk.nd_len (hs.nodup nd) (nd.filter _) fun x hx => List.mem_filter.mpr ⟨hs.subset hx, decide_eq_true hx⟩
  have d := dual (l := l) (m := m) (T := T) (C := l.filter fun x => !decide (x ∈ s)) n1 n2 hm fun x hx => by
    by_cases e : x ∈ s
    · exact .inr fun u hu => hT x e u hu
    · exact .inl (List.mem_filter.mpr ⟨hx, by simp [e]⟩)
  omega
/-- some part tells just this -/
theorem SW.part_ex {l : List Int} {k : Nat} (h : SW N l k) (nd : l.Nodup) : ∃ s : List Int, s.Sublist l ∧ ∀ T : List Nat, T.Nodup → (∀ u ∈ T, ∃ x ∈ s, u ∈ N x) → l.length + T.length ≤ k + s.length := by
  obtain ⟨_, T0, C, hc, q⟩ := h
  refine ⟨l.filter fun x => !decide (x ∈ C), List.filter_sublist, fun T nT hT => ?_⟩
  have c := cut l fun x => decide (x ∈ C)
  have e1 : (l.filter fun x => decide (x ∈ C)).length ≤ C.length := by
    have q := inj_le (S := l.filter fun x => decide (x ∈ C)) (U := C) (fun a b => a = b) (nd.filter _) (fun x hx => ⟨x, of_decide_eq_true (List.mem_filter.mp hx).2, rfl⟩) fun s _ t _ u a b => a.trans b.symm
    exact q
  have e2 : T.length ≤ T0.length := inj_le (S := T) (U := T0) (fun a b => a = b) nT (fun u hu => by
    obtain ⟨x, hx, hu'⟩ := hT u hu
    obtain ⟨h1, h2⟩ := List.mem_filter.mp hx
    have nC : x ∉ C := by simpa using h2
    exact ⟨u, (hc x h1).elim (fun z => absurd z nC) fun z => z u hu', rfl⟩) fun s _ t _ u a b => a.trans b.symm
  omega
end St

/-! Least heaps, exchanges. -/
namespace Rk
variable {r : List Int → Nat}
theorem Mtd.ring_ex (M : Mtd r) {x : Int} : ∀ (n : Nat) (l : List Int), l.length = n → l.Nodup → x ∉ l → r (x :: l) = r l → ∃ D : List Int, D.Nodup ∧ (∀ z ∈ D, z ∈ l ∨ z = x) ∧ Ring r D := by
  intro n
  induction n with
  | zero =>
    intro l el nl xl cl
    have e : l = [] := List.eq_nil_of_length_eq_zero el
    subst e
    exact ⟨[x], by simp, fun z hz => .inr (List.mem_singleton.mp hz), M.ring_of List.nodup_nil (by simp) cl (fun y hy => (nomatch hy)) (by simp) fun z => by simp⟩
  | succ n ih =>
    intro l el nl xl cl
    by_cases c : ∃ y ∈ l, r (x :: wo l y) = r (wo l y)
    · obtain ⟨y, hy, c⟩ := c
      have := wo_len nl hy
      obtain ⟨D, h1, h2, h3⟩ := ih (wo l y) (by omega) (wo_nodup nl) (fun z => xl (mem_wo.mp z).1) c
      exact ⟨D, h1, fun z hz => (h2 z hz).elim (fun w => .inl (mem_wo.mp w).1) .inr, h3⟩
    · refine ⟨x :: l, List.nodup_cons.mpr ⟨xl, nl⟩, fun z hz => (List.mem_cons.mp hz).elim .inr .inl, ?_⟩
      exact M.ring_of nl xl cl (fun y hy e => c ⟨y, hy, e⟩) (List.nodup_cons.mpr ⟨xl, nl⟩) fun z => by rw [List.mem_cons]; exact Or.comm
/-- worth its length, and as much as all (R) -/
structure Least (r : List Int → Nat) (R : Nat) (l : List Int) : Prop where
  free : r l = l.length
  full : l.length = R
/-- a free heap that carries all -/
theorem Mtd.least_of (M : Mtd r) {all l : List Int} (f : r l = l.length) (sub : ∀ x ∈ l, x ∈ all) (c : ∀ x ∈ all, r (x :: l) = r l) : Least r (r all) l := by
  have h := M.all (d := all) (l := l) c
  have e : r (all ++ l) = r all := M.same fun x => by
    rw [List.mem_append]
    exact ⟨fun z => z.elim id (sub x), .inl⟩
  exact ⟨f, by rw [← f, ← h, e]⟩
/-- a thing of a heap is exchanged for another one -/
def swap (l : List Int) (x y : Int) : List Int := wo l x ++ [y]
theorem swap_mem {l : List Int} {x y z : Int} : z ∈ swap l x y ↔ (z ∈ l ∧ z ≠ x) ∨ z = y := by
  unfold swap
  rw [List.mem_append, mem_wo, List.mem_singleton]
theorem swap_len {l : List Int} {x y : Int} (nd : l.Nodup) (hx : x ∈ l) : (swap l x y).length = l.length := by
  unfold swap
  rw [List.length_append]
  have := wo_len nd hx
  show (wo l x).length + 1 = _
  omega
theorem swap_nodup {l : List Int} {x y : Int} (nd : l.Nodup) (hy : y ∉ l) : (swap l x y).Nodup := by
  refine List.nodup_append.mpr ⟨wo_nodup nd, by simp, fun a ha b hb e => ?_⟩
  rw [List.mem_singleton.mp hb] at e
  rw [e] at ha
  exact hy (mem_wo.mp ha).1
theorem Mtd.swap_least (M : Mtd r) {R : Nat} {l : List Int} {x y : Int} (nd : l.Nodup) (L : Least r R l) (hx : x ∈ l) (c : r (y :: wo l x) ≠ r (wo l x)) : Least r R (swap l x y) := by
  have e : r (swap l x y) = r (y :: wo l x) := M.same fun z => by
    unfold swap
    rw [List.mem_append, List.mem_singleton, List.mem_cons]
    exact Or.comm
  have f : Free r (wo l x) := M.freeSub (show Free r l from L.free) nd (wo_nodup nd) fun z hz => (mem_wo.mp hz).1
  have h1 := M.step (wo l x) y
  have h2 := wo_len nd hx
  have h3 := swap_len (y := y) nd hx
  have h4 := L.full
  unfold Free at f
  refine ⟨?_, by omega⟩
  rw [e]
  omega
/-- of two least heaps and a thing of the one alone: some thing of the other alone -/
theorem Mtd.exchange (M : Mtd r) {all a b : List Int} {x : Int} (na : a.Nodup) (nb : b.Nodup) (sb : ∀ z ∈ b, z ∈ all) (xall : x ∈ all) (La : Least r (r all) a) (Lb : Least r (r all) b) (xa : x ∈ a) (xb : x ∉ b) :
    ∃ y, y ∈ b ∧ y ∉ a ∧ Least r (r all) (swap a x y) ∧ Least r (r all) (swap b y x) := by
  have cb : r (x :: b) = r b := by
    have h1 : r (x :: b) ≤ r all := M.le fun z hz => (List.mem_cons.mp hz).elim (fun w => by rw [w]; exact xall) (sb z)
    have h2 := M.lo b x
    have h3 := Lb.free
    have h4 := Lb.full
    omega
  obtain ⟨D, nD, sD, RD⟩ := M.ring_ex _ b rfl nb xb cb
  obtain ⟨xD, is⟩ := M.ring_is nb (show Free r b from Lb.free) xb nD sD RD
  have cD := RD.carried M nD xD
  have l1 := wo_len na xa
  have fa : Free r (wo a x) := M.freeSub (show Free r a from La.free) na (wo_nodup na) fun z hz => (mem_wo.mp hz).1
  unfold Free at fa
  have ⟨y, yD, yx, ya⟩ : ∃ y, y ∈ D ∧ y ≠ x ∧ r (y :: wo a x) ≠ r (wo a x) := Classical.byContradiction fun q => by
    have c1 : ∀ y ∈ wo D x, r (y :: wo a x) = r (wo a x) := fun y hy => Classical.byContradiction fun w => q ⟨y, (mem_wo.mp hy).1, (mem_wo.mp hy).2, w⟩
    have e1 := M.all (d := wo D x) (l := wo a x) c1
    have e2 := M.up (l := wo D x) (m := wo D x ++ wo a x) (x := x) (fun y hy => List.mem_append_left _ hy) cD
    have h1 : r (x :: wo a x) ≤ r (x :: (wo D x ++ wo a x)) := M.le fun z hz => (List.mem_cons.mp hz).elim (fun w => by rw [w]; exact List.mem_cons_self) fun w => List.mem_cons_of_mem _ (List.mem_append_right _ w)
    have h2 := La.free
    rw [M.back xa] at h1
    omega
  have yb : y ∈ b := (sD y yD).elim id fun w => absurd w yx
  have yna : y ∉ a := fun w => ya (M.mem (mem_wo.mpr ⟨w, yx⟩))
  rcases (is y).mp yD with w | ⟨_, w⟩
  · exact absurd w yx
  · exact ⟨y, yb, yna, M.swap_least na La xa ya, M.swap_least nb Lb yb w⟩
end Rk

namespace Nal
open PySem PySem.Spec PyProof.Rows L2
def top (i : Nat) : Stmt := PySem.Challenge.pw_noaslong_k22_whole_seats_by_the_least.main.body.getD i (.Pass ⟨0, 0, 0, 0⟩)
abbrev tp0 : Stmt := top 0
abbrev tp6 : Stmt := top 6
abbrev tp9 : Stmt := top 9
abbrev tp10 : Stmt := top 10
abbrev tp13 : Stmt := top 13
abbrev tp17 : Stmt := top 17
abbrev tp18 : Stmt := top 18
abbrev tp20 : Stmt := top 20
abbrev tp21 : Stmt := top 21
abbrev tp22 : Stmt := top 22
abbrev tp23 : Stmt := top 23
abbrev tp24 : Stmt := top 24
abbrev tp25 : Stmt := top 25
abbrev tp26 : Stmt := top 26
abbrev tp27 : Stmt := top 27
abbrev tp28 : Stmt := top 28
abbrev tp29 : Stmt := top 29
abbrev tp30 : Stmt := top 30
abbrev tp31 : Stmt := top 31
abbrev tc3_0 : Stmt := inClass (top 3) 0
abbrev tc12_0 : Stmt := inClass (top 12) 0
abbrev tc12_1 : Stmt := inClass (top 12) 1
abbrev tc12_2 : Stmt := inClass (top 12) 2
abbrev tc12_3 : Stmt := inClass (top 12) 3
abbrev tc12_4 : Stmt := inClass (top 12) 4
abbrev tc12_5 : Stmt := inClass (top 12) 5
abbrev tc12_6 : Stmt := inClass (top 12) 6
abbrev tc12_7 : Stmt := inClass (top 12) 7
abbrev tc16_0 : Stmt := inClass (top 16) 0
abbrev tc16_1 : Stmt := inClass (top 16) 1
abbrev tc16_2 : Stmt := inClass (top 16) 2
abbrev tc16_3 : Stmt := inClass (top 16) 3
abbrev tc16_4 : Stmt := inClass (top 16) 4
abbrev tc16_5 : Stmt := inClass (top 16) 5
abbrev tc16_6 : Stmt := inClass (top 16) 6
abbrev tc16_7 : Stmt := inClass (top 16) 7
abbrev tc16_8 : Stmt := inClass (top 16) 8
abbrev tc16_9 : Stmt := inClass (top 16) 9
/-- a pot of draws -/
def Pot (H : Hp) (p : Addr) : Prop := ∃ a b : Int, H p = some (.lst [.int a, .int b]) ∧ 0 ≤ a ∧ 0 ≤ b ∧ b < 2147483648
theorem Pot.at {H H' : Hp} {p q : Addr} (h : Pot H p) (k : ∀ o, H p = some o → H' p = some o) : Pot H' p := by
  obtain ⟨a, b, h, r⟩ := h
  exact ⟨a, b, k _ h, r⟩
theorem Pot.ne {H : Hp} {p q : Addr} (h : Pot H p) (n : H q = none) : q ≠ p := fun e => by
  obtain ⟨a, b, h, _⟩ := h
  rw [e, h] at n
  cases n
theorem Pot.new {H : Hp} {p q : Addr} {o : HO} (h : Pot H p) (n : H q = none) : Pot (upd H q o) p := by
  obtain ⟨a, b, h, r⟩ := h
  exact ⟨a, b, by rw [upd_ne (ne_of_none h n)]; exact h, r⟩
theorem Pot.off {H : Hp} {p q : Addr} {o : HO} (h : Pot H p) (n : q ≠ p) : Pot (upd H q o) p := by
  obtain ⟨a, b, h, r⟩ := h
  exact ⟨a, b, by rw [upd_ne n.symm]; exact h, r⟩
theorem divp_small {i j : Int} (h0 : 0 < j) (h1 : j < 10 ^ 31) : CDivP i j := by
  refine ⟨h0, ?_⟩
  have hj : j.natAbs < 2 ^ 120 := by
    have : j.natAbs < 10 ^ 31 := by omega
    exact Nat.lt_of_lt_of_le this (by decide)
  have hne : j.natAbs ≠ 0 := by omega
  have hl : j.natAbs.log2 < 120 := (Nat.log2_lt hne).mpr hj
  have hz : (j == 0) = false := by
    rw [beq_eq_false_iff_ne]
    omega
  have hd : (decide ((if (j == 0) = true then 0 else j.natAbs.log2 / 30 + 1) > 300)) = false := by
    rw [hz]
    refine decide_eq_false ?_
    show ¬ (j.natAbs.log2 / 30 + 1 > 300)
    omega
  show (decide ((if (j == 0) = true then 0 else j.natAbs.log2 / 30 + 1) > 300) && _) = false
  rw [hd, Bool.false_and]
theorem fmod_in (x : Int) {n : Int} (h : 0 < n) : 0 ≤ x.fmod n ∧ x.fmod n < n := by
  rw [Int.fmod_eq_emod_of_nonneg x (Int.le_of_lt h)]
  exact ⟨Int.emod_nonneg _ (by omega), Int.emod_lt_of_pos _ h⟩
theorem max0 (x : Int) : 0 ≤ (if x > 0 then x else 0) := by
  split <;> omega
section
variable {P : Program} {w : World} {K : PySem.W.Frag} {mg : Str → Option Value} {base : Heap}
/-- a draw: some number below n -/
def spTake : Sp := fun vs H Q _ => ∃ (p : Addr) (n : Int), vs = [.ref p, .int n] ∧ 0 < n ∧ n < 10 ^ 31 ∧ Pot H p ∧
  ∀ (d : Int) (H' : Hp), 0 ≤ d → d < n → Keep p H H' → Pot H' p → Q (.int d) H'
theorem scTake : FnScope ["_law_pot_here", "_law_many", "_law_digit"] ["_law_pot_here", "_law_many"] (defScope tp21) := ⟨rfl, rfl, rfl, by decide +kernel, rfl, by decide +kernel, by decide +kernel⟩
theorem kn_take (h : At K mg "_law_take" tp21) (B : Bl mg) : Kn P w K mg base 1 "_law_take" ["_law_pot_here", "_law_many"] spTake := by
  refine kn_of h scTake (fun _ _ _ _ _ _ us hl => match us, hl with | [_, _], _ => rfl) (fun vs H Q E h => ?_) (fun f cdv A outer s H vs Q E hr h => ?_)
  · obtain ⟨p, n, rfl, _⟩ := h
    rfl
  · obtain ⟨p, n, rfl, n0, n1, ⟨a, b, hp, a0, b0, b1⟩, q⟩ := h
    refine ⟨_, (pss_cons (ps_if (pt_cmpR op_gt (pe_ix (kix_list K) (pv 0) pe_int (fun _ _ => rfl)) pe_int (nomark _)) (pss_cons (ps_asg (pe_callB call_divmodW (by rfl) B.divmod (by decide +kernel) (pa_cons (pe_ix (kix_list K) (pv 0) pe_int (fun _ _ => rfl)) (pa_cons (pv 1) pa_nil))) (kpg_tup (n := 2) K (by rfl) (pgs_cons (pg_sub (pv 0) pe_int set_list) (pgs_cons (pg_name (i := 2) scTake.nd rfl (Or.inl rfl)) pgs_nil))))
      (pss_one (ps_ret (pv 2)))) pss_nil)
      (pss_cons (ps_asg (pe_op op_modN (pe_op op_add (pe_op op_mul (pe_ix (kix_list K) (pv 0) pe_int (fun _ _ => rfl)) pe_int) pe_int) pe_int) (pg_sub (pv 0) pe_int set_list))
      (pss_one (ps_ret (pe_op op_modN (pe_op op_fdivN (pe_op op_modN (pe_op op_mul (pe_ix (kix_list K) (pv 0) pe_int (fun _ _ => rfl)) (pe_ix (kix_list K) (pv 0) pe_int (fun _ _ => rfl))) pe_int) pe_int) (pv 1)))))), ?_⟩
    refine ⟨.ref p, rfl, p, _, 0, _, rfl, rfl, SqL.of hp, atI_nat (j := 0) rfl, _, _, rfl, rfl, _, rfl, ite2 (fun c => ?_) (fun c => ?_)⟩
    · refine ⟨.ref p, rfl, p, _, 0, _, rfl, rfl, SqL.of hp, atI_nat (j := 0) rfl, .int n, rfl, a, n, rfl, divp_small n0 n1, fun t nt => ?_⟩
      have tp : p ≠ t := ne_of_none hp nt
      refine ⟨t, _, rfl, .inl (.inl upd_same), rfl, _, _, rfl, .ref p, rfl, p, _, 0, 0, rfl, rfl, (upd_ne tp).trans hp, rfl, _, _, rfl, rfl, ?_⟩
      refine ⟨_, rfl, ?_⟩
      refine q (a % n) _ (Int.emod_nonneg _ (by omega)) (Int.emod_lt_of_pos _ n0) (fun x o nx e => ?_) ⟨a / n, b, upd_same, Int.ediv_nonneg a0 (by omega), b0, b1⟩
      rw [upd_ne nx, upd_ne (ne_of_none e nt)]
      exact e
    · refine ⟨.ref p, rfl, p, _, 1, _, rfl, rfl, SqL.of hp, atI_nat (j := 1) rfl, b, 48271, rfl, rfl, .inr ⟨by decide, by decide⟩, _, _, rfl, rfl, _, _, rfl, rfl,
        (by decide : (2147483587 : Int) ≠ 0), .ref p, rfl, p, _, 1, 1, rfl, rfl, hp, rfl, ?_⟩
      have hb := fmod_in (b * 48271 + 10007) (n := 2147483587) (by decide)
      refine ⟨.ref p, rfl, p, _, 1, _, rfl, rfl, SqL.of upd_same, atI_nat (j := 1) rfl, .ref p, rfl, p, _, 1, _, rfl, rfl, SqL.of upd_same, atI_nat (j := 1) rfl, _, _, rfl, rfl,
        .inl ⟨by omega, by omega⟩, _, _, rfl, rfl, (by decide : (2147483563 : Int) ≠ 0), _, _, rfl, rfl, ⟨by decide, by decide⟩, .int n, rfl, _, _, rfl, rfl, (by omega : n ≠ 0), ?_⟩
      have hd := fmod_in ((((b * 48271 + 10007).fmod 2147483587 * (b * 48271 + 10007).fmod 2147483587).fmod 2147483563).fdiv 3) n0
      exact q _ _ hd.1 hd.2 Keep.upd ⟨a, _, upd_same, a0, hb.1, by omega⟩
/-- the pot of a cell -/
def spPot (K : PySem.W.Frag) : Sp := fun vs H Q _ => ∃ (a : Addr) (ns : List Int) (k : Nat), vs = [.ref a, .int k] ∧ k ≤ 64 ∧ SqL K H a (ns.map V.int) ∧
  ∀ (p : Addr) (H' : Hp), H p = none → Same H H' → Pot H' p → Q (.ref p) H'
theorem scPot : FnScope ["_law_script", "_law_k", "_law_cell"] ["_law_script", "_law_k"] (defScope tp20) := ⟨rfl, rfl, rfl, by decide +kernel, rfl, by decide +kernel, by decide +kernel⟩
theorem pot_pow {c : Int} (k : Nat) (hk : k ≤ 64) : (c.fmod 2147483549 + 97 * k + 1).natAbs < 2 ^ 64 ∧ 0 ≤ ((c.fmod 2147483549 + 97 * k + 1) ^ (2 : Int).toNat).fmod 2147483543 + 1 ∧ ((c.fmod 2147483549 + 97 * k + 1) ^ (2 : Int).toNat).fmod 2147483543 + 1 < 2147483648 := by
  have h1 := fmod_in c (n := 2147483549) (by decide)
  have h2 := fmod_in ((c.fmod 2147483549 + 97 * k + 1) ^ (2 : Int).toNat) (n := 2147483543) (by decide)
  have e : (2 : Nat) ^ 64 = 18446744073709551616 := by decide
  refine ⟨by rw [e]; omega, by omega, by omega⟩
theorem kn_pot (h : At K mg "_law_pot" tp20) (B : Bl mg) : Kn P w K mg base 1 "_law_pot" ["_law_script", "_law_k"] (spPot K) := by
  refine kn_of h scPot (fun _ _ _ _ _ _ us hl => match us, hl with | [_, _], _ => rfl) (fun vs H Q E h => ?_) (fun f cdv A outer s H vs Q E hr h => ?_)
  · obtain ⟨a, ns, k, rfl, _⟩ := h
    rfl
  · obtain ⟨a, ns, k, rfl, hk, hS, q⟩ := h
    refine ⟨_, (pss_cons (ps_set (i := 2) scPot.nd rfl (Or.inl rfl) pe_int)
      (pss_cons (ps_if (pt_cmpR op_lt (pv 1) (pe_callB (kcall_len K) (by rfl) B.len (by decide +kernel) (pa_cons (pv 0) pa_nil)) (nomark _)) (pss_one (ps_set (i := 2) scPot.nd rfl (Or.inl rfl) (pe_callB call_abs (by rfl) B.abs (by decide +kernel) (pa_cons (pe_ix (kix_list K) (pv 0) (pv 1) (fun _ _ => rfl)) pa_nil)))) pss_nil)
      (pss_one (ps_ret (pe_lst (pa_cons (pe_callB (call_max2 rfl) (by rfl) B.max (by decide +kernel) (pa_cons pe_int (pa_cons (pe_op op_sub (pv 2) (pe_op op_pow pe_int pe_int)) pa_nil))) (pa_cons (pe_op op_add (pe_op op_modN (pe_op op_pow (pe_op op_add (pe_op op_add (pe_op op_modN (pv 2) pe_int) (pe_op op_mul pe_int (pv 1))) pe_int) pe_int) pe_int) pe_int) pa_nil))))))), ?_⟩
    refine ⟨.int k, rfl, .ref a, rfl, a, _, rfl, .inl hS, _, _, rfl, rfl, _, rfl, ite2 (fun c => ?_) (fun c => ?_)⟩
    · have hlt : k < ns.length := by
        have c1 : (k : Int) < ((ns.map V.int).length : Int) := of_decide_eq_true c
        rw [List.length_map] at c1
        omega
      have hat : (ns.map V.int)[k]? = some (.int ns[k]) := by
        rw [List.getElem?_map, List.getElem?_eq_getElem hlt]
        rfl
      refine ⟨.ref a, rfl, .int k, rfl, a, _, k, _, rfl, rfl, hS, atI_nat hat, _, rfl, ?_⟩
      generalize (if ns[k] < 0 then -ns[k] else ns[k]) = c'
      have pw := pot_pow (c := c') k hk
      refine ⟨.int c', rfl, 10, 18, rfl, rfl, ⟨by decide, by decide, by decide⟩, c', _, rfl, rfl, 0, _, rfl, ?_⟩
      refine ⟨.int c', rfl, c', _, rfl, rfl, (by decide : (2147483549 : Int) ≠ 0), .int k, rfl, 97, k, rfl, rfl, .inl ⟨by decide, by decide⟩, _, _, rfl, rfl, _, _, rfl, rfl, _, 2, rfl, rfl, ⟨by decide, by decide, pw.1⟩,
        _, _, rfl, rfl, (by decide : (2147483543 : Int) ≠ 0), _, _, rfl, rfl, (by show 2 ≤ sizeLine; decide), fun p np => ?_⟩
      refine q p _ np (same_new np) ⟨_, _, upd_same, ?_, pw.2.1, pw.2.2⟩
      exact max0 _
    · let c' : Int := 0
      have pw := pot_pow (c := c') k hk
      refine ⟨.int c', rfl, 10, 18, rfl, rfl, ⟨by decide, by decide, by decide⟩, c', _, rfl, rfl, 0, _, rfl, ?_⟩
      refine ⟨.int c', rfl, c', _, rfl, rfl, (by decide : (2147483549 : Int) ≠ 0), .int k, rfl, 97, k, rfl, rfl, .inl ⟨by decide, by decide⟩, _, _, rfl, rfl, _, _, rfl, rfl, _, 2, rfl, rfl, ⟨by decide, by decide, pw.1⟩,
        _, _, rfl, rfl, (by decide : (2147483543 : Int) ≠ 0), _, _, rfl, rfl, (by show 2 ≤ sizeLine; decide), fun p np => ?_⟩
      refine q p _ np (same_new np) ⟨_, _, upd_same, ?_, pw.2.1, pw.2.2⟩
      exact max0 _
end
end Nal

namespace Nal
open PySem PySem.Spec PyProof.Rows L2
theorem at_in {α : Type} {xs : List α} {d : Int} (h0 : 0 ≤ d) (h1 : d < (xs.length : Int)) : ∃ x, atI xs d = some x ∧ x ∈ xs := by
  obtain ⟨n, rfl⟩ := Int.eq_ofNat_of_zero_le h0
  have hl : n < xs.length := by omega
  exact ⟨xs[n], atI_nat (List.getElem?_eq_getElem hl), List.getElem_mem hl⟩
theorem erase_perm {α : Type} : ∀ (l : List α) (i : Nat) (h : i < l.length), (l[i] :: l.eraseIdx i).Perm l
  | _ :: r, 0, _ => List.Perm.refl _
  | a :: r, i + 1, h => (List.Perm.swap a (r[i]'(Nat.lt_of_succ_lt_succ h)) (r.eraseIdx i)).trans (List.Perm.cons a (erase_perm r i (Nat.lt_of_succ_lt_succ h)))
/-- a heap of m things -/
def IsHp (m : Int) (ns : List Int) : Prop := ns.Nodup ∧ ∀ z ∈ ns, 0 ≤ z ∧ z < m
section
variable {P : Program} {w : World} {K : PySem.W.Frag} {mg : Str → Option Value} {base : Heap}
def spShuffled (K : PySem.W.Frag) : Sp := fun vs H Q _ => ∃ (p l : Addr) (xs : List V), vs = [.ref p, .ref l] ∧ l ≠ p ∧ SqL K H l xs ∧ xs.length ≤ 1000 ∧ Pot H p ∧
  ∀ (ys : List V) (r : Addr) (H' : Hp), ys.Perm xs → H r = none → Keep p H H' → Pot H' p → H' r = some (.lst ys) → Q (.ref r) H'
theorem scShuffled : FnScope ["_law_pot_here", "_law_some", "_law_pool", "_law_found", "_law_k"] ["_law_pot_here", "_law_some"] (defScope tp22) := ⟨rfl, rfl, rfl, by decide +kernel, rfl, by decide +kernel, by decide +kernel⟩
theorem kn_shuffled (h : At K mg "_law_shuffled" tp22) (B : Bl mg) (kn__law_take : Kn P w K mg base 1 "_law_take" ["_law_pot_here", "_law_many"] spTake) :
    Kn P w K mg base 2 "_law_shuffled" ["_law_pot_here", "_law_some"] (spShuffled K) := by
  refine kn_of h scShuffled (fun _ _ _ _ _ _ us hl => match us, hl with | [_, _], _ => rfl) (fun vs H Q E h => ?_) (fun f cdv A outer s H vs Q E hr h => ?_)
  · obtain ⟨p, l, xs, rfl, _⟩ := h
    rfl
  · obtain ⟨p, l, xs, rfl, n, hS, l1, pt, q⟩ := h
    refine ⟨_, (pss_cons (ps_set (i := 2) scShuffled.nd rfl (Or.inl rfl) (pe_callTy (kcall_list K) (by rfl) B.t_list (by decide +kernel) (pa_cons (pv 1) pa_nil)))
      (pss_cons (ps_set (i := 3) scShuffled.nd rfl (Or.inl rfl) (pe_lst pa_nil))
      (pss_cons (ps_for PassesOwn.never rfl (pi_range1 (by rfl) B.range (pa_cons (pe_callB (kcall_len K) (by rfl) B.len (by decide +kernel) (pa_cons (pv 1) pa_nil)) pa_nil)) (pg_name (i := 4) scShuffled.nd rfl (Or.inl rfl))
        (pss_one (ps_expr (pe_bm PySem.F.plainAttrs_list PySem.F.slot_list_append PySem.F.type_list_append mt_append (pv 3) (pa_cons (pe_bm PySem.F.plainAttrs_list PySem.F.slot_list_pop PySem.F.type_list_pop mt_popAt (pv 2) (pa_cons (pe_kn kn__law_take hr (by decide) (by rfl) (pa_cons (pv 0) (pa_cons (pe_callB (kcall_len K) (by rfl) B.len (by decide +kernel) (pa_cons (pv 2) pa_nil)) pa_nil))) pa_nil)) pa_nil)))))
      (pss_one (ps_ret (pv 3)))))), ?_⟩
    refine ⟨.ref l, rfl, l, _, rfl, .inl hS, fun a na => ?_⟩
    refine ⟨Nat.zero_le _, fun b nb => ?_⟩
    obtain ⟨nba, nb0⟩ := new_ne nb
    have nab : a ≠ b := nba.symm
    have ap : a ≠ p := pt.ne na
    have bp : b ≠ p := pt.ne nb0
    have s2 : Same H (upd (upd H a (.lst xs)) b (.lst [])) := (same_new na).trans (same_new nb)
    refine ⟨.ref l, rfl, l, _, rfl, .inl (s2.seq hS), (xs.length : Int), rfl, by omega, by omega, ?_⟩
    refine for_range (n := xs.length) (fun i σ H' => ∃ (ys zs : List V) (v : Option V), σ = [some (.ref p), some (.ref l), some (.ref a), some (.ref b), v] ∧ (zs ++ ys).Perm xs ∧ zs.length = i ∧
      H' a = some (.lst ys) ∧ H' b = some (.lst zs) ∧ Keep p H H' ∧ Pot H' p) ?_ ?_ ?_
    · exact ⟨xs, [], none, rfl, List.Perm.refl _, rfl, by rw [upd_ne nab, upd_same], upd_same, Keep.same s2, (pt.new na).new nb⟩
    · rintro i σ H' hi ⟨ys, zs, v, rfl, pm, lz, ha, hb, kp, pt'⟩
      have ll := pm.length_eq
      rw [List.length_append] at ll
      have hy : 0 < ys.length := by omega
      refine ⟨.ref b, rfl, .inl ⟨rfl, _, SqL.of hb⟩, .ref a, rfl, .inl ⟨rfl, _, SqL.of ha⟩, .ref p, rfl, .ref a, rfl, a, _, rfl, .inl (SqL.of ha), p, _, rfl, by omega,
        Int.lt_of_le_of_lt (b := 1000) (by omega) (by decide), pt', fun d H2 d0 d1 k2 pt2 => ?_⟩
      have dl : d.toNat < ys.length := by omega
      have ix : ixN ys.length d = some d.toNat := by
        unfold ixN
        rw [if_pos d0, if_pos d1]
      have ha2 : H2 a = some (.lst ys) := k2 _ _ ap ha
      have hb2 : H2 b = some (.lst zs) := k2 _ _ bp hb
      refine ⟨a, ys, d, d.toNat, ys[d.toNat], rfl, rfl, ha2, by omega, by omega, (ixN_seq ix).1, List.getElem?_eq_getElem dl, ?_⟩
      refine ⟨b, zs, _, rfl, rfl, (upd_ne nab.symm).trans hb2, ?_, ?_⟩
      · rw [sizeLine_eq]
        omega
      · refine ⟨ys.eraseIdx d.toNat, zs ++ [ys[d.toNat]], _, rfl, ?_, ?_, ?_, upd_same, ?_, ?_⟩
        · refine List.Perm.trans ?_ pm
          rw [List.append_assoc]
          exact List.Perm.append_left _ (erase_perm ys d.toNat dl)
        · rw [List.length_append, lz]
          rfl
        · rw [upd_ne nab, upd_same]
        · intro c o nc e
          have nca : c ≠ a := ne_of_none e na
          have ncb : c ≠ b := ne_of_none e nb0
          rw [upd_ne ncb, upd_ne nca]
          exact k2 c o nc (kp c o nc e)
        · exact (pt2.off ap).off bp
    · rintro σ H' ⟨ys, zs, v, rfl, pm, lz, ha, hb, kp, pt'⟩
      have ll := pm.length_eq
      rw [List.length_append] at ll
      have ey : ys = [] := List.eq_nil_of_length_eq_zero (by omega)
      rw [ey, List.append_nil] at pm
      exact ⟨.ref b, rfl, q zs b H' pm nb0 kp pt' hb⟩
end
end Nal

namespace Nal
open PySem PySem.Spec PyProof.Rows L2
theorem cut_take {xs : List V} {d : Int} (h0 : 0 ≤ d) : cutV xs none (some d) = xs.take d.toNat := by
  obtain ⟨n, rfl⟩ := Int.eq_ofNat_of_zero_le h0
  unfold cutV
  rw [HT.sIx_none, HT.sIx_nat, List.drop_zero, Nat.sub_zero, Int.toNat_natCast]
  rcases Nat.le_total n xs.length with q | q
  · rw [Nat.min_eq_left q]
  · rw [Nat.min_eq_right q, List.take_of_length_le (Nat.le_refl _), List.take_of_length_le q]
/-- whole numbers, as values -/
abbrev nums (ns : List Int) : List V := ns.map V.int
theorem nums_inj {ns ms : List Int} (h : nums ns = nums ms) : ns = ms := List.map_inj_right (fun a b e => V.int.inj e) |>.mp h
theorem perm_nums : ∀ {ys : List V} {ns : List Int}, ys.Perm (nums ns) → ∃ ms : List Int, ys = nums ms ∧ ms.Perm ns := by
  intro ys ns h
  have a : ∀ y ∈ ys, ∃ i, y = V.int i := fun y hy => by
    obtain ⟨i, _, e⟩ := List.mem_map.mp (h.mem_iff.mp hy)
    exact ⟨i, e.symm⟩
  let f : V → Int := fun v => match v with | .int i => i | _ => 0
  have e1 : ys = nums (ys.map f) := by
    have : ∀ zs : List V, (∀ y ∈ zs, ∃ i, y = V.int i) → zs = nums (zs.map f) := by
      intro zs
      induction zs with
      | nil => intro _; rfl
      | cons z r ih =>
        intro hz
        obtain ⟨i, rfl⟩ := hz z List.mem_cons_self
        show _ = V.int (f (V.int i)) :: nums (r.map f)
        rw [← ih fun y hy => hz y (List.mem_cons_of_mem _ hy)]
    exact this ys a
  refine ⟨ys.map f, e1, ?_⟩
  have q := h.map f
  have e2 : (nums ns).map f = ns := by
    show (ns.map V.int).map f = ns
    rw [List.map_map]
    exact (List.map_congr_left fun i _ => rfl).trans (List.map_id ns)
  rw [e2] at q
  exact q
theorem rg_nums (n : Nat) : rgV 0 (n : Int) = nums ((List.range n).map fun i : Nat => (i : Int)) := by
  unfold rgV nums
  rw [List.map_map]
  have e : ((n : Int) - 0).toNat = n := by omega
  rw [e]
  exact List.map_congr_left fun i _ => by simp
theorem range_hp (n : Nat) : IsHp n ((List.range n).map fun i : Nat => (i : Int)) := by
  refine ⟨?_, fun z hz => ?_⟩
  · refine List.pairwise_map.mpr (List.nodup_range.imp fun {a b} h e => h ?_)
    omega
  · obtain ⟨i, hi, rfl⟩ := List.mem_map.mp hz
    have := List.mem_range.mp hi
    omega
theorem IsHp.perm {m : Int} {ns ms : List Int} (h : IsHp m ns) (p : ms.Perm ns) : IsHp m ms :=
  ⟨p.nodup_iff.mpr h.1, fun z hz => h.2 z (p.mem_iff.mp hz)⟩
theorem IsHp.take {m : Int} {ns : List Int} (h : IsHp m ns) (k : Nat) : IsHp m (ns.take k) :=
  ⟨h.1.sublist (List.take_sublist _ _), fun z hz => h.2 z (List.mem_of_mem_take hz)⟩
theorem IsHp.len {m : Nat} {ns : List Int} (h : IsHp m ns) : ns.length ≤ m := by
  have q : (ns.map Int.toNat).Nodup := by
    refine List.pairwise_map.mpr ?_
    have := h.1
    refine List.Pairwise.imp_of_mem (fun {a b} ha hb hab e => hab ?_) this
    have h1 := h.2 a ha
    have h2 := h.2 b hb
    omega
  have sub : ∀ x ∈ ns.map Int.toNat, x ∈ List.range m := fun x hx => by
    obtain ⟨z, hz, rfl⟩ := List.mem_map.mp hx
    have := h.2 z hz
    exact List.mem_range.mpr (by omega)
  have : ∀ (l : List Nat) (k : Nat), l.Nodup → (∀ x ∈ l, x < k) → l.length ≤ k := by
    intro l k
    induction k generalizing l with
    | zero =>
      intro _ hl
      cases l with
      | nil => exact Nat.le_refl _
      | cons a r => exact absurd (hl a List.mem_cons_self) (Nat.not_lt_zero _)
    | succ k ih =>
      intro nd hl
      have e1 : (l.erase k).length ≤ k := ih (l.erase k) (nd.sublist List.erase_sublist) fun x hx => by
        have h1 := hl x (List.mem_of_mem_erase hx)
        have h2 : x ≠ k := fun e => by
          subst e
          exact (List.Nodup.not_mem_erase nd) hx
        omega
      have e2 : l.length ≤ (l.erase k).length + 1 := by
        rw [List.length_erase]
        split <;> omega
      omega
  have r := this _ m q fun x hx => List.mem_range.mp (sub x hx)
  rw [List.length_map] at r
  exact r
end Nal

namespace Nal
open PySem PySem.Spec PyProof.Rows L2
section
variable {P : Program} {w : World} {K : PySem.W.Frag} {mg : Str → Option Value} {base : Heap}
def spWhole : Sp := fun vs H Q _ => ∃ n lo hi : Int, vs = [.int n, .int lo, .int hi] ∧ Q (.bl (decide (lo ≤ n ∧ n ≤ hi))) H
theorem scWhole : FnScope ["number", "least", "most"] ["number", "least", "most"] (defScope tp6) := ⟨rfl, rfl, rfl, by decide +kernel, rfl, by decide +kernel, by decide +kernel⟩
theorem kn_whole (h : At K mg "is_whole" tp6) (B : Bl mg) : Kn P w K mg base 1 "is_whole" ["number", "least", "most"] spWhole := by
  refine kn_of h scWhole (fun _ _ _ _ _ _ us hl => match us, hl with | [_, _, _], _ => rfl) (fun vs H Q E h => ?_) (fun f cdv A outer s H vs Q E hr h => ?_)
  · obtain ⟨n, lo, hi, rfl, _⟩ := h
    rfl
  · obtain ⟨n, lo, hi, rfl, q⟩ := h
    refine ⟨_, (pss_one (ps_ret (pe_and (pe_callB (kcall_isi K) (by rfl) B.isinstance (by decide +kernel) (pa_cons (pv 0) (pa_cons (pe_bltn (v := .ty "int") (by rfl) B.t_int (by decide +kernel) rfl) pa_nil))) (pe_and (pe_not (pe_callB (kcall_isi K) (by rfl) B.isinstance (by decide +kernel) (pa_cons (pv 0) (pa_cons (pe_bltn (v := .ty "bool") (by rfl) B.t_bool (by decide +kernel) rfl) pa_nil)))) (pe_one (pe_chain op_le op_le (pv 1) (pv 0) (pv 2))))))), ?_⟩
    refine ⟨.int n, rfl, _, _, _, _, true, rfl, .ty "int", .base (.int n), kit_ty (by decide +kernel), true, rfl, iteT ?_⟩
    refine ⟨.int n, rfl, _, _, _, _, false, rfl, .ty "bool", .base (.int n), kit_ty (by decide +kernel), false, rfl, _, rfl, iteT ?_⟩
    refine ⟨.int lo, rfl, .int n, rfl, lo, n, rfl, rfl, _, rfl, ite2 (fun c => ?_) (fun c => ?_)⟩
    · have c1 : lo ≤ n := of_decide_eq_true c
      refine ⟨.int hi, rfl, n, hi, rfl, rfl, ?_⟩
      have e : decide (lo ≤ n ∧ n ≤ hi) = decide (n ≤ hi) := by
        by_cases d : n ≤ hi
        · rw [decide_eq_true d, decide_eq_true ⟨c1, d⟩]
        · rw [decide_eq_false d, decide_eq_false fun z => d z.2]
      show Q (.bl (decide (n ≤ hi))) H
      rw [← e]
      exact q
    · have c1 : ¬ lo ≤ n := fun z => c (decide_eq_true z)
      have e : decide (lo ≤ n ∧ n ≤ hi) = false := decide_eq_false fun z => c1 z.1
      rw [e] at q
      exact q
/-- of a heap -/
def spIsHeap : Sp := fun vs H Q _ => ∃ (l : Addr) (ns : List Int) (m : Nat), vs = [.ref l, .int m] ∧ m ≤ 24 ∧ H l = some (.lst (nums ns)) ∧ IsHp m ns ∧
  ∀ H', Same H H' → Q (.bl true) H'
theorem scIsHeap : FnScope ["things", "many", "thing"] ["things", "many"] (defScope tp9) := ⟨rfl, rfl, rfl, by decide +kernel, rfl, by decide +kernel, by decide +kernel⟩
theorem rep_snoc {α : Type} (i : Nat) (a : α) : List.replicate i a ++ [a] = List.replicate (i + 1) a := by
  rw [List.replicate_succ']
theorem kn_is_heap (h : At K mg "is_heap" tp9) (B : Bl mg) {t24 : Tok} (gc_MOST_THINGS : mg "MOST_THINGS" = some (.int 24 t24))
    (kn_is_whole : Kn P w K mg base 1 "is_whole" ["number", "least", "most"] spWhole) : Kn P w K mg base 2 "is_heap" ["things", "many"] spIsHeap := by
  refine kn_of h scIsHeap (fun _ _ _ _ _ _ us hl => match us, hl with | [_, _], _ => rfl) (fun vs H Q E h => ?_) (fun f cdv A outer s H vs Q E hr h => ?_)
  · obtain ⟨l, ns, m, rfl, _⟩ := h
    rfl
  · obtain ⟨l, ns, m, rfl, m1, hl, hp, q⟩ := h
    refine ⟨_, (pss_cons (ps_if (PW.pt (pw_or (pt_not (pt_val (pe_callB (kcall_isi K) (by rfl) B.isinstance (by decide +kernel) (pa_cons (pv 0) (pa_cons (pe_bltn (v := .ty "list") (by rfl) B.t_list (by decide +kernel) rfl) pa_nil))))) (pw_or1 (pt_not (pt_val (pe_kn kn_is_whole hr (by decide) (by rfl) (pa_cons (pv 1) (pa_cons pe_int (pa_cons (pe_glob (v := .int 24) (by rfl) gc_MOST_THINGS ⟨_, rfl⟩) pa_nil))))))))) (pss_one (ps_ret pe_bl)) pss_nil)
      (pss_cons (ps_if (pt_not (pt_val (pe_callB (cr_all rfl) (by rfl) B.all (by decide +kernel) (pa_cons (pe_lc (own := [("thing", 2)]) (g := gName 2) (tt := tYes)  rfl scIsHeap.nd (pi_list (pv 0)) (blkOk_by (own := [("thing", 2)]) (N := ["things", "many", "thing"]) (sc := (defScope tp9)) (by decide +kernel)) (fun _ _ _ _ _ => pg_name (i := 2) scIsHeap.nd rfl (Or.inl rfl)) (fun _ _ _ _ _ => pts_nil) (fun _ _ _ _ _ => (pe_kn kn_is_whole hr (by decide) (by rfl) (pa_cons (pv 2) (pa_cons pe_int (pa_cons (pe_op op_sub (pv 1) pe_int) pa_nil)))))) pa_nil)))) (pss_one (ps_ret pe_bl)) pss_nil)
      (pss_one (ps_ret (pe_cmpR op_eq (RZ.pe_lenSetI (by rfl) B.len (by rfl) B.t_set (pv 0)) (pe_callB (kcall_len K) (by rfl) B.len (by decide +kernel) (pa_cons (pv 0) pa_nil)) (nomark _)))))), ?_⟩
    -- no list?
    refine ⟨.ref l, rfl, _, _, _, _, true, rfl, .ty "list", .base (.lst hl), kit_ty (by decide +kernel), true, rfl, iteF ?_⟩
    refine ⟨.int m, rfl, m, 0, 24, rfl, true, ?_, iteF ?_⟩
    · rw [decide_eq_true]
      omega
    -- all things?
    refine ⟨.ref l, rfl, l, rfl, ⟨_, SqL.of hl⟩, fun D hD => lc_list (K := K) (a := l) (xs := nums ns) (fun i H' => H' = upd H D (.lst (List.replicate i (V.bl true)))) rfl (fun i H' _ e => ?_) ?_ ?_⟩
    · rw [e]
      exact (same_new hD).seq (SqL.of hl)
    · rintro i y H' hi e
      subst e
      obtain ⟨z, hz, rfl⟩ := List.mem_map.mp (List.mem_of_getElem? hi)
      have hb := hp.2 z hz
      refine ⟨rfl, ?_⟩
      refine ⟨.int z, rfl, .int m, rfl, _, _, rfl, rfl, z, 0, (m : Int) - 1, rfl, _, upd_same, ?_, ?_⟩
      · rw [List.length_replicate]
        have := (List.getElem?_eq_some_iff.mp hi).1
        rw [List.length_map] at this
        have := hp.len
        rw [sizeLine_eq]
        omega
      · have e : decide (0 ≤ z ∧ z ≤ (m : Int) - 1) = true := decide_eq_true (by omega)
        rw [e, upd_upd, rep_snoc]
    · rintro H' e
      subst e
      have hL : ((nums ns).length) = ns.length := List.length_map _
      rw [hL]
      refine ⟨D, List.replicate ns.length true, rfl, ?_, ?_⟩
      · rw [List.map_replicate]
        exact SqL.of upd_same
      · have e : (List.replicate ns.length true).all id = true := by
          rw [List.all_eq_true]
          intro b hb
          exact List.eq_of_mem_replicate hb
        refine ⟨true, by rw [e], iteF ?_⟩
        have hl2 : SqL K (upd H D (.lst (List.replicate ns.length (V.bl true)))) l (nums ns) := (same_new hD).seq (SqL.of hl)
        refine ⟨.ref l, rfl, l, ns, rfl, hl2, hp.1, ?_, .ref l, rfl, l, _, rfl, .inl hl2, rfl, ?_⟩
        · have := hp.len
          omega
        · rw [hL, decide_eq_true rfl]
          exact q _ (same_new hD)
/-- the things of a heap, rising -/
def Rising (ns ms : List Int) : Prop := ms.Perm ns ∧ ms.Pairwise (· ≤ ·)
def spRising : Sp := fun vs H Q _ => ∃ (l : Addr) (ns : List Int) (m : Nat), vs = [.ref l, .int m] ∧ m ≤ 24 ∧ H l = some (.lst (nums ns)) ∧ IsHp m ns ∧
  ∀ (ms : List Int) (r : Addr) (H' : Hp), Rising ns ms → H r = none → Same H H' → H' r = some (.lst (nums ms)) → Q (.ref r) H'
theorem scRising : FnScope ["heap", "many"] ["heap", "many"] (defScope tp10) := ⟨rfl, rfl, rfl, by decide +kernel, rfl, by decide +kernel, by decide +kernel⟩
theorem kn_rising (h : At K mg "rising_heap" tp10) (B : Bl mg) (kn_is_heap : Kn P w K mg base 2 "is_heap" ["things", "many"] spIsHeap) :
    Kn P w K mg base 3 "rising_heap" ["heap", "many"] spRising := by
  refine kn_of h scRising (fun _ _ _ _ _ _ us hl => match us, hl with | [_, _], _ => rfl) (fun vs H Q E h => ?_) (fun f cdv A outer s H vs Q E hr h => ?_)
  · obtain ⟨l, ns, m, rfl, _⟩ := h
    rfl
  · obtain ⟨l, ns, m, rfl, m1, hl, hp, q⟩ := h
    refine ⟨_, (pss_cons (ps_if (pt_not (pt_val (pe_kn kn_is_heap hr (by decide) (by rfl) (pa_cons (pv 0) (pa_cons (pv 1) pa_nil))))) (pss_one ps_never) pss_nil)
      (pss_one (ps_ret (pe_callB cr_sorted (by rfl) B.sorted (by decide +kernel) (pa_cons (pv 0) pa_nil))))), ?_⟩
    refine ⟨.ref l, rfl, .int m, rfl, l, ns, m, rfl, m1, hl, hp, fun H1 s1 => ⟨true, rfl, iteF ?_⟩⟩
    refine ⟨.ref l, rfl, l, ns, rfl, s1.seq (SqL.of hl), ?_, fun ms r pm pw nr => ?_⟩
    · have := hp.len
      omega
    · exact q ms r _ ⟨pm, pw⟩ (s1.free nr) (s1.trans (same_new nr)) upd_same
end
end Nal

namespace Nal
open PySem PySem.Spec PyProof.Rows L2
/-- numbers that are not below 0, as values -/
abbrev nats (rs : List Nat) : List V := rs.map fun (n : Nat) => V.int (n : Int)
theorem nats_at {rs : List Nat} {i : Nat} {x : V} (h : (nats rs)[i]? = some x) : ∃ r, rs[i]? = some r ∧ x = V.int (r : Int) := by
  rw [List.getElem?_map] at h
  cases e : rs[i]? with
  | none => rw [e] at h; cases h
  | some r => rw [e] at h; exact ⟨r, rfl, (Option.some.inj h).symm⟩
theorem nums_at {ns : List Int} {i : Nat} {x : V} (h : (nums ns)[i]? = some x) : ∃ r, ns[i]? = some r ∧ x = V.int r := by
  rw [List.getElem?_map] at h
  cases e : ns[i]? with
  | none => rw [e] at h; cases h
  | some r => rw [e] at h; exact ⟨r, rfl, (Option.some.inj h).symm⟩
theorem take_snoc {α : Type} {l : List α} {i : Nat} {x : α} (h : l[i]? = some x) : l.take (i + 1) = l.take i ++ [x] := by
  rw [List.take_add_one, h]
  rfl
/-- what a heap's things are told as -/
def pick (xs : List V) (ms : List Int) : List V := ms.map fun z => xs.getD z.toNat .non
theorem pick_at {xs : List V} {z : Int} (h0 : 0 ≤ z) (h1 : z < (xs.length : Int)) : atI xs z = some (xs.getD z.toNat .non) := by
  obtain ⟨n, rfl⟩ := Int.eq_ofNat_of_zero_le h0
  have hl : n < xs.length := by omega
  rw [Int.toNat_natCast, List.getD_eq_getElem?_getD, List.getElem?_eq_getElem hl]
  exact atI_nat (List.getElem?_eq_getElem hl)
end Nal

namespace Nal
open PySem PySem.Spec PyProof.Rows L2 LamX NdefX
theorem scCheck : FnScope ["things", "is_thing", "number", "thing"] ["things", "is_thing"] (defScope tp13) := ⟨rfl, rfl, rfl, by decide +kernel, rfl, by decide +kernel, by decide +kernel⟩
/-- all things are things: nothing comes of it -/
def TTcheck : (V → Hp → VK → Prop) → V → Hp → VK → Prop := fun tl v H Q => ∃ (l : Addr) (xs : List V), v = .ref l ∧ H l = some (.lst xs) ∧ xs.length ≤ 24 ∧
  (∀ x ∈ xs, ∀ (H1 : Hp) (Q1 : VK), Same H H1 → (∀ H2, Same H1 H2 → Q1 (.bl true) H2) → tl x H1 Q1) ∧ ∀ H', Same H H' → Q .non H'
theorem gives_check {X : Cx} {g : Addr} {cdg : Value} {q : Str} {k : Nat} (B : Bl X.mg) {t24 : Tok} (gc_MOST_THINGS : X.mg "MOST_THINGS" = some (.int 24 t24)) :
    Gives2 X ["things", "is_thing", "number", "thing"] "check_things" (defScope tp13) g cdg (defBody tp13) "is_thing" q k TTcheck := by
  intro f c' s H Q tl v1 hr act hc ht
  obtain ⟨l, xs, rfl, hl, x1, ok, done⟩ := ht
  let K := X.K
  refine ⟨_, (pss_cons (ps_if (pt_not (pt_val (pe_callB (kcall_isi K) (by rfl) B.isinstance (by decide +kernel) (pa_cons (pv 0) (pa_cons (pe_bltn (v := .ty "list") (by rfl) B.t_list (by decide +kernel) rfl) pa_nil))))) (pss_one ps_never) pss_nil)
      (pss_cons (ps_if (pt_cmpR op_gt (pe_callB (kcall_len K) (by rfl) B.len (by decide +kernel) (pa_cons (pv 0) pa_nil)) (pe_glob (v := .int 24) (by rfl) gc_MOST_THINGS ⟨_, rfl⟩) (nomark _)) (pss_one ps_never) pss_nil)
      (pss_one (ps_for PassesOwn.never rfl (pi_enum (by rfl) B.enumerate (pa_cons (pv 0) pa_nil)) (kpg_tup (n := 2) K (by rfl) (pgs_cons (pg_name (i := 2) scCheck.nd rfl (Or.inl rfl)) (pgs_cons (pg_name (i := 3) scCheck.nd rfl (Or.inl rfl)) pgs_nil)))
        (pss_one (ps_if (pt_not (pt_val (act _ _ _ _ (pv 3) rfl))) (pss_one ps_never) pss_nil)))))), ?_⟩
  refine ⟨.ref l, rfl, _, _, _, _, true, rfl, .ty "list", .base (.lst hl), kit_ty (by decide +kernel), true, rfl, iteF ?_⟩
  refine ⟨.ref l, rfl, l, _, rfl, .inl (SqL.of hl), _, _, rfl, rfl, _, rfl, ite2 (fun c => ?_) (fun c => ?_)⟩
  · have c1 : (24 : Int) < (xs.length : Int) := of_decide_eq_true c
    omega
  · refine ⟨.ref l, rfl, l, xs, rfl, SqL.of hl, for_enumL (K := X.K) (a := l) (xs := xs) (fun i σ H' => ∃ v2 v3 : Option V, σ = [some (.ref l), some (.ref f), v2, v3] ∧ Same H H') ⟨none, none, rfl, Same.refl H⟩
      (fun i σ H' _ ⟨_, _, _, sm⟩ => sm.seq (SqL.of hl)) ?_ ?_⟩
    · rintro i x T σ H' hx ⟨v2, v3, rfl, sm⟩ nT
      have sT := sm.trans (same_new (o := .tup [.int (i : Nat), x]) nT)
      refine ⟨T, _, rfl, .inl (.inl upd_same), rfl, _, _, rfl, _, _, rfl, rfl, ?_⟩
      refine ⟨rfl, _, rfl, sT _ _ hc, ok x (List.mem_of_getElem? hx) _ _ sT fun H2 s2 => ⟨true, rfl, iteF ?_⟩⟩
      exact ⟨_, _, rfl, sT.trans s2⟩
    · rintro σ H' ⟨v2, v3, rfl, sm⟩
      exact done H' sm
end Nal

namespace Nal
open PySem PySem.Spec PyProof.Rows L2 LamX NdefX
abbrev upTo (n : Nat) : List Int := (List.range n).map fun i : Nat => (i : Int)
theorem tabs_ins {T : List (Addr × Str)} {H : Hp} {y C dx : Addr} {fs : List (Str × V)} {o : HO} (t : Tabs T H) (hy : H y = some (.ins C dx fs)) : Tabs T (upd H y o) := fun p hp => by
  obtain ⟨ps, a1, a2, a3⟩ := t p hp
  refine ⟨ps, by rw [upd_ne (ne_of a1 hy (by intro z; cases z))]; exact a1, a2, fun pos cv hcv => ?_⟩
  obtain ⟨c0, e1, e3⟩ := a3 pos cv hcv
  exact ⟨c0, e1, by rw [upd_ne (ne_of e3 hy (by intro z; unfold CodeO at z; cases z))]; exact e3⟩
theorem nats_nums (l : List Nat) : nats l = (l.map fun n : Nat => (n : Int)).map V.int := by
  unfold nats
  rw [List.map_map]
  rfl
end Nal

namespace Nal
open PySem PySem.Spec PyProof.Rows L2 LamX NdefX
/-! who sits, as a dict; what was tried, as a dict -/
abbrev encP (p : Nat × Int) : Key × V := (Sum.inl (p.1 : Int), V.int p.2)
def enc (m : St.Tb) : List (Key × V) := m.map encP
abbrev encQ (s : Nat) : Key × V := (Sum.inl (s : Int), V.bl true)
def encT (tr : List Nat) : List (Key × V) := tr.map encQ
theorem enc_val (s : Nat) : ∀ m : St.Tb, valV (enc m) (Sum.inl (s : Int)) = (St.look m s).map V.int
  | [] => rfl
  | p :: r => by
    have ih := enc_val s r
    show valV (encP p :: enc r) _ = _
    by_cases e : p.1 = s
    · rw [St.look_pos e, valV_pos (p := encP p) (by rw [← e])]
      rfl
    · rw [St.look_neg e, valV_neg (p := encP p) (fun z => e (by
        have := Sum.inl.inj z
        omega)), ih]
theorem encT_val (s : Nat) : ∀ tr : List Nat, valV (encT tr) (Sum.inl (s : Int)) = if s ∈ tr then some (V.bl true) else none
  | [] => rfl
  | u :: r => by
    have ih := encT_val s r
    show valV (encQ u :: encT r) _ = _
    by_cases e : u = s
    · subst e
      rw [valV_pos (p := encQ u) rfl, if_pos List.mem_cons_self]
    · rw [valV_neg (p := encQ u) (fun z => e (by
        have := Sum.inl.inj z
        omega)), ih]
      by_cases c : s ∈ r
      · rw [if_pos c, if_pos (List.mem_cons_of_mem _ c)]
      · rw [if_neg c, if_neg fun z => (List.mem_cons.mp z).elim (fun z => e z.symm) c]
theorem enc_put (m : St.Tb) (s : Nat) (t : Int) : putK (enc m) (Sum.inl (s : Int)) (V.int t) = enc (St.put m s t) := by
  unfold putK St.put
  rw [valV_any, enc_val, St.look_any, Option.isSome_map]
  by_cases c : (St.look m s).isSome = true
  · rw [if_pos c, if_pos c]
    unfold enc
    rw [List.map_map, List.map_map]
    refine List.map_congr_left fun p _ => ?_
    show (if Sum.inl (p.1 : Int) = (Sum.inl (s : Int) : Key) then _ else _) = encP (if p.1 = s then (p.1, t) else p)
    by_cases e : p.1 = s
    · rw [if_pos e, if_pos (by rw [e])]
    · rw [if_neg e, if_neg fun z => e (by
        have := Sum.inl.inj z
        omega)]
  · rw [if_neg c, if_neg c]
    unfold enc
    rw [List.map_append]
    rfl
theorem encT_put {tr : List Nat} {s : Nat} (h : s ∉ tr) : putK (encT tr) (Sum.inl (s : Int)) (V.bl true) = encT (tr ++ [s]) := by
  rw [putK_new _ (by rw [encT_val, if_neg h])]
  unfold encT
  rw [List.map_append]
  rfl
/-- seats of things, as values -/
def SeatAt (H : Hp) (x : V) (r : List Nat) : Prop := ∃ b, x = .ref b ∧ H b = some (.tup (nats r))
abbrev SeatsAt (H : Hp) : List V → List (List Nat) → Prop := Paired (SeatAt H)
section
variable {α β : Type} {R : α → β → Prop}
theorem pd_at : ∀ {xs : List α} {ts : List β} {i : Nat} {x : α}, Paired R xs ts → xs[i]? = some x → ∃ t, ts[i]? = some t ∧ R x t
  | _, _, _, _, .nil, e => by simp at e
  | _, _, 0, _, .cons r _, e => by
    simp at e
    subst e
    exact ⟨_, rfl, r⟩
  | _, _, i + 1, x, .cons _ q, e => by
    obtain ⟨t, h1, h2⟩ := pd_at (i := i) (x := x) q (by simpa using e)
    exact ⟨t, by simpa using h1, h2⟩
theorem pd_snoc : ∀ {xs : List α} {ts : List β} {x : α} {t : β}, Paired R xs ts → R x t → Paired R (xs ++ [x]) (ts ++ [t])
  | _, _, _, _, .nil, h => .cons h .nil
  | _, _, _, _, .cons r q, h => .cons r (pd_snoc q h)
theorem pd_mem {xs : List α} {ts : List β} {x : α} (h : Paired R xs ts) (hx : x ∈ xs) : ∃ t ∈ ts, R x t := by
  obtain ⟨i, hi⟩ := List.mem_iff_getElem?.mp hx
  obtain ⟨t, h1, h2⟩ := pd_at h hi
  exact ⟨t, List.mem_of_getElem? h1, h2⟩
end
theorem SeatsAt.more {H H' : Hp} {xs : List V} {ts : List (List Nat)} (h : SeatsAt H xs ts) (k : Tups H H') : SeatsAt H' xs ts := Paired.mapP h fun _ _ ⟨b, e, z⟩ => ⟨b, e, k _ _ z⟩
/-- the seats of a thing by its number -/
def seatsOf (rows : List (List Nat)) (z : Int) : List Nat := rows.getD z.toNat []
/-- all but the two stays -/
def Keep2 (p q : Addr) (H H' : Hp) : Prop := ∀ b o, b ≠ p → b ≠ q → H b = some o → H' b = some o
theorem Keep2.refl (p q : Addr) (H : Hp) : Keep2 p q H H := fun _ _ _ _ h => h
theorem Keep2.trans {p q : Addr} {H H1 H2 : Hp} (a : Keep2 p q H H1) (b : Keep2 p q H1 H2) : Keep2 p q H H2 := fun c o n m h => b c o n m (a c o n m h)
theorem Keep2.up {p q : Addr} {H : Hp} {o : HO} : Keep2 p q H (upd H p o) := fun b _ n _ e => by rw [upd_ne n]; exact e
theorem Keep2.up' {p q : Addr} {H : Hp} {o : HO} : Keep2 p q H (upd H q o) := fun b _ _ n e => by rw [upd_ne n]; exact e
theorem Keep2.tups {p q : Addr} {H H' : Hp} {a b : List (Key × V)} (k : Keep2 p q H H') (hp : H p = some (.dK a)) (hq : H q = some (.dK b)) : Tups H H' := fun c xs e => k _ _ (ne_of e hp (by intro z; cases z)) (ne_of e hq (by intro z; cases z)) e
theorem Keep2.seqT {p q c : Addr} {K : PySem.W.Frag} {H H' : Hp} {a b : List (Key × V)} {xs : List V} (k : Keep2 p q H H') (hp : H p = some (.dK a)) (hq : H q = some (.dK b)) (h : SqT K H c xs) : SqT K H' c xs := by
  rcases h with (h | ⟨o, h⟩) | h
  · exact .inl (.inl (k _ _ (ne_of h hp (by intro z; cases z)) (ne_of h hq (by intro z; cases z)) h))
  · exact .inl (.inr ⟨o, k _ _ (ne_of h hp (by intro z; cases z)) (ne_of h hq (by intro z; cases z)) h⟩)
  · exact .inr h
section
variable {P : Program} {w : World} {K : PySem.W.Frag} {mg : Str → Option Value} {base : Heap} {C : Addr}
/-- what is asked of the things that sit -/
def Valid (rows : List (List Nat)) (m : St.Tb) : Prop := ∀ s t, St.look m s = some t → 0 ≤ t ∧ t < (rows.length : Int)
def spFind (K : PySem.W.Frag) (d : Nat) : Sp := fun vs H Q _ => ∃ (R S T : Addr) (x : Int) (xs : List V) (rows : List (List Nat)) (m : St.Tb) (E tr : List Nat) (n : Nat), vs = [.ref R, .int x, .ref S, .ref T] ∧
  SqT K H R xs ∧ SeatsAt H xs rows ∧ 0 ≤ x ∧ x < (rows.length : Int) ∧ H S = some (.dK (enc m)) ∧ H T = some (.dK (encT tr)) ∧ S ≠ T ∧ m.length ≤ 1000 ∧ n ≤ 1000 ∧ (∀ r ∈ rows, ∀ s ∈ r, s < n) ∧ n < tr.length + d ∧ St.Tried n tr ∧
  St.Run (seatsOf rows) m E ∧ (∀ u, u ∉ E → St.look m u ≠ some x) ∧ (∀ u ∈ E, u ∈ tr) ∧ Valid rows m ∧
  (∀ (m' : St.Tb) (tr' : List Nat) (H' : Hp), St.Won (seatsOf rows) m E x tr m' → Valid rows m' → Keep2 S T H H' → H' S = some (.dK (enc m')) → H' T = some (.dK (encT tr')) → Q (.bl true) H') ∧
  (∀ (tr' : List Nat) (H' : Hp), St.Lost (seatsOf rows) m tr (seatsOf rows x) tr' → St.Tried n tr' → Keep2 S T H H' → H' S = some (.dK (enc m)) → H' T = some (.dK (encT tr')) → Q (.bl false) H')
theorem won_valid {rows : List (List Nat)} {m m' : St.Tb} {E tr : List Nat} {x : Int} (w : St.Won (seatsOf rows) m E x tr m') (hE : ∀ u ∈ E, u ∈ tr) (hx : 0 ≤ x ∧ x < (rows.length : Int)) (v : Valid rows m) : Valid rows m' := fun s t e => by
  by_cases c : s ∈ E
  · rw [w.kept s (hE s c)] at e
    exact v s t e
  · rcases (w.vals t).mp ⟨s, c, e⟩ with ⟨u, _, e2⟩ | rfl
    · exact v u t e2
    · exact hx
theorem seats_at {rows : List (List Nat)} {z : Int} (h0 : 0 ≤ z) (h1 : z < (rows.length : Int)) : rows[z.toNat]? = some (seatsOf rows z) := by
  have hl : z.toNat < rows.length := by omega
  unfold seatsOf
  rw [List.getD_eq_getElem?_getD, List.getElem?_eq_getElem hl]
  rfl
theorem atI_of {α : Type} {xs : List α} {z : Int} {x : α} (h0 : 0 ≤ z) (h : xs[z.toNat]? = some x) : atI xs z = some x := by
  obtain ⟨n, rfl⟩ := Int.eq_ofNat_of_zero_le h0
  exact atI_nat h
theorem seats_row {H : Hp} {xs : List V} {rows : List (List Nat)} {x : Int} (hX : SeatsAt H xs rows) (x0 : 0 ≤ x) (x1 : x < (rows.length : Int)) : ∃ b, atI xs x = some (.ref b) ∧ H b = some (.tup (nats (seatsOf rows x))) := by
  have hl : x.toNat < xs.length := by
    have := Paired.length hX
    omega
  obtain ⟨r, hr, b, e, hb⟩ := pd_at hX (List.getElem?_eq_getElem hl)
  have e2 := seats_at x0 x1
  rw [hr] at e2
  rw [Option.some.inj e2] at hb
  exact ⟨b, atI_of x0 (by rw [List.getElem?_eq_getElem hl, e]), hb⟩
theorem scFind : FnScope ["rows", "thing", "sitters", "tried", "seat"] ["rows", "thing", "sitters", "tried"] (defScope tp18) := ⟨rfl, rfl, rfl, by decide +kernel, rfl, by decide +kernel, by decide +kernel⟩
theorem kn_find (h : At K mg "find_seat" tp18) (B : Bl mg) : ∀ d : Nat, Kn P w K mg base (d + 1) "find_seat" ["rows", "thing", "sitters", "tried"] (spFind K d)
  | 0 => by
    refine kn_of h scFind (fun _ _ _ _ _ _ us hl => match us, hl with | [_, _, _, _], _ => rfl) (fun vs H Q E h => ?_) (fun f cdv A outer s H vs Q E hr h => ?_)
    · obtain ⟨R, S, T, x, xs, rows, m, E', tr, n, rfl, _⟩ := h
      rfl
    · obtain ⟨R, S, T, x, xs, rows, m, E', tr, n, rfl, _, _, _, _, _, _, _, _, _, _, lt, td, _⟩ := h
      have := td.len
      omega
  | d + 1 => by
    have kn_find_seat : Kn P w K mg base (d + 1) "find_seat" ["rows", "thing", "sitters", "tried"] (spFind K d) := kn_find h B d
    refine kn_of h scFind (fun _ _ _ _ _ _ us hl => match us, hl with | [_, _, _, _], _ => rfl) (fun vs H Q E h => ?_) (fun f cdv A outer s H vs Q E hr h => ?_)
    · obtain ⟨R, S, T, x, xs, rows, m, E', tr, n, rfl, _⟩ := h
      rfl
    · obtain ⟨R, S, T, x, xs, rows, m, E', tr, n, rfl, hR, hX, x0, x1, hS, hT, ne, ml, n1, dom, lt, td, run, hx, hE, va, yes, no⟩ := h
      refine ⟨_, (pss_cons (ps_for PassesOwn.never rfl (pi_tup (pe_ix (kix_tup K) (pv 0) (pv 1) (fun _ _ => rfl))) (pg_name (i := 4) scFind.nd rfl (Or.inl rfl))
        (pss_one (ps_if (pt_cmp (pc_dnotin (hu_of hr) (pv 4) (pv 3))) (pss_cons (ps_dput (hu_of hr) (pv 3) (pv 4) pe_bl rfl)
      (pss_one (ps_if (PW.pt (pw_or (pt_cmp (pc_dnotin (hu_of hr) (pv 4) (pv 2))) (pw_or1 (pt_val (pe_kn kn_find_seat hr (Nat.le_refl _) (by rfl) (pa_cons (pv 0) (pa_cons (pe_dget (hu_of hr) (pv 2) (pv 4) (fun _ _ => rfl)) (pa_cons (pv 2) (pa_cons (pv 3) pa_nil))))))))) (pss_cons (ps_dput (hu_of hr) (pv 2) (pv 4) (pv 1) rfl)
      (pss_one (ps_ret pe_bl))) pss_nil))) pss_nil)))
      (pss_one (ps_ret pe_bl))), ?_⟩
      obtain ⟨b, hb, hbt⟩ := seats_row hX x0 x1
      have domx : ∀ s ∈ seatsOf rows x, s < n := dom _ (List.mem_of_getElem? (seats_at x0 x1))
      have bS : b ≠ S := ne_of hbt hS (by intro z; cases z)
      have bT : b ≠ T := ne_of hbt hT (by intro z; cases z)
      refine ⟨.ref R, rfl, .int x, rfl, R, xs, x, _, rfl, rfl, hR, hb, b, rfl, ⟨_, .inl (.inl hbt)⟩, for_tup (K := K) (a := b) (xs := nats (seatsOf rows x)) (fun i σ H' => ∃ (v4 : Option V) (tr1 : List Nat), σ = [some (.ref R), some (.int x), some (.ref S), some (.ref T), v4] ∧
        St.Lost (seatsOf rows) m tr ((seatsOf rows x).take i) tr1 ∧ St.Tried n tr1 ∧ tr.length ≤ tr1.length ∧ Keep2 S T H H' ∧ H' S = some (.dK (enc m)) ∧ H' T = some (.dK (encT tr1)))
        ⟨none, tr, rfl, St.Lost.start, td, Nat.le_refl _, Keep2.refl _ _ _, hS, hT⟩ (fun i σ H' _ ⟨_, _, _, _, _, _, kp, _, _⟩ => .inl (.inl (kp _ _ bS bT hbt))) ?_ ?_⟩
      · rintro i y σ H' hi ⟨v4, tr1, rfl, lo, td1, tl, kp, hS1, hT1⟩
        obtain ⟨s, hs, rfl⟩ := nats_at hi
        have sN : s ∈ seatsOf rows x := List.mem_of_getElem? hs
        have et : (seatsOf rows x).take (i + 1) = (seatsOf rows x).take i ++ [s] := take_snoc hs
        have tlen := td1.len
        refine ⟨.int (s : Int), rfl, .ref T, rfl, T, _, rfl, DGet.k (k := Sum.inl (s : Int)) hT1, _, rfl, ?_⟩
        rw [encT_val]
        by_cases c : s ∈ tr1
        · rw [if_pos c]
          refine iteF ⟨_, tr1, rfl, ?_, td1, tl, kp, hS1, hT1⟩
          rw [et]
          exact lo.seen c
        · rw [if_neg c]
          have td2 := td1.snoc c (domx s sN)
          have ll : (tr1 ++ [s]).length = tr1.length + 1 := by rw [List.length_append]; rfl
          have E1 : ∀ u ∈ E', u ∈ tr1 := fun u hu => lo.sub u (hE u hu)
          refine iteT ⟨.ref T, rfl, .int (s : Int), rfl, T, _, rfl, DPut.k (k := Sum.inl (s : Int)) hT1 (by rw [encT, List.length_map, sizeLine_eq]; omega), ?_⟩
          rw [encT_put c]
          have kp2 : Keep2 S T H (upd H' T (.dK (encT (tr1 ++ [s])))) := kp.trans Keep2.up'
          have hS2 : (upd H' T (.dK (encT (tr1 ++ [s])))) S = some (.dK (enc m)) := by rw [upd_ne ne]; exact hS1
          have hT2 : (upd H' T (.dK (encT (tr1 ++ [s])))) T = some (.dK (encT (tr1 ++ [s]))) := upd_same
          generalize upd H' T (.dK (encT (tr1 ++ [s]))) = H2 at kp2 hS2 hT2
          refine ⟨.int (s : Int), rfl, .ref S, rfl, S, _, rfl, DGet.k (k := Sum.inl (s : Int)) hS2, _, rfl, ?_⟩
          rw [enc_val]
          cases q : St.look m s with
          | none =>
            have won := (St.won_free run hx E1 c sN q).less lo.sub
            refine iteT ⟨_, rfl, .ref S, rfl, .int (s : Int), rfl, S, _, rfl, DPut.k (k := Sum.inl (s : Int)) hS2 (by rw [enc, List.length_map, sizeLine_eq]; omega), ?_⟩
            rw [enc_put]
            exact yes _ _ _ won (won_valid won hE ⟨x0, x1⟩ va) (kp2.trans Keep2.up) upd_same (by rw [upd_ne ne.symm]; exact hT2)
          | some z =>
            have vz := va s z q
            have sE : s ∉ E' := fun w => c (E1 s w)
            have r2 : St.Run (seatsOf rows) m (s :: E') := ⟨run.nd, fun u v hu => run.fit u v fun z => hu (List.mem_cons_of_mem _ z), fun u v w hu hv => run.inj u v w (fun z => hu (List.mem_cons_of_mem _ z)) fun z => hv (List.mem_cons_of_mem _ z)⟩
            refine iteF ⟨.ref R, rfl, .ref S, rfl, .int (s : Int), rfl, S, .int z, rfl, ?_, .ref S, rfl, .ref T, rfl, ?_⟩
            · have g := DGet.k (k := Sum.inl (s : Int)) hS2
              rw [enc_val, q] at g
              exact g
            refine ⟨R, S, T, z, xs, rows, m, s :: E', tr1 ++ [s], n, rfl, kp2.seqT hS hT hR, hX.more (kp2.tups hS hT), vz.1, vz.2, hS2, hT2, ne, ml, n1, dom, by omega, td2, r2, fun u hu e => hu ?_, fun u hu => ?_, va, fun m' tr' H3 won va' kp3 hS3 hT3 => ?_, fun tr' H3 lo' td' kp3 hS3 hT3 => ?_⟩
            · rw [run.inj u s z (fun z => hu (List.mem_cons_of_mem _ z)) sE e q]
              exact List.mem_cons_self
            · exact (List.mem_cons.mp hu).elim (fun z => by rw [z]; exact List.mem_append_right _ (List.mem_singleton.mpr rfl)) fun z => List.mem_append_left _ (E1 u z)
            · have won2 := (St.won_deep run hx E1 c sN q won).less lo.sub
              have m1 := won.len
              refine ⟨true, rfl, iteT ⟨_, rfl, .ref S, rfl, .int (s : Int), rfl, S, _, rfl, DPut.k (k := Sum.inl (s : Int)) hS3 (by rw [enc, List.length_map, sizeLine_eq]; omega), ?_⟩⟩
              rw [enc_put]
              exact yes _ _ _ won2 (won_valid won2 hE ⟨x0, x1⟩ va) ((kp2.trans kp3).trans Keep2.up) upd_same (by rw [upd_ne ne.symm]; exact hT3)
            · refine ⟨false, rfl, iteF ⟨_, tr', rfl, ?_, td', ?_, kp2.trans kp3, hS3, hT3⟩⟩
              · rw [et]
                exact lo.deep q lo'
              · have := St.inj_le (S := tr1 ++ [s]) (U := tr') (fun a b => a = b) td2.nd (fun u hu => ⟨u, lo'.sub u hu, rfl⟩) fun s _ t _ u a b => a.trans b.symm
                omega
      · rintro σ H' ⟨v4, tr1, rfl, lo, td1, tl, kp, hS1, hT1⟩
        have e1 : (seatsOf rows x).take (nats (seatsOf rows x)).length = seatsOf rows x := List.take_of_length_le (by rw [List.length_map]; exact Nat.le_refl _)
        rw [e1] at lo
        exact no tr1 H' lo td1 kp hS1 hT1
end
end Nal

namespace Nal
open PySem PySem.Spec PyProof.Rows L2 LamX NdefX
theorem sc_sr : ¬ (("seat_count" : Str) = "seat_rows") := by decide +kernel
theorem sr_sc : ¬ (("seat_rows" : Str) = "seat_count") := by decide +kernel
abbrev seatF (n : Nat) (t : Addr) : List (Str × V) := [("seat_count", .int (n : Int)), ("seat_rows", .ref t)]
theorem put_seat (n : Nat) (t : Addr) : putF "seat_rows" (.ref t) [(("seat_count" : Str), V.int (n : Int))] = seatF n t := by
  show (if ("seat_count" : Str) = "seat_rows" then _ else (("seat_count" : Str), V.int (n : Int)) :: putF "seat_rows" (V.ref t) []) = _
  rw [if_neg sc_sr]
  rfl
theorem lk_sc (n : Nat) (t : Addr) : (seatF n t).lookup ("seat_count" : Str) = some (.int (n : Int)) := by simp [List.lookup]
theorem lk_sr (n : Nat) (t : Addr) : (seatF n t).lookup ("seat_rows" : Str) = some (.ref t) := by
  have q : (("seat_rows" : Str) == ("seat_count" : Str)) = false := by simpa using sr_sc
  simp [List.lookup, q]
theorem lk_seatN {n : Nat} {t : Addr} {m : Str} (h1 : ¬ m = "seat_count") (h2 : ¬ m = "seat_rows") : (seatF n t).lookup m = none := by
  have q1 : (m == ("seat_count" : Str)) = false := by simpa using h1
  have q2 : (m == ("seat_rows" : Str)) = false := by simpa using h2
  simp [List.lookup, q1, q2]
/-- a yard of n seats and things on them -/
def SeatY (C : Addr) (H : Hp) (y : Addr) (n : Nat) (rows : List (List Nat)) : Prop := ∃ (dx t : Addr) (xs : List V), H y = some (.ins C dx (seatF n t)) ∧ H t = some (.tup xs) ∧ SeatsAt H xs rows
theorem SeatY.ext {C y : Addr} {H H' : Hp} {n : Nat} {rows : List (List Nat)} (h : SeatY C H y n rows) (e : ExtN H H') : SeatY C H' y n rows := by
  obtain ⟨dx, t, xs, h1, h2, h3⟩ := h
  exact ⟨dx, t, xs, e _ _ h1 (fun _ z => by cases z), e _ _ h2 (fun _ z => by cases z), h3.more (Tups.ext e)⟩
theorem SeatY.same {C y : Addr} {H H' : Hp} {n : Nat} {rows : List (List Nat)} (h : SeatY C H y n rows) (e : Same H H') : SeatY C H' y n rows := h.ext (ExtN.of e)
theorem SeatY.keep {C y p : Addr} {H H' : Hp} {n : Nat} {rows : List (List Nat)} {ys : List V} (h : SeatY C H y n rows) (hp : H p = some (.lst ys)) (e : Keep p H H') : SeatY C H' y n rows := by
  obtain ⟨dx, t, xs, h1, h2, h3⟩ := h
  exact ⟨dx, t, xs, e _ _ (ne_of h1 hp (by intro z; cases z)) h1, e _ _ (ne_of h2 hp (by intro z; cases z)) h2, h3.more (Tups.keep hp e)⟩
/-- seats of a thing, told as a list -/
def RowAtL (H : Hp) (x : V) (r : List Nat) : Prop := ∃ b, x = .ref b ∧ H b = some (.lst (nats r))
abbrev RowsAtL (H : Hp) : List V → List (List Nat) → Prop := Paired (RowAtL H)
abbrev seatLam : Str := "Seats.__init__.<locals>.<lambda>"
/-- a row of seats below n -/
def RowOk (n : Nat) (r : List Nat) : Prop := r.Nodup ∧ ∀ s ∈ r, s < n
theorem RowOk.hp {n : Nat} {r : List Nat} (h : RowOk n r) : IsHp (n : Int) (r.map fun k : Nat => (k : Int)) := by
  refine ⟨?_, fun z hz => ?_⟩
  · refine List.pairwise_map.mpr (h.1.imp fun {a b} ne e => ne ?_)
    omega
  · obtain ⟨s, hs, rfl⟩ := List.mem_map.mp hz
    have := h.2 s hs
    omega
section
variable {P : Program} {w : World} {K : PySem.W.Frag} {mg : Str → Option Value} {base : Heap} {C : Addr}
def spSeated (K : PySem.W.Frag) : Sp := fun vs H Q _ => ∃ (R l : Addr) (xs : List V) (rows : List (List Nat)) (ns : List Int) (n : Nat), vs = [.ref R, .ref l] ∧ SqT K H R xs ∧ SeatsAt H xs rows ∧ H l = some (.lst (nums ns)) ∧ IsHp rows.length ns ∧ rows.length ≤ 24 ∧ n ≤ 12 ∧ (∀ r ∈ rows, ∀ s ∈ r, s < n) ∧
  ∀ (S : Addr) (m : St.Tb) (H' : Hp), H S = none → Same H H' → H' S = some (.dK (enc m)) → St.Table (seatsOf rows) ns m → Q (.ref S) H'
theorem scSeated : FnScope ["rows", "heap", "sitters", "thing"] ["rows", "heap"] (defScope tp17) := ⟨rfl, rfl, rfl, by decide +kernel, rfl, by decide +kernel, by decide +kernel⟩
theorem kn_seated (h : At K mg "seated" tp17) (B : Bl mg) (kn_find_seat : Kn P w K mg base 14 "find_seat" ["rows", "thing", "sitters", "tried"] (spFind K 13)) : Kn P w K mg base 15 "seated" ["rows", "heap"] (spSeated K) := by
  refine kn_of h scSeated (fun _ _ _ _ _ _ us hl => match us, hl with | [_, _], _ => rfl) (fun vs H Q E h => ?_) (fun f cdv A outer s H vs Q E hr h => ?_)
  · obtain ⟨R, l, xs, rows, ns, n, rfl, _⟩ := h
    rfl
  · obtain ⟨R, l, xs, rows, ns, n, rfl, hR, hX, hl, hp, r24, n12, dom, q⟩ := h
    refine ⟨_, (pss_cons (ps_set (i := 2) scSeated.nd rfl (Or.inl rfl) pe_dnewK)
      (pss_cons (ps_for PassesOwn.never rfl (pi_list (pv 1)) (pg_name (i := 3) scSeated.nd rfl (Or.inl rfl))
        (pss_one (ps_expr (pe_kn kn_find_seat hr (by decide) (by rfl) (pa_cons (pv 0) (pa_cons (pv 3) (pa_cons (pv 2) (pa_cons pe_dnewK pa_nil))))))))
      (pss_one (ps_ret (pv 2))))), ?_⟩
    intro S nS
    have nl := hp.len
    refine ⟨.ref l, rfl, l, rfl, ⟨_, (same_new nS).seq (SqL.of hl)⟩, for_list (K := K) (a := l) (xs := nums ns) (fun i σ H' => ∃ (v : Option V) (m : St.Tb), σ = [some (.ref R), some (.ref l), some (.ref S), v] ∧ H' S = some (.dK (enc m)) ∧ Same H H' ∧ St.Table (seatsOf rows) (ns.take i) m ∧ Valid rows m ∧ m.length ≤ i)
      ⟨none, [], rfl, upd_same, same_new nS, St.Table.start, fun s t h => (nomatch h), Nat.zero_le _⟩ (fun i σ H' _ ⟨_, _, _, _, sm, _⟩ => sm.seq (SqL.of hl)) ?_ ?_⟩
    · rintro i y σ H' hi ⟨v, m, rfl, hS, sm, tb, va, ml⟩
      obtain ⟨x, hx, rfl⟩ := nums_at hi
      have il : i < ns.length := (List.getElem?_eq_some_iff.mp hx).1
      have xb := hp.2 x (List.mem_of_getElem? hx)
      have et : ns.take (i + 1) = ns.take i ++ [x] := take_snoc hx
      have xn : x ∉ ns.take i := fun z => by
        have nd := hp.1.sublist (List.take_sublist (i + 1) ns)
        rw [et] at nd
        exact (List.nodup_append.mp nd).2.2 x z x (List.mem_singleton.mpr rfl) rfl
      refine ⟨.ref R, rfl, .int x, rfl, .ref S, rfl, fun T nT => ?_⟩
      have sT := same_new (o := .dK []) nT
      have ST : S ≠ T := ne_of_none hS nT
      have s2 := sm.trans sT
      refine ⟨R, S, T, x, xs, rows, m, [], [], n, rfl, Same.seqT s2 hR, hX.more (Tups.same s2), xb.1, xb.2, sT _ _ hS, upd_same, ST, by omega, by omega, dom, ?_, St.Tried.nil n, tb.run, fun u _ e => xn (tb.vals u x e), fun u hu => (nomatch hu), va,
        fun m' tr' H3 won va' kp hS3 hT3 => ?_, fun tr' H3 lo td kp hS3 hT3 => ?_⟩
      · show n < 0 + 13
        omega
      · have m1 := won.len
        refine ⟨_, m', rfl, hS3, fun b o e => kp _ _ (ne_of_none e nS) (ne_of_none (sm _ _ e) nT) (s2 _ _ e), ?_, va', by omega⟩
        rw [et]
        exact tb.won won
      · refine ⟨_, m, rfl, hS3, fun b o e => kp _ _ (ne_of_none e nS) (ne_of_none (sm _ _ e) nT) (s2 _ _ e), ?_, va, by omega⟩
        rw [et]
        exact tb.lost lo td.nd
    · rintro σ H' ⟨v, m, rfl, hS, sm, tb, va, ml⟩
      have e1 : ns.take (nums ns).length = ns := List.take_of_length_le (by rw [List.length_map]; exact Nat.le_refl _)
      rw [e1] at tb
      exact ⟨.ref S, rfl, q S m H' nS sm hS tb⟩
def spSInit (T : List (Addr × Str)) (C : Addr) : Sp := fun vs H Q _ => ∃ (y dx l : Addr) (n : Nat) (xs : List V) (rows : List (List Nat)), vs = [.ref y, .int (n : Int), .ref l] ∧ H y = some (.ins C dx []) ∧ Tabs T H ∧ H l = some (.lst xs) ∧ RowsAtL H xs rows ∧ rows.length ≤ 24 ∧ n ≤ 12 ∧
  (∀ r ∈ rows, RowOk n r) ∧ ∀ H' : Hp, (∀ b o, b ≠ y → H b = some o → (∀ ps, o ≠ .tbl ps) → H' b = some o) → Tabs T H' → SeatY C H' y n rows → Q .non H'
theorem scSInit : FnScope ["self", "seats", "rows", "row"] ["self", "seats", "rows"] (defScope tc16_0) := ⟨rfl, rfl, rfl, by decide +kernel, rfl, by decide +kernel, by decide +kernel⟩
theorem mk_seats {f c Pt : Addr} {T : List (Addr × Str)} (hT1 : (Pt, seatLam) ∈ T) (hT2 : ∀ p ∈ T, p.1 = Pt → p.2 = seatLam) {oc kV doc pm ct : Value} {od an : Option Addr} {osl : Array (Option Value)} (cl : Cls K C) (nS : NoAttr K C "seat_count") (nR : NoAttr K C "seat_rows") (M : Mk K C f) (gC : mg "Seats" = some (.ref C))
    (lk : K.lookup f = some ⟨oc, od, .func (PySem.W.fnOf "__init__" "Seats.__init__" (defArgs tc16_0) (defBody tc16_0) (defScope tc16_0) .none kV doc pm an (.ref c) ct), osl⟩)
    (hcd : PySem.W.codeIn K (.ref c) "Seats.__init__" = true) (B : Bl mg) {t24 tr : Tok} (gc_MOST_THINGS : mg "MOST_THINGS" = some (.int 24 t24)) (gc_MOST_SEATS : mg "MOST_SEATS" = some (.int 12 tr))
    (hC : At K mg "check_things" tp13) (kn_is_whole : Kn P w K mg base 1 "is_whole" ["number", "least", "most"] spWhole) (kn_is_heap : Kn P w K mg base 2 "is_heap" ["things", "many"] spIsHeap) (TB : TabB base mg c Pt) :
    MkC P w K mg base C 5 "Seats" ["self", "seats", "rows"] (spSInit T C) := by
  obtain ⟨g, fdg, Fg, gg⟩ := hC.ex
  obtain ⟨oc2, od2, kV2, doc2, pm2, an2, cdv2, ct2, osl2, rfl, lk2, hcd2⟩ := id Fg.ex
  have bg := Fg.binds (ps := ["things", "is_thing"]) fun _ _ _ _ _ _ us hl => match us, hl with | [_, _], _ => rfl
  refine ⟨f, _, M, fn_of (CX := CX0) (N := ["self", "seats", "rows", "row"]) lk hcd scSInit (fun vs H Q E h => ?_) (fun A outer s H vs Q E hr h => ?_), Binds.all fun us hl => match us, hl with | [_, _, _], _ => rfl, gC⟩
  · obtain ⟨y, dx, l, n, xs, rows, rfl, _⟩ := h
    rfl
  · obtain ⟨y, dx, l, n, xs, rows, rfl, hy, hT, hl, hX, r1, n12, dom, q⟩ := h
    refine ⟨_, PSs.nox (pss_cons (ps_if (pt_not (pt_val (pe_kn kn_is_whole hr (by decide) (by rfl) (pa_cons (pv 1) (pa_cons pe_int (pa_cons (pe_glob (v := .int 12) (by rfl) gc_MOST_SEATS ⟨_, rfl⟩) pa_nil)))))) (pss_one ps_never) pss_nil)
      (pss_cons (ps_expr (pe_lam2 (T := T) (TT := TTcheck) (N := ["row", "seats"]) (fr := ["seats"]) (js := [1]) (k := 2) (b1 := "things") (a := "is_thing") (y := "row") (by rfl) gg Fg.kp lk2 hcd2 bg scCheck rfl (.inl rfl) (gives_check B gc_MOST_THINGS) TB rfl
        hT1 hT2 hr (fun _ => rfl) (nscope_by (by decide +kernel)) (by show ndefB (defScope tc16_0) _ _ = true; decide +kernel) rfl rfl (fun _ _ _ _ _ _ => rfl)
        (fun A outer s H f c' hr => pe_kn kn_is_heap hr (by decide) (by rfl) (pa_cons (pv 0) (pa_cons (pv 1) pa_nil))) (pv 2)))
      (pss_cons (ps_fld (pv 0) (pv 1) rfl)
      (pss_one (ps_fld (pv 0) (pe_callTy (kcall_tuple K) (by rfl) B.t_tuple (by decide +kernel) (pa_cons (pe_lc (own := [("row", 3)]) (g := gName 3) (tt := tYes) rfl scSInit.nd (pi_list (pv 2)) (blkOk_by (own := [("row", 3)]) (N := ["self", "seats", "rows", "row"]) (sc := (defScope tc16_0)) (by decide +kernel))
        (fun _ _ _ _ _ => pg_name (i := 3) scSInit.nd rfl (Or.inl rfl)) (fun _ _ _ _ _ => pts_nil) (fun _ _ _ _ _ => (pe_callTy (kcall_tuple K) (by rfl) B.t_tuple (by decide +kernel) (pa_cons (pv 3) pa_nil)))) pa_nil)) rfl))))), ?_⟩
    have hl1 : ∀ {H1 : Hp}, ExtN H H1 → H1 l = some (.lst xs) := fun e => e _ _ hl (fun _ z => by cases z)
    have hy1 : ∀ {H1 : Hp}, ExtN H H1 → H1 y = some (.ins C dx []) := fun e => e _ _ hy (fun _ z => by cases z)
    have hX1 : ∀ {H1 : Hp}, ExtN H H1 → RowsAtL H1 xs rows := fun e => Paired.mapP hX fun _ _ ⟨b, e1, e2⟩ => ⟨b, e1, e _ _ e2 (fun _ z => by cases z)⟩
    have xl : xs.length = rows.length := Paired.length hX
    refine ⟨.int (n : Int), rfl, (n : Int), 0, 12, rfl, true, by rw [decide_eq_true]; omega, iteF ?_⟩
    refine ⟨.ref l, rfl, hT, fun H1 eN T1 => ⟨l, xs, rfl, hl1 eN, by rw [xl]; exact r1, fun x hx H2 Q2 sm hq => ?_, fun H2 sm => ?_⟩⟩
    · obtain ⟨r, hr2, b, rfl, hb⟩ := pd_mem (hX1 (eN.trans (ExtN.of sm))) hx
      rw [nats_nums] at hb
      exact ⟨_, rfl, .int (n : Int), rfl, b, r.map (fun k : Nat => (k : Int)), n, rfl, by omega, hb, (dom r hr2).hp, fun H3 s3 => hq H3 s3⟩
    · have e2 : ExtN H H2 := eN.trans (ExtN.of sm)
      have hy2 := hy1 e2
      have T2 : Tabs T H2 := T1.ext sm
      refine ⟨.int (n : Int), rfl, .ref y, rfl, y, C, dx, [], rfl, hy2, cl, nS, (by show 0 < 1000; decide), ?_⟩
      have ly : l ≠ y := ne_of (hl1 e2) hy2 (by intro z; cases z)
      have kY : ∀ b o, b ≠ y → H2 b = some o → (upd H2 y (.ins C dx (putF "seat_count" (.int (n : Int)) []))) b = some o := fun b o nb e => by rw [upd_ne nb]; exact e
      have T3 : Tabs T (upd H2 y (.ins C dx (putF "seat_count" (.int (n : Int)) []))) := tabs_ins T2 hy2
      have hy3 : (upd H2 y (.ins C dx (putF "seat_count" (.int (n : Int)) []))) y = some (.ins C dx [(("seat_count" : Str), V.int (n : Int))]) := upd_same
      have hl3 := kY _ _ ly (hl1 e2)
      have hX3 : RowsAtL (upd H2 y (.ins C dx (putF "seat_count" (.int (n : Int)) []))) xs rows := Paired.mapP (hX1 e2) fun _ _ ⟨b, e1, e2⟩ => ⟨b, e1, kY _ _ (ne_of e2 hy2 (by intro z; cases z)) e2⟩
      generalize upd H2 y (.ins C dx (putF "seat_count" (.int (n : Int)) [])) = H3 at kY T3 hy3 hl3 hX3
      refine ⟨.ref l, rfl, l, rfl, ⟨_, SqL.of hl3⟩, fun D hD => lc_list (K := K) (a := l) (xs := xs) (fun i H' => ∃ ys, H' D = some (.lst ys) ∧ ys.length = i ∧ SeatsAt H' ys (rows.take i) ∧ Same H3 H') ⟨[], upd_same, rfl, .nil, same_new hD⟩
        (fun i H' _ ⟨_, _, _, _, s'⟩ => s'.seq (SqL.of hl3)) ?_ ?_⟩
      · rintro i x H' hi ⟨ys, hys, ly', hTy, s'⟩
        obtain ⟨r, ht, b, rfl, hb⟩ := pd_at hX3 hi
        have il : i < xs.length := (List.getElem?_eq_some_iff.mp hi).1
        refine ⟨rfl, ?_⟩
        refine ⟨_, rfl, b, _, rfl, .inl ⟨SqL.of (s' _ _ hb), fun t nt => ?_⟩⟩
        have st := same_new (o := .tup (nats r)) nt
        have Dt : D ≠ t := ne_of_none hys nt
        have hyt := st _ _ hys
        refine ⟨ys, hyt, by rw [sizeLine_eq]; omega, ys ++ [.ref t], upd_same, by rw [List.length_append, ly']; rfl, ?_, fun b o e => ?_⟩
        · rw [take_snoc ht]
          have tD : Tups H' (upd (upd H' t (.tup (nats r))) D (.lst (ys ++ [V.ref t]))) := fun b zs e => by
            rw [upd_ne (ne_of e hys (by intro z; cases z)), upd_ne (ne_of_none e nt)]
            exact e
          exact pd_snoc (SeatsAt.more hTy tD) ⟨t, rfl, by rw [upd_ne Dt.symm, upd_same]⟩
        · rw [upd_ne (ne_of_none e hD)]
          exact st _ _ (s' _ _ e)
      · rintro H4 ⟨ys, hys, ly', hTy, s'⟩
        rw [xl, List.take_length] at hTy
        refine ⟨D, _, rfl, .inl ⟨SqL.of hys, fun t nt => ?_⟩⟩
        have st := same_new (o := .tup ys) nt
        have s5 := s'.trans st
        have hy5 := s5 _ _ hy3
        have yt : y ≠ t := ne_of_none (s' _ _ hy3) nt
        refine ⟨.ref y, rfl, y, C, dx, _, rfl, hy5, cl, nR, (by show 1 < 1000; decide), ?_⟩
        rw [put_seat]
        refine q _ (fun b o nb e nt2 => ?_) (tabs_ins (T3.ext s5) hy5) ⟨dx, t, ys, upd_same, by rw [upd_ne yt.symm, upd_same], ?_⟩
        · rw [upd_ne nb]
          exact s5 _ _ (kY _ _ nb (e2 b o e nt2))
        · refine SeatsAt.more hTy fun b zs e => ?_
          rw [upd_ne (ne_of e (s' _ _ hy3) (by intro z; cases z))]
          exact st _ _ e
def spCountS (C : Addr) : Sp := fun vs H Q _ => ∃ (y : Addr) (n : Nat) (rows : List (List Nat)), vs = [.ref y] ∧ SeatY C H y n rows ∧ Q (.int (rows.length : Nat)) H
theorem scManyS : FnScope ["self"] ["self"] (defScope tc16_3) := ⟨rfl, rfl, rfl, by decide +kernel, rfl, by decide +kernel, by decide +kernel⟩
theorem mt_manyS (h : AtM K C "many" "Seats.many" tc16_3) (cl_Seats : Cls K C) (nR : NoAttr K C "seat_rows") (B : Bl mg) : Mt P w K mg base C 1 "many" ["self"] (spCountS C) := by
  refine mt_of h scManyS (fun _ _ _ _ _ _ us hl => match us, hl with | [_], _ => rfl) (fun vs H Q E h => ?_) (fun f cdv A outer s H vs Q E hr h => ?_)
  · obtain ⟨y, n, rows, rfl, _⟩ := h
    rfl
  · obtain ⟨y, n, rows, rfl, ⟨dx, t, xs, hy, h2, h3⟩, q⟩ := h
    refine ⟨_, (pss_one (ps_ret (pe_callB (kcall_len K) (by rfl) B.len (by decide +kernel) (pa_cons (pe_fld (pv 0) rfl) pa_nil)))), ?_⟩
    refine ⟨.ref y, rfl, y, C, dx, _, _, rfl, hy, cl_Seats, nR, lk_sr n t, t, _, rfl, .inr (.inl (.inl h2)), ?_⟩
    rw [Paired.length h3]
    exact q
theorem scLenS : FnScope ["self"] ["self"] (defScope tc16_8) := ⟨rfl, rfl, rfl, by decide +kernel, rfl, by decide +kernel, by decide +kernel⟩
theorem mt_lenS (h : AtM K C "__len__" "Seats.__len__" tc16_8) (cl_Seats : Cls K C) (nR : NoAttr K C "seat_rows") (B : Bl mg) : Mt P w K mg base C 1 "__len__" ["self"] (spCountS C) := by
  refine mt_of h scLenS (fun _ _ _ _ _ _ us hl => match us, hl with | [_], _ => rfl) (fun vs H Q E h => ?_) (fun f cdv A outer s H vs Q E hr h => ?_)
  · obtain ⟨y, n, rows, rfl, _⟩ := h
    rfl
  · obtain ⟨y, n, rows, rfl, ⟨dx, t, xs, hy, h2, h3⟩, q⟩ := h
    refine ⟨_, (pss_one (ps_ret (pe_callB (kcall_len K) (by rfl) B.len (by decide +kernel) (pa_cons (pe_fld (pv 0) rfl) pa_nil)))), ?_⟩
    refine ⟨.ref y, rfl, y, C, dx, _, _, rfl, hy, cl_Seats, nR, lk_sr n t, t, _, rfl, .inr (.inl (.inl h2)), ?_⟩
    rw [Paired.length h3]
    exact q
def spThingsS (C : Addr) : Sp := fun vs H Q _ => ∃ (y : Addr) (n : Nat) (rows : List (List Nat)), vs = [.ref y] ∧ SeatY C H y n rows ∧ rows.length ≤ 24 ∧
  ∀ (r : Addr) (H' : Hp), H r = none → H' = upd H r (.lst (nums (upTo rows.length))) → Q (.ref r) H'
theorem scThingsS : FnScope ["self"] ["self"] (defScope tc16_4) := ⟨rfl, rfl, rfl, by decide +kernel, rfl, by decide +kernel, by decide +kernel⟩
theorem mt_thingsS (h : AtM K C "things" "Seats.things" tc16_4) (cl_Seats : Cls K C) (nR : NoAttr K C "seat_rows") (B : Bl mg) : Mt P w K mg base C 1 "things" ["self"] (spThingsS C) := by
  refine mt_of h scThingsS (fun _ _ _ _ _ _ us hl => match us, hl with | [_], _ => rfl) (fun vs H Q E h => ?_) (fun f cdv A outer s H vs Q E hr h => ?_)
  · obtain ⟨y, n, rows, rfl, _⟩ := h
    rfl
  · obtain ⟨y, n, rows, rfl, ⟨dx, t, xs, hy, h2, h3⟩, r1, q⟩ := h
    refine ⟨_, (pss_one (ps_ret (pe_listRg rfl (by rfl) B.t_list (prg_1 (by rfl) B.range (pe_callB (kcall_len K) (by rfl) B.len (by decide +kernel) (pa_cons (pe_fld (pv 0) rfl) pa_nil)))))), ?_⟩
    have e : (xs.length : Int) = (rows.length : Int) := by rw [Paired.length h3]
    refine ⟨.ref y, rfl, y, C, dx, _, _, rfl, hy, cl_Seats, nR, lk_sr n t, t, _, rfl, .inr (.inl (.inl h2)), _, rfl, ?_, fun r nr => ?_⟩
    · rw [e]
      exact RgOk.of_le (by omega) (by omega) (by omega) (by omega)
    · refine q r _ nr ?_
      rw [e, rg_nums]
def spWorthS (C : Addr) : Sp := fun vs H Q _ => ∃ (y l : Addr) (n : Nat) (rows : List (List Nat)) (ns : List Int), vs = [.ref y, .ref l] ∧ SeatY C H y n rows ∧ rows.length ≤ 24 ∧ n ≤ 12 ∧ (∀ r ∈ rows, ∀ s ∈ r, s < n) ∧ H l = some (.lst (nums ns)) ∧ IsHp rows.length ns ∧
  ∀ (k : Nat) (H' : Hp), St.SW (seatsOf rows) ns k → Same H H' → Q (.int (k : Int)) H'
theorem scWorthS : FnScope ["self", "heap"] ["self", "heap"] (defScope tc16_5) := ⟨rfl, rfl, rfl, by decide +kernel, rfl, by decide +kernel, by decide +kernel⟩
theorem mt_worthS (h : AtM K C "worth" "Seats.worth" tc16_5) (cl_Seats : Cls K C) (nR : NoAttr K C "seat_rows") (B : Bl mg) (kn_rising_heap : Kn P w K mg base 3 "rising_heap" ["heap", "many"] spRising)
    (kn_seated : Kn P w K mg base 15 "seated" ["rows", "heap"] (spSeated K)) : Mt P w K mg base C 16 "worth" ["self", "heap"] (spWorthS C) := by
  refine mt_of h scWorthS (fun _ _ _ _ _ _ us hl => match us, hl with | [_, _], _ => rfl) (fun vs H Q E h => ?_) (fun f cdv A outer s H vs Q E hr h => ?_)
  · obtain ⟨y, l, n, rows, ns, rfl, _⟩ := h
    rfl
  · obtain ⟨y, l, n, rows, ns, rfl, ⟨dx, t, xs, hy, h2, h3⟩, r1, n12, dom, hl, hp, q⟩ := h
    refine ⟨_, (pss_one (ps_ret (pe_callB call_lenD (by rfl) B.len (by decide +kernel) (pa_cons (pe_kn kn_seated hr (by decide) (by rfl) (pa_cons (pe_fld (pv 0) rfl) (pa_cons (pe_kn kn_rising_heap hr (by decide) (by rfl) (pa_cons (pv 1) (pa_cons (pe_callB (kcall_len K) (by rfl) B.len (by decide +kernel) (pa_cons (pe_fld (pv 0) rfl) pa_nil)) pa_nil))) pa_nil))) pa_nil)))), ?_⟩
    have xl : xs.length = rows.length := Paired.length h3
    refine ⟨.ref y, rfl, y, C, dx, _, _, rfl, hy, cl_Seats, nR, lk_sr n t, .ref l, rfl, .ref y, rfl, y, C, dx, _, _, rfl, hy, cl_Seats, nR, lk_sr n t, t, _, rfl, .inr (.inl (.inl h2)), l, ns, xs.length, rfl, by omega, hl, by rw [xl]; exact hp, fun ms r H1 ri nr s1 hr1 => ?_⟩
    refine ⟨t, r, xs, rows, ms, n, rfl, .inl (.inl (s1 _ _ h2)), h3.more (Tups.same s1), hr1, hp.perm ri.1, r1, n12, dom, fun S m H2 nS s2 hS tb => ?_⟩
    refine ⟨S, _, rfl, hS, ?_⟩
    rw [enc, List.length_map]
    exact q m.length H2 (tb.done.same fun x => ri.1.mem_iff) (s1.trans s2)
def spWholeS (C : Addr) : Sp := fun vs H Q _ => ∃ (y : Addr) (n : Nat) (rows : List (List Nat)), vs = [.ref y] ∧ SeatY C H y n rows ∧ rows.length ≤ 24 ∧ n ≤ 12 ∧ (∀ r ∈ rows, ∀ s ∈ r, s < n) ∧
  ∀ (k : Nat) (H' : Hp), St.SW (seatsOf rows) (upTo rows.length) k → Same H H' → Q (.int (k : Int)) H'
theorem scWholeS : FnScope ["self"] ["self"] (defScope tc16_6) := ⟨rfl, rfl, rfl, by decide +kernel, rfl, by decide +kernel, by decide +kernel⟩
theorem mt_wholeS (h : AtM K C "whole" "Seats.whole" tc16_6) (cl_Seats : Cls K C) (nR : NoAttr K C "seat_rows") (B : Bl mg) (m_Seats_things : Mt P w K mg base C 1 "things" ["self"] (spThingsS C))
    (kn_seated : Kn P w K mg base 15 "seated" ["rows", "heap"] (spSeated K)) : Mt P w K mg base C 16 "whole" ["self"] (spWholeS C) := by
  refine mt_of h scWholeS (fun _ _ _ _ _ _ us hl => match us, hl with | [_], _ => rfl) (fun vs H Q E h => ?_) (fun f cdv A outer s H vs Q E hr h => ?_)
  · obtain ⟨y, n, rows, rfl, _⟩ := h
    rfl
  · obtain ⟨y, n, rows, rfl, ⟨dx, t, xs, hy, h2, h3⟩, r1, n12, dom, q⟩ := h
    refine ⟨_, (pss_one (ps_ret (pe_callB call_lenD (by rfl) B.len (by decide +kernel) (pa_cons (pe_kn kn_seated hr (by decide) (by rfl) (pa_cons (pe_fld (pv 0) rfl) (pa_cons (pe_mth0 (pv 0) cl_Seats m_Seats_things hr (by decide)) pa_nil))) pa_nil)))), ?_⟩
    refine ⟨.ref y, rfl, y, C, dx, _, _, rfl, hy, cl_Seats, nR, lk_sr n t, .ref y, rfl, y, dx, _, rfl, hy, lk_seatN (by decide +kernel) (by decide +kernel), y, n, rows, rfl, ⟨dx, t, xs, hy, h2, h3⟩, r1, fun r H1 nr e1 => ?_⟩
    subst e1
    have s1 := same_new (o := .lst (nums (upTo rows.length))) nr
    refine ⟨t, r, xs, rows, upTo rows.length, n, rfl, .inl (.inl (s1 _ _ h2)), h3.more (Tups.same s1), upd_same, range_hp _, r1, n12, dom, fun S m H2 nS s2 hS tb => ?_⟩
    refine ⟨S, _, rfl, hS, ?_⟩
    rw [enc, List.length_map]
    exact q m.length H2 tb.done (s1.trans s2)
end
end Nal

namespace Nal
open PySem PySem.Spec PyProof.Rows L2 LamX NdefX
theorem Pot.tups {H H' : Hp} {p : Addr} (h : Pot H p) (k : Keep p H H') : Tups H H' := by
  obtain ⟨x, b, hx, _⟩ := h
  exact Tups.keep hx k
theorem tups_lst {H : Hp} {a : Addr} {xs ys : List V} (h : H a = some (.lst xs)) : Tups H (upd H a (.lst ys)) := fun b zs e => by
  rw [upd_ne (ne_of e h (by intro z; cases z))]
  exact e
theorem Tabs.keep {T : List (Addr × Str)} {p : Addr} {H H' : Hp} {xs : List V} (t : Tabs T H) (hp : H p = some (.lst xs)) (k : Keep p H H') : Tabs T H' := fun q hq => by
  obtain ⟨ps, a1, a2, a3⟩ := t q hq
  refine ⟨ps, k _ _ (ne_of a1 hp (by intro z; cases z)) a1, a2, fun pos cv hcv => ?_⟩
  obtain ⟨c0, e1, e3⟩ := a3 pos cv hcv
  exact ⟨c0, e1, k _ _ (ne_of e3 hp (by intro z; unfold CodeO at z; cases z)) e3⟩
theorem Pot.tabs {T : List (Addr × Str)} {p : Addr} {H H' : Hp} (h : Pot H p) (t : Tabs T H) (k : Keep p H H') : Tabs T H' := by
  obtain ⟨x, b, hx, _⟩ := h
  exact Tabs.keep t hx k
/-- from H to H' all but p stays, tables may grow -/
def Evo (p : Addr) (H H' : Hp) : Prop := ∀ b o, b ≠ p → H b = some o → (∀ ps, o ≠ .tbl ps) → H' b = some o
theorem Evo.ofKeep {p : Addr} {H H' : Hp} (k : Keep p H H') : Evo p H H' := fun b o n e _ => k b o n e
theorem Evo.ofExt {p : Addr} {H H' : Hp} (k : ExtN H H') : Evo p H H' := fun b o _ e n => k b o e n
theorem Evo.trans {p : Addr} {H H1 H2 : Hp} (a : Evo p H H1) (b : Evo p H1 H2) : Evo p H H2 := fun c o n e nt => b c o n (a c o n e nt) nt
/-- what stays where a yard may have been made -/
theorem made_ext {H1 H' : Hp} {x dx C : Addr} (nx : H1 x = none) (nd : H1 dx = none) (ne : dx ≠ x)
    (h : ∀ b o, b ≠ x → upd (upd H1 dx (.own x)) x (.ins C dx []) b = some o → (∀ ps, o ≠ .tbl ps) → H' b = some o) : ExtN H1 H' := by
  refine fun b o e nt => ?_
  have bx := ne_of_none e nx
  have bd := ne_of_none e nd
  refine h b o bx ?_ nt
  rw [upd_ne bx, upd_ne bd]
  exact e
theorem made_tabs {T : List (Addr × Str)} {H1 : Hp} {x dx C : Addr} (t : Tabs T H1) (nx : H1 x = none) (nd : H1 dx = none) : Tabs T (upd (upd H1 dx (.own x)) x (.ins C dx [])) := by
  refine t.ext fun b o e => ?_
  rw [upd_ne (ne_of_none e nx), upd_ne (ne_of_none e nd)]
  exact e
theorem made_at {H1 : Hp} {x dx C b : Addr} {o : HO} (nx : H1 x = none) (nd : H1 dx = none) (e : H1 b = some o) : upd (upd H1 dx (.own x)) x (.ins C dx []) b = some o := by
  rw [upd_ne (ne_of_none e nx), upd_ne (ne_of_none e nd)]
  exact e
theorem Pot.ext {H H' : Hp} {p : Addr} (h : Pot H p) (e : ExtN H H') : Pot H' p := h.at (q := p) fun o ho => by
  obtain ⟨x, b, hx, _⟩ := h
  rw [hx] at ho
  cases ho
  exact e _ _ hx (fun _ z => by cases z)
theorem upTo_at {m j : Nat} (h : j < m) : (upTo m)[j]? = some (j : Int) := by
  rw [List.getElem?_map, List.getElem?_range h]
  rfl
theorem upTo_take (m : Nat) : (upTo m).take m = upTo m := List.take_of_length_le (by rw [List.length_map, List.length_range]; exact Nat.le_refl _)
theorem mem_upTo {m : Nat} {z : Int} : z ∈ upTo m ↔ 0 ≤ z ∧ z < (m : Int) := by
  rw [List.mem_map]
  constructor
  · rintro ⟨i, hi, rfl⟩
    have := List.mem_range.mp hi
    omega
  · rintro ⟨a, b⟩
    exact ⟨z.toNat, List.mem_range.mpr (by omega), by omega⟩
theorem filt_len (p : Int → Bool) (l : List Int) (i : Nat) : ((l.take i).filter p).length ≤ l.length := Nat.le_trans (List.length_filter_le _ _) (List.length_take_le' _ _)
theorem upTo_len (m : Nat) : (upTo m).length = m := by rw [List.length_map, List.length_range]
theorem hp_filter {m : Int} {ns : List Int} (h : IsHp m ns) (p : Int → Bool) : IsHp m (ns.filter p) := ⟨h.1.filter _, fun z hz => h.2 z (List.mem_filter.mp hz).1⟩
theorem sq_ext {K : PySem.W.Frag} {H H' : Hp} {a : Addr} {xs : List V} (h : SqL K H a xs) (e : ExtN H H') : SqL K H' a xs := by
  rcases h with (h | ⟨o, h⟩) | h
  · exact .inl (.inl (e _ _ h (fun _ z => by cases z)))
  · exact .inl (.inr ⟨o, e _ _ h (fun _ z => by cases z)⟩)
  · exact .inr h
/-- the script, whatever else is done -/
def Scr (K : PySem.W.Frag) (H : Hp) (p a : Addr) (xs : List V) : Prop := (a ≠ p ∧ ∃ o, H a = some o ∧ (∀ ps, o ≠ .tbl ps) ∧ (o = .lst xs ∨ ∃ ob, o = .frz ob (.lst xs))) ∨ (∀ H' : Hp, SqL K H' a xs)
theorem Scr.of {K : PySem.W.Frag} {H H' : Hp} {p a : Addr} {xs : List V} (h : SqL K H a xs) (n : H p = none) (s : Same H H') : Scr K H' p a xs := by
  rcases h with (h | ⟨o, h⟩) | h
  · exact .inl ⟨ne_of_none h n, _, s _ _ h, (fun _ z => by cases z), .inl rfl⟩
  · exact .inl ⟨ne_of_none h n, _, s _ _ h, (fun _ z => by cases z), .inr ⟨o, rfl⟩⟩
  · exact .inr fun H' => .inr h
theorem Scr.evo {K : PySem.W.Frag} {H H' : Hp} {p a : Addr} {xs : List V} (h : Scr K H p a xs) (e : Evo p H H') : Scr K H' p a xs := by
  rcases h with ⟨n, o, h, nt, f⟩ | h
  · exact .inl ⟨n, o, e _ _ n h nt, nt, f⟩
  · exact .inr h
theorem Scr.sq {K : PySem.W.Frag} {H : Hp} {p a : Addr} {xs : List V} (h : Scr K H p a xs) : SqL K H a xs := by
  rcases h with ⟨n, o, h, nt, rfl | ⟨ob, rfl⟩⟩ | h
  · exact .inl (.inl h)
  · exact .inl (.inr ⟨ob, h⟩)
  · exact h H
theorem nums_snoc (l : List Int) (x : Int) : nums l ++ [V.int x] = nums (l ++ [x]) := by
  unfold nums
  rw [List.map_append]
  rfl
theorem filt_yes {l : List Int} {p : Int → Bool} {i : Nat} {z : Int} (h : l[i]? = some z) (c : p z = true) : (l.take (i + 1)).filter p = (l.take i).filter p ++ [z] := by
  rw [take_snoc h, List.filter_append]
  simp [c]
theorem filt_no {l : List Int} {p : Int → Bool} {i : Nat} {z : Int} (h : l[i]? = some z) (c : p z = false) : (l.take (i + 1)).filter p = (l.take i).filter p := by
  rw [take_snoc h, List.filter_append]
  simp [c]
theorem rep_all (n : Nat) : (List.replicate n true).all id = true := by
  rw [List.all_eq_true]
  intro b hb
  exact List.eq_of_mem_replicate hb
end Nal

namespace Nal
open PySem PySem.Spec PyProof.Rows L2 LamX NdefX
/-- of each some partner: partners in a row -/
theorem pd_choose {α β : Type} {R : α → β → Prop} : ∀ {xs : List α}, (∀ x ∈ xs, ∃ t, R x t) → ∃ ts, Paired R xs ts
  | [], _ => ⟨[], .nil⟩
  | x :: xs, h => by
    obtain ⟨t, ht⟩ := h x List.mem_cons_self
    obtain ⟨ts, hts⟩ := pd_choose fun y hy => h y (List.mem_cons_of_mem _ hy)
    exact ⟨t :: ts, .cons ht hts⟩
theorem pd_right {α β : Type} {R : α → β → Prop} : ∀ {xs : List α} {ts : List β}, Paired R xs ts → ∀ t ∈ ts, ∃ x ∈ xs, R x t
  | _, _, .nil, t, h => (nomatch h)
  | _, _, .cons r q, t, h => by
    rcases List.mem_cons.mp h with rfl | h
    · exact ⟨_, List.mem_cons_self, r⟩
    · obtain ⟨x, hx, z⟩ := pd_right q t h
      exact ⟨x, List.mem_cons_of_mem _ hx, z⟩
theorem pd_mapMem {α β : Type} {R R' : α → β → Prop} : ∀ {xs : List α} {ts : List β}, Paired R xs ts → (∀ x ∈ xs, ∀ t, R x t → R' x t) → Paired R' xs ts
  | _, _, .nil, _ => .nil
  | _, _, .cons r q, h => .cons (h _ List.mem_cons_self _ r) (pd_mapMem q fun x hx => h x (List.mem_cons_of_mem _ hx))
/-- seats of a thing, told as a list that isn't the pot -/
def RowAtG (g : Addr) (H : Hp) (x : V) (r : List Nat) : Prop := ∃ b, b ≠ g ∧ x = .ref b ∧ H b = some (.lst (nats r))
abbrev RowsAtG (g : Addr) (H : Hp) : List V → List (List Nat) → Prop := Paired (RowAtG g H)
theorem RowAtG.keep {g : Addr} {H H' : Hp} {x : V} {r : List Nat} (h : RowAtG g H x r) (k : Keep g H H') : RowAtG g H' x r := by
  obtain ⟨b, n, e, hb⟩ := h
  exact ⟨b, n, e, k _ _ n hb⟩
theorem RowsAtG.keep {g : Addr} {H H' : Hp} {xs : List V} {rs : List (List Nat)} (h : RowsAtG g H xs rs) (k : Keep g H H') : RowsAtG g H' xs rs := Paired.mapP h fun _ _ z => z.keep k
theorem RowsAtG.plain {g : Addr} {H : Hp} {xs : List V} {rs : List (List Nat)} (h : RowsAtG g H xs rs) : RowsAtL H xs rs := Paired.mapP h fun _ _ ⟨b, _, e, hb⟩ => ⟨b, e, hb⟩
theorem RowOk.rev {n : Nat} {r : List Nat} (h : RowOk n r) : RowOk n r.reverse := ⟨List.pairwise_reverse.mpr (h.1.imp fun h => Ne.symm h), fun s hs => h.2 s (List.mem_reverse.mp hs)⟩
theorem RowOk.cut {n : Nat} (p : Nat → Bool) (i : Nat) (hi : i ≤ n) : RowOk n ((List.range i).filter p) := ⟨List.nodup_range.filter _, fun s hs => by
  have := List.mem_range.mp (List.mem_filter.mp hs).1
  omega⟩
theorem nats_snoc (l : List Nat) (x : Nat) : nats l ++ [V.int (x : Int)] = nats (l ++ [x]) := by
  unfold nats
  rw [List.map_append]
  rfl
theorem inV_nums (q : Int) (l : List Int) : inV (.int q) (nums l) = decide (q ∈ l) := by
  unfold inV nums
  rw [List.any_map]
  by_cases c : q ∈ l
  · rw [decide_eq_true c, List.any_eq_true]
    exact ⟨q, c, by show (q == q) = true; exact beq_self_eq_true _⟩
  · rw [decide_eq_false c, List.any_eq_false]
    intro y hy e
    have e2 : (y == q) = true := e
    have e3 : y = q := eq_of_beq e2
    rw [e3] at hy
    exact c hy
theorem flat_nums (l : List Int) : (nums l).all flatV = true := by
  unfold nums
  rw [List.all_map, List.all_eq_true]
  intro x _
  rfl
theorem inV_nats (q : Nat) (l : List Nat) : inV (.int (q : Int)) (nats l) = decide (q ∈ l) := by
  rw [nats_nums, inV_nums]
  congr 1
  rw [List.mem_map]
  exact propext ⟨fun ⟨a, ha, e⟩ => by
    have : a = q := by omega
    rw [← this]
    exact ha, fun h => ⟨q, h, rfl⟩⟩
theorem flat_nats (l : List Nat) : (nats l).all flatV = true := by
  rw [nats_nums]
  exact flat_nums _
theorem Keep2.rows {S T : Addr} {H H' : Hp} {a : List (Key × V)} {xs : List V} {rs : List (List Nat)} (k : Keep2 S T H H') (hS : H S = some (.dK a)) (h : RowsAtG T H xs rs) : RowsAtG T H' xs rs :=
  Paired.mapP h fun _ _ ⟨b, n, e, hb⟩ => ⟨b, n, e, k _ _ (ne_of hb hS (by intro z; cases z)) n hb⟩
theorem rows_row {T : Addr} {H : Hp} {xs : List V} {rows : List (List Nat)} {x : Int} (hX : RowsAtG T H xs rows) (x0 : 0 ≤ x) (x1 : x < (rows.length : Int)) : ∃ b, atI xs x = some (.ref b) ∧ b ≠ T ∧ H b = some (.lst (nats (seatsOf rows x))) := by
  have hl : x.toNat < xs.length := by
    have := Paired.length hX
    omega
  obtain ⟨r, hr, b, n, e, hb⟩ := pd_at hX (List.getElem?_eq_getElem hl)
  have e2 := seats_at x0 x1
  rw [hr] at e2
  rw [Option.some.inj e2] at hb
  exact ⟨b, atI_of x0 (by rw [List.getElem?_eq_getElem hl, e]), n, hb⟩
section
variable {P : Program} {w : World} {K : PySem.W.Frag} {mg : Str → Option Value} {base : Heap}
def spFinds (d : Nat) : Sp := fun vs H Q _ => ∃ (R S T : Addr) (x : Int) (xs : List V) (rows : List (List Nat)) (m : St.Tb) (E tr : List Nat) (n : Nat), vs = [.int x, .ref R, .ref S, .ref T] ∧
  H R = some (.lst xs) ∧ R ≠ T ∧ RowsAtG T H xs rows ∧ 0 ≤ x ∧ x < (rows.length : Int) ∧ H S = some (.dK (enc m)) ∧ H T = some (.lst (nats tr)) ∧ m.length ≤ 1000 ∧ n ≤ 1000 ∧ (∀ r ∈ rows, ∀ s ∈ r, s < n) ∧ n < tr.length + d ∧ St.Tried n tr ∧
  St.Run (seatsOf rows) m E ∧ (∀ u, u ∉ E → St.look m u ≠ some x) ∧ (∀ u ∈ E, u ∈ tr) ∧ Valid rows m ∧
  (∀ (m' : St.Tb) (tr' : List Nat) (H' : Hp), St.Won (seatsOf rows) m E x tr m' → Valid rows m' → Keep2 S T H H' → H' S = some (.dK (enc m')) → H' T = some (.lst (nats tr')) → Q (.bl true) H') ∧
  (∀ (tr' : List Nat) (H' : Hp), St.Lost (seatsOf rows) m tr (seatsOf rows x) tr' → St.Tried n tr' → Keep2 S T H H' → H' S = some (.dK (enc m)) → H' T = some (.lst (nats tr')) → Q (.bl false) H')
theorem scFinds : FnScope ["_law_thing", "_law_rows", "_law_sits", "_law_tried", "_law_seat"] ["_law_thing", "_law_rows", "_law_sits", "_law_tried"] (defScope tp26) := ⟨rfl, rfl, rfl, by decide +kernel, rfl, by decide +kernel, by decide +kernel⟩
theorem kn_finds (h : At K mg "_law_finds" tp26) (B : Bl mg) : ∀ d : Nat, Kn P w K mg base (d + 1) "_law_finds" ["_law_thing", "_law_rows", "_law_sits", "_law_tried"] (spFinds d)
  | 0 => by
    refine kn_of h scFinds (fun _ _ _ _ _ _ us hl => match us, hl with | [_, _, _, _], _ => rfl) (fun vs H Q E h => ?_) (fun f cdv A outer s H vs Q E hr h => ?_)
    · obtain ⟨R, S, T, x, xs, rows, m, E', tr, n, rfl, _⟩ := h
      rfl
    · obtain ⟨R, S, T, x, xs, rows, m, E', tr, n, rfl, _, _, _, _, _, _, _, _, _, _, lt, td, _⟩ := h
      have := td.len
      omega
  | d + 1 => by
    have kn__law_finds : Kn P w K mg base (d + 1) "_law_finds" ["_law_thing", "_law_rows", "_law_sits", "_law_tried"] (spFinds d) := kn_finds h B d
    refine kn_of h scFinds (fun _ _ _ _ _ _ us hl => match us, hl with | [_, _, _, _], _ => rfl) (fun vs H Q E h => ?_) (fun f cdv A outer s H vs Q E hr h => ?_)
    · obtain ⟨R, S, T, x, xs, rows, m, E', tr, n, rfl, _⟩ := h
      rfl
    · obtain ⟨R, S, T, x, xs, rows, m, E', tr, n, rfl, hR, RT, hX, x0, x1, hS, hT, ml, n1, dom, lt, td, run, hx, hE, va, yes, no⟩ := h
      refine ⟨_, (pss_cons (ps_for PassesOwn.never rfl (pi_list (pe_ix (kix_list K) (pv 1) (pv 0) (fun _ _ => rfl))) (pg_name (i := 4) scFinds.nd rfl (Or.inl rfl))
        (pss_one (ps_if (pt_cmpR (kop_notin K) (pv 4) (pv 3) (by rfl)) (pss_cons (ps_expr (pe_bm PySem.F.plainAttrs_list PySem.F.slot_list_append PySem.F.type_list_append mt_append (pv 3) (pa_cons (pv 4) pa_nil)))
      (pss_one (ps_if (PW.pt (pw_or (pt_cmp (pc_dnotin (hu_of hr) (pv 4) (pv 2))) (pw_or1 (pt_val (pe_kn kn__law_finds hr (Nat.le_refl _) (by rfl) (pa_cons (pe_dget (hu_of hr) (pv 2) (pv 4) (fun _ _ => rfl)) (pa_cons (pv 1) (pa_cons (pv 2) (pa_cons (pv 3) pa_nil))))))))) (pss_cons (ps_dput (hu_of hr) (pv 2) (pv 4) (pv 0) rfl)
      (pss_one (ps_ret pe_bl))) pss_nil))) pss_nil)))
      (pss_one (ps_ret pe_bl))), ?_⟩
      obtain ⟨b, hb, bT, hbt⟩ := rows_row hX x0 x1
      have domx : ∀ s ∈ seatsOf rows x, s < n := dom _ (List.mem_of_getElem? (seats_at x0 x1))
      have bS : b ≠ S := ne_of hbt hS (by intro z; cases z)
      have RS : R ≠ S := ne_of hR hS (by intro z; cases z)
      have ne : S ≠ T := ne_of hS hT (by intro z; cases z)
      refine ⟨.ref R, rfl, .int x, rfl, R, xs, x, _, rfl, rfl, SqL.of hR, hb, b, rfl, ⟨_, SqL.of hbt⟩, for_list (K := K) (a := b) (xs := nats (seatsOf rows x)) (fun i σ H' => ∃ (v4 : Option V) (tr1 : List Nat), σ = [some (.int x), some (.ref R), some (.ref S), some (.ref T), v4] ∧
        St.Lost (seatsOf rows) m tr ((seatsOf rows x).take i) tr1 ∧ St.Tried n tr1 ∧ tr.length ≤ tr1.length ∧ Keep2 S T H H' ∧ H' S = some (.dK (enc m)) ∧ H' T = some (.lst (nats tr1)))
        ⟨none, tr, rfl, St.Lost.start, td, Nat.le_refl _, Keep2.refl _ _ _, hS, hT⟩ (fun i σ H' _ ⟨_, _, _, _, _, _, kp, _, _⟩ => SqL.of (kp _ _ bS bT hbt)) ?_ ?_⟩
      · rintro i y σ H' hi ⟨v4, tr1, rfl, lo, td1, tl, kp, hS1, hT1⟩
        obtain ⟨s, hs, rfl⟩ := nats_at hi
        have sN : s ∈ seatsOf rows x := List.mem_of_getElem? hs
        have et : (seatsOf rows x).take (i + 1) = (seatsOf rows x).take i ++ [s] := take_snoc hs
        have tlen := td1.len
        refine ⟨.int (s : Int), rfl, .ref T, rfl, T, _, rfl, .inl (SqL.of hT1), rfl, flat_nats _, _, rfl, ?_⟩
        rw [inV_nats]
        by_cases c : s ∈ tr1
        · rw [decide_eq_true c]
          refine iteF ⟨_, tr1, rfl, ?_, td1, tl, kp, hS1, hT1⟩
          rw [et]
          exact lo.seen c
        · rw [decide_eq_false c]
          have td2 := td1.snoc c (domx s sN)
          have ll : (tr1 ++ [s]).length = tr1.length + 1 := by rw [List.length_append]; rfl
          have E1 : ∀ u ∈ E', u ∈ tr1 := fun u hu => lo.sub u (hE u hu)
          refine iteT ⟨.ref T, rfl, .inl ⟨rfl, _, SqL.of hT1⟩, .int (s : Int), rfl, T, _, _, rfl, rfl, hT1, by rw [List.length_map, sizeLine_eq]; omega, ?_⟩
          have kp2 : Keep2 S T H (upd H' T (.lst (nats tr1 ++ [V.int (s : Int)]))) := kp.trans Keep2.up'
          have hS2 : (upd H' T (.lst (nats tr1 ++ [V.int (s : Int)]))) S = some (.dK (enc m)) := by rw [upd_ne ne]; exact hS1
          have hT2 : (upd H' T (.lst (nats tr1 ++ [V.int (s : Int)]))) T = some (.lst (nats (tr1 ++ [s]))) := by rw [upd_same, nats_snoc]
          generalize upd H' T (.lst (nats tr1 ++ [V.int (s : Int)])) = H2 at kp2 hS2 hT2
          refine ⟨.int (s : Int), rfl, .ref S, rfl, S, _, rfl, DGet.k (k := Sum.inl (s : Int)) hS2, _, rfl, ?_⟩
          rw [enc_val]
          cases q : St.look m s with
          | none =>
            have won := (St.won_free run hx E1 c sN q).less lo.sub
            refine iteT ⟨_, rfl, .ref S, rfl, .int (s : Int), rfl, S, _, rfl, DPut.k (k := Sum.inl (s : Int)) hS2 (by rw [enc, List.length_map, sizeLine_eq]; omega), ?_⟩
            rw [enc_put]
            exact yes _ _ _ won (won_valid won hE ⟨x0, x1⟩ va) (kp2.trans Keep2.up) upd_same (by rw [upd_ne ne.symm]; exact hT2)
          | some z =>
            have vz := va s z q
            have sE : s ∉ E' := fun w => c (E1 s w)
            have r2 : St.Run (seatsOf rows) m (s :: E') := ⟨run.nd, fun u v hu => run.fit u v fun z => hu (List.mem_cons_of_mem _ z), fun u v w hu hv => run.inj u v w (fun z => hu (List.mem_cons_of_mem _ z)) fun z => hv (List.mem_cons_of_mem _ z)⟩
            refine iteF ⟨.ref S, rfl, .int (s : Int), rfl, S, .int z, rfl, ?_, .ref R, rfl, .ref S, rfl, .ref T, rfl, ?_⟩
            · have g := DGet.k (k := Sum.inl (s : Int)) hS2
              rw [enc_val, q] at g
              exact g
            refine ⟨R, S, T, z, xs, rows, m, s :: E', tr1 ++ [s], n, rfl, kp2 _ _ RS RT hR, RT, kp2.rows hS hX, vz.1, vz.2, hS2, hT2, ml, n1, dom, by omega, td2, r2, fun u hu e => hu ?_, fun u hu => ?_, va, fun m' tr' H3 won va' kp3 hS3 hT3 => ?_, fun tr' H3 lo' td' kp3 hS3 hT3 => ?_⟩
            · rw [run.inj u s z (fun z => hu (List.mem_cons_of_mem _ z)) sE e q]
              exact List.mem_cons_self
            · exact (List.mem_cons.mp hu).elim (fun z => by rw [z]; exact List.mem_append_right _ (List.mem_singleton.mpr rfl)) fun z => List.mem_append_left _ (E1 u z)
            · have won2 := (St.won_deep run hx E1 c sN q won).less lo.sub
              have m1 := won.len
              refine ⟨true, rfl, iteT ⟨_, rfl, .ref S, rfl, .int (s : Int), rfl, S, _, rfl, DPut.k (k := Sum.inl (s : Int)) hS3 (by rw [enc, List.length_map, sizeLine_eq]; omega), ?_⟩⟩
              rw [enc_put]
              exact yes _ _ _ won2 (won_valid won2 hE ⟨x0, x1⟩ va) ((kp2.trans kp3).trans Keep2.up) upd_same (by rw [upd_ne ne.symm]; exact hT3)
            · refine ⟨false, rfl, iteF ⟨_, tr', rfl, ?_, td', ?_, kp2.trans kp3, hS3, hT3⟩⟩
              · rw [et]
                exact lo.deep q lo'
              · have := St.inj_le (S := tr1 ++ [s]) (U := tr') (fun a b => a = b) td2.nd (fun u hu => ⟨u, lo'.sub u hu, rfl⟩) fun s _ t _ u a b => a.trans b.symm
                omega
      · rintro σ H' ⟨v4, tr1, rfl, lo, td1, tl, kp, hS1, hT1⟩
        have e1 : (seatsOf rows x).take (nats (seatsOf rows x)).length = seatsOf rows x := List.take_of_length_le (by rw [List.length_map]; exact Nat.le_refl _)
        rw [e1] at lo
        exact no tr1 H' lo td1 kp hS1 hT1
end
end Nal

namespace Nal
open PySem PySem.Spec PyProof.Rows L2 LamX NdefX
/-- a heap as a new list -/
def HpN (H0 H : Hp) (x : V) (s : List Int) : Prop := ∃ b, H0 b = none ∧ x = .ref b ∧ H b = some (.lst (nums s))
abbrev HpsN (H0 H : Hp) : List V → List (List Int) → Prop := Paired (HpN H0 H)
theorem HpsN.same {H0 H H' : Hp} {xs : List V} {ss : List (List Int)} (h : HpsN H0 H xs ss) (s : Same H H') : HpsN H0 H' xs ss := Paired.mapP h fun _ _ ⟨b, n, e, hb⟩ => ⟨b, n, e, s _ _ hb⟩
theorem HpsN.keep {H0 H H' : Hp} {p : Addr} {o : HO} {xs : List V} {ss : List (List Int)} (h : HpsN H0 H xs ss) (hp : H0 p = some o) (k : Keep p H H') : HpsN H0 H' xs ss := Paired.mapP h fun _ _ ⟨b, n, e, hb⟩ => ⟨b, n, e, k _ _ (fun z => by rw [z, hp] at n; cases n) hb⟩
theorem pd_append {α β : Type} {R : α → β → Prop} : ∀ {xs ys : List α} {ts us : List β}, Paired R xs ts → Paired R ys us → Paired R (xs ++ ys) (ts ++ us)
  | _, _, _, _, .nil, h => h
  | _, _, _, _, .cons r q, h => .cons r (pd_append q h)
theorem pd_mapMem' {α β : Type} {R R' : α → β → Prop} : ∀ {xs : List α} {ts : List β}, Paired R xs ts → (∀ x ∈ xs, ∀ t, R x t → R' x t) → Paired R' xs ts
  | _, _, .nil, _ => .nil
  | _, _, .cons r q, h => .cons (h _ List.mem_cons_self _ r) (pd_mapMem' q fun x hx => h x (List.mem_cons_of_mem _ hx))
theorem pow_le8 {i : Nat} (h : i ≤ 8) : 2 ^ i ≤ 256 := by
  have := Nat.pow_le_pow_right (n := 2) (by decide) h
  exact this
section
variable {P : Program} {w : World} {K : PySem.W.Frag} {mg : Str → Option Value} {base : Heap}
def spHeapsOf (K : PySem.W.Frag) : Sp := fun vs H Q _ => ∃ (l : Addr) (ns : List Int), vs = [.ref l] ∧ SqL K H l (nums ns) ∧ ns.length ≤ 8 ∧
  ∀ (r : Addr) (xs : List V) (H' : Hp), H r = none → Same H H' → H' r = some (.lst xs) → HpsN H H' xs (Rk.subs ns) → Q (.ref r) H'
theorem scHeapsOf : FnScope ["_law_some", "_law_found", "_law_thing", "_law_heap"] ["_law_some"] (defScope tp24) := ⟨rfl, rfl, rfl, by decide +kernel, rfl, by decide +kernel, by decide +kernel⟩
theorem kn_heaps_of (h : At K mg "_law_parts" tp24) (B : Bl mg) : Kn P w K mg base 1 "_law_parts" ["_law_some"] (spHeapsOf K) := by
  refine kn_of h scHeapsOf (fun _ _ _ _ _ _ us hl => match us, hl with | [_], _ => rfl) (fun vs H Q E h => ?_) (fun f cdv A outer s H vs Q E hr h => ?_)
  · obtain ⟨l, ns, rfl, _⟩ := h
    rfl
  · obtain ⟨l, ns, rfl, hS, l8, q⟩ := h
    refine ⟨_, (pss_cons (ps_set (i := 1) scHeapsOf.nd rfl (Or.inl rfl) (pe_lst (pa_cons (pe_lst pa_nil) pa_nil)))
      (pss_cons (ps_for PassesOwn.never rfl (pi_list (pv 0)) (pg_name (i := 2) scHeapsOf.nd rfl (Or.inr rfl))
        (pss_one (ps_set (i := 1) scHeapsOf.nd rfl (Or.inl rfl) (pe_op op_cat (pv 1) (pe_lc (own := [("_law_heap", 3)]) (g := gName 3) (tt := tYes)  rfl scHeapsOf.nd (pi_list (pv 1)) (blkOk_by (own := [("_law_heap", 3)]) (N := ["_law_some", "_law_found", "_law_thing", "_law_heap"]) (sc := (defScope tp24)) (by decide +kernel)) (fun _ _ _ _ _ => pg_name (i := 3) scHeapsOf.nd rfl (Or.inl rfl)) (fun _ _ _ _ _ => pts_nil) (fun _ _ _ _ _ => (pe_op op_cat (pv 3) (pe_lst (pa_cons (pv 2) pa_nil)))))))))
      (pss_one (ps_ret (pv 1))))), ?_⟩
    refine ⟨Nat.zero_le _, fun e ne => ⟨(by show 1 ≤ sizeLine; decide), fun a na => ?_⟩⟩
    obtain ⟨nae, na0⟩ := new_ne na
    have se := same_new (o := .lst []) ne
    have sa := same_new (o := .lst [V.ref e]) na
    refine ⟨.ref l, rfl, l, rfl, ⟨_, (se.trans sa).seq hS⟩, for_list (K := K) (a := l) (xs := nums ns) (fun i σ H' => ∃ (v2 v3 : Option V) (b : Addr) (xs : List V), σ = [some (.ref l), some (.ref b), v2, v3] ∧ H b = none ∧ H' b = some (.lst xs) ∧ HpsN H H' xs (Rk.subs (ns.take i)) ∧ Same H H')
      ⟨none, none, a, [.ref e], rfl, na0, upd_same, .cons ⟨e, ne, rfl, sa _ _ upd_same⟩ .nil, se.trans sa⟩ (fun i σ H' _ ⟨_, _, _, _, _, _, _, _, sm⟩ => sm.seq hS) ?_ ?_⟩
    · rintro i y σ H' hi ⟨v2, v3, b, xs, rfl, nb, hb, hX, sm⟩
      obtain ⟨z, hz, rfl⟩ := nums_at hi
      have il : i < ns.length := (List.getElem?_eq_some_iff.mp hz).1
      have et : ns.take (i + 1) = ns.take i ++ [z] := take_snoc hz
      have xl : xs.length = 2 ^ i := by
        rw [Paired.length hX, Rk.subs_len, List.length_take, Nat.min_eq_left (by omega)]
      have pw := pow_le8 (show i ≤ 8 by omega)
      refine ⟨.ref b, rfl, .ref b, rfl, b, rfl, ⟨_, SqL.of hb⟩, fun D hD => lc_list (K := K) (a := b) (xs := xs) (fun j H2 => ∃ ys : List V, H2 D = some (.lst ys) ∧ ys.length = j ∧ (∀ c, .ref c ∈ ys → c ≠ D) ∧ HpsN H H2 ys (((Rk.subs (ns.take i)).map (· ++ [z])).take j) ∧ Same H' H2) ⟨[], upd_same, rfl, fun c hc => (nomatch hc), .nil, same_new hD⟩
        (fun j H2 _ ⟨_, _, _, _, _, s2⟩ => s2.seq (SqL.of hb)) ?_ ?_⟩
      · rintro j x H2 hj ⟨ys, hd, ly, nD, hY, s2⟩
        obtain ⟨s, hs, c, nc, rfl, hc⟩ := pd_at hX hj
        have jl : j < xs.length := (List.getElem?_eq_some_iff.mp hj).1
        have sl : s.length ≤ ns.length := by
          have h1 := (Rk.subs_sub (List.mem_of_getElem? hs)).length_le
          have h2 := List.length_take_le' i ns
          omega
        refine ⟨rfl, ?_⟩
        refine ⟨.ref c, rfl, _, rfl, (by show 1 ≤ sizeLine; decide), fun t nt => ?_⟩
        have st := same_new (o := .lst [V.int z]) nt
        refine ⟨c, t, _, _, rfl, rfl, st _ _ (s2 _ _ hc), upd_same, ?_, fun u nu => ?_⟩
        · rw [List.length_map, sizeLine_eq]
          show s.length + 1 ≤ _
          omega
        have su := same_new (o := .lst (nums s ++ [V.int z])) nu
        have s3 := st.trans su
        have hu : (upd (upd H2 t (.lst [V.int z])) u (.lst (nums s ++ [V.int z]))) u = some (.lst (nums (s ++ [z]))) := by rw [upd_same, nums_snoc]
        have Du : D ≠ u := ne_of_none (st _ _ hd) nu
        have nu0 : H u = none := (sm.trans (s2.trans st)).free nu
        generalize upd (upd H2 t (.lst [V.int z])) u (.lst (nums s ++ [V.int z])) = H3 at s3 hu su
        refine ⟨ys, s3 _ _ hd, by rw [sizeLine_eq]; omega, ys ++ [.ref u], upd_same, by rw [List.length_append, ly]; rfl, fun c hc => ?_, ?_, fun c o e => ?_⟩
        · rcases List.mem_append.mp hc with w | w
          · exact nD c w
          · rw [V.ref.inj (List.mem_singleton.mp w)]
            exact Du.symm
        · have e : ((Rk.subs (ns.take i)).map (· ++ [z]))[j]? = some (s ++ [z]) := by rw [List.getElem?_map, hs]; rfl
          rw [take_snoc e]
          refine pd_snoc (pd_mapMem' hY fun x hx r ⟨c, n, e, hc⟩ => ⟨c, n, e, ?_⟩) ⟨u, nu0, rfl, by rw [upd_ne Du.symm]; exact hu⟩
          rw [upd_ne (nD c (by rw [← e]; exact hx))]
          exact s3 _ _ hc
        · rw [upd_ne (ne_of_none e hD)]
          exact s3 _ _ (s2 _ _ e)
      · rintro H2 ⟨ys, hd, ly, nD, hY, s2⟩
        have e2 : ((Rk.subs (ns.take i)).map (· ++ [z])).take xs.length = (Rk.subs (ns.take i)).map (· ++ [z]) := List.take_of_length_le (by rw [List.length_map, Paired.length hX]; exact Nat.le_refl _)
        rw [e2] at hY
        refine ⟨b, D, _, _, rfl, rfl, s2 _ _ hb, hd, ?_, fun u nu => ?_⟩
        · rw [sizeLine_eq]
          omega
        · have su := same_new (o := .lst (xs ++ ys)) nu
          refine ⟨_, _, u, xs ++ ys, rfl, (sm.trans s2).free nu, upd_same, ?_, (sm.trans s2).trans su⟩
          rw [et, Rk.subs_snoc]
          exact pd_append (hX.same (s2.trans su)) (hY.same su)
    · rintro σ H' ⟨v2, v3, b, xs, rfl, nb, hb, hX, sm⟩
      have e1 : ns.take (nums ns).length = ns := List.take_of_length_le (by rw [List.length_map]; exact Nat.le_refl _)
      rw [e1] at hX
      exact ⟨.ref b, rfl, q b xs H' nb sm hb hX⟩
end
end Nal

namespace Nal
open PySem PySem.Spec PyProof.Rows L2 LamX NdefX
section
variable {P : Program} {w : World} {K : PySem.W.Frag} {mg : Str → Option Value} {base : Heap}
def spSeatedL : Sp := fun vs H Q _ => ∃ (R l : Addr) (xs : List V) (rows : List (List Nat)) (n : Nat) (ns : List Int), vs = [.ref R, .ref l] ∧ H R = some (.lst xs) ∧ RowsAtL H xs rows ∧ rows.length ≤ 24 ∧ n ≤ 12 ∧ (∀ r ∈ rows, ∀ s ∈ r, s < n) ∧ H l = some (.lst (nums ns)) ∧ IsHp rows.length ns ∧
  ∀ (k : Nat) (H' : Hp), St.SW (seatsOf rows) ns k → Same H H' → Q (.int (k : Int)) H'
theorem scSeatedL : FnScope ["_law_rows", "_law_heap", "_law_sits", "_law_thing"] ["_law_rows", "_law_heap"] (defScope tp27) := ⟨rfl, rfl, rfl, by decide +kernel, rfl, by decide +kernel, by decide +kernel⟩
theorem kn_seatedL (h : At K mg "_law_seated" tp27) (B : Bl mg) (kn__law_finds : Kn P w K mg base 14 "_law_finds" ["_law_thing", "_law_rows", "_law_sits", "_law_tried"] (spFinds 13)) : Kn P w K mg base 15 "_law_seated" ["_law_rows", "_law_heap"] spSeatedL := by
  refine kn_of h scSeatedL (fun _ _ _ _ _ _ us hl => match us, hl with | [_, _], _ => rfl) (fun vs H Q E h => ?_) (fun f cdv A outer s H vs Q E hr h => ?_)
  · obtain ⟨R, l, xs, rows, n, ns, rfl, _⟩ := h
    rfl
  · obtain ⟨R, l, xs, rows, n, ns, rfl, hR, hX, r24, n12, dom, hl, hp, q⟩ := h
    refine ⟨_, (pss_cons (ps_set (i := 2) scSeatedL.nd rfl (Or.inr rfl) pe_dnewK)
      (pss_one (ps_ret (pe_callB (kcall_len K) (by rfl) B.len (by decide +kernel) (pa_cons (pe_lc (own := [("_law_thing", 3)]) (g := gName 3)  rfl scSeatedL.nd (pi_list (pv 1)) (blkOk_by (own := [("_law_thing", 3)]) (N := ["_law_rows", "_law_heap", "_law_sits", "_law_thing"]) (sc := (defScope tp27)) (by decide +kernel)) (fun _ _ _ _ _ => pg_name (i := 3) scSeatedL.nd rfl (Or.inl rfl)) (fun _ _ _ _ _ => pts_one (pt_val (pe_kn kn__law_finds hr (by decide) (by rfl) (pa_cons (pv 3) (pa_cons (pv 0) (pa_cons (pv 2) (pa_cons (pe_lst pa_nil) pa_nil))))))) (fun _ _ _ _ _ => (pv 3))) pa_nil))))), ?_⟩
    have nl := hp.len
    refine fun S nS => ?_
    have sS := same_new (o := .dK []) nS
    refine ⟨.ref l, rfl, l, rfl, ⟨_, SqL.of (sS _ _ hl)⟩, fun D hD => lc_list (K := K) (a := l) (xs := nums ns) (fun i H' => ∃ (m : St.Tb) (zs : List Int), H' D = some (.lst (nums zs)) ∧ zs.length = m.length ∧ H' S = some (.dK (enc m)) ∧ Same H H' ∧ St.Table (seatsOf rows) (ns.take i) m ∧ Valid rows m ∧ m.length ≤ i)
      ⟨[], [], upd_same, rfl, (by have z : (upd H S (.dK [])) S = some (.dK []) := upd_same; rw [upd_ne (ne_of_none z hD)]; exact z), sS.trans (same_new hD), St.Table.start, fun s t h => (nomatch h), Nat.zero_le _⟩ (fun i H' _ ⟨_, _, _, _, _, sm, _⟩ => sm.seq (SqL.of hl)) ?_ ?_⟩
    · rintro i v H' hi ⟨m, zs, hd, lz, hS, sm, tb, va, ml⟩
      obtain ⟨x, hx, rfl⟩ := nums_at hi
      have xb := hp.2 x (List.mem_of_getElem? hx)
      have il : i < ns.length := (List.getElem?_eq_some_iff.mp hx).1
      have DS : D ≠ S := ne_of hd hS (by intro z; cases z)
      have nD : H D = none := sS.free hD
      refine ⟨rfl, ?_⟩
      refine ⟨.int x, rfl, .ref R, rfl, .ref S, rfl, Nat.zero_le _, fun T nT => ?_⟩
      have sT := same_new (o := .lst []) nT
      have s2 := sm.trans sT
      have DT : D ≠ T := ne_of_none hd nT
      have hX2 : RowsAtG T (upd H' T (.lst [])) xs rows := Paired.mapP hX fun _ _ ⟨b, e, hb⟩ => ⟨b, ne_of_none (sm _ _ hb) nT, e, s2 _ _ hb⟩
      have et : ns.take (i + 1) = ns.take i ++ [x] := take_snoc hx
      have xn : x ∉ ns.take i := fun z => by
        have nd := hp.1.sublist (List.take_sublist (i + 1) ns)
        rw [et] at nd
        exact (List.nodup_append.mp nd).2.2 _ z _ (List.mem_singleton.mpr rfl) rfl
      refine ⟨R, S, T, x, xs, rows, m, [], [], n, rfl, s2 _ _ hR, ne_of_none (sm _ _ hR) nT, hX2, xb.1, xb.2, sT _ _ hS, upd_same, by omega, by omega, dom, ?_, St.Tried.nil n, tb.run, fun u _ e => xn (tb.vals u _ e), fun u hu => (nomatch hu), va,
        fun m' tr' H3 won va' kp hS3 hT3 => ?_, fun tr' H3 lo td kp hS3 hT3 => ?_⟩
      · show n < 0 + 13
        omega
      · have m1 := won.len
        refine ⟨true, rfl, iteT ?_⟩
        refine ⟨.int x, rfl, _, kp _ _ DS DT (sT _ _ hd), by rw [List.length_map, sizeLine_eq]; omega, m', zs ++ [x], by rw [upd_same, nums_snoc], ?_, ?_, fun y o e => ?_, ?_, va', by omega⟩
        · rw [List.length_append, lz, m1]
          rfl
        · rw [upd_ne DS.symm]
          exact hS3
        · rw [upd_ne (ne_of_none e nD)]
          exact kp _ _ (ne_of_none e nS) (ne_of_none (sm _ _ e) nT) (s2 _ _ e)
        · rw [et]
          exact tb.won won
      · refine ⟨false, rfl, iteF ?_⟩
        refine ⟨m, zs, kp _ _ DS DT (sT _ _ hd), lz, hS3, fun y o e => kp _ _ (ne_of_none e nS) (ne_of_none (sm _ _ e) nT) (s2 _ _ e), ?_, va, by omega⟩
        rw [et]
        exact tb.lost lo td.nd
    · rintro H' ⟨m, zs, hd, lz, hS, sm, tb, va, ml⟩
      have e2 : ns.take (nums ns).length = ns := List.take_of_length_le (by rw [List.length_map]; exact Nat.le_refl _)
      rw [e2] at tb
      refine ⟨D, _, rfl, .inl (SqL.of hd), ?_⟩
      rw [List.length_map, lz]
      exact q m.length H' tb.done sm
end
end Nal

namespace Nal
open PySem PySem.Spec PyProof.Rows L2 LamX NdefX
theorem encT_old {tr : List Nat} {s : Nat} (h : s ∈ tr) : putK (encT tr) (Sum.inl (s : Int)) (V.bl true) = encT tr := by
  have a : ((encT tr).any fun kv => decide (kv.1 = Sum.inl (s : Int))) = true := by
    rw [valV_any, encT_val, if_pos h]
    rfl
  unfold putK
  rw [if_pos a]
  unfold encT
  rw [List.map_map]
  refine List.map_congr_left fun u _ => ?_
  show (if (Sum.inl (u : Int) : Key) = Sum.inl (s : Int) then ((Sum.inl (u : Int) : Key), V.bl true) else encQ u) = encQ u
  split <;> rfl
section
variable {P : Program} {w : World} {K : PySem.W.Frag} {mg : Str → Option Value} {base : Heap}
def spLeastL : Sp := fun vs H Q _ => ∃ (R l : Addr) (xs : List V) (rows : List (List Nat)) (n : Nat) (ns : List Int) (k : Nat), vs = [.ref R, .ref l] ∧ H R = some (.lst xs) ∧ RowsAtL H xs rows ∧ rows.length ≤ 24 ∧ n ≤ 12 ∧ (∀ r ∈ rows, ∀ s ∈ r, s < n) ∧ H l = some (.lst (nums ns)) ∧ IsHp rows.length ns ∧ ns.length ≤ 8 ∧
  St.SW (seatsOf rows) ns k ∧ ∀ H' : Hp, Same H H' → Q (.int (k : Int)) H'
theorem scLeastL : FnScope ["_law_rows", "_law_heap", "_law_found", "_law_part", "_law_reached", "_law_thing", "_law_seat"] ["_law_rows", "_law_heap"] (defScope tp25) := ⟨rfl, rfl, rfl, by decide +kernel, rfl, by decide +kernel, by decide +kernel⟩
theorem kn_leastL (h : At K mg "_law_least" tp25) (B : Bl mg) (kn__law_parts : Kn P w K mg base 1 "_law_parts" ["_law_some"] (spHeapsOf K)) : Kn P w K mg base 2 "_law_least" ["_law_rows", "_law_heap"] spLeastL := by
  refine kn_of h scLeastL (fun _ _ _ _ _ _ us hl => match us, hl with | [_, _], _ => rfl) (fun vs H Q E h => ?_) (fun f cdv A outer s H vs Q E hr h => ?_)
  · obtain ⟨R, l, xs, rows, n, ns, k, rfl, _⟩ := h
    rfl
  · obtain ⟨R, l, xs, rows, n, ns, k, rfl, hR, hX, r24, n12, dom, hl, hp, l8, sw, q⟩ := h
    refine ⟨_, (pss_cons (ps_set (i := 2) scLeastL.nd rfl (Or.inl rfl) (pe_callB (kcall_len K) (by rfl) B.len (by decide +kernel) (pa_cons (pv 1) pa_nil)))
      (pss_cons (ps_for PassesOwn.never rfl (pi_list (pe_kn kn__law_parts hr (by decide) (by rfl) (pa_cons (pv 1) pa_nil))) (pg_name (i := 3) scLeastL.nd rfl (Or.inl rfl))
        (pss_cons (ps_set (i := 4) scLeastL.nd rfl (Or.inl rfl) pe_dnewK)
      (pss_cons (ps_for PassesOwn.never rfl (pi_list (pv 3)) (pg_name (i := 5) scLeastL.nd rfl (Or.inl rfl))
        (pss_one (ps_for PassesOwn.never rfl (pi_list (pe_ix (kix_list K) (pv 0) (pv 5) (fun _ _ => rfl))) (pg_name (i := 6) scLeastL.nd rfl (Or.inl rfl))
        (pss_one (ps_dput (hu_of hr) (pv 4) (pv 6) pe_bl rfl)))))
      (pss_one (ps_set (i := 2) scLeastL.nd rfl (Or.inl rfl) (pe_callB (call_min2 rfl) (by rfl) B.min (by decide +kernel) (pa_cons (pv 2) (pa_cons (pe_op op_add (pe_op op_sub (pe_callB (kcall_len K) (by rfl) B.len (by decide +kernel) (pa_cons (pv 1) pa_nil)) (pe_callB (kcall_len K) (by rfl) B.len (by decide +kernel) (pa_cons (pv 3) pa_nil))) (pe_callB call_lenD (by rfl) B.len (by decide +kernel) (pa_cons (pv 4) pa_nil))) pa_nil))))))))
      (pss_one (ps_ret (pv 2))))), ?_⟩
    have k_le : k ≤ ns.length := by
      have := sw.part_le (s := []) (T := []) hp.1 (List.nil_sublist _) (fun x hx => (nomatch hx))
      simpa using this
    refine ⟨.ref l, rfl, l, _, rfl, .inl (SqL.of hl), ?_⟩
    rw [List.length_map]
    refine ⟨.ref l, rfl, l, ns, rfl, SqL.of hl, l8, fun r ps H1 nr s1 hr1 hX1 => ?_⟩
    have hR1 := s1 _ _ hR
    have hl1 := s1 _ _ hl
    refine ⟨r, rfl, ⟨_, SqL.of hr1⟩, for_list (K := K) (a := r) (xs := ps) (fun i σ H' => ∃ (v3 v4 v5 v6 : Option V) (f : Nat), σ = [some (.ref R), some (.ref l), some (.int (f : Int)), v3, v4, v5, v6] ∧ k ≤ f ∧ f ≤ ns.length ∧ Same H1 H' ∧
        ∀ s ∈ (Rk.subs ns).take i, ∃ T : List Nat, T.Nodup ∧ (∀ u ∈ T, ∃ x ∈ s, u ∈ seatsOf rows x) ∧ f + s.length ≤ ns.length + T.length)
      ⟨_, _, _, _, ns.length, rfl, k_le, Nat.le_refl _, fun _ _ e => e, fun s hs => (nomatch hs)⟩ (fun i σ H' _ ⟨_, _, _, _, _, _, _, _, s', _⟩ => SqL.of (s' _ _ hr1)) ?_ ?_⟩
    · rintro i v σ H' hi ⟨v3, v4, v5, v6, f, rfl, kf, fl, s', iv⟩
      obtain ⟨s, hs, c, nc, rfl, hc⟩ := pd_at hX1 hi
      have ss := Rk.subs_sub (List.mem_of_getElem? hs)
      have sl := ss.length_le
      have hc' := s' _ _ hc
      refine fun D hD => ?_
      have sD := same_new (o := .dK []) hD
      have hD0 : (upd H' D (.dK [])) D = some (.dK (encT [])) := upd_same
      have s1D := s'.trans sD
      have DF : ∀ {b o}, H' b = some o → b ≠ D := fun e => ne_of_none e hD
      generalize upd H' D (.dK []) = H2 at sD hD0 s1D ⊢
      refine ⟨.ref c, rfl, c, rfl, ⟨_, SqL.of (sD _ _ hc')⟩, for_list (K := K) (a := c) (xs := nums s) (fun j σ H3 => ∃ (v5 v6 : Option V) (tr : List Nat), σ = [some (.ref R), some (.ref l), some (.int (f : Int)), some (.ref c), some (.ref D), v5, v6] ∧ H3 D = some (.dK (encT tr)) ∧ tr.Nodup ∧ (∀ u ∈ tr, u < n) ∧
          (∀ u, u ∈ tr ↔ ∃ x ∈ s.take j, u ∈ seatsOf rows x) ∧ Keep D H2 H3)
        ⟨_, _, [], rfl, hD0, List.nodup_nil, fun u hu => (nomatch hu), fun u => ⟨fun z => (nomatch z), fun ⟨_, z, _⟩ => (nomatch z)⟩, Keep.refl _ _⟩ (fun j σ H3 _ ⟨_, _, _, _, _, _, _, _, k3⟩ => SqL.of (k3 _ _ (DF hc') (sD _ _ hc'))) ?_ ?_⟩
      · rintro j v' σ H3 hj ⟨v5, v6, tr, rfl, hD3, ntr, btr, mtr, k3⟩
        obtain ⟨x, hx, rfl⟩ := nums_at hj
        have xb := hp.2 x (ss.subset (List.mem_of_getElem? hx))
        have hR' := s' _ _ hR1
        have hXG : RowsAtG D H3 xs rows := Paired.mapP hX fun _ _ ⟨b, e, hb⟩ => ⟨b, DF (s' _ _ (s1 _ _ hb)), e, k3 _ _ (DF (s' _ _ (s1 _ _ hb))) (sD _ _ (s' _ _ (s1 _ _ hb)))⟩
        obtain ⟨b, hat, bD, hb⟩ := rows_row hXG xb.1 xb.2
        have domx : ∀ u ∈ seatsOf rows x, u < n := dom _ (List.mem_of_getElem? (seats_at xb.1 xb.2))
        refine ⟨.ref R, rfl, .int x, rfl, R, xs, x, _, rfl, rfl, SqL.of (k3 _ _ (DF hR') (sD _ _ hR')), hat, b, rfl, ⟨_, SqL.of hb⟩, for_list (K := K) (a := b) (xs := nats (seatsOf rows x)) (fun p σ H4 => ∃ (v6 : Option V) (tr2 : List Nat), σ = [some (.ref R), some (.ref l), some (.int (f : Int)), some (.ref c), some (.ref D), some (.int x), v6] ∧ H4 D = some (.dK (encT tr2)) ∧ tr2.Nodup ∧ (∀ u ∈ tr2, u < n) ∧
            (∀ u, u ∈ tr2 ↔ u ∈ tr ∨ u ∈ (seatsOf rows x).take p) ∧ Keep D H3 H4)
          ⟨_, tr, rfl, hD3, ntr, btr, fun u => ⟨.inl, fun z => z.elim id fun z => (nomatch z)⟩, Keep.refl _ _⟩ (fun p σ H4 _ ⟨_, _, _, _, _, _, _, k4⟩ => SqL.of (k4 _ _ bD hb)) ?_ ?_⟩
        · rintro p v'' σ H4 hp' ⟨v6', tr2, rfl, hD4, nt2, bt2, mt2, k4⟩
          obtain ⟨u, hu, rfl⟩ := nats_at hp'
          have et : (seatsOf rows x).take (p + 1) = (seatsOf rows x).take p ++ [u] := take_snoc hu
          have tl : tr2.length ≤ n := St.Tried.len (tr := tr2) ⟨nt2, bt2⟩
          refine ⟨.ref D, rfl, .int (u : Int), rfl, D, _, rfl, DPut.k (k := Sum.inl (u : Int)) hD4 (by rw [encT, List.length_map, sizeLine_eq]; omega), ?_⟩
          by_cases e : u ∈ tr2
          · rw [encT_old e]
            refine ⟨_, tr2, rfl, upd_same, nt2, bt2, fun w => ?_, k4.trans Keep.upd⟩
            rw [mt2, et, List.mem_append, List.mem_singleton]
            constructor
            · rintro (z | z)
              · exact .inl z
              · exact .inr (.inl z)
            · rintro (z | z | z)
              · exact .inl z
              · exact .inr z
              · rw [z]
                exact (mt2 u).mp e
          · rw [encT_put e]
            refine ⟨_, tr2 ++ [u], rfl, upd_same, ?_, fun w hw => ?_, fun w => ?_, k4.trans Keep.upd⟩
            · refine List.nodup_append.mpr ⟨nt2, by simp, fun a ha b hb e' => e ?_⟩
              rw [← List.mem_singleton.mp hb, ← e']
              exact ha
            · rcases List.mem_append.mp hw with z | z
              · exact bt2 w z
              · rw [List.mem_singleton.mp z]
                exact domx u (List.mem_of_getElem? hu)
            · rw [List.mem_append, mt2, et, List.mem_append, or_assoc]
        · rintro σ H4 ⟨v6', tr2, rfl, hD4, nt2, bt2, mt2, k4⟩
          refine ⟨_, _, tr2, rfl, hD4, nt2, bt2, fun u => ?_, k3.trans k4⟩
          have e1 : (seatsOf rows x).take (nats (seatsOf rows x)).length = seatsOf rows x := List.take_of_length_le (by rw [List.length_map]; exact Nat.le_refl _)
          rw [mt2, e1, mtr, take_snoc hx]
          constructor
          · rintro (⟨y, hy, z⟩ | z)
            · exact ⟨y, List.mem_append_left _ hy, z⟩
            · exact ⟨x, List.mem_append_right _ (List.mem_singleton.mpr rfl), z⟩
          · rintro ⟨y, hy, z⟩
            rcases List.mem_append.mp hy with a | a
            · exact .inl ⟨y, a, z⟩
            · rw [List.mem_singleton.mp a] at z
              exact .inr z
      · rintro σ H3 ⟨v5', v6', tr, rfl, hD3, ntr, btr, mtr, k3⟩
        have e1 : s.take (nums s).length = s := List.take_of_length_le (by rw [List.length_map]; exact Nat.le_refl _)
        rw [e1] at mtr
        have hl3 : H3 l = some (.lst (nums ns)) := k3 _ _ (DF (s' _ _ hl1)) (sD _ _ (s' _ _ hl1))
        have hc3 : H3 c = some (.lst (nums s)) := k3 _ _ (DF hc') (sD _ _ hc')
        have low := sw.part_le (s := s) (T := tr) hp.1 ss fun x hx u hu => (mtr u).mpr ⟨x, hx, hu⟩
        have ev : (if (((nums ns).length : Int) - ((nums s).length : Int) + ((encT tr).length : Int)) < (f : Int) then (((nums ns).length : Int) - ((nums s).length : Int) + ((encT tr).length : Int)) else (f : Int)) = ((min f (ns.length - s.length + tr.length) : Nat) : Int) := by
          rw [List.length_map, List.length_map, encT, List.length_map]
          split <;> omega
        refine ⟨_, rfl, .ref l, rfl, l, _, rfl, .inl (SqL.of hl3), .ref c, rfl, c, _, rfl, .inl (SqL.of hc3), _, _, rfl, rfl, .ref D, rfl, D, _, rfl, hD3, _, _, rfl, rfl, _, _, rfl, ?_⟩
        refine ⟨_, _, _, _, min f (ns.length - s.length + tr.length), by rw [← ev]; rfl, by omega, by omega, fun b o e => k3 _ _ (DF (s' _ _ e)) (sD _ _ (s' _ _ e)), fun s2 hs2 => ?_⟩
        rw [take_snoc hs] at hs2
        rcases List.mem_append.mp hs2 with z | z
        · obtain ⟨T, nT, mT, h1⟩ := iv s2 z
          exact ⟨T, nT, mT, by omega⟩
        · rw [List.mem_singleton.mp z]
          exact ⟨tr, ntr, fun u hu => (mtr u).mp hu, by omega⟩
    · rintro σ H' ⟨v3, v4, v5, v6, f, rfl, kf, fl, s', iv⟩
      rw [List.take_of_length_le (by rw [Paired.length hX1]; exact Nat.le_refl _)] at iv
      obtain ⟨s, hs, hT⟩ := sw.part_ex hp.1
      obtain ⟨T, nT, mT, h1⟩ := iv s (Rk.subs_mem hs)
      have h2 := hT T nT mT
      have e : f = k := by omega
      rw [e]
      exact ⟨_, rfl, q H' (s1.trans s')⟩
end
end Nal

namespace Nal
open PySem PySem.Spec PyProof.Rows L2 LamX NdefX
/-- heaps that lie apart from the pot -/
def HpsP (m : Nat) (p : Addr) (H : Hp) (xs : List V) : Prop := ∀ x ∈ xs, ∃ (c : Addr) (s : List Int), x = .ref c ∧ c ≠ p ∧ H c = some (.lst (nums s)) ∧ IsHp m s
theorem HpsP.keep {m : Nat} {p : Addr} {H H' : Hp} {xs : List V} (h : HpsP m p H xs) (k : Keep p H H') : HpsP m p H' xs := fun x hx => by
  obtain ⟨c, s, e, n, hc, hp⟩ := h x hx
  exact ⟨c, s, e, n, k _ _ n hc, hp⟩
theorem hp_take {m : Nat} {l : List Int} (h : IsHp m l) (i : Nat) : IsHp m (l.take i) := ⟨h.1.sublist (List.take_sublist _ _), fun z hz => h.2 z (List.mem_of_mem_take hz)⟩
section
variable {P : Program} {w : World} {K : PySem.W.Frag} {mg : Str → Option Value} {base : Heap} {C : Addr}
def spIs : Sp := fun vs H Q _ => ∃ a b : Int, vs = [.int a, .int b] ∧ Q (.bl (decide (a = b))) H
theorem scIs : FnScope ["_law_told", "_law_due"] ["_law_told", "_law_due"] (defScope tp29) := ⟨rfl, rfl, rfl, by decide +kernel, rfl, by decide +kernel, by decide +kernel⟩
theorem kn_is (h : At K mg "_law_is" tp29) (B : Bl mg) : Kn P w K mg base 1 "_law_is" ["_law_told", "_law_due"] spIs := by
  refine kn_of h scIs (fun _ _ _ _ _ _ us hl => match us, hl with | [_, _], _ => rfl) (fun vs H Q E h => ?_) (fun f cdv A outer s H vs Q E hr h => ?_)
  · obtain ⟨a, b, rfl, _⟩ := h
    rfl
  · obtain ⟨a, b, rfl, q⟩ := h
    refine ⟨_, (pss_one (ps_ret (pe_and (pe_callB (kcall_isi K) (by rfl) B.isinstance (by decide +kernel) (pa_cons (pv 0) (pa_cons (pe_bltn (v := .ty "int") (by rfl) B.t_int (by decide +kernel) rfl) pa_nil))) (pe_and (pe_not (pe_callB (kcall_isi K) (by rfl) B.isinstance (by decide +kernel) (pa_cons (pv 0) (pa_cons (pe_bltn (v := .ty "bool") (by rfl) B.t_bool (by decide +kernel) rfl) pa_nil)))) (pe_one (pe_cmpR op_eq (pv 0) (pv 1) (nomark _))))))), ?_⟩
    refine ⟨.int a, rfl, _, _, _, _, true, rfl, .ty "int", .base (.int a), kit_ty (by decide +kernel), true, rfl, iteT ?_⟩
    refine ⟨.int a, rfl, _, _, _, _, false, rfl, .ty "bool", .base (.int a), kit_ty (by decide +kernel), false, rfl, _, rfl, iteT ?_⟩
    refine ⟨.int a, rfl, .int b, rfl, rfl, ?_⟩
    have e : decide (V.int a = V.int b) = decide (a = b) := by
      by_cases c : a = b
      · rw [c, decide_eq_true rfl, decide_eq_true rfl]
      · rw [decide_eq_false c, decide_eq_false fun z => c (V.int.inj z)]
    show Q (.bl (decide (V.int a = V.int b))) H
    rw [e]
    exact q
def spHeapsL : Sp := fun vs H Q _ => ∃ (p : Addr) (m : Nat), vs = [.ref p, .int (m : Int)] ∧ m ≤ 24 ∧ Pot H p ∧
  ∀ (r : Addr) (xs : List V) (H' : Hp), r ≠ p → xs.length ≤ 64 → Keep p H H' → Pot H' p → H' r = some (.lst xs) → HpsP m p H' xs → Q (.ref r) H'
theorem scHeapsL : FnScope ["_law_pot_here", "_law_many", "_law_found", "_law_turn"] ["_law_pot_here", "_law_many"] (defScope tp28) := ⟨rfl, rfl, rfl, by decide +kernel, rfl, by decide +kernel, by decide +kernel⟩
theorem kn_heapsL (h : At K mg "_law_heaps" tp28) (B : Bl mg) (kn__law_take : Kn P w K mg base 1 "_law_take" ["_law_pot_here", "_law_many"] spTake) (kn__law_shuffled : Kn P w K mg base 2 "_law_shuffled" ["_law_pot_here", "_law_some"] (spShuffled K)) (kn__law_parts : Kn P w K mg base 1 "_law_parts" ["_law_some"] (spHeapsOf K)) :
    Kn P w K mg base 3 "_law_heaps" ["_law_pot_here", "_law_many"] spHeapsL := by
  refine kn_of h scHeapsL (fun _ _ _ _ _ _ us hl => match us, hl with | [_, _], _ => rfl) (fun vs H Q E h => ?_) (fun f cdv A outer s H vs Q E hr h => ?_)
  · obtain ⟨p, m, rfl, _⟩ := h
    rfl
  · obtain ⟨p, m, rfl, m24, p0, q⟩ := h
    refine ⟨_, (pss_cons (ps_if (pt_cmpR op_lt (pv 1) pe_int (nomark _)) (pss_one (ps_ret (pe_kn kn__law_parts hr (by decide) (by rfl) (pa_cons (pe_listRg rfl (by rfl) B.t_list (prg_1 (by rfl) B.range (pv 1))) pa_nil)))) pss_nil)
      (pss_cons (ps_set (i := 2) scHeapsL.nd rfl (Or.inl rfl) (pe_lst pa_nil))
      (pss_cons (ps_for PassesOwn.never rfl (pi_range1 (by rfl) B.range (pa_cons (pe_kn kn__law_take hr (by decide) (by rfl) (pa_cons (pv 0) (pa_cons pe_int pa_nil))) pa_nil)) (pg_name (i := 3) scHeapsL.nd rfl (Or.inl rfl))
        (pss_one (ps_expr (pe_bm PySem.F.plainAttrs_list PySem.F.slot_list_append PySem.F.type_list_append mt_append (pv 2) (pa_cons (pe_slice sl_list (pe_kn kn__law_shuffled hr (by decide) (by rfl) (pa_cons (pv 0) (pa_cons (pe_listRg rfl (by rfl) B.t_list (prg_1 (by rfl) B.range (pv 1))) pa_nil))) po_none (po_some (pe_kn kn__law_take hr (by decide) (by rfl) (pa_cons (pv 0) (pa_cons pe_int pa_nil))))) pa_nil)))))
      (pss_one (ps_ret (pe_op op_cat (pv 2) (pe_lst (pa_cons (pe_slice sl_list (pe_kn kn__law_shuffled hr (by decide) (by rfl) (pa_cons (pv 0) (pa_cons (pe_listRg rfl (by rfl) B.t_list (prg_1 (by rfl) B.range (pv 1))) pa_nil))) po_none (po_some (pe_kn kn__law_take hr (by decide) (by rfl) (pa_cons (pv 0) (pa_cons (pe_op op_add (pv 1) pe_int) pa_nil))))) pa_nil)))))))), ?_⟩
    obtain ⟨z0, zb0, hp0, _⟩ := id p0
    refine ⟨_, rfl, _, _, rfl, rfl, _, rfl, ite2 (fun c1 => ?_) (fun c1 => ?_)⟩
    · have m6 : m < 7 := by
        have := of_decide_eq_true c1
        omega
      refine ⟨_, rfl, (m : Int), rfl, RgOk.of_le (by omega) (by omega) (by omega) (by omega), fun d nd => ?_⟩
      rw [rg_nums]
      have sd := same_new (o := .lst (nums (upTo m))) nd
      refine ⟨d, upTo m, rfl, SqL.of upd_same, by rw [upTo_len]; omega, fun r xs H1 nr s1 hr1 hX => ?_⟩
      have s01 := sd.trans s1
      refine q r xs H1 (fun z => ?_) ?_ (Keep.same s01) (p0.at (q := p) fun o e => s01 _ _ e) hr1 fun x hx => ?_
      · rw [z, sd _ _ hp0] at nr
        cases nr
      · rw [Paired.length hX, Rk.subs_len, upTo_len]
        exact Nat.pow_le_pow_right (n := 2) (by decide) (show m ≤ 6 by omega)
      · obtain ⟨i, hi⟩ := List.getElem?_of_mem hx
        obtain ⟨s, hs, c, nc, rfl, hc⟩ := pd_at hX hi
        have ss := Rk.subs_sub (List.mem_of_getElem? hs)
        refine ⟨c, s, rfl, fun z => ?_, hc, ss.nodup (range_hp m).1, fun y hy => (range_hp m).2 y (ss.subset hy)⟩
        rw [z, sd _ _ hp0] at nc
        cases nc
    · have m7 : 7 ≤ m := by
        have : ¬ (m : Int) < 7 := fun z => c1 (decide_eq_true z)
        omega
      refine ⟨Nat.zero_le _, fun F hF => ?_⟩
      have Fp : F ≠ p := p0.ne hF
      have sF := same_new (o := .lst []) hF
      refine ⟨.ref p, rfl, p, 9, rfl, by decide, by decide, p0.new hF, fun e H1 e0 e1 k1 p1 => ?_⟩
      refine ⟨e, rfl, by omega, by omega, ?_⟩
      have hF1 : H1 F = some (.lst []) := k1 _ _ Fp upd_same
      have k01 : Keep p H H1 := (Keep.same sF).trans k1
      refine for_range (n := e.toNat) (fun i σ H' => ∃ (v3 : Option V) (xs : List V), σ = [some (.ref p), some (.int (m : Int)), some (.ref F), v3] ∧ H' F = some (.lst xs) ∧ xs.length = i ∧ (∀ x ∈ xs, x ≠ .ref F) ∧ HpsP m p H' xs ∧ Keep p H H' ∧ Pot H' p) ?_ ?_ ?_
      · exact ⟨_, [], rfl, hF1, rfl, fun x hx => (nomatch hx), fun x hx => (nomatch hx), k01, p1⟩
      · rintro i σ H' hi ⟨v3, xs, rfl, hF', lx, nF, hX, k', p'⟩
        refine ⟨.ref F, rfl, .inl ⟨rfl, _, SqL.of hF'⟩, .ref p, rfl, _, rfl, (m : Int), rfl, RgOk.of_le (by omega) (by omega) (by omega) (by omega), fun d nd => ?_⟩
        rw [rg_nums]
        have sd := same_new (o := .lst (nums (upTo m))) nd
        refine ⟨p, d, nums (upTo m), rfl, p'.ne nd, SqL.of upd_same, by rw [List.length_map, upTo_len]; omega, p'.new nd, fun ys o H2 pm no k2 p2 ho => ?_⟩
        obtain ⟨os, rfl, po⟩ := perm_nums pm
        have op : o ≠ p := (p'.new (o := .lst (nums (upTo m))) nd).ne no
        refine ⟨.ref p, rfl, p, 9, rfl, by decide, by decide, p2, fun e2 H3 e20 e21 k3 p3 => ?_⟩
        refine ⟨e2, rfl, o, _, rfl, SqL.of (k3 _ _ op ho), fun u nu => ?_⟩
        rw [cut_take e20]
        have su := same_new (o := .lst ((nums os).take e2.toNat)) nu
        have kk : Keep p H' (upd H3 u (.lst ((nums os).take e2.toNat))) := (((Keep.same sd).trans k2).trans k3).trans (Keep.same su)
        have hu : (upd H3 u (.lst ((nums os).take e2.toNat))) u = some (.lst (nums (os.take e2.toNat))) := by rw [upd_same, nums, nums, List.map_take]
        have up : u ≠ p := p3.ne nu
        have pu := p3.new (o := .lst ((nums os).take e2.toNat)) nu
        have uF : u ≠ F := fun z => by
          have := ((Keep.same sd).trans k2).trans k3 _ _ Fp hF'
          rw [← z, nu] at this
          cases this
        generalize upd H3 u (.lst ((nums os).take e2.toNat)) = H4 at kk hu pu ⊢
        refine ⟨F, xs, _, rfl, rfl, kk _ _ Fp hF', by rw [sizeLine_eq]; omega, ?_⟩
        refine ⟨_, xs ++ [.ref u], rfl, upd_same, by rw [List.length_append, lx]; rfl, fun x hx => ?_, fun x hx => ?_, fun b o' n' e' => ?_, pu.off Fp⟩
        · rcases List.mem_append.mp hx with z | z
          · exact nF x z
          · rw [List.mem_singleton.mp z]
            exact fun z => uF (V.ref.inj z)
        · rcases List.mem_append.mp hx with z | z
          · obtain ⟨c, s, rfl, n1, hc, hps⟩ := hX x z
            have cF : c ≠ F := fun w => nF _ z (by rw [w])
            exact ⟨c, s, rfl, n1, by rw [upd_ne cF]; exact kk _ _ n1 hc, hps⟩
          · exact ⟨u, _, List.mem_singleton.mp z, up, by rw [upd_ne uF]; exact hu, hp_take ((range_hp m).perm po) _⟩
        · rw [upd_ne (ne_of_none e' hF)]
          exact kk _ _ n' (k' _ _ n' e')
      · rintro σ H' ⟨v3, xs, rfl, hF', lx, nF, hX, k', p'⟩
        refine ⟨.ref F, rfl, .ref p, rfl, _, rfl, (m : Int), rfl, RgOk.of_le (by omega) (by omega) (by omega) (by omega), fun d nd => ?_⟩
        rw [rg_nums]
        have sd := same_new (o := .lst (nums (upTo m))) nd
        refine ⟨p, d, nums (upTo m), rfl, p'.ne nd, SqL.of upd_same, by rw [List.length_map, upTo_len]; omega, p'.new nd, fun ys o H2 pm no k2 p2 ho => ?_⟩
        obtain ⟨os, rfl, po⟩ := perm_nums pm
        have op : o ≠ p := (p'.new (o := .lst (nums (upTo m))) nd).ne no
        have m31 : (m : Int) + 1 < 10 ^ 31 := Int.lt_of_le_of_lt (b := 25) (by omega) (by decide)
        refine ⟨.ref p, rfl, _, rfl, _, _, rfl, rfl, p, (m : Int) + 1, rfl, by omega, m31, p2, fun e2 H3 e20 e21 k3 p3 => ?_⟩
        refine ⟨e2, rfl, o, _, rfl, SqL.of (k3 _ _ op ho), fun u nu => ?_⟩
        rw [cut_take e20]
        have su := same_new (o := .lst ((nums os).take e2.toNat)) nu
        have kk : Keep p H' (upd H3 u (.lst ((nums os).take e2.toNat))) := (((Keep.same sd).trans k2).trans k3).trans (Keep.same su)
        have hu : (upd H3 u (.lst ((nums os).take e2.toNat))) u = some (.lst (nums (os.take e2.toNat))) := by rw [upd_same, nums, nums, List.map_take]
        have up : u ≠ p := p3.ne nu
        have pu := p3.new (o := .lst ((nums os).take e2.toNat)) nu
        generalize upd H3 u (.lst ((nums os).take e2.toNat)) = H4 at kk hu pu ⊢
        refine ⟨(by show 1 ≤ sizeLine; decide), fun t nt => ?_⟩
        have st := same_new (o := .lst [V.ref u]) nt
        refine ⟨F, t, _, _, rfl, rfl, st _ _ (kk _ _ Fp hF'), upd_same, by rw [sizeLine_eq]; show xs.length + 1 ≤ _; omega, fun g ng => ?_⟩
        have sg := same_new (o := .lst (xs ++ [V.ref u])) ng
        have stg := st.trans sg
        refine q g _ _ ((pu.new (o := .lst [V.ref u]) nt).ne ng) (by rw [List.length_append]; show xs.length + 1 ≤ 64; omega) ((k'.trans kk).trans (Keep.same stg)) (pu.at (q := p) fun o e => stg _ _ e) upd_same fun x hx => ?_
        rcases List.mem_append.mp hx with z | z
        · obtain ⟨c, s, rfl, n1, hc, hps⟩ := hX x z
          exact ⟨c, s, rfl, n1, stg _ _ (kk _ _ n1 hc), hps⟩
        · exact ⟨u, _, List.mem_singleton.mp z, up, stg _ _ hu, hp_take ((range_hp m).perm po) _⟩
end
end Nal

namespace Nal
open PySem PySem.Spec PyProof.Rows L2 LamX NdefX
theorem nats_of {n : Nat} {ys : List V} (h : ∀ y ∈ ys, ∃ r : Nat, y = V.int (r : Int) ∧ r < n) : ∃ rs : List Nat, ys = nats rs ∧ ∀ r ∈ rs, r < n := by
  induction ys with
  | nil => exact ⟨[], rfl, fun r hr => (nomatch hr)⟩
  | cons y ys ih =>
    obtain ⟨r, rfl, hr⟩ := h y List.mem_cons_self
    obtain ⟨rs, rfl, hs⟩ := ih fun z hz => h z (List.mem_cons_of_mem _ hz)
    exact ⟨r :: rs, rfl, fun z hz => (List.mem_cons.mp hz).elim (fun e => by rw [e]; exact hr) (hs z)⟩
theorem joinA {A : Prop} {R Cd : Addr → Hp → Prop} (h1 : (∀ b H, Cd b H → R b H) → A) (h2 : ∀ b H, Cd b H → R b H) : A := h1 h2
/-- rows of seats as data -/
def rowI (rs : List (List Nat)) : List (List Int) := rs.map fun r => r.map fun k : Nat => (k : Int)
theorem dpAll_rows {K : PySem.W.Frag} {H : Hp} : ∀ {xs : List V} {rs : List (List Nat)}, RowsAtL H xs rs → DpAll K H xs ((rowI rs).map dInts)
  | _, _, .nil => .nil
  | _, _, .cons (b := r) ⟨b, e, hb⟩ q => by
    subst e
    exact .cons (dp_ints (by show SqL K _ b ((r.map fun k : Nat => (k : Int)).map V.int); rw [← nats_nums]; exact SqL.of hb)) (dpAll_rows q)
theorem dp_rows {K : PySem.W.Frag} {H : Hp} {a : Addr} {xs : List V} {rs : List (List Nat)} (h : SqL K H a xs) (hX : RowsAtL H xs rs) : Dp K H (.ref a) (dLists (rowI rs)) := .lst h (dpAll_rows hX)
theorem row_perm {n : Nat} {r : List Nat} {ys : List V} (ok : RowOk n r) (pm : ys.Perm (nats r)) : ∃ r' : List Nat, ys = nats r' ∧ RowOk n r' := by
  obtain ⟨r', rfl, b⟩ := nats_of (n := n) (ys := ys) fun y hy => by
    obtain ⟨k, hk, rfl⟩ := List.mem_map.mp (pm.mem_iff.mp hy)
    exact ⟨k, rfl, ok.2 k hk⟩
  refine ⟨r', rfl, ?_, b⟩
  have nd : (nats r).Nodup := by
    unfold nats
    rw [List.Nodup, List.pairwise_map]
    exact ok.1.imp fun h e => h (by have := V.int.inj e; omega)
  have nd2 := pm.nodup_iff.mpr nd
  unfold nats at nd2
  rw [List.Nodup, List.pairwise_map] at nd2
  exact nd2.imp fun h e => h (by rw [e])
theorem at2 {a b : Nat} {e : Int} (h0 : 0 ≤ e) (h1 : e < 2) : ∃ n : Nat, atI [V.int (a : Int), .int (b : Int)] e = some (.int (n : Int)) ∧ (n = a ∨ n = b) := by
  have h : e = 0 ∨ e = 1 := by omega
  rcases h with rfl | rfl
  · exact ⟨a, atI_nat (j := 0) rfl, .inl rfl⟩
  · exact ⟨b, atI_nat (j := 1) rfl, .inr rfl⟩
theorem at3 {a b c : Nat} {e : Int} (h0 : 0 ≤ e) (h1 : e < 3) : ∃ n : Nat, atI [V.int (a : Int), .int (b : Int), .int (c : Int)] e = some (.int (n : Int)) ∧ (n = a ∨ n = b ∨ n = c) := by
  have h : e = 0 ∨ e = 1 ∨ e = 2 := by omega
  rcases h with rfl | rfl | rfl
  · exact ⟨a, atI_nat (j := 0) rfl, .inl rfl⟩
  · exact ⟨b, atI_nat (j := 1) rfl, .inr (.inl rfl)⟩
  · exact ⟨c, atI_nat (j := 2) rfl, .inr (.inr rfl)⟩
section
variable {P : Program} {w : World} {K : PySem.W.Frag} {mg : Str → Option Value} {base : Heap} {C : Addr}
def spSeatsS (C : Addr) : Sp := fun vs H Q _ => ∃ (y : Addr) (n : Nat) (rows : List (List Nat)), vs = [.ref y] ∧ SeatY C H y n rows ∧ Q (.int (n : Int)) H
theorem scSeatsS : FnScope ["self"] ["self"] (defScope tc16_1) := ⟨rfl, rfl, rfl, by decide +kernel, rfl, by decide +kernel, by decide +kernel⟩
theorem mt_seatsS (h : AtM K C "seats" "Seats.seats" tc16_1) (cl_Seats : Cls K C) (nC : NoAttr K C "seat_count") (B : Bl mg) : Mt P w K mg base C 1 "seats" ["self"] (spSeatsS C) := by
  refine mt_of h scSeatsS (fun _ _ _ _ _ _ us hl => match us, hl with | [_], _ => rfl) (fun vs H Q E h => ?_) (fun f cdv A outer s H vs Q E hr h => ?_)
  · obtain ⟨y, n, rows, rfl, _⟩ := h
    rfl
  · obtain ⟨y, n, rows, rfl, ⟨dx, t, xs, hy, h2, h3⟩, q⟩ := h
    refine ⟨_, (pss_one (ps_ret (pe_fld (pv 0) rfl))), ?_⟩
    exact ⟨.ref y, rfl, y, C, dx, _, _, rfl, hy, cl_Seats, nC, lk_sc n t, q⟩
def spRowsS (C : Addr) : Sp := fun vs H Q _ => ∃ (y : Addr) (n : Nat) (rows : List (List Nat)), vs = [.ref y] ∧ SeatY C H y n rows ∧ rows.length ≤ 24 ∧ ∀ (r : Addr) (xs : List V) (H' : Hp), Same H H' → H' r = some (.lst xs) → RowsAtL H' xs rows → Q (.ref r) H'
theorem scRowsS : FnScope ["self", "row"] ["self"] (defScope tc16_2) := ⟨rfl, rfl, rfl, by decide +kernel, rfl, by decide +kernel, by decide +kernel⟩
theorem mt_rowsS (h : AtM K C "rows" "Seats.rows" tc16_2) (cl_Seats : Cls K C) (nR : NoAttr K C "seat_rows") (B : Bl mg) : Mt P w K mg base C 1 "rows" ["self"] (spRowsS C) := by
  refine mt_of h scRowsS (fun _ _ _ _ _ _ us hl => match us, hl with | [_], _ => rfl) (fun vs H Q E h => ?_) (fun f cdv A outer s H vs Q E hr h => ?_)
  · obtain ⟨y, n, rows, rfl, _⟩ := h
    rfl
  · obtain ⟨y, n, rows, rfl, ⟨dx, t, xs, hy, h2, h3⟩, r24, q⟩ := h
    refine ⟨_, (pss_one (ps_ret (pe_lc (own := [("row", 1)]) (g := gName 1) (tt := tYes)  rfl scRowsS.nd (pi_tup (pe_fld (pv 0) rfl)) (blkOk_by (own := [("row", 1)]) (N := ["self", "row"]) (sc := (defScope tc16_2)) (by decide +kernel)) (fun _ _ _ _ _ => pg_name (i := 1) scRowsS.nd rfl (Or.inl rfl)) (fun _ _ _ _ _ => pts_nil) (fun _ _ _ _ _ => (pe_callTy (kcall_list K) (by rfl) B.t_list (by decide +kernel) (pa_cons (pv 1) pa_nil)))))), ?_⟩
    have xl : xs.length = rows.length := Paired.length h3
    refine ⟨.ref y, rfl, y, C, dx, _, _, rfl, hy, cl_Seats, nR, lk_sr n t, t, rfl, ⟨_, .inl (.inl h2)⟩, fun D hD => lc_tup (K := K) (a := t) (xs := xs) (fun i H' => ∃ ys : List V, H' D = some (.lst ys) ∧ ys.length = i ∧ (∀ b, .ref b ∈ ys → b ≠ D) ∧ RowsAtL H' ys (rows.take i) ∧ Same H H') ⟨[], upd_same, rfl, fun b hb => (nomatch hb), .nil, same_new hD⟩ (fun i H' _ ⟨_, _, _, _, _, s'⟩ => .inl (.inl (s' _ _ h2))) ?_ ?_⟩
    · rintro i x H' hi ⟨ys, hD', ly, nD, hY, s'⟩
      obtain ⟨r, hr', b, rfl, hb⟩ := pd_at h3 hi
      have il : i < xs.length := (List.getElem?_eq_some_iff.mp hi).1
      refine ⟨rfl, ?_⟩
      refine ⟨.ref b, rfl, b, _, rfl, .inr (.inl (.inl (s' _ _ hb))), fun u nu => ?_⟩
      have su := same_new (o := .lst (nats r)) nu
      have uD : u ≠ D := fun z => by
        rw [z, hD'] at nu
        cases nu
      refine ⟨ys, su _ _ hD', by rw [sizeLine_eq]; omega, ys ++ [.ref u], upd_same, by rw [List.length_append, ly]; rfl, fun c hc => ?_, ?_, fun c o e => ?_⟩
      · rcases List.mem_append.mp hc with z | z
        · exact nD c z
        · rw [V.ref.inj (List.mem_singleton.mp z)]
          exact uD
      · rw [take_snoc hr']
        refine pd_snoc (pd_mapMem hY fun x hx r ⟨c, e, hc⟩ => ⟨c, e, ?_⟩) ⟨u, rfl, by rw [upd_ne uD]; exact upd_same⟩
        rw [upd_ne (nD c (by rw [← e]; exact hx))]
        exact su _ _ hc
      · rw [upd_ne (ne_of_none e hD)]
        exact su _ _ (s' _ _ e)
    · rintro H' ⟨ys, hD', ly, nD, hY, s'⟩
      rw [List.take_of_length_le (by omega)] at hY
      exact q D ys H' s' hD' hY
def spArgs : Sp := fun vs H Q _ => ∃ p : Addr, vs = [.ref p] ∧ Pot H p ∧
  ∀ (t R : Addr) (xs : List V) (rows : List (List Nat)) (n : Nat) (H' : Hp), H' t = some (.tup [.int (n : Int), .ref R]) → R ≠ p → H' R = some (.lst xs) → RowsAtG p H' xs rows → rows.length ≤ 24 → n ≤ 12 → (∀ r ∈ rows, RowOk n r) → Keep p H H' → Pot H' p → Q (.ref t) H'
theorem scArgs : FnScope ["_law_pot_here", "_law_seats", "_law_many", "_law_sparse", "_law_found", "_law_k", "_law_row", "_law_seat"] ["_law_pot_here"] (defScope tp23) := ⟨rfl, rfl, rfl, by decide +kernel, rfl, by decide +kernel, by decide +kernel⟩
theorem kn_args (h : At K mg "_law_args" tp23) (B : Bl mg) (kn__law_take : Kn P w K mg base 1 "_law_take" ["_law_pot_here", "_law_many"] spTake) (kn__law_shuffled : Kn P w K mg base 2 "_law_shuffled" ["_law_pot_here", "_law_some"] (spShuffled K)) : Kn P w K mg base 3 "_law_args" ["_law_pot_here"] spArgs := by
  refine kn_of h scArgs (fun _ _ _ _ _ _ us hl => match us, hl with | [_], _ => rfl) (fun vs H Q E h => ?_) (fun f cdv A outer s H vs Q E hr h => ?_)
  · obtain ⟨p, rfl, _⟩ := h
    rfl
  · obtain ⟨p, rfl, p0, q⟩ := h
    refine ⟨_, (pss_cons (ps_set (i := 1) scArgs.nd rfl (Or.inl rfl) (pe_kn kn__law_take hr (by decide) (by rfl) (pa_cons (pv 0) (pa_cons (pe_ix (kix_list K) (pe_lst (pa_cons pe_int (pa_cons pe_int pa_nil))) (pe_kn kn__law_take hr (by decide) (by rfl) (pa_cons (pv 0) (pa_cons pe_int pa_nil))) (fun _ _ => rfl)) pa_nil))))
      (pss_cons (ps_set (i := 2) scArgs.nd rfl (Or.inl rfl) (pe_ix (kix_list K) (pe_lst (pa_cons pe_int (pa_cons (pe_kn kn__law_take hr (by decide) (by rfl) (pa_cons (pv 0) (pa_cons pe_int pa_nil))) (pa_cons (pe_kn kn__law_take hr (by decide) (by rfl) (pa_cons (pv 0) (pa_cons pe_int pa_nil))) pa_nil)))) (pe_kn kn__law_take hr (by decide) (by rfl) (pa_cons (pv 0) (pa_cons pe_int pa_nil))) (fun _ _ => rfl)))
      (pss_cons (ps_set (i := 3) scArgs.nd rfl (Or.inr rfl) (pe_op op_add pe_int (pe_kn kn__law_take hr (by decide) (by rfl) (pa_cons (pv 0) (pa_cons pe_int pa_nil)))))
      (pss_cons (ps_set (i := 4) scArgs.nd rfl (Or.inl rfl) (pe_lst pa_nil))
      (pss_cons (ps_for PassesOwn.never rfl (pi_range1 (by rfl) B.range (pa_cons (pv 2) pa_nil)) (pg_name (i := 5) scArgs.nd rfl (Or.inl rfl))
        (pss_cons (ps_setLc (i := 6) (own := [("_law_seat", 7)]) (g := gName 7)  rfl scArgs.nd rfl rfl (sw_true rfl rfl rfl (by decide +kernel)) (pi_range1 (by rfl) B.range (pa_cons (pv 1) pa_nil)) (blkOk_by (own := [("_law_seat", 7)]) (N := ["_law_pot_here", "_law_seats", "_law_many", "_law_sparse", "_law_found", "_law_k", "_law_row", "_law_seat"]) (sc := (defScope tp23)) (by decide +kernel)) (fun _ _ _ _ _ => pg_name (i := 7) scArgs.nd rfl (Or.inl rfl)) (fun _ _ _ _ _ => pts_one (pt_cmpR op_eq (pe_kn kn__law_take hr (by decide) (by rfl) (pa_cons (pv 0) (pa_cons (pv 3) pa_nil))) pe_int (nomark _))) (fun _ _ _ _ _ => (pv 7)))
      (pss_cons (ps_if (PW.pt (pw_and (pt_cmpR (kop_neD K hr.units) (pv 4) (pe_lst pa_nil) (nomark _)) (pw_and1 (pt_cmpR op_eq (pe_kn kn__law_take hr (by decide) (by rfl) (pa_cons (pv 0) (pa_cons pe_int pa_nil))) pe_int (nomark _))))) (pss_one (ps_set (i := 6) scArgs.nd rfl (Or.inl rfl) (pe_ix (kix_list K) (pv 4) (pe_kn kn__law_take hr (by decide) (by rfl) (pa_cons (pv 0) (pa_cons (pe_callB (kcall_len K) (by rfl) B.len (by decide +kernel) (pa_cons (pv 4) pa_nil)) pa_nil))) (fun _ _ => rfl)))) pss_nil)
      (pss_one (ps_expr (pe_bm PySem.F.plainAttrs_list PySem.F.slot_list_append PySem.F.type_list_append mt_append (pv 4) (pa_cons (pe_kn kn__law_shuffled hr (by decide) (by rfl) (pa_cons (pv 0) (pa_cons (pv 6) pa_nil))) pa_nil)))))))
      (pss_one (ps_ret (pe_tup (pa_cons (pv 1) (pa_cons (pv 4) pa_nil)))))))))), ?_⟩
    -- how many seats
    refine ⟨.ref p, rfl, (by show 2 ≤ sizeLine; decide), fun a na => ?_⟩
    have ap : a ≠ p := p0.ne na
    refine ⟨.ref p, rfl, p, 2, rfl, by decide, by decide, p0.new na, fun e H1 e0 e1 k1 p1 => ?_⟩
    obtain ⟨mo, hmo, mo2⟩ := at2 (a := 13) (b := 5) e0 e1
    have mo1 : (mo : Int) < 10 ^ 31 := Int.lt_of_le_of_lt (b := 13) (by omega) (by decide)
    refine ⟨a, _, e, _, rfl, rfl, SqL.of (k1 _ _ ap upd_same), hmo, p, (mo : Int), rfl, by omega, mo1, p1, fun n' H2 n0 n1 k2 p2 => ?_⟩
    obtain ⟨n, rfl⟩ := Int.eq_ofNat_of_zero_le n0
    have n12 : n ≤ 12 := by omega
    have k02 : Keep p H H2 := ((Keep.new na).trans k1).trans k2
    -- how many things
    refine ⟨.ref p, rfl, p, 25, rfl, by decide, by decide, p2, fun a1 H3 a10 a11 k3 p3 => ?_⟩
    refine ⟨.ref p, rfl, p, 7, rfl, by decide, by decide, p3, fun a2 H4 a20 a21 k4 p4 => ?_⟩
    obtain ⟨a1, rfl⟩ := Int.eq_ofNat_of_zero_le a10
    obtain ⟨a2, rfl⟩ := Int.eq_ofNat_of_zero_le a20
    refine ⟨(by show 3 ≤ sizeLine; decide), fun b nb => ?_⟩
    have bp : b ≠ p := p4.ne nb
    refine ⟨.ref p, rfl, p, 3, rfl, by decide, by decide, p4.new nb, fun e' H5 e'0 e'1 k5 p5 => ?_⟩
    obtain ⟨m, hm, m3⟩ := at3 (a := 24) (b := a1) (c := a2) e'0 e'1
    refine ⟨b, _, e', _, rfl, rfl, SqL.of (k5 _ _ bp upd_same), hm, ?_⟩
    have m24 : m ≤ 24 := by omega
    have k05 : Keep p H H5 := (((k02.trans k3).trans k4).trans (Keep.new nb)).trans k5
    -- how sparse
    refine ⟨.ref p, rfl, p, 4, rfl, by decide, by decide, p5, fun e2 H6 e20 e21 k6 p6 => ⟨_, _, rfl, rfl, ?_⟩⟩
    refine ⟨Nat.zero_le _, fun F hF => ?_⟩
    have Fp : F ≠ p := p6.ne hF
    have sp1 : (1 : Int) + e2 < 10 ^ 31 := Int.lt_of_le_of_lt (b := 5) (by omega) (by decide)
    have k06 := k05.trans k6
    have nF0 : H F = none := k06.gone Fp hF
    refine ⟨_, rfl, (m : Int), rfl, by omega, by omega, for_range (n := m) (fun i σ H' => ∃ (v5 v6 v7 : Option V) (xs : List V) (rs : List (List Nat)), σ = [some (.ref p), some (.int (n : Int)), some (.int (m : Int)), some (.int (1 + e2)), some (.ref F), v5, v6, v7] ∧ H' F = some (.lst xs) ∧ RowsAtG p H' xs rs ∧ (∀ b, .ref b ∈ xs → b ≠ F) ∧ rs.length = i ∧ (∀ t ∈ rs, RowOk n t) ∧ Keep p H H' ∧ Pot H' p)
      ⟨_, _, _, [], [], rfl, upd_same, .nil, fun b hb => (nomatch hb), rfl, fun t ht => (nomatch ht), k06.trans (Keep.new hF), p6.new hF⟩ ?_ ?_⟩
    · rintro i σ H' hi ⟨v5, v6, v7, xs, rs, rfl, hF', hX, nFx, lr, okr, kp, p'⟩
      have xl : xs.length = rs.length := Paired.length hX
      refine ⟨_, rfl, (n : Int), rfl, by omega, by omega, fun D hD => lc_range (n := n) (fun j H2 => ∃ l : List Nat, H2 D = some (.lst (nats l)) ∧ l.length ≤ j ∧ l.Nodup ∧ (∀ s ∈ l, s < j) ∧ Keep p H' H2 ∧ Pot H2 p) ⟨[], upd_same, Nat.le_refl _, List.nodup_nil, fun s hs => (nomatch hs), Keep.new hD, p'.new hD⟩ ?_ ?_⟩
      · rintro j J hj ⟨l, hd, ll, nl, bl, kj, pj⟩
        have Dp : D ≠ p := p'.ne hD
        refine ⟨rfl, ?_⟩
        refine ⟨.ref p, rfl, .int (1 + e2), rfl, p, 1 + e2, rfl, by omega, sp1, pj, fun d J2 d0 d1 k2' p2' => ?_⟩
        refine ⟨rfl, _, rfl, ite2 (fun c => ?_) (fun c => ?_)⟩
        · refine ⟨_, rfl, nats l, k2' _ _ Dp hd, by rw [List.length_map, sizeLine_eq]; omega, l ++ [j], by rw [upd_same, Int.zero_add, nats_snoc], by rw [List.length_append]; exact Nat.succ_le_succ ll, ?_, fun s hs => ?_, fun c' o' n' e' => ?_, p2'.off Dp⟩
          · refine List.nodup_append.mpr ⟨nl, by simp, fun a ha b hb e => ?_⟩
            have h1 := bl a ha
            have h2 := List.mem_singleton.mp hb
            omega
          · rcases List.mem_append.mp hs with z | z
            · have := bl s z
              omega
            · have := List.mem_singleton.mp z
              omega
          · rw [upd_ne (ne_of_none e' hD)]
            exact k2' _ _ n' (kj _ _ n' e')
        · exact ⟨l, k2' _ _ Dp hd, by omega, nl, fun s hs => by have := bl s hs; omega, kj.trans k2', p2'⟩
      rintro Hc ⟨l, hd, ll, nl, bl, kc, pc⟩
      have Dp : D ≠ p := p'.ne hD
      have DF : D ≠ F := (ne_of_none hF' hD).symm
      have hFc := kc _ _ Fp hF'
      have hXc := hX.keep kc
      obtain ⟨zc, zbc, hpc, _⟩ := id pc
      apply joinA (Cd := fun b J => ∃ r : List Nat, b ≠ p ∧ J b = some (.lst (nats r)) ∧ RowOk n r ∧ Keep p Hc J ∧ Pot J p)
      · intro rest
        refine ⟨.ref F, rfl, Nat.zero_le _, fun z nz => ?_⟩
        have sz := same_new (o := .lst []) nz
        have hz : (upd Hc z (.lst [])) z = some (.lst (nums [])) := upd_same
        have pz := pc.new (o := .lst []) nz
        generalize upd Hc z (.lst []) = Hz at sz hz pz ⊢
        refine ⟨_, _, dp_rows (SqL.of (sz _ _ hFc)) (Paired.mapP hXc fun _ _ ⟨b, _, e, hb⟩ => ⟨b, e, sz _ _ hb⟩), dp_ints (ns := []) (SqL.of hz), shaped_lists _, shaped_ints [], _, rfl, ite2 (fun c => ?_) (fun c => ?_)⟩
        · have x0 : 0 < xs.length := Nat.pos_of_ne_zero fun e => by
            have e1 : rs = [] := List.length_eq_zero_iff.mp (by omega)
            rw [e1] at c
            have := eqv_lists []
            rw [show dLists (rowI []) = dLists [] from rfl, show dInts [] = dLists [] from rfl, this] at c
            cases c
          refine ⟨.ref p, rfl, p, 4, rfl, by decide, by decide, pz, fun d J d0 d1 kJ pJ => ⟨rfl, _, rfl, ite2 (fun c2 => ?_) (fun c2 => ?_)⟩⟩
          · have l31 : (xs.length : Int) < 10 ^ 31 := Int.lt_of_le_of_lt (b := 25) (by omega) (by decide)
            refine ⟨.ref F, rfl, .ref p, rfl, .ref F, rfl, F, _, rfl, .inl (SqL.of (kJ _ _ Fp (sz _ _ hFc))), p, (xs.length : Int), rfl, by omega, l31, pJ, fun d2 J2 d20 d21 kJ2 pJ2 => ?_⟩
            obtain ⟨d2, rfl⟩ := Int.eq_ofNat_of_zero_le d20
            have kk : Keep p Hc J2 := ((Keep.same sz).trans kJ).trans kJ2
            have dl : d2 < xs.length := by omega
            obtain ⟨r, hr', b', bp', e', hb'⟩ := pd_at hXc (List.getElem?_eq_getElem dl)
            refine ⟨F, _, (d2 : Int), .ref b', rfl, rfl, SqL.of (kk _ _ Fp hFc), atI_nat (j := d2) (by rw [List.getElem?_eq_getElem dl, e']), ?_⟩
            exact rest b' J2 ⟨r, bp', kk _ _ bp' hb', okr r (List.mem_of_getElem? hr'), kk, pJ2⟩
          · exact rest D J ⟨l, Dp, kJ _ _ Dp (sz _ _ hd), ⟨nl, fun s hs => bl s hs⟩, (Keep.same sz).trans kJ, pJ⟩
        · exact iteF (rest D Hz ⟨l, Dp, sz _ _ hd, ⟨nl, fun s hs => bl s hs⟩, Keep.same sz, pz⟩)
      rintro b1 J ⟨r, bp1, hb1, ok1, kJ, pJ⟩
      have rl : r.length ≤ n := St.Tried.len (tr := r) ⟨ok1.1, ok1.2⟩
      refine ⟨.ref F, rfl, .inl ⟨rfl, _, SqL.of (kJ _ _ Fp hFc)⟩, .ref p, rfl, .ref b1, rfl, p, b1, nats r, rfl, bp1, SqL.of hb1, by rw [List.length_map]; omega, pJ, fun ys o J2 pm no k2' p2' ho => ?_⟩
      obtain ⟨r', rfl, ok'⟩ := row_perm ok1 pm
      have kk := kJ.trans k2'
      have hF2 := kk _ _ Fp hFc
      have op : o ≠ p := pJ.ne no
      have oF : o ≠ F := fun z => by
        rw [z, kJ _ _ Fp hFc] at no
        cases no
      refine ⟨F, xs, _, rfl, rfl, hF2, by rw [sizeLine_eq]; omega, ?_⟩
      refine ⟨_, _, _, xs ++ [.ref o], rs ++ [r'], rfl, upd_same, ?_, fun c hc => ?_, by rw [List.length_append, lr]; rfl, fun t ht => ?_, fun c o' nc e => ?_, p2'.off Fp⟩
      · refine pd_snoc (pd_mapMem (hXc.keep kk) fun x hx r ⟨c, n1, e, hc⟩ => ⟨c, n1, e, ?_⟩) ⟨o, op, rfl, by rw [upd_ne oF]; exact ho⟩
        rw [upd_ne (nFx c (by rw [← e]; exact hx))]
        exact hc
      · rcases List.mem_append.mp hc with z | z
        · exact nFx c z
        · rw [V.ref.inj (List.mem_singleton.mp z)]
          exact oF
      · rcases List.mem_append.mp ht with z | z
        · exact okr t z
        · rw [List.mem_singleton.mp z]
          exact ok'
      · rw [upd_ne (ne_of_none e nF0)]
        exact kk _ _ nc (kc _ _ nc (kp _ _ nc e))
    · rintro σ H' ⟨v5, v6, v7, xs, rs, rfl, hF', hX, nFx, lr, okr, kp, p'⟩
      refine ⟨_, rfl, .ref F, rfl, (by show 2 ≤ sizeLine; decide), fun t nt => ?_⟩
      have st := same_new (o := .tup [V.int (n : Int), .ref F]) nt
      exact q t F xs rs n _ upd_same Fp (st _ _ hF') (hX.keep (Keep.same st)) (by omega) n12 okr (kp.trans (Keep.same st)) (p'.at (q := p) fun o e => st _ _ e)
end
end Nal

namespace Nal
open PySem PySem.Spec PyProof.Rows L2 LamX NdefX
theorem joinH {A : Prop} {R Cd : Hp → Prop} (h1 : (∀ H, Cd H → R H) → A) (h2 : ∀ H, Cd H → R H) : A := h1 h2
theorem sw_one {N : Int → List Nat} {l l' : List Int} {a b : Nat} (h : St.SW N l a) (h' : St.SW N l' b) (e : ∀ x, x ∈ l ↔ x ∈ l') : a = b := Nat.le_antisymm (h.le (fun x hx => (e x).mp hx) h') (h'.le (fun x hx => (e x).mpr hx) h)
theorem sw_nil {N : Int → List Nat} {k : Nat} (h : St.SW N [] k) : k = 0 := by
  obtain ⟨⟨m, _, _, hm, rfl⟩, _⟩ := h
  match m, hm with
  | [], _ => rfl
  | p :: _, hm => exact (nomatch (hm p List.mem_cons_self).1)
theorem SeatY.cls {C y : Addr} {H : Hp} {n : Nat} {rows : List (List Nat)} (h : SeatY C H y n rows) {m : Str} (h1 : ¬ m = "seat_count") (h2 : ¬ m = "seat_rows") : ∃ dx fs, H y = some (.ins C dx fs) ∧ fs.lookup m = none := by
  obtain ⟨dx, t, xs, hy, _⟩ := h
  exact ⟨dx, _, hy, lk_seatN h1 h2⟩
theorem made_same {H1 : Hp} {x dx C : Addr} (nx : H1 x = none) (nd : H1 dx = none) : Same H1 (upd (upd H1 dx (.own x)) x (.ins C dx [])) := fun b o e => made_at nx nd e
section
variable {P : Program} {w : World} {K : PySem.W.Frag} {mg : Str → Option Value} {base : Heap} {C : Addr} {T : List (Addr × Str)}
def spRight22 (C : Addr) : Sp := fun vs H Q _ => ∃ (p y R : Addr) (n : Nat) (rows : List (List Nat)) (xs : List V), vs = [.ref p, .ref y, .ref R] ∧ Pot H p ∧ SeatY C H y n rows ∧ R ≠ p ∧ H R = some (.lst xs) ∧ RowsAtG p H xs rows ∧ rows.length ≤ 24 ∧ n ≤ 12 ∧ (∀ r ∈ rows, RowOk n r) ∧
  ∀ H' : Hp, Keep p H H' → Pot H' p → Q (.bl true) H'
theorem scRight : FnScope ["_law_pot_here", "_law_yard", "_law_rows", "_law_many", "_law_heap", "_law_due", "_law_asked", "_law_kept"] ["_law_pot_here", "_law_yard", "_law_rows"] (defScope tp30) := ⟨rfl, rfl, rfl, by decide +kernel, rfl, by decide +kernel, by decide +kernel⟩
theorem kn_right (h : At K mg "_law_right" tp30) (B : Bl mg) (cl_Seats : Cls K C) (kn__law_is : Kn P w K mg base 1 "_law_is" ["_law_told", "_law_due"] spIs) (kn__law_seated : Kn P w K mg base 15 "_law_seated" ["_law_rows", "_law_heap"] spSeatedL) (kn__law_least : Kn P w K mg base 2 "_law_least" ["_law_rows", "_law_heap"] spLeastL)
    (kn__law_heaps : Kn P w K mg base 3 "_law_heaps" ["_law_pot_here", "_law_many"] spHeapsL) (kn__law_shuffled : Kn P w K mg base 2 "_law_shuffled" ["_law_pot_here", "_law_some"] (spShuffled K))
    (m_Seats_whole : Mt P w K mg base C 16 "whole" ["self"] (spWholeS C)) (m_Seats_worth : Mt P w K mg base C 16 "worth" ["self", "heap"] (spWorthS C)) (m_Seats_many : Mt P w K mg base C 1 "many" ["self"] (spCountS C)) (m_Seats_things : Mt P w K mg base C 1 "things" ["self"] (spThingsS C)) :
    Kn P w K mg base 17 "_law_right" ["_law_pot_here", "_law_yard", "_law_rows"] (spRight22 C) := by
  refine kn_of h scRight (fun _ _ _ _ _ _ us hl => match us, hl with | [_, _, _], _ => rfl) (fun vs H Q E h => ?_) (fun f cdv A outer s H vs Q E hr h => ?_)
  · obtain ⟨p, y, R, n, rows, xs, rfl, _⟩ := h
    rfl
  · obtain ⟨p, y, R, n, rows, xs, rfl, p0, sy, Rp, hR, hX, r24, n12, okr, q⟩ := h
    refine ⟨_, (pss_cons (ps_set (i := 3) scRight.nd rfl (Or.inl rfl) (pe_callB (kcall_len K) (by rfl) B.len (by decide +kernel) (pa_cons (pv 2) pa_nil)))
      (pss_cons (ps_if (PW.pt (pw_or (pt_not (pt_val (pe_kn kn__law_is hr (by decide) (by rfl) (pa_cons (pe_mth0 (pv 1) cl_Seats m_Seats_whole hr (by decide)) (pa_cons (pe_kn kn__law_seated hr (by decide) (by rfl) (pa_cons (pv 2) (pa_cons (pe_listRg rfl (by rfl) B.t_list (prg_1 (by rfl) B.range (pv 3))) pa_nil))) pa_nil))))) (pw_or1 (pt_cmpR op_ne (pe_mth (pv 1) cl_Seats m_Seats_worth hr (by decide) (pa_cons (pe_lst pa_nil) pa_nil)) pe_int (nomark _))))) (pss_one (ps_ret pe_bl)) pss_nil)
      (pss_cons (ps_for PassesOwn.never rfl (pi_list (pe_kn kn__law_heaps hr (by decide) (by rfl) (pa_cons (pv 0) (pa_cons (pv 3) pa_nil)))) (pg_name (i := 4) scRight.nd rfl (Or.inl rfl))
        (pss_cons (ps_set (i := 5) scRight.nd rfl (Or.inl rfl) (pe_kn kn__law_seated hr (by decide) (by rfl) (pa_cons (pv 2) (pa_cons (pv 4) pa_nil))))
      (pss_cons (ps_if (PW.pt (pw_and (pt_cmpR op_lt (pe_callB (kcall_len K) (by rfl) B.len (by decide +kernel) (pa_cons (pv 4) pa_nil)) pe_int (nomark _)) (pw_and1 (pt_cmpR op_ne (pe_kn kn__law_least hr (by decide) (by rfl) (pa_cons (pv 2) (pa_cons (pv 4) pa_nil))) (pv 5) (nomark _))))) (pss_one (ps_ret pe_bl)) pss_nil)
      (pss_cons (ps_set (i := 6) scRight.nd rfl (Or.inl rfl) (pe_kn kn__law_shuffled hr (by decide) (by rfl) (pa_cons (pv 0) (pa_cons (pv 4) pa_nil))))
      (pss_cons (ps_set (i := 7) scRight.nd rfl (Or.inl rfl) (pe_callTy (kcall_list K) (by rfl) B.t_list (by decide +kernel) (pa_cons (pv 6) pa_nil)))
      (pss_one (ps_if (PW.pt (pw_or (pt_not (pt_val (pe_kn kn__law_is hr (by decide) (by rfl) (pa_cons (pe_mth (pv 1) cl_Seats m_Seats_worth hr (by decide) (pa_cons (pv 6) pa_nil)) (pa_cons (pv 5) pa_nil))))) (pw_or (pt_not (pt_val (pe_kn kn__law_is hr (by decide) (by rfl) (pa_cons (pe_mth (pv 1) cl_Seats m_Seats_worth hr (by decide) (pa_cons (pv 4) pa_nil)) (pa_cons (pv 5) pa_nil))))) (pw_or1 (pt_cmpR (kop_neD K hr.units) (pv 6) (pv 7) (nomark _)))))) (pss_one (ps_ret pe_bl)) pss_nil)))))))
      (pss_one (ps_ret (pe_and (pe_kn kn__law_is hr (by decide) (by rfl) (pa_cons (pe_mth0 (pv 1) cl_Seats m_Seats_many hr (by decide)) (pa_cons (pv 3) pa_nil))) (pe_one (pe_cmpR (kop_eqD K hr.units) (pe_mth0 (pv 1) cl_Seats m_Seats_things hr (by decide)) (pe_listRg rfl (by rfl) B.t_list (prg_1 (by rfl) B.range (pv 3))) (nomark _))))))))), ?_⟩
    have xl : xs.length = rows.length := Paired.length hX
    have dom : ∀ r ∈ rows, ∀ s ∈ r, s < n := fun r hr' => (okr r hr').2
    obtain ⟨z0, zb0, hp0, _⟩ := id p0
    refine ⟨.ref R, rfl, R, _, rfl, .inl (SqL.of hR), ?_⟩
    rw [xl]
    -- all, and nothing
    obtain ⟨dx, fs, hy, lk⟩ := sy.cls (m := "whole") (by decide +kernel) (by decide +kernel)
    refine ⟨.ref y, rfl, y, dx, fs, rfl, hy, lk, y, n, rows, rfl, sy, r24, n12, dom, fun k H1 sw s1 => ?_⟩
    refine ⟨.ref R, rfl, _, rfl, (rows.length : Int), rfl, RgOk.of_le (by omega) (by omega) (by omega) (by omega), fun d nd => ?_⟩
    rw [rg_nums]
    have sd := same_new (o := .lst (nums (upTo rows.length))) nd
    have s1d := s1.trans sd
    refine ⟨R, d, xs, rows, n, upTo rows.length, rfl, s1d _ _ hR, Paired.mapP hX fun _ _ ⟨b, _, e, hb⟩ => ⟨b, e, s1d _ _ hb⟩, r24, n12, dom, upd_same, range_hp _, fun k2 H2 sw2 s2 => ?_⟩
    have ek : k = k2 := sw_one sw sw2 fun x => Iff.rfl
    refine ⟨(k : Int), (k2 : Int), rfl, _, rfl, ?_⟩
    rw [ek, decide_eq_true rfl]
    refine iteF ?_
    have s02 := s1d.trans s2
    obtain ⟨dx1, fs1, hy1, lk1⟩ := (sy.same s02).cls (m := "worth") (by decide +kernel) (by decide +kernel)
    refine ⟨.ref y, rfl, y, dx1, fs1, rfl, hy1, lk1, Nat.zero_le _, fun e ne => ?_⟩
    have se := same_new (o := .lst []) ne
    refine ⟨y, e, n, rows, [], rfl, (sy.same s02).same se, r24, n12, dom, upd_same, ⟨by simp, fun x hx => (nomatch hx)⟩, fun k3 H3 sw3 s3 => ⟨rfl, _, rfl, ?_⟩⟩
    rw [sw_nil sw3]
    refine iteF ?_
    have s03 := (s02.trans se).trans s3
    have p3 : Pot H3 p := p0.at (q := p) fun o e => s03 _ _ e
    -- heap by heap
    refine ⟨.ref p, rfl, _, rfl, p, rows.length, rfl, r24, p3, fun r hs H4 rp lh k4 p4 hr4 hH => ?_⟩
    obtain ⟨z3, zb3, hp3, _⟩ := id p3
    obtain ⟨z4, zb4, hp4, _⟩ := id p4
    have k04 : Keep p H H4 := (Keep.same s03).trans k4
    have sy4 : SeatY C H4 y n rows := sy.keep hp0 k04
    have hR4 := k04 _ _ Rp hR
    have hX4 := hX.keep k04
    refine ⟨r, rfl, ⟨_, SqL.of hr4⟩, for_list (K := K) (a := r) (xs := hs) (fun j σ H' => ∃ v4 v5 v6 v7 : Option V, σ = [some (.ref p), some (.ref y), some (.ref R), some (.int (rows.length : Int)), v4, v5, v6, v7] ∧ Keep p H4 H' ∧ Pot H' p)
      ⟨_, _, _, _, rfl, Keep.refl _ _, p4⟩ (fun j σ H' _ ⟨_, _, _, _, _, k', _⟩ => SqL.of (k' _ _ rp hr4)) ?_ ?_⟩
    · rintro j x σ H' hj ⟨v4, v5, v6, v7, rfl, k', p'⟩
      obtain ⟨c, s, rfl, cp, hc, hps⟩ := hH x (List.mem_of_getElem? hj)
      have sl := hps.len
      have hc' := k' _ _ cp hc
      have hR' := k' _ _ Rp hR4
      have hX' := hX4.keep k'
      have sy' : SeatY C H' y n rows := sy4.keep hp4 k'
      refine ⟨.ref R, rfl, .ref c, rfl, R, c, xs, rows, n, s, rfl, hR', hX'.plain, r24, n12, dom, hc', hps, fun kd H5 swd s5 => ?_⟩
      have hc5 := s5 _ _ hc'
      apply joinH (Cd := fun J => Same H5 J)
      · intro rest
        refine ⟨.ref c, rfl, c, _, rfl, .inl (SqL.of hc5), _, _, rfl, rfl, _, rfl, ite2 (fun c1 => ?_) (fun c1 => ?_)⟩
        · have l8 : s.length ≤ 8 := by
            have := of_decide_eq_true c1
            rw [List.length_map] at this
            omega
          refine ⟨.ref R, rfl, .ref c, rfl, R, c, xs, rows, n, s, kd, rfl, s5 _ _ hR', Paired.mapP hX' fun _ _ ⟨b, _, e, hb⟩ => ⟨b, e, s5 _ _ hb⟩, r24, n12, dom, hc5, hps, l8, swd, fun H6 s6 => ⟨_, rfl, rfl, _, rfl, ?_⟩⟩
          rw [decide_eq_true rfl]
          exact iteF (rest H6 s6)
        · exact iteF (rest H5 fun _ _ e => e)
      rintro J sJ
      have pJ : Pot J p := p'.at (q := p) fun o e => sJ _ _ (s5 _ _ e)
      have k5J : Keep p H' J := Keep.same (s5.trans sJ)
      refine ⟨.ref p, rfl, .ref c, rfl, p, c, nums s, rfl, cp, SqL.of (sJ _ _ hc5), by rw [List.length_map]; omega, pJ, fun ys o J2 pm no k2' p2' ho => ?_⟩
      obtain ⟨os, rfl, po⟩ := perm_nums pm
      have op : o ≠ p := pJ.ne no
      refine ⟨.ref o, rfl, o, _, rfl, .inl (SqL.of ho), fun kk nk => ?_⟩
      have sk := same_new (o := .lst (nums os)) nk
      have hk : (upd J2 kk (.lst (nums os))) kk = some (.lst (nums os)) := upd_same
      have ho3 := sk _ _ ho
      have kA : Keep p H' (upd J2 kk (.lst (nums os))) := (k5J.trans k2').trans (Keep.same sk)
      have p3' := p2'.new (o := .lst (nums os)) nk
      generalize upd J2 kk (.lst (nums os)) = J3 at hk ho3 kA p3' ⊢
      obtain ⟨z', zb', hp', _⟩ := id p'
      have syA : SeatY C J3 y n rows := sy'.keep hp' kA
      obtain ⟨dx2, fs2, hy2, lk2⟩ := syA.cls (m := "worth") (by decide +kernel) (by decide +kernel)
      refine ⟨.ref y, rfl, y, dx2, fs2, rfl, hy2, lk2, .ref o, rfl, y, o, n, rows, os, rfl, syA, r24, n12, dom, ho3, hps.perm po, fun ka J4 swa s4 => ?_⟩
      refine ⟨_, rfl, (ka : Int), (kd : Int), rfl, _, rfl, ?_⟩
      rw [sw_one swa swd fun x => po.mem_iff, decide_eq_true rfl]
      refine iteF ?_
      refine ⟨.ref y, rfl, y, dx2, fs2, rfl, s4 _ _ hy2, lk2, .ref c, rfl, y, c, n, rows, s, rfl, syA.same s4, r24, n12, dom, s4 _ _ (kA _ _ cp hc'), hps, fun kb J5 swb s5' => ?_⟩
      refine ⟨_, rfl, (kb : Int), (kd : Int), rfl, _, rfl, ?_⟩
      rw [sw_one swb swd fun x => Iff.rfl, decide_eq_true rfl]
      refine iteF ?_
      have sE := s4.trans s5'
      refine ⟨.ref o, rfl, .ref kk, rfl, _, _, dp_ints (SqL.of (sE _ _ ho3)), dp_ints (SqL.of (sE _ _ hk)), shaped_ints _, shaped_ints _, _, rfl, ?_⟩
      rw [eqv_same]
      exact iteF ⟨_, _, _, _, rfl, (k'.trans kA).trans (Keep.same sE), p3'.at (q := p) fun o e => sE _ _ e⟩
    · rintro σ H' ⟨v4, v5, v6, v7, rfl, k', p'⟩
      have sy' : SeatY C H' y n rows := sy4.keep hp4 k'
      obtain ⟨dx2, fs2, hy2, lk2⟩ := sy'.cls (m := "many") (by decide +kernel) (by decide +kernel)
      refine ⟨.ref y, rfl, y, dx2, fs2, rfl, hy2, lk2, y, n, rows, rfl, sy', _, rfl, (rows.length : Int), (rows.length : Int), rfl, _, rfl, ?_⟩
      rw [decide_eq_true rfl]
      obtain ⟨dx3, fs3, hy3, lk3⟩ := sy'.cls (m := "things") (by decide +kernel) (by decide +kernel)
      refine iteT ⟨.ref y, rfl, y, dx3, fs3, rfl, hy3, lk3, y, n, rows, rfl, sy', r24, fun r1 H1 nr1 e1 => ?_⟩
      subst e1
      have sr := same_new (o := .lst (nums (upTo rows.length))) nr1
      refine ⟨_, rfl, (rows.length : Int), rfl, RgOk.of_le (by omega) (by omega) (by omega) (by omega), fun d2 nd2 => ?_⟩
      rw [rg_nums]
      have sd2 := same_new (o := .lst (nums (upTo rows.length))) nd2
      refine ⟨_, _, dp_ints (SqL.of (sd2 _ _ upd_same)), dp_ints (SqL.of upd_same), shaped_ints _, shaped_ints _, ?_⟩
      rw [eqv_same]
      have sE := sr.trans sd2
      exact q _ ((k04.trans k').trans (Keep.same sE)) (p'.at (q := p) fun o e => sE _ _ e)
end
end Nal

namespace Nal
open PySem PySem.Spec PyProof.Rows L2 LamX NdefX
section
variable {P : Program} {w : World} {K : PySem.W.Frag} {mg : Str → Option Value} {base : Heap} {C : Addr} {T : List (Addr × Str)}
def spLaw (K : PySem.W.Frag) (T : List (Addr × Str)) : Sp := fun vs H Q _ => ∃ (a : Addr) (sc : List Int), vs = [.ref a] ∧ SqL K H a (nums sc) ∧ Tabs T H ∧ ∀ H', Q (.bl true) H'
theorem scLaw : FnScope ["_law_script", "_law_k", "_law_pot_here", "_law_seats", "_law_rows", "_law_yard", "_law_row"] ["_law_script"] (defScope tp31) := ⟨rfl, rfl, rfl, by decide +kernel, rfl, by decide +kernel, by decide +kernel⟩
theorem ok_law {f : Addr} {fd : FuncData} (F : Fun K "law" "law" tp31 f fd) (B : Bl mg) (cl_Seats : Cls K C)
    (kn__law_pot : Kn P w K mg base 1 "_law_pot" ["_law_script", "_law_k"] (spPot K)) (kn__law_args : Kn P w K mg base 3 "_law_args" ["_law_pot_here"] spArgs) (mk_Seats : MkC P w K mg base C 5 "Seats" ["self", "seats", "rows"] (spSInit T C))
    (kn__law_right : Kn P w K mg base 17 "_law_right" ["_law_pot_here", "_law_yard", "_law_rows"] (spRight22 C)) (m_Seats_seats : Mt P w K mg base C 1 "seats" ["self"] (spSeatsS C)) (m_Seats_rows : Mt P w K mg base C 1 "rows" ["self"] (spRowsS C)) :
    FnG P w K mg base CX0 18 f fd ["_law_script"] (spLaw K T) := by
  refine okG F scLaw (fun vs H Q E h => ?_) (fun cdv A outer s H vs Q E hgd hr h => ?_)
  · obtain ⟨a, sc, rfl, _⟩ := h
    rfl
  · obtain ⟨a, sc, rfl, hS, tT, q⟩ := h
    refine ⟨_, (pss_cons (ps_for PassesOwn.never rfl (pi_range1 (by rfl) B.range (pa_cons (pe_callB (call_max2 rfl) (by rfl) B.max (by decide +kernel) (pa_cons pe_int (pa_cons (pe_callB (call_min2 rfl) (by rfl) B.min (by decide +kernel) (pa_cons (pe_callB (kcall_len K) (by rfl) B.len (by decide +kernel) (pa_cons (pv 0) pa_nil)) (pa_cons pe_int pa_nil))) pa_nil))) pa_nil)) (pg_name (i := 1) scLaw.nd rfl (Or.inl rfl))
        (pss_cons (ps_set (i := 2) scLaw.nd rfl (Or.inl rfl) (pe_kn kn__law_pot hr (by decide) (by rfl) (pa_cons (pv 0) (pa_cons (pv 1) pa_nil))))
      (pss_cons (ps_asg (pe_kn kn__law_args hr (by decide) (by rfl) (pa_cons (pv 2) pa_nil)) (kpg_tup (n := 2) K (by rfl) (pgs_cons (pg_name (i := 3) scLaw.nd rfl (Or.inl rfl)) (pgs_cons (pg_name (i := 4) scLaw.nd rfl (Or.inl rfl)) pgs_nil))))
      (pss_cons (ps_set (i := 5) scLaw.nd rfl (Or.inl rfl) (pe_mkc mk_Seats hr (by decide) (by rfl) (pa_cons (pv 3) (pa_cons (pe_lc (own := [("_law_row", 6)]) (g := gName 6) (tt := tYes)  rfl scLaw.nd (pi_list (pv 4)) (blkOk_by (own := [("_law_row", 6)]) (N := ["_law_script", "_law_k", "_law_pot_here", "_law_seats", "_law_rows", "_law_yard", "_law_row"]) (sc := (defScope tp31)) (by decide +kernel)) (fun _ _ _ _ _ => pg_name (i := 6) scLaw.nd rfl (Or.inl rfl)) (fun _ _ _ _ _ => pts_nil) (fun _ _ _ _ _ => (pe_callTy (kcall_list K) (by rfl) B.t_list (by decide +kernel) (pa_cons (pv 6) pa_nil)))) pa_nil))))
      (pss_one (ps_if (PW.pt (pw_or (pt_not (pt_val (pe_kn kn__law_right hr (by decide) (by rfl) (pa_cons (pv 2) (pa_cons (pv 5) (pa_cons (pv 4) pa_nil)))))) (pw_or (pt_cmpR op_ne (pe_mth0 (pv 5) cl_Seats m_Seats_seats hr (by decide)) (pv 3) (nomark _)) (pw_or1 (pt_cmpR (kop_neD K hr.units) (pe_mth0 (pv 5) cl_Seats m_Seats_rows hr (by decide)) (pv 4) (nomark _)))))) (pss_one (ps_ret pe_bl)) pss_nil))))))
      (pss_one (ps_ret pe_bl))), ?_⟩
    refine ⟨.ref a, rfl, a, _, rfl, .inl hS, _, 3, rfl, 2, _, rfl, ?_⟩
    generalize hv : (if (if 3 < ((nums sc).length : Int) then (3 : Int) else ((nums sc).length : Int)) > 2 then (if 3 < ((nums sc).length : Int) then (3 : Int) else ((nums sc).length : Int)) else 2) = v
    have v0 : 0 ≤ v ∧ v ≤ 3 := by
      rw [← hv]
      split <;> split <;> omega
    refine ⟨v, rfl, by omega, by omega, ?_⟩
    refine for_range (n := v.toNat) (fun i σ H' => ∃ v1 v2 v3 v4 v5 v6 : Option V, σ = [some (.ref a), v1, v2, v3, v4, v5, v6] ∧ SqL K H' a (nums sc) ∧ Tabs T H') ?_ ?_ ?_
    · exact ⟨none, none, none, none, none, none, rfl, hS, tT⟩
    · rintro i σ H0 hi ⟨v1, v2, v3, v4, v5, v6, rfl, hS0, t0⟩
      refine ⟨.ref a, rfl, .int (0 + (i : Int)), rfl, a, sc, i, by rw [Int.zero_add]; rfl, by omega, hS0, fun p H1 np s1 p1 => ?_⟩
      have scr := Scr.of hS0 np s1
      refine ⟨.ref p, rfl, p, rfl, p1, fun t R xs rows n H2 ht Rp hR hX r24 n12 ok k2 p2 => ?_⟩
      have t2 : Tabs T H2 := p1.tabs (t0.ext s1) k2
      have scr2 := scr.evo (Evo.ofKeep k2)
      have xl : xs.length = rows.length := Paired.length hX
      refine ⟨t, _, rfl, .inl (.inl ht), rfl, _, _, rfl, _, _, rfl, rfl, ?_⟩
      -- the yard
      refine ⟨_, rfl, .ref R, rfl, R, rfl, ⟨_, SqL.of hR⟩, fun D hD => lc_list (K := K) (a := R) (xs := xs) (fun i H' => ∃ ys, H' D = some (.lst ys) ∧ ys.length = i ∧ (∀ b, .ref b ∈ ys → b ≠ D) ∧ RowsAtL H' ys (rows.take i) ∧ Same H2 H') ⟨[], upd_same, rfl, fun b hb => (nomatch hb), .nil, same_new hD⟩
        (fun i H' _ ⟨_, _, _, _, _, s'⟩ => s'.seq (SqL.of hR)) ?_ ?_⟩
      · rintro i x H' hi ⟨ys, hys, ly, nD, hY, s'⟩
        obtain ⟨r, ht, b, _, rfl, hb⟩ := pd_at hX hi
        have il : i < xs.length := (List.getElem?_eq_some_iff.mp hi).1
        refine ⟨rfl, ?_⟩
        refine ⟨.ref b, rfl, b, _, rfl, .inl (SqL.of (s' _ _ hb)), fun u nu => ?_⟩
        have su := same_new (o := .lst (nats r)) nu
        have Du : D ≠ u := ne_of_none hys nu
        refine ⟨ys, su _ _ hys, by rw [sizeLine_eq]; omega, ys ++ [.ref u], upd_same, by rw [List.length_append, ly]; rfl, fun c hc => ?_, ?_, fun c o e => ?_⟩
        · rcases List.mem_append.mp hc with z | z
          · exact nD c z
          · rw [V.ref.inj (List.mem_singleton.mp z)]
            exact Du.symm
        · rw [take_snoc ht]
          refine pd_snoc (pd_mapMem hY fun x hx r ⟨c, e, hc⟩ => ⟨c, e, ?_⟩) ⟨u, rfl, by rw [upd_ne Du.symm, upd_same]⟩
          rw [upd_ne (nD c (by rw [← e]; exact hx))]
          exact su _ _ hc
        · rw [upd_ne (ne_of_none e hD)]
          exact su _ _ (s' _ _ e)
      rintro H3 ⟨ys, hys, ly, nD, hY, s'⟩
      rw [xl, List.take_length] at hY
      refine fun y dx ny nd ne => ?_
      have ms := made_same (C := C) ny nd
      refine ⟨y, dx, D, n, ys, rows, rfl, upd_same, made_tabs (t2.ext s') ny nd, made_at ny nd hys, Paired.mapP hY fun _ _ ⟨c, e, hc⟩ => ⟨c, e, ms _ _ hc⟩, r24, n12, ok, fun H4 kk t4 sy => ⟨rfl, ?_⟩⟩
      have e4 : ExtN H2 H4 := (ExtN.of s').trans (made_ext ny nd ne kk)
      have p4 := p2.ext e4
      have hR4 : H4 R = some (.lst xs) := e4 _ _ hR (fun _ z => by cases z)
      have hX4 : RowsAtG p H4 xs rows := Paired.mapP hX fun _ _ ⟨b, n, e, hb⟩ => ⟨b, n, e, e4 _ _ hb (fun _ z => by cases z)⟩
      have scr4 := scr2.evo (Evo.ofExt e4)
      refine ⟨.ref p, rfl, .ref y, rfl, .ref R, rfl, p, y, R, n, rows, xs, rfl, p4, sy, Rp, hR4, hX4, r24, n12, ok, fun H5 k5 p5 => ⟨true, rfl, iteF ?_⟩⟩
      obtain ⟨z4, zb4, hp4, _⟩ := id p4
      have sy5 : SeatY C H5 y n rows := sy.keep hp4 k5
      have hR5 := k5 _ _ Rp hR4
      have hX5 := hX4.keep k5
      obtain ⟨dx1, fs1, hy1, lk1⟩ := sy5.cls (m := "seats") (by decide +kernel) (by decide +kernel)
      refine ⟨.ref y, rfl, y, dx1, fs1, rfl, hy1, lk1, y, n, rows, rfl, sy5, _, rfl, rfl, _, rfl, ?_⟩
      rw [decide_eq_true rfl]
      refine iteF ?_
      obtain ⟨dx2, fs2, hy2, lk2⟩ := sy5.cls (m := "rows") (by decide +kernel) (by decide +kernel)
      refine ⟨.ref y, rfl, y, dx2, fs2, rfl, hy2, lk2, y, n, rows, rfl, sy5, r24, fun r zs H6 s6 hr6 hZ => ?_⟩
      refine ⟨.ref R, rfl, _, _, dp_rows (SqL.of hr6) hZ, dp_rows (SqL.of (s6 _ _ hR5)) (Paired.mapP hX5 fun _ _ ⟨b, _, e, hb⟩ => ⟨b, e, s6 _ _ hb⟩), shaped_lists _, shaped_lists _, _, rfl, ?_⟩
      rw [eqv_lists]
      have k46 : Keep p H4 H6 := k5.trans (Keep.same s6)
      exact iteF ⟨_, _, _, _, _, _, rfl, (scr4.evo (Evo.ofKeep k46)).sq, p4.tabs t4 k46⟩
    · rintro σ H' _
      exact q H'
end
end Nal

namespace Nal
open PySem PySem.Spec PyProof.Rows L2 LamX NdefX
theorem at_mk {K : PySem.W.Frag} {mg : Str → Option Value} {h : Heap} {x : Str} {st : Stmt} {f : Addr} {oc : Value} {od an : Option Addr} {osl : Array (Option Value)} {kV doc pm cdv ct : Value} (X : K.In h) (G : h.Ns mainGlobals mg)
    (a : PySem.W.nsIn K mainGlobals x = some (some (.ref f))) (l : K.lookup f = some ⟨oc, od, .func (PySem.W.fnOf x x (defArgs st) (defBody st) (defScope st) .none kV doc pm an cdv ct), osl⟩)
    (c : PySem.W.codeIn K cdv x = true) (k : PySem.W.keepIn K (.ref f) = true) : At K mg x st := ⟨f, _, fun_mk l c k, PySem.W.mg_of X G a⟩
theorem atM_mk {K : PySem.W.Frag} {C : Addr} {m q : Str} {st : Stmt} {f : Addr} {oc : Value} {od an : Option Addr} {osl : Array (Option Value)} {kV doc pm cdv ct : Value}
    (a : PySem.W.findIn K (.ref C) m = some (some (.ref f))) (i : PySem.W.isFn K (.ref f) = true) (l : K.lookup f = some ⟨oc, od, .func (PySem.W.fnOf m q (defArgs st) (defBody st) (defScope st) .none kV doc pm an cdv ct), osl⟩)
    (c : PySem.W.codeIn K cdv q = true) (k : PySem.W.keepIn K (.ref f) = true) : AtM K C m q st := ⟨f, _, fun_mk l c k, ⟨a, i, k⟩⟩
theorem assemble {l : PySem.W.OpenLaw} {w : World} {K : PySem.W.Frag} {mg : Str → Option Value} {fa C fI c Pt : Addr} {h : Heap} {oc kV doc pm ct : Value} {od an : Option Addr} {osl : Array (Option Value)} {t24 tr : Tok}
    (hfa : mg "law" = some (.ref fa)) (B : Bl mg) (cl : Cls K C) (nC : NoAttr K C "seat_count") (nS : NoAttr K C "seat_rows") (M : Mk K C fI) (gC : mg "Seats" = some (.ref C))
    (lk : K.lookup fI = some ⟨oc, od, .func (PySem.W.fnOf "__init__" "Seats.__init__" (defArgs tc16_0) (defBody tc16_0) (defScope tc16_0) .none kV doc pm an (.ref c) ct), osl⟩)
    (hcd : PySem.W.codeIn K (.ref c) "Seats.__init__" = true) (g24 : mg "MOST_THINGS" = some (.int 24 t24)) (gSe : mg "MOST_SEATS" = some (.int 12 tr))
    (tab : h.get? Pt = some { cls := .none, data := .fields #[] }) (tK : K.lookup Pt = none) (tC : PySem.W.CodeHd h c Pt)
    (a_is_whole : At K mg "is_whole" tp6) (a_is_heap : At K mg "is_heap" tp9) (a_rising_heap : At K mg "rising_heap" tp10) (a_check_things : At K mg "check_things" tp13) (a_seated : At K mg "seated" tp17) (a_find_seat : At K mg "find_seat" tp18) (a__law_pot : At K mg "_law_pot" tp20) (a__law_take : At K mg "_law_take" tp21) (a__law_shuffled : At K mg "_law_shuffled" tp22) (a__law_args : At K mg "_law_args" tp23) (a__law_parts : At K mg "_law_parts" tp24) (a__law_least : At K mg "_law_least" tp25) (a__law_finds : At K mg "_law_finds" tp26) (a__law_seated : At K mg "_law_seated" tp27) (a__law_heaps : At K mg "_law_heaps" tp28) (a__law_is : At K mg "_law_is" tp29) (a__law_right : At K mg "_law_right" tp30) (a_law : At K mg "law" tp31)
    (m_seats : AtM K C "seats" "Seats.seats" tc16_1) (m_rows : AtM K C "rows" "Seats.rows" tc16_2) (m_many : AtM K C "many" "Seats.many" tc16_3) (m_things : AtM K C "things" "Seats.things" tc16_4) (m_worth : AtM K C "worth" "Seats.worth" tc16_5) (m_whole : AtM K C "whole" "Seats.whole" tc16_6) : KnownAt l w K 18 63 "_law_script" mg fa h := by
  obtain ⟨f, fd, F, gf⟩ := a_law.ex
  have ef : f = fa := by
    have e := gf.symm.trans hfa
    cases e
    rfl
  subst ef
  refine ⟨fd, [(c, Pt)], spLaw K [(Pt, seatLam)], fun p hp => ?_, fun p hp => ?_, fun p hp => ?_, ?_, fun H a ns _ hT hS => ?_, fun base kb gb tb => ?_⟩
  · cases List.mem_singleton.mp hp
    exact tab
  · cases List.mem_singleton.mp hp
    exact tK
  · cases List.mem_singleton.mp hp
    exact tC
  · obtain ⟨oc', od', kV', doc', pm', an', cdv', ct', osl', rfl, _, _⟩ := F.ex
    exact fun s v => .of_eq rfl
  · refine ⟨a, ns, rfl, hS, fun p hp => ?_, fun _ => rfl⟩
    cases List.mem_singleton.mp hp
    exact TabS.nil (hT (c, Pt) List.mem_cons_self)
  · have TB : TabB base mg c Pt := tb (c, Pt) List.mem_cons_self
    have n_is_whole : Kn l.prog w K mg base 1 "is_whole" ["number", "least", "most"] spWhole := kn_whole a_is_whole B
    have n_is_heap := kn_is_heap a_is_heap B g24 n_is_whole
    have n_rising := kn_rising a_rising_heap B n_is_heap
    have n_fs : Kn l.prog w K mg base 14 "find_seat" ["rows", "thing", "sitters", "tried"] (spFind K 13) := kn_find a_find_seat B 13
    have n_seated := kn_seated a_seated B n_fs
    have mk := mk_seats (Pt := Pt) (T := [(Pt, seatLam)]) List.mem_cons_self (fun p hp _ => by rw [List.mem_singleton.mp hp]) cl nC nS M gC lk hcd B g24 gSe a_check_things n_is_whole n_is_heap TB
    have q_seats : Nal.Mt l.prog w K mg base C 1 "seats" ["self"] (spSeatsS C) := mt_seatsS m_seats cl nC B
    have q_rows : Nal.Mt l.prog w K mg base C 1 "rows" ["self"] (spRowsS C) := mt_rowsS m_rows cl nS B
    have q_many : Nal.Mt l.prog w K mg base C 1 "many" ["self"] (spCountS C) := mt_manyS m_many cl nS B
    have q_things : Nal.Mt l.prog w K mg base C 1 "things" ["self"] (spThingsS C) := mt_thingsS m_things cl nS B
    have q_worth := mt_worthS m_worth cl nS B n_rising n_seated
    have q_whole := mt_wholeS m_whole cl nS B q_things n_seated
    have k_pot : Kn l.prog w K mg base 1 "_law_pot" ["_law_script", "_law_k"] (spPot K) := kn_pot a__law_pot B
    have k_take : Kn l.prog w K mg base 1 "_law_take" ["_law_pot_here", "_law_many"] spTake := kn_take a__law_take B
    have k_shuf := kn_shuffled a__law_shuffled B k_take
    have k_args := kn_args a__law_args B k_take k_shuf
    have k_parts : Kn l.prog w K mg base 1 "_law_parts" ["_law_some"] (spHeapsOf K) := kn_heaps_of a__law_parts B
    have k_least := kn_leastL a__law_least B k_parts
    have k_fi : Kn l.prog w K mg base 14 "_law_finds" ["_law_thing", "_law_rows", "_law_sits", "_law_tried"] (spFinds 13) := kn_finds a__law_finds B 13
    have k_se := kn_seatedL a__law_seated B k_fi
    have k_hp := kn_heapsL a__law_heaps B k_take k_shuf k_parts
    have k_is : Kn l.prog w K mg base 1 "_law_is" ["_law_told", "_law_due"] spIs := kn_is a__law_is B
    have k_ri := kn_right a__law_right B cl k_is k_se k_least k_hp k_shuf q_whole q_worth q_many q_things
    exact ok_law F B cl k_pot k_args mk k_ri q_seats q_rows
end Nal

open PySem PySem.W PyProof.Rows
set_option maxHeartbeats 0 in
theorem PySem.Challenge.cw_noaslong_k22_whole_seats_by_the_least_holds : PySem.Challenge.rw_noaslong_k22_whole_seats_by_the_least.Holds := by
  w_on; o_law; k_head; (case hw => w_witness2)
  k_fill
  refine Nal.walkG (l := PySem.Challenge.rw_noaslong_k22_whole_seats_by_the_least) (n := 63) (k := 18) (x := "_law_script") rfl (by decide) rfl ⟨rfl, by decide, by decide⟩ (fun w h Y => PySem.W.km_in_of Y) ?F
  case F =>
    intro w mg fa h Y KX G hmg
    have B : Nal.Bl mg := by
      refine' ⟨PySem.W.mg_none_of KX G ?b1, PySem.W.mg_none_of KX G ?b2, PySem.W.mg_none_of KX G ?b3, PySem.W.mg_none_of KX G ?b4, PySem.W.mg_none_of KX G ?b5, PySem.W.mg_none_of KX G ?b6, PySem.W.mg_none_of KX G ?b7, PySem.W.mg_none_of KX G ?b8,
        PySem.W.mg_none_of KX G ?b9, PySem.W.mg_none_of KX G ?b10, PySem.W.mg_none_of KX G ?b11, PySem.W.mg_none_of KX G ?b12, PySem.W.mg_none_of KX G ?b13, PySem.W.mg_none_of KX G ?b14, PySem.W.mg_none_of KX G ?b15, PySem.W.mg_none_of KX G ?b16⟩ <;> k_is
    refine' Nal.assemble hmg B ⟨?pg, ?hd, ?po, ?sa⟩ ?nC ?nS ⟨?mk, ?ini, ?ifn, ?kc⟩ (PySem.W.mg_of KX G ?gC) ?lk ?hcd (PySem.W.mg_of KX G ?g24) (PySem.W.mg_of KX G ?gSe) ?tab ?tK (PySem.W.codeHd_of_K KX ?tC)
      (Nal.at_mk KX G ?f0a ?f0b ?f0c ?f0d)
      (Nal.at_mk KX G ?f1a ?f1b ?f1c ?f1d)
      (Nal.at_mk KX G ?f2a ?f2b ?f2c ?f2d)
      (Nal.at_mk KX G ?f3a ?f3b ?f3c ?f3d)
      (Nal.at_mk KX G ?f4a ?f4b ?f4c ?f4d)
      (Nal.at_mk KX G ?f5a ?f5b ?f5c ?f5d)
      (Nal.at_mk KX G ?f6a ?f6b ?f6c ?f6d)
      (Nal.at_mk KX G ?f7a ?f7b ?f7c ?f7d)
      (Nal.at_mk KX G ?f8a ?f8b ?f8c ?f8d)
      (Nal.at_mk KX G ?f9a ?f9b ?f9c ?f9d)
      (Nal.at_mk KX G ?f10a ?f10b ?f10c ?f10d)
      (Nal.at_mk KX G ?f11a ?f11b ?f11c ?f11d)
      (Nal.at_mk KX G ?f12a ?f12b ?f12c ?f12d)
      (Nal.at_mk KX G ?f13a ?f13b ?f13c ?f13d)
      (Nal.at_mk KX G ?f14a ?f14b ?f14c ?f14d)
      (Nal.at_mk KX G ?f15a ?f15b ?f15c ?f15d)
      (Nal.at_mk KX G ?f16a ?f16b ?f16c ?f16d)
      (Nal.at_mk KX G ?f17a ?f17b ?f17c ?f17d)
      (Nal.atM_mk ?m0a ?m0b ?m0c ?m0d ?m0e)
      (Nal.atM_mk ?m1a ?m1b ?m1c ?m1d ?m1e)
      (Nal.atM_mk ?m2a ?m2b ?m2c ?m2d ?m2e)
      (Nal.atM_mk ?m3a ?m3b ?m3c ?m3d ?m3e)
      (Nal.atM_mk ?m4a ?m4b ?m4c ?m4d ?m4e)
      (Nal.atM_mk ?m5a ?m5b ?m5c ?m5d ?m5e)
    (case gC => k_is)
    (case ini => k_is)
    (case lk => k_is)
    (case hcd => k_is)
    (case tab => exact PySem.W.km_tabs_of Y _ List.mem_cons_self)
    (case tK => first | rfl | kernel_rfl | decide +kernel)
    (case tC => first | rfl | kernel_rfl | decide +kernel)
    (case pg => k_is)
    (case hd => k_is)
    (case po => k_is)
    (case sa => k_is)
    (case nC => (show PySem.W.findIn _ _ _ = _); k_is)
    (case nS => (show PySem.W.findIn _ _ _ = _); k_is)
    (case mk => k_is)
    (case ifn => k_is)
    (case kc => k_is)
    (case g24 => k_is)
    (case gSe => k_is)
    (case f0a => k_is)
    (case f0b => k_is)
    (case f0c => k_is)
    (case f0d => k_is)
    (case f1a => k_is)
    (case f1b => k_is)
    (case f1c => k_is)
    (case f1d => k_is)
    (case f2a => k_is)
    (case f2b => k_is)
    (case f2c => k_is)
    (case f2d => k_is)
    (case f3a => k_is)
    (case f3b => k_is)
    (case f3c => k_is)
    (case f3d => k_is)
    (case f4a => k_is)
    (case f4b => k_is)
    (case f4c => k_is)
    (case f4d => k_is)
    (case f5a => k_is)
    (case f5b => k_is)
    (case f5c => k_is)
    (case f5d => k_is)
    (case f6a => k_is)
    (case f6b => k_is)
    (case f6c => k_is)
    (case f6d => k_is)
    (case f7a => k_is)
    (case f7b => k_is)
    (case f7c => k_is)
    (case f7d => k_is)
    (case f8a => k_is)
    (case f8b => k_is)
    (case f8c => k_is)
    (case f8d => k_is)
    (case f9a => k_is)
    (case f9b => k_is)
    (case f9c => k_is)
    (case f9d => k_is)
    (case f10a => k_is)
    (case f10b => k_is)
    (case f10c => k_is)
    (case f10d => k_is)
    (case f11a => k_is)
    (case f11b => k_is)
    (case f11c => k_is)
    (case f11d => k_is)
    (case f12a => k_is)
    (case f12b => k_is)
    (case f12c => k_is)
    (case f12d => k_is)
    (case f13a => k_is)
    (case f13b => k_is)
    (case f13c => k_is)
    (case f13d => k_is)
    (case f14a => k_is)
    (case f14b => k_is)
    (case f14c => k_is)
    (case f14d => k_is)
    (case f15a => k_is)
    (case f15b => k_is)
    (case f15c => k_is)
    (case f15d => k_is)
    (case f16a => k_is)
    (case f16b => k_is)
    (case f16c => k_is)
    (case f16d => k_is)
    (case f17a => k_is)
    (case f17b => k_is)
    (case f17c => k_is)
    (case f17d => k_is)
    (case m0a => k_is)
    (case m0b => k_is)
    (case m0c => k_is)
    (case m0d => k_is)
    (case m0e => k_is)
    (case m1a => k_is)
    (case m1b => k_is)
    (case m1c => k_is)
    (case m1d => k_is)
    (case m1e => k_is)
    (case m2a => k_is)
    (case m2b => k_is)
    (case m2c => k_is)
    (case m2d => k_is)
    (case m2e => k_is)
    (case m3a => k_is)
    (case m3b => k_is)
    (case m3c => k_is)
    (case m3d => k_is)
    (case m3e => k_is)
    (case m4a => k_is)
    (case m4b => k_is)
    (case m4c => k_is)
    (case m4d => k_is)
    (case m4e => k_is)
    (case m5a => k_is)
    (case m5b => k_is)
    (case m5c => k_is)
    (case m5d => k_is)
    (case m5e => k_is)

