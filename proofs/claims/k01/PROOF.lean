import PyProof.Rows.All
import Wide.All
import OpenK.AllK
import Wide.FinOn
import HandS.ForMost
import HandS.Wide
import HandS.Codes
import PyProof.ReprRoads
import HandS.TupAny
import HandS.Conv
import HandS.IsInst
import HandS.Style
import HandS.ForExc
import HandS.ExcIs
import HandS.ExcInit
import HandS.ExcField
import HandS.ExcOwn
import KE.KExcIs
import HandS.TupMul
import HandS.Gcd
import KE.KMathGC
import PySem.Challenge.RW_smallchange_k01_rules_of_longer_tables
set_option Elab.async false
set_option linter.all false
set_option maxRecDepth 100000
set_option maxHeartbeats 4000000
namespace Sm
open PySem PySem.Spec PyProof.Rows L2
/-! ### promises of defs where no repr is under way: as FnOk, with A's guards empty -/
structure FnG (P : Program) (w : World) (K : PySem.W.Frag) (mg : Str → Option Value) (base : Heap) (k : Nat) (f : Addr) (fd : FuncData) (ps : List Str) (sp : Sp) : Prop where
  len : ∀ vs H Q E, sp vs H Q E → vs.length = ps.length
  run : ∀ (A : Around) (outer : List Env) (s : Shared) (H : Hp) (args : Args) (us : List Value) (vs : List V) (Q : VK) (E : XK), A.guards = some [] → Room k A →
    Env0 P w K mg base A outer s H → BindsTo s fd args (ps.zip us) → Vals vs us → sp vs H Q E → codeAny (model P w) A (.call (.ref f) args) (CR CX0 outer P w H s Q E) s
section
variable {P : Program} {w : World} {K : PySem.W.Frag} {mg : Str → Option Value} {base : Heap} {k : Nat} {f : Addr} {fd : FuncData} {ps : List Str} {sp : Sp}
theorem FnG.of (F : FnOk P w K mg base CX0 k f fd ps sp) : FnG P w K mg base k f fd ps sp :=
  ⟨F.len, fun A outer s H args us vs Q E _ hr e b v h => F.run A outer s H args us vs Q E hr e b v h⟩
theorem FnG.body {x : Str} {st : Stmt} {N : List Str} (F : Fun K x x st f fd) (S : FnScope N ps (defScope st)) (len : ∀ vs H Q E, sp vs H Q E → vs.length = ps.length)
    (hb : ∀ (cdv : Value) (A : Around) (outer : List Env) (s : Shared) (H : Hp) (vs : List V) (Q : VK) (E : XK), A.guards = some [] → Room k (A.deeper (envOfC x (defScope st) s.heap.objs.size f cdv)) → sp vs H Q E →
      ∃ t, PSs (cxOf CX0 P w K mg base N x (defScope st) f cdv A outer s H E).nox (defBody st) t ∧ t { nx := fun _ H' => Q .non H', rt := Q } (start N vs) H) : FnG P w K mg base (k + 1) f fd ps sp := by
  obtain ⟨oc, od, kV, doc, pm, an, cdv, ct, osl, efd, look, code⟩ := F.ex
  subst efd
  constructor
  · exact len
  intro A outer s H args us vs Q E guard room e0 bind rel want
  have inn : K.In s.heap := e0.mod.kin.keeps fun b o e => (e0.bs b o e).1
  have nolim : s.heap.NoLimit := e0.mod.nolimit.keeps fun b o e => (e0.bs b o e).1
  refine codeAny_call_function room.depth (inn _ _ look) rfl S.co S.gen rfl (PySem.W.codeRec_of inn code) (bind _ _ _ _ ?_)
  refine wpAny_newFunctionEnv_cells S.kind ?_ ?_
  · rintro ⟨n, v⟩ there
    have := S.par n (List.of_mem_zip there).1
    cases this with
    | inl q => exact .inl q
    | inr q => exact .inr ⟨q, PySem.W.cellsFrom_some _ _ _ (.inl q)⟩
  · intro env eenv s1 laid
    subst eenv
    refine ⟨nolim.keeps laid.toInCall.keep, codeAny_func ?_⟩
    obtain ⟨t, der, goal⟩ := hb cdv A outer s H vs Q E guard (room.deeper _) want
    have I := inv_start (CX := CX0) (E := E) S room.hd e0 (len _ _ _ _ want) rel laid
    refine wpAny_mono (der.nox.run [] s1 (start N vs) H _ I goal) (fun out s' got => ?_) fun e s' got => got
    match out, got with
    | .ret u, ⟨v, σ', H', J, rv, q⟩ => exact ⟨v, H', J.os, J.bare, J.base, J.hok, rv, q⟩
    | .next, ⟨σ', H', J, q⟩ => exact ⟨V.non, H', J.os, J.bare, J.base, J.hok, rfl, q⟩
    | .brk, ⟨_, _, _, q⟩ => exact q.elim
    | .cont, ⟨_, _, _, q⟩ => exact q.elim
end
section
variable {X : Cx} {k : Nat} {f : Addr} {fd : FuncData} {ps : List Str} {sp : Sp} {x : Str} {p pos : Pos} {e : Expr} {es : List Expr} {t : TA}
theorem pe_callG (F : FnG X.prog X.w X.K X.mg X.base k f fd ps sp) (gu : X.A.guards = some []) (hr : Room k X.A) (hg : Gl X x) (hm : X.mg x = some (.ref f)) (hk : PySem.W.keepIn X.K (.ref f) = true) (hb : Binds X.K fd ps [])
    (ha : PA X (e :: es) t) (hdb : (x == ("__debug__" : Str)) = false := by decide) (he : starEach (e :: es) X.env = (false, eval e X.env) :: starEach es X.env := by rfl) (hpl : (backTo pos (starEach es X.env)).any (·.1) = false := by rfl) :
    PE X (.Call (.Name x p) (e :: es) [] pos) (tCall sp [] E0 t) := by
  constructor
  intro pins s σ H Q I want
  refine wpAny_Call_Name_kw (ld_glob I hg hm ?_ hdb)
  refine PySem.W.callWith_K (h₀ := X.base) I.ok.mod.kin hk (thn (ha.run pos pins s σ H _ I want) ?_) he hpl
  rintro us s1 ⟨vs, H1, I1, rel, q⟩
  refine ⟨I1.kIn, ?_⟩
  have q : sp vs H1 Q E0 := by
    have q : sp (vs ++ []) H1 Q E0 := q
    rw [List.append_nil] at q
    exact q
  have b := hb s1 us I1.kIn (by rw [List.append_nil, ← rel.length]; exact F.len _ _ _ _ q)
  rw [List.append_nil] at b
  refine wpAny_call (codeAny_mono (F.run X.A X.stack s1 H1 ⟨us, []⟩ us vs Q E0 gu hr I1.env0 b rel q) ?_)
  rintro (e | out) s' got
  · exact got.elim
  · match out, got with
    | .ret u, got => exact I1.after got
    | .next, got => exact got.elim
    | .brk, got => exact got.elim
    | .cont, got => exact got.elim
/-- repr of data at any depth -/
theorem call_repr_data (gu : X.A.guards = some []) (room : ∃ k, Room k X.A) : CallR X (.builtin "repr") (fun xs H Q => ∃ a d, xs = [.ref a] ∧ Dp X.K H (.ref a) d ∧ PyData.showable d = true ∧ PyData.hasDict d = false ∧ d.depth ≤ 60 ∧ d.shown.length ≤ sizeLine ∧ Q (.str d.shown) H) := by
  intro pins s σ H xs us Q I rel want
  obtain ⟨a, d, rfl, data, sh, nd, dep, len, q⟩ := want
  obtain ⟨u, rfl, ru⟩ := vals1 rel
  obtain ⟨as, reads⟩ := Dp.reads I d _ u data ru
  cases ru
  obtain ⟨k, room⟩ := room
  have un := room.un
  exact repr_of_reads' reads sh (PyData.noDict_hsm nd) gu (by omega) (fun _ _ e => e) (fun h' v tk keep => ⟨.str d.shown, H, I.kept keep, ⟨_, rfl⟩, q⟩) len
end
/-! ### the law's own call, at the caller's place -/
theorem law_at {P : Program} {w : World} {K : PySem.W.Frag} {mg mb : Str → Option Value} {k : Nat} {fa a : Addr} {fd : FuncData} {x : Str} {sp : Sp} {s₁ : Shared} {vs : List Value} {ns : List Int}
    (KX : K.In s₁.heap) (hns : s₁.heap.Ns mainGlobals mg) (hb : s₁.heap.Ns builtinsNs mb) (hbb : ∀ x : Str, x ≠ "__name__" → mb x = bootBuiltins x) (hlim : s₁.heap.NoLimit) (hg : s₁.gens = #[])
    (ha : s₁.heap.get? a = some { cls := .type "list", data := .seq vs.toArray }) (hi : IntsAre vs ns) (hl : ns.length ≤ sizeLine) (hr : Room k callerA)
    (F : ∀ base : Heap, K.In base → base.Ns mainGlobals mg → FnG P w K mg base k fa fd [x] sp) (hbind : ∀ (s : Shared) (u : Value), BindsTo s fd ⟨[u], []⟩ [(x, u)])
    (hsp : ∀ H : Hp, SqL K H a (ns.map V.int) → sp [.ref a] H (fun v _ => v = .bl true) E0) :
    codeAny (model P w) callerA (.call (.ref fa) ⟨[.ref a], []⟩) (fun r s' => r = .ok (.ret (.bool true)) ∧ OldK s₁.heap s'.heap ∧ s'.os = s₁.os ∧ AllBare s'.gens) s₁ := by
  have ivs := vals_ints hi
  -- what is tracked: the script, if the module does not hold it itself
  obtain ⟨H, seq, ok, only, free⟩ : ∃ H : Hp, SqL K H a (ns.map V.int) ∧ HOk P w H s₁.heap ∧ (∀ b u, H b = some u → b = a ∧ u = .frz { cls := .type "list", data := .seq vs.toArray } (.lst (ns.map V.int))) ∧ ∀ b u, H b = some u → K.lookup b = none := by
    cases look : K.lookup a with
    | some o =>
      have same := KX a o look
      rw [ha] at same
      injection same with same
      subst same
      have empty : ∀ {u : HO}, (none : Option HO) = some u → False := fun z => nomatch z
      refine ⟨fun _ => none, .inr ⟨_, vs.toArray, _, look, rfl, rfl, rfl, ?_, ?_⟩, fun b u z => (empty z).elim, fun b u z => (empty z).elim, fun b u z => (empty z).elim⟩
      · rw [List.size_toArray, hi.length]
        exact hl
      · simpa using ivs
    | none =>
      have at_a : ∀ b u, (fun b => if b = a then some (HO.frz { cls := .type "list", data := .seq vs.toArray } (.lst (ns.map V.int))) else none : Hp) b = some u → b = a ∧ u = .frz { cls := .type "list", data := .seq vs.toArray } (.lst (ns.map V.int)) := by
        intro b u z
        by_cases e : b = a
        · have z := (if_pos e).symm.trans z
          exact ⟨e, (Option.some.inj z).symm⟩
        · exact nomatch (if_neg e).symm.trans z
      refine ⟨_, .inl (.inr ⟨_, if_pos rfl⟩), fun b u z => ?_, at_a, fun b u z => ?_⟩
      · obtain ⟨rfl, rfl⟩ := at_a b u z
        exact ⟨ha, by rw [List.length_map]; exact hl, vs, _, ivs, ha⟩
      · rw [(at_a b u z).1]
        exact look
  have stays : ∀ {b : Addr} {o : Obj}, s₁.heap.get? b = some o → (∀ u, H b ≠ some u) → (hidT s₁.heap H).get? b = some o := fun {b o} e no => hidT_get e (by
    cases z : H b with
    | none => rfl
    | some u => exact (no u z).elim)
  have spaces : ∀ {b : Addr} {m : Str → Option Value}, s₁.heap.Ns b m → (hidT s₁.heap H).Ns b m := by
    rintro b m ⟨o, es, ep, there, data, rest⟩
    refine ⟨o, es, ep, stays there fun u z => ?_, data, rest⟩
    rw [(only b u z).1, ha] at there
    injection there with there
    subst there
    exact nomatch data
  have inn : K.In (hidT s₁.heap H) := fun b o e => stays (KX b o e) fun u z => by
    rw [free b u z] at e
    exact nomatch e
  have mod : Mod K mg (hidT s₁.heap H) := by
    obtain ⟨mc, c1, c2⟩ := hlim
    exact ⟨inn, spaces hns, ⟨mb, spaces hb, hbb⟩, mc, spaces c1, c2⟩
  have e0 : Env0 P w K mg (hidT s₁.heap H) callerA [] s₁ H := by
    refine ⟨rfl, mod, fun b o e => of_hidT e, Nat.le_of_eq (hidT_size _ _), trivial, ?_, ok, .of_eq hg⟩
    intro b q
    exact absurd q (List.not_mem_nil (a := b))
  refine codeAny_mono ((F _ inn (spaces hns)).run callerA [] s₁ H ⟨[.ref a], []⟩ [.ref a] [.ref a] _ _ rfl hr e0 (hbind s₁ (.ref a)) (.cons rfl .nil) (hsp H seq)) ?_
  rintro (e | out) s' got
  · exact got.elim
  · match out, got with
    | .next, got => exact got.elim
    | .brk, got => exact got.elim
    | .cont, got => exact got.elim
    | .ret u, ⟨v, H', os, bare, un, ok', rel, q⟩ =>
      have q : v = V.bl true := q
      subst q
      have rel : u = Value.bool true := rel
      subst rel
      refine ⟨rfl, .of_keep fun b o e => ?_, os, bare⟩
      cases z : H b with
      | none => exact un.keep b o e z (List.not_mem_nil (a := b)) (List.not_mem_nil (a := b))
      | some u =>
        obtain ⟨rfl, rfl⟩ := only b u z
        have now := (ok' _ _ (un.frzs _ _ _ z)).1
        rw [ha] at e
        injection e with e
        rw [← e]
        exact now
theorem walk_at_law {l : PySem.W.OpenLaw} {k : Nat} {q : Program} {loose : List Str} {XP : (Str → Option Value) → Heap → Prop} {YP : World → Heap → Prop} {d : DefRec} {K : Params → PySem.W.Frag} {sp : PySem.W.Frag → Sp} {x : Str}
    (hn : l.most = some 63) (hdf : d.params.defaults = []) (hr : Room k callerA) (hY : ∀ (w : World) (h : Heap), YP w h → (K w.params).In h)
    (F : ∀ (w : World) (mg : Str → Option Value) (fa : Addr) (h : Heap), (K w.params).In h → h.Ns mainGlobals mg → mg d.name = some (.ref fa) →
      ∃ fd : FuncData, (∀ (s : Shared) (u : Value), BindsTo s fd ⟨[u], []⟩ [(x, u)]) ∧ ∀ base : Heap, (K w.params).In base → base.Ns mainGlobals mg → FnG l.prog w (K w.params) mg base k fa fd [x] (sp (K w.params)))
    (hsp : ∀ (K : PySem.W.Frag) (H : Hp) (a : Addr) (ns : List Int), ns.length ≤ 63 → SqL K H a (ns.map V.int) → sp K [.ref a] H (fun v _ => v = .bl true) E0) :
    PySem.W.WalkO q loose XP YP l.row.toRowW d [] (fun f vs => PySem.call f vs) := by
  refine Att.attach_call hn hdf ?_
  intro w s₀ s₁ mg mb fa o pm cd doc a vs ns G Y ho hd hcd hmg hobj hints hlen hg
  obtain ⟨fd, bind, each⟩ := F w mg fa _ (hY w _ Y) G.T.g hmg
  exact law_at (hY w _ Y) G.T.g G.T.b G.T.builtins G.T.nolimit hg hobj hints (Nat.le_trans hlen (by decide)) hr each bind fun H sq => hsp (K w.params) H a ns hlen sq
end Sm

set_option Elab.async false
set_option linter.all false
set_option maxRecDepth 100000
set_option maxHeartbeats 4000000
namespace Sm
open PySem PySem.Spec PyProof.Rows L2
section
variable {P : Program} {w : World} {K : PySem.W.Frag} {mg : Str → Option Value} {base : Heap}
def Df (K : PySem.W.Frag) (mg : Str → Option Value) (x : Str) (st : Stmt) (ps : List Str) : Prop :=
  ∃ (f : Addr) (fd : FuncData), Fun K x x st f fd ∧ mg x = some (.ref f) ∧ Binds K fd ps []
def Cal (P : Program) (w : World) (K : PySem.W.Frag) (mg : Str → Option Value) (base : Heap) (x : Str) (ps : List Str) (k : Nat) (sp : Sp) : Prop :=
  ∃ (f : Addr) (fd : FuncData), FnOk P w K mg base CX0 k f fd ps sp ∧ mg x = some (.ref f) ∧ PySem.W.keepIn K (.ref f) = true ∧ Binds K fd ps []
theorem Df.cal {x : Str} {st : Stmt} {N ps : List Str} {k : Nat} {sp : Sp} (D : Df K mg x st ps) (S : FnScope N ps (defScope st)) (len : ∀ vs H Q E, sp vs H Q E → vs.length = ps.length)
    (hbody : ∀ (f : Addr) (cdv : Value) (A : Around) (outer : List Env) (s : Shared) (H : Hp) (vs : List V) (Q : VK) (E : XK), Room k (A.deeper (envOfC x (defScope st) s.heap.objs.size f cdv)) → sp vs H Q E →
      ∃ t, PSs (cxOf CX0 P w K mg base N x (defScope st) f cdv A outer s H E).nox (defBody st) t ∧ t { nx := fun _ H' => Q .non H', rt := Q } (start N vs) H) : Cal P w K mg base x ps (k + 1) sp := by
  obtain ⟨f, fd, F, m, b⟩ := D
  exact ⟨f, fd, F.ok S len (fun cdv A outer s H vs Q E hr h => hbody f cdv A outer s H vs Q E hr h), m, F.kp, b⟩
theorem same_upd {H : Hp} {p : Addr} {o : HO} (h : H p = none) : Same H (upd H p o) := fun b x e => by
  rw [upd_ne (ne_of_none e h)]
  exact e
theorem iteP {p A B : Prop} [Decidable p] (h : p) (a : A) : if decide p = true then A else B := by
  rw [decide_eq_true h]
  exact iteT a
theorem iteN {p A B : Prop} [Decidable p] (h : ¬ p) (b : B) : if decide p = true then A else B := by
  rw [decide_eq_false h]
  exact iteF b
theorem iteNP {p A B : Prop} [Decidable p] (h : p) (b : B) : if (!decide p) = true then A else B := by
  rw [decide_eq_true h]
  exact iteF b
theorem iteNN {p A B : Prop} [Decidable p] (h : ¬ p) (a : A) : if (!decide p) = true then A else B := by
  rw [decide_eq_false h]
  exact iteT a
theorem ite3 {p A B : Prop} [Decidable p] (h1 : p → A) (h2 : ¬ p → B) : if decide p = true then A else B := by
  by_cases h : p
  · exact iteP h (h1 h)
  · exact iteN h (h2 h)
theorem fmod_pos {a b : Int} (h : 0 < b) : a.fmod b = a % b := Int.fmod_eq_emod_of_nonneg a (by omega)
end
/-! ### the deck -/
structure Deck (H : Hp) (p l : Addr) (n : Int) : Prop where
  hp : H p = some (.lst [.ref l, .int n])
  hl : ∃ cells : List Int, H l = some (.lst (cells.map V.int)) ∧ (∀ c ∈ cells, 0 ≤ c) ∧ cells.length ≤ 63
theorem deck_ne {l : Addr} {n : Int} {cells : List Int} : HO.lst [.ref l, .int n] ≠ HO.lst (cells.map V.int) := by
  intro q
  injection q with q
  cases cells with
  | nil => cases q
  | cons c r => cases (List.cons.inj q).1
/-- all but the deck is as it was -/
def Fr (p l : Addr) (H H' : Hp) : Prop := ∀ b o, b ≠ p → b ≠ l → H b = some o → H' b = some o
theorem Fr.trans {p l : Addr} {H H1 H2 : Hp} (a : Fr p l H H1) (b : Fr p l H1 H2) : Fr p l H H2 := fun c o h1 h2 h => b c o h1 h2 (a c o h1 h2 h)
theorem Same.fr {p l : Addr} {H H' : Hp} (s : Same H H') : Fr p l H H' := fun b o _ _ h => s b o h
theorem Deck.same {H H' : Hp} {p l : Addr} {n : Int} (D : Deck H p l n) (s : Same H H') : Deck H' p l n := by
  obtain ⟨cells, hl, hc⟩ := D.hl
  exact ⟨s _ _ D.hp, cells, s _ _ hl, hc⟩
theorem Fr.tup {H H' : Hp} {p l b : Addr} {n : Int} {xs : List V} (f : Fr p l H H') (D : Deck H p l n) (h : H b = some (.tup xs)) : H' b = some (.tup xs) := by
  obtain ⟨cells, hl, hc⟩ := D.hl
  exact f b _ (ne_of h D.hp (by intro q; cases q)) (ne_of h hl (by intro q; cases q)) h
def sp_l_deck (K : PySem.W.Frag) : Sp := fun vs H Q _ => ∃ (a : Addr) (ns : List Int), vs = [.ref a] ∧ SqL K H a (ns.map V.int) ∧ ns.length ≤ 63 ∧ ∀ H' p l, Same H H' → Deck H' p l 0 → Q (.ref p) H'
def sp_l_draw (K : PySem.W.Frag) : Sp := fun vs H Q _ => ∃ (p l : Addr) (n m : Int), vs = [.ref p, .int m] ∧ Deck H p l n ∧ 0 ≤ n ∧ n ≤ 1000000 ∧ 0 < m ∧ m ≤ 1000000000000000000000000000000000000000000000000000000000000 ∧
  ∀ r H', 0 ≤ r → r < m → Fr p l H H' → Deck H' p l (n + 1) → Q (.int r) H'
def sp_l_one (K : PySem.W.Frag) : Sp := fun vs H Q _ => ∃ (p l b : Addr) (n : Int) (xs : List V), vs = [.ref p, .ref b] ∧ Deck H p l n ∧ 0 ≤ n ∧ n ≤ 1000000 ∧ H b = some (.lst xs) ∧ b ≠ p ∧ b ≠ l ∧ 0 < xs.length ∧ xs.length ≤ 1000 ∧
  ∀ x H', x ∈ xs → Fr p l H H' → Deck H' p l (n + 1) → Q x H'
theorem cut63 {ns : List Int} (h : ns.length ≤ 63) : cutV (ns.map V.int) none (some 63) = ns.map V.int := by
  unfold cutV
  rw [HT.sIx_none, show HT.sIx (ns.map V.int).length (ns.map V.int).length (some 63) = min 63 (ns.map V.int).length from HT.sIx_nat _ _ 63]
  rw [List.length_map, Nat.min_eq_right h, List.drop_zero]
  exact List.take_of_length_le (by rw [List.length_map]; omega)
def absI (n : Int) : Int := if n < 0 then -n else n
theorem absI_pos (n : Int) : 0 ≤ absI n := by
  unfold absI
  split <;> omega
theorem div_draw {c m : Int} (h0 : 0 < m) (h : m ≤ 1000000000000000000000000000000000000000000000000000000000000) : CDivW c m :=
  wide_div (b := 300) h0 (by omega) (by decide) (by decide)
theorem cut_all {xs : List V} {n : Nat} : cutV xs none (some (n : Int)) = xs.take n := by
  unfold cutV
  rw [HT.sIx_none, HT.sIx_nat, List.drop_zero, Nat.sub_zero]
  rcases Nat.le_total n xs.length with h | h
  · rw [Nat.min_eq_left h]
  · rw [Nat.min_eq_right h, List.take_length, List.take_of_length_le h]
theorem ne_new {H : Hp} {p b : Addr} {o : HO} (h : H p = some o) (n : H b = none) : b ≠ p := (ne_of_none h n).symm
/-- what the deck's second list is not -/
theorem Deck.lne {H : Hp} {p l b : Addr} {n : Int} (D : Deck H p l n) (h : H b = none) : b ≠ p ∧ b ≠ l := by
  obtain ⟨cells, hl, hc⟩ := D.hl
  exact ⟨ne_new D.hp h, ne_new hl h⟩
section
variable {X : Cx}
/-- repr of an int or None -/
theorem call_repr_some : CallR X (.builtin "repr") (fun xs H Q => (∃ i, xs = [.int i] ∧ i.natAbs.log2 < 1920 ∧ Q (.str (toString i)) H) ∨ (xs = [.non] ∧ Q (.str "None") H)) := by
  intro pins s σ H xs us Q I r h
  rcases h with ⟨i, rfl, hz, q⟩ | ⟨rfl, q⟩
  · obtain ⟨u, rfl, t, rfl⟩ := vals1 r
    exact PySem.P.repr_of_int hz ⟨.str _, H, I.tok _, ⟨_, rfl⟩, q⟩
  · obtain ⟨u, rfl, rfl⟩ := vals1 r
    exact PySem.P.repr_of_none ⟨.str _, H, I.tok _, ⟨_, rfl⟩, q⟩
def dataI (ns : List Int) : PyData := .list (ns.map PyData.int)
theorem dp_ints {K : PySem.W.Frag} {H : Hp} : ∀ ns : List Int, DpAll K H (ns.map V.int) (ns.map PyData.int)
  | [] => .nil
  | n :: ns => .cons (.int n) (dp_ints ns)
theorem showable_ints : ∀ {ns : List Int}, (∀ n ∈ ns, n.natAbs.log2 < 1920) → PyData.showableAll (ns.map PyData.int) = true
  | [], _ => rfl
  | n :: ns, h => by
    have a := h n (List.mem_cons_self ..)
    have b := showable_ints (ns := ns) fun m hm => h m (List.mem_cons_of_mem _ hm)
    simp only [List.map_cons, PyData.showableAll, PyData.showable, decide_eq_true a, b, Bool.and_self]
theorem hasDict_ints : ∀ ns : List Int, PyData.hasDictAll (ns.map PyData.int) = false
  | [] => rfl
  | n :: ns => by
    simp only [List.map_cons, PyData.hasDictAll, PyData.hasDict, hasDict_ints ns, Bool.or_self]
theorem depth_ints : ∀ ns : List Int, PyData.depthAll (ns.map PyData.int) ≤ 1
  | [] => by simp [PyData.depthAll]
  | n :: ns => by
    have := depth_ints ns
    simp only [List.map_cons, PyData.depthAll, PyData.depth]
    omega
theorem shown_ints : ∀ {ns : List Int}, (∀ n ∈ ns, n.natAbs.log2 < 1920) → ((PyData.shownAll (ns.map PyData.int)).map (·.length)).sum ≤ 1921 * ns.length ∧ (PyData.shownAll (ns.map PyData.int)).length = ns.length
  | [], _ => by simp [PyData.shownAll]
  | n :: ns, h => by
    have a := PyProof.Rows.int_text_len_1921 (h n (List.mem_cons_self ..))
    obtain ⟨b, c⟩ := shown_ints (ns := ns) fun m hm => h m (List.mem_cons_of_mem _ hm)
    simp only [List.map_cons, PyData.shownAll, PyData.shown, List.sum_cons, List.length_cons]
    omega
/-- repr of a list of ints -/
theorem call_repr_ints (gu : X.A.guards = some []) (room : ∃ k, Room k X.A) : CallR X (.builtin "repr") (fun xs H Q => ∃ a ns, xs = [.ref a] ∧ SqL X.K H a (ns.map V.int) ∧ ns.length ≤ 5000 ∧ (∀ n ∈ ns, n.natAbs.log2 < 1920) ∧ Q (.str (dataI ns).shown) H) := by
  intro pins s σ H xs us Q I r h
  obtain ⟨a, ns, rfl, hS, len, small, q⟩ := h
  refine call_repr_data gu room pins s σ H _ us Q I r ⟨a, dataI ns, rfl, .lst hS (dp_ints ns), ?_, ?_, ?_, ?_, q⟩
  · unfold dataI
    simp only [PyData.showable, showable_ints small]
  · unfold dataI
    simp only [PyData.hasDict, hasDict_ints]
  · have := depth_ints ns
    unfold dataI
    simp only [PyData.depth]
    omega
  · obtain ⟨s1, s2⟩ := shown_ints small
    have := listText_len_le (PyData.shownAll (ns.map PyData.int))
    unfold dataI
    simp only [PyData.shown]
    rw [sizeLine_eq]
    omega
end
end Sm

set_option maxHeartbeats 4000000
namespace Sm
/-! rules: a table that repeats -/
def vl (T : List Int) (p : Nat) (r : Int) (x : Nat) : Int :=
  if x < T.length then T.getD x 0 else T.getD (x - ((x - T.length) / p + 1) * p) 0 + (((x - T.length) / p + 1 : Nat) : Int) * r
structure RuleOk (T : List Int) (p : Nat) (r : Int) : Prop where
  p0 : 0 < p
  p1 : p ≤ T.length
  r0 : 0 ≤ r
  nn : ∀ i, i < T.length → 0 ≤ T.getD i 0
  mono : ∀ i, i + 1 < T.length → T.getD i 0 ≤ T.getD (i + 1) 0
  wrap : T.getD (T.length - 1) 0 ≤ T.getD (T.length - p) 0 + r
theorem place {n p x : Nat} (hp : 0 < p) (hpn : p ≤ n) (h : n ≤ x) : ((x - n) / p + 1) * p ≤ x ∧ n - p ≤ x - ((x - n) / p + 1) * p ∧ x - ((x - n) / p + 1) * p < n := by
  have a := Nat.div_add_mod (x - n) p
  have b := Nat.mod_lt (x - n) hp
  have c : ((x - n) / p + 1) * p = p * ((x - n) / p) + p := by rw [Nat.add_mul, Nat.one_mul, Nat.mul_comm]
  omega
theorem vl_lt {T : List Int} {p : Nat} {r : Int} {x : Nat} (h : x < T.length) : vl T p r x = T.getD x 0 := if_pos h
theorem vl_step {T : List Int} {p : Nat} {r : Int} {x : Nat} (hp : 0 < p) (hpn : p ≤ T.length) (h : T.length ≤ x) : vl T p r x = vl T p r (x - p) + r := by
  by_cases q : x - p < T.length
  · have e : (x - T.length) / p = 0 := Nat.div_eq_of_lt (by omega)
    rw [vl_lt q]
    unfold vl
    rw [if_neg (by omega), e]
    simp
  · have e : (x - T.length) / p = (x - p - T.length) / p + 1 := by
      rw [Nat.div_eq_sub_div hp (by omega), show x - T.length - p = x - p - T.length by omega]
    unfold vl
    rw [if_neg (by omega), if_neg q, e]
    have i : x - ((x - p - T.length) / p + 1 + 1) * p = x - p - ((x - p - T.length) / p + 1) * p := by
      rw [Nat.add_mul ((x - p - T.length) / p + 1) 1 p, Nat.one_mul]
      omega
    rw [i]
    have k : (((x - p - T.length) / p + 1 + 1 : Nat) : Int) * r = (((x - p - T.length) / p + 1 : Nat) : Int) * r + r := by
      rw [Int.natCast_add ((x - p - T.length) / p + 1) 1, Int.add_mul]
      simp
    rw [k, Int.add_assoc]
theorem vl_add {T : List Int} {p : Nat} {r : Int} {x : Nat} (hp : 0 < p) (hpn : p ≤ T.length) (h : T.length - p ≤ x) : vl T p r (x + p) = vl T p r x + r := by
  rw [vl_step hp hpn (by omega), Nat.add_sub_cancel]
theorem vl_addk {T : List Int} {p : Nat} {r : Int} {x : Nat} (hp : 0 < p) (hpn : p ≤ T.length) (h : T.length - p ≤ x) : ∀ k : Nat, vl T p r (x + k * p) = vl T p r x + (k : Int) * r
  | 0 => by simp
  | k + 1 => by
    have ih := vl_addk (r := r) hp hpn h k
    rw [show x + (k + 1) * p = x + k * p + p by rw [Nat.add_mul, Nat.one_mul, Nat.add_assoc], vl_add hp hpn (by omega), ih]
    rw [Int.natCast_add, Int.add_mul]
    simp
    omega
section
variable {T : List Int} {p : Nat} {r : Int}
theorem RuleOk.up (o : RuleOk T p r) : ∀ x, vl T p r x ≤ vl T p r (x + 1) := by
  intro x
  induction x using Nat.strongRecOn with
  | _ x ih =>
    have p0 := o.p0
    have p1 := o.p1
    by_cases a : x + 1 < T.length
    · rw [vl_lt a, vl_lt (by omega)]
      exact o.mono x a
    · by_cases b : x < T.length
      · rw [vl_lt b, vl_step p0 p1 (by omega), vl_lt (by omega)]
        have w := o.wrap
        rw [show x = T.length - 1 by omega]
        rw [show T.length - 1 + 1 - p = T.length - p by omega]
        exact w
      · rw [vl_step p0 p1 (by omega), vl_step (x := x + 1) p0 p1 (by omega)]
        have := ih (x - p) (by omega)
        rw [show x - p + 1 = x + 1 - p by omega] at this
        omega
theorem RuleOk.le (o : RuleOk T p r) {x y : Nat} (h : x ≤ y) : vl T p r x ≤ vl T p r y := by
  obtain ⟨k, rfl⟩ := Nat.le.dest h
  induction k with
  | zero => exact Int.le_refl _
  | succ k ih => exact Int.le_trans (ih (by omega)) (o.up _)
theorem RuleOk.pos (o : RuleOk T p r) (x : Nat) : 0 ≤ vl T p r x := by
  have a := o.le (Nat.zero_le x)
  have p0 := o.p0
  have p1 := o.p1
  rw [vl_lt (x := 0) (by omega)] at a
  have := o.nn 0 (by omega)
  omega
theorem RuleOk.row (o : RuleOk T p r) {i j : Nat} (h : i ≤ j) (hj : j < T.length) : T.getD i 0 ≤ T.getD j 0 := by
  have a := o.le h
  rw [vl_lt hj, vl_lt (by omega)] at a
  exact a
/-- the values of the last period repeat by s, increased by c -/
def Rep (T : List Int) (p : Nat) (r : Int) (s : Nat) (c : Int) : Prop := ∀ i, T.length - p ≤ i → i < T.length → vl T p r (i + s) = T.getD i 0 + c
theorem rep_all {s : Nat} {c : Int} (o : RuleOk T p r) (h : Rep T p r s c) : ∀ y, T.length - p ≤ y → vl T p r (y + s) = vl T p r y + c := by
  intro y
  induction y using Nat.strongRecOn with
  | _ y ih =>
    intro hy
    have p0 := o.p0
    have p1 := o.p1
    by_cases a : y < T.length
    · rw [vl_lt a]
      exact h y hy a
    · have e := ih (y - p) (by omega) (by omega)
      rw [vl_step (x := y) p0 p1 (by omega), vl_step (x := y + s) p0 p1 (by omega), show y + s - p = y - p + s by omega, e]
      omega
theorem rep_self (o : RuleOk T p r) : Rep T p r p r := fun i h1 h2 => by
  rw [vl_add o.p0 o.p1 h1, vl_lt h2]
theorem getD_take {n i : Nat} (h : i < n) : (T.take n).getD i 0 = T.getD i 0 := by
  rw [List.getD_eq_getElem?_getD, List.getD_eq_getElem?_getD, List.getElem?_take_of_lt h]
/-- the table cut: still a rule, with the same values -/
theorem cut_ok {a s : Nat} {c : Int} (o : RuleOk T p r) (hs : 0 < s) (ha : a + s ≤ T.length) (c0 : 0 ≤ c) (h : ∀ y, a ≤ y → vl T p r (y + s) = vl T p r y + c) : RuleOk (T.take (a + s)) s c := by
  have len : (T.take (a + s)).length = a + s := by rw [List.length_take]; omega
  refine ⟨hs, by omega, c0, fun i hi => ?_, fun i hi => ?_, ?_⟩
  · rw [getD_take (by omega)]
    exact o.nn i (by omega)
  · rw [getD_take (by omega), getD_take (by omega)]
    exact o.mono i (by omega)
  · rw [len, getD_take (by omega), getD_take (by omega), show a + s - s = a by omega]
    have e := h a (Nat.le_refl _)
    have u := o.up (a + s - 1)
    rw [show a + s - 1 + 1 = a + s by omega, e, vl_lt (by omega), vl_lt (by omega)] at u
    exact u
theorem cut_vl {a s : Nat} {c : Int} (hs : 0 < s) (ha : a + s ≤ T.length) (h : ∀ y, a ≤ y → vl T p r (y + s) = vl T p r y + c) : ∀ x, vl (T.take (a + s)) s c x = vl T p r x := by
  have len : (T.take (a + s)).length = a + s := by rw [List.length_take]; omega
  intro x
  induction x using Nat.strongRecOn with
  | _ x ih =>
    by_cases q : x < a + s
    · rw [vl_lt (by omega), vl_lt (by omega), getD_take q]
    · rw [vl_step hs (by omega) (by omega), ih (x - s) (by omega), ← h (x - s) (by omega), show x - s + s = x by omega]
/-- the least amount, or none -/
def IsLf (T : List Int) (p : Nat) (r : Int) (y : Int) : Option Nat → Prop
  | none => r = 0 ∧ T.getD (T.length - 1) 0 < y
  | some x => y ≤ vl T p r x ∧ ∀ z, z < x → vl T p r z < y
theorem lf_near {y : Int} {i : Nat} (hi : i < T.length) (h1 : y ≤ T.getD i 0) (h2 : ∀ j, j < i → T.getD j 0 < y) : IsLf T p r y (some i) :=
  ⟨by rw [vl_lt hi]; exact h1, fun z hz => by rw [vl_lt (by omega)]; exact h2 z hz⟩
theorem lf_far {y : Int} {i k : Nat} (o : RuleOk T p r) (k0 : 0 < k) (hk : T.getD (T.length - 1) 0 + ((k : Int) - 1) * r < y) (h0 : T.length - p ≤ i) (hi : i < T.length) (h1 : y - (k : Int) * r ≤ T.getD i 0)
    (h2 : ∀ j, T.length - p ≤ j → j < i → T.getD j 0 < y - (k : Int) * r) : IsLf T p r y (some (i + k * p)) := by
  have p0 := o.p0
  have p1 := o.p1
  refine ⟨?_, fun z hz => ?_⟩
  · rw [vl_addk p0 p1 h0, vl_lt hi]
    omega
  · have kp : p ≤ k * p := Nat.le_mul_of_pos_left p k0
    refine Int.lt_of_le_of_lt (o.le (show z ≤ i + k * p - 1 by omega)) ?_
    by_cases q : i = T.length - p
    · obtain ⟨k, rfl⟩ : ∃ j, k = j + 1 := ⟨k - 1, by omega⟩
      have e : i + (k + 1) * p - 1 = T.length - 1 + k * p := by
        rw [Nat.add_mul, Nat.one_mul] at kp ⊢
        omega
      rw [e, vl_addk p0 p1 (by omega), vl_lt (by omega)]
      have c : ((k + 1 : Nat) : Int) - 1 = (k : Int) := by omega
      rw [c] at hk
      exact hk
    · rw [show i + k * p - 1 = i - 1 + k * p by omega, vl_addk p0 p1 (by omega), vl_lt (by omega)]
      have := h2 (i - 1) (by omega) (by omega)
      omega
theorem lf_one {y : Int} {a b : Option Nat} (o : RuleOk T p r) (ha : IsLf T p r y a) (hb : IsLf T p r y b) : a = b := by
  have no : ∀ {x : Nat}, IsLf T p r y none → IsLf T p r y (some x) → False := by
    rintro x ⟨h1, h2⟩ ⟨h3, _⟩
    have p0 := o.p0
    have p1 := o.p1
    have all : ∀ x, vl T p r x ≤ T.getD (T.length - 1) 0 := by
      intro x
      induction x using Nat.strongRecOn with
      | _ x ih =>
        by_cases q : x < T.length
        · rw [vl_lt q]
          exact o.row (by omega) (by omega)
        · rw [vl_step p0 p1 (by omega)]
          have := ih (x - p) (by omega)
          omega
    have := all x
    omega
  match a, b, ha, hb with
  | none, none, _, _ => rfl
  | none, some x, ha, hb => exact (no ha hb).elim
  | some x, none, ha, hb => exact (no hb ha).elim
  | some x, some z, ⟨h1, h2⟩, ⟨h3, h4⟩ =>
    rcases Nat.lt_trichotomy x z with q | q | q
    · have := h4 x q
      omega
    · rw [q]
    · have := h2 z q
      omega
end
theorem div_cast {x n p : Nat} (h : n ≤ x) : ((x : Int) - (n : Int)) / (p : Int) + 1 = (((x - n) / p + 1 : Nat) : Int) := by
  rw [← Int.natCast_sub h]
  rfl
theorem ceil_lo {a r : Int} (hr : 0 < r) : a ≤ (a + r - 1) / r * r ∧ ((a + r - 1) / r - 1) * r < a := by
  have h1 := Int.mul_ediv_add_emod (a + r - 1) r
  have h2 := Int.emod_nonneg (a + r - 1) (show r ≠ 0 by omega)
  have h3 := Int.emod_lt_of_pos (a + r - 1) hr
  have e : (a + r - 1) / r * r = r * ((a + r - 1) / r) := Int.mul_comm _ _
  have e2 : ((a + r - 1) / r - 1) * r = r * ((a + r - 1) / r) - r := by rw [Int.sub_mul, Int.mul_comm]; omega
  omega
end Sm

set_option maxHeartbeats 4000000
namespace Sm
structure RuleW (T : List Int) (p : Nat) (r : Int) : Prop where
  p0 : 0 < p
  p1 : p ≤ T.length
  r0 : 0 ≤ r
theorem RuleOk.w {T : List Int} {p : Nat} {r : Int} (o : RuleOk T p r) : RuleW T p r := ⟨o.p0, o.p1, o.r0⟩
section
variable {T : List Int} {p : Nat} {r : Int}
theorem rep_allW {s : Nat} {c : Int} (o : RuleW T p r) (h : Rep T p r s c) : ∀ y, T.length - p ≤ y → vl T p r (y + s) = vl T p r y + c := by
  intro y
  induction y using Nat.strongRecOn with
  | _ y ih =>
    intro hy
    have p0 := o.p0
    have p1 := o.p1
    by_cases a : y < T.length
    · rw [vl_lt a]
      exact h y hy a
    · have e := ih (y - p) (by omega) (by omega)
      rw [vl_step (x := y) p0 p1 (by omega), vl_step (x := y + s) p0 p1 (by omega), show y + s - p = y - p + s by omega, e]
      omega
theorem rep_selfW (o : RuleW T p r) : Rep T p r p r := fun i h1 h2 => by
  rw [vl_add o.p0 o.p1 h1, vl_lt h2]
/-- a weak rule that does not fall within its table and behind it is a rule -/
theorem W_ok (o : RuleW T p r) (nn : ∀ i, i < T.length → 0 ≤ T.getD i 0) (h : ∀ x, x < T.length → T.getD x 0 ≤ vl T p r (x + 1)) : RuleOk T p r := by
  have p0 := o.p0
  have p1 := o.p1
  refine ⟨p0, p1, o.r0, nn, fun i hi => ?_, ?_⟩
  · have := h i (by omega)
    rw [vl_lt hi] at this
    exact this
  · have := h (T.length - 1) (by omega)
    rw [vl_step p0 p1 (by omega), show T.length - 1 + 1 - p = T.length - p by omega, vl_lt (by omega)] at this
    exact this
end
section
variable {T1 T2 : List Int} {p1 p2 : Nat} {r1 r2 : Int}
def gp (T1 : List Int) (p1 : Nat) (r1 : Int) (T2 : List Int) (p2 : Nat) (r2 : Int) (x : Nat) : Int := vl T1 p1 r1 x - vl T2 p2 r2 x
/-- the first amount at which the one is above, or none -/
def IsFst (T1 : List Int) (p1 : Nat) (r1 : Int) (T2 : List Int) (p2 : Nat) (r2 : Int) : Option Nat → Prop
  | none => ∀ x, gp T1 p1 r1 T2 p2 r2 x ≤ 0
  | some x => 0 < gp T1 p1 r1 T2 p2 r2 x ∧ ∀ z, z < x → gp T1 p1 r1 T2 p2 r2 z ≤ 0
theorem fst_one {a b : Option Nat} (ha : IsFst T1 p1 r1 T2 p2 r2 a) (hb : IsFst T1 p1 r1 T2 p2 r2 b) : a = b := by
  match a, b, ha, hb with
  | none, none, _, _ => rfl
  | none, some x, ha, hb =>
    have := ha x
    have := hb.1
    omega
  | some x, none, ha, hb =>
    have := hb x
    have := ha.1
    omega
  | some x, some z, ⟨h1, h2⟩, ⟨h3, h4⟩ =>
    rcases Nat.lt_trichotomy x z with q | q | q
    · have := h4 x q
      omega
    · rw [q]
    · have := h2 z q
      omega
/-- by a common turn t = a p1 = b p2 the gap grows by g, from a start of both on -/
theorem gp_turn {B a b : Nat} (w1 : RuleW T1 p1 r1) (w2 : RuleW T2 p2 r2) (hB1 : T1.length - p1 ≤ B) (hB2 : T2.length - p2 ≤ B) (e : a * p1 = b * p2) {x : Nat} (hx : B ≤ x) :
    gp T1 p1 r1 T2 p2 r2 (x + a * p1) = gp T1 p1 r1 T2 p2 r2 x + ((a : Int) * r1 - (b : Int) * r2) := by
  unfold gp
  rw [vl_addk w1.p0 w1.p1 (by omega) a, e, vl_addk w2.p0 w2.p1 (by omega) b]
  omega
theorem gp_turns {B t : Nat} {g : Int} (h : ∀ x, B ≤ x → gp T1 p1 r1 T2 p2 r2 (x + t) = gp T1 p1 r1 T2 p2 r2 x + g) {x : Nat} (hx : B ≤ x) : ∀ k : Nat, gp T1 p1 r1 T2 p2 r2 (x + k * t) = gp T1 p1 r1 T2 p2 r2 x + (k : Int) * g
  | 0 => by simp
  | k + 1 => by
    have ih := gp_turns h hx k
    rw [show x + (k + 1) * t = x + k * t + t by rw [Nat.add_mul, Nat.one_mul, Nat.add_assoc], h _ (by omega), ih, Int.natCast_add, Int.add_mul]
    simp
    omega
theorem split_turn {B t z : Nat} (t0 : 0 < t) (hz : B ≤ z) : ∃ x k, B ≤ x ∧ x < B + t ∧ z = x + k * t := by
  have a := Nat.div_add_mod (z - B) t
  have b := Nat.mod_lt (z - B) t0
  refine ⟨B + (z - B) % t, (z - B) / t, by omega, by omega, ?_⟩
  rw [Nat.mul_comm]
  omega
theorem none_of {B t : Nat} {g : Int} (t0 : 0 < t) (h : ∀ x, B ≤ x → gp T1 p1 r1 T2 p2 r2 (x + t) = gp T1 p1 r1 T2 p2 r2 x + g) (hg : g ≤ 0) (early : ∀ x, x < B + t → gp T1 p1 r1 T2 p2 r2 x ≤ 0) : IsFst T1 p1 r1 T2 p2 r2 none := by
  intro z
  by_cases q : z < B
  · exact early z (by omega)
  · obtain ⟨x, k, h1, h2, rfl⟩ := split_turn t0 (show B ≤ z by omega)
    rw [gp_turns h h1 k]
    have := early x h2
    have : (k : Int) * g ≤ 0 := Int.mul_nonpos_of_nonneg_of_nonpos (by omega) hg
    omega
/-- the least of the first amounts of all rests -/
theorem some_of {B t m : Nat} {g : Int} (t0 : 0 < t) (h : ∀ x, B ≤ x → gp T1 p1 r1 T2 p2 r2 (x + t) = gp T1 p1 r1 T2 p2 r2 x + g) (hg : 0 < g) (early : ∀ x, x < B + t → gp T1 p1 r1 T2 p2 r2 x ≤ 0)
    (hm : ∃ x, B ≤ x ∧ x < B + t ∧ (m : Int) = (x : Int) + (t : Int) * ((-gp T1 p1 r1 T2 p2 r2 x) / g + 1)) (least : ∀ x, B ≤ x → x < B + t → (m : Int) ≤ (x : Int) + (t : Int) * ((-gp T1 p1 r1 T2 p2 r2 x) / g + 1)) : IsFst T1 p1 r1 T2 p2 r2 (some m) := by
  constructor
  · obtain ⟨x, h1, h2, e⟩ := hm
    have ex := early x h2
    have q0 : 0 ≤ (-gp T1 p1 r1 T2 p2 r2 x) / g := Int.ediv_nonneg (by omega) (by omega)
    obtain ⟨k, hk⟩ : ∃ k : Nat, (-gp T1 p1 r1 T2 p2 r2 x) / g = (k : Int) := ⟨_, (Int.toNat_of_nonneg q0).symm⟩
    have e2 : m = x + (k + 1) * t := by
      rw [hk] at e
      have : ((x + (k + 1) * t : Nat) : Int) = (x : Int) + (t : Int) * ((k : Int) + 1) := by
        rw [Int.natCast_add, Int.natCast_mul, Int.mul_comm]
        rfl
      omega
    rw [e2, gp_turns h h1]
    have d1 := Int.mul_ediv_add_emod (-gp T1 p1 r1 T2 p2 r2 x) g
    have d2 := Int.emod_lt_of_pos (-gp T1 p1 r1 T2 p2 r2 x) hg
    rw [hk] at d1
    have e3 : ((k + 1 : Nat) : Int) * g = g * (k : Int) + g := by rw [Int.natCast_add, Int.add_mul, Int.mul_comm]; simp
    omega
  · intro z hz
    by_cases q : z < B
    · exact early z (by omega)
    · obtain ⟨x, k, h1, h2, rfl⟩ := split_turn t0 (show B ≤ z by omega)
      rcases Int.lt_or_le 0 (gp T1 p1 r1 T2 p2 r2 (x + k * t)) with w | w
      · exfalso
        have l := least x h1 h2
        rw [gp_turns h h1 k] at w
        have d1 := Int.mul_ediv_add_emod (-gp T1 p1 r1 T2 p2 r2 x) g
        have d2 := Int.emod_nonneg (-gp T1 p1 r1 T2 p2 r2 x) (show g ≠ 0 by omega)
        have lt : (-gp T1 p1 r1 T2 p2 r2 x) / g < (k : Int) := by
          rcases Int.lt_or_le ((-gp T1 p1 r1 T2 p2 r2 x) / g) (k : Int) with c | c
          · exact c
          · have := Int.mul_le_mul_of_nonneg_left c (show 0 ≤ g by omega)
            rw [Int.mul_comm g (k : Int)] at this
            omega
        have le := Int.mul_le_mul_of_nonneg_left (show (-gp T1 p1 r1 T2 p2 r2 x) / g + 1 ≤ (k : Int) by omega) (show 0 ≤ (t : Int) by omega)
        have c1 : ((k * t : Nat) : Int) = (t : Int) * (k : Int) := by rw [Int.natCast_mul, Int.mul_comm]
        omega
      · exact w
end
end Sm

set_option maxHeartbeats 4000000
namespace Sm
/-! just one shortest tuple has given values -/
structure Short (T : List Int) (p : Nat) (r : Int) : Prop where
  ok : RuleOk T p r
  turn : ∀ s c, 0 < s → s < p → s ∣ p → ¬ Rep T p r s c
  start : p = T.length ∨ vl T p r (T.length - 1) ≠ T.getD (T.length - p - 1) 0 + r
theorem vl_ge_turn {T : List Int} {p : Nat} {r : Int} (o : RuleOk T p r) {x : Nat} (h : T.length - p ≤ x) (k : Nat) : vl T p r (x + k * p) = vl T p r x + (k : Int) * r := vl_addk o.p0 o.p1 h k
/-- what holds far off holds from the start of the turns on -/
theorem rep_down {T : List Int} {p s A : Nat} {r c : Int} (o : RuleOk T p r) (h : ∀ x, A ≤ x → vl T p r (x + s) = vl T p r x + c) {x : Nat} (hx : T.length - p ≤ x) : vl T p r (x + s) = vl T p r x + c := by
  have p0 := o.p0
  have e1 := vl_ge_turn o (x := x) hx A
  have e2 := vl_ge_turn o (x := x + s) (by omega) A
  have far : A ≤ x + A * p := by
    have : A * 1 ≤ A * p := Nat.mul_le_mul_left A p0
    omega
  have e3 := h _ far
  rw [show x + A * p + s = x + s + A * p by omega] at e3
  omega
/-- two turns have a turn as long as their greatest common divisor -/
theorem gcd_turn {f : Nat → Int} {A : Nat} : ∀ (n p q : Nat), p + q ≤ n → 0 < p → 0 < q → (∃ r, ∀ x, A ≤ x → f (x + p) = f x + r) → (∃ t, ∀ x, A ≤ x → f (x + q) = f x + t) → ∃ c, ∀ x, A ≤ x → f (x + Nat.gcd p q) = f x + c
  | 0, p, q, h, p0, q0, _, _ => by omega
  | n + 1, p, q, h, p0, q0, ⟨r, hr⟩, ⟨t, ht⟩ => by
    rcases Nat.lt_trichotomy p q with l | l | l
    · have g : Nat.gcd p (q - p) = Nat.gcd p q := Nat.gcd_sub_self_right (Nat.le_of_lt l)
      rw [← g]
      refine gcd_turn n p (q - p) (by omega) p0 (by omega) ⟨r, hr⟩ ⟨t - r, fun x hx => ?_⟩
      have e1 := ht x hx
      have e2 := hr (x + (q - p)) (by omega)
      rw [show x + (q - p) + p = x + q by omega] at e2
      omega
    · subst l
      rw [Nat.gcd_self]
      exact ⟨r, hr⟩
    · have g : Nat.gcd (p - q) q = Nat.gcd p q := Nat.gcd_sub_self_left (Nat.le_of_lt l)
      rw [← g]
      refine gcd_turn n (p - q) q (by omega) (by omega) q0 ⟨r - t, fun x hx => ?_⟩ ⟨t, ht⟩
      have e1 := hr x hx
      have e2 := ht (x + (p - q)) (by omega)
      rw [show x + (p - q) + q = x + p by omega] at e2
      omega
theorem short_le {T1 T2 : List Int} {p1 p2 : Nat} {r1 r2 : Int} (s1 : Short T1 p1 r1) (o2 : RuleOk T2 p2 r2) (h : ∀ x, vl T1 p1 r1 x = vl T2 p2 r2 x) : Nat.gcd p1 p2 = p1 := by
  have o1 := s1.ok
  obtain ⟨c, hc⟩ := gcd_turn (f := vl T1 p1 r1) (A := max (T1.length - p1) (T2.length - p2)) _ p1 p2 (Nat.le_refl _) o1.p0 o2.p0 ⟨r1, fun x hx => vl_add o1.p0 o1.p1 (by omega)⟩ ⟨r2, fun x hx => by rw [h, h]; exact vl_add o2.p0 o2.p1 (by omega)⟩
  have g0 : 0 < Nat.gcd p1 p2 := Nat.gcd_pos_of_pos_left _ o1.p0
  have gl : Nat.gcd p1 p2 ≤ p1 := Nat.le_of_dvd o1.p0 (Nat.gcd_dvd_left ..)
  by_cases q : Nat.gcd p1 p2 = p1
  · exact q
  · exact absurd (fun i h1 h2 => by rw [← vl_lt (p := p1) (r := r1) h2]; exact rep_down o1 hc h1) (s1.turn _ c g0 (by omega) (Nat.gcd_dvd_left ..))
theorem short_start {T1 T2 : List Int} {p : Nat} {r : Int} (s1 : Short T1 p r) (s2 : Short T2 p r) (h : ∀ x, vl T1 p r x = vl T2 p r x) : T2.length ≤ T1.length := by
  have o1 := s1.ok
  have o2 := s2.ok
  have p0 := o1.p0
  have l1 := o1.p1
  have l2 := o2.p1
  rcases Nat.lt_or_ge T1.length T2.length with q | q
  · exfalso
    rcases s2.start with e | e
    · omega
    · apply e
      have := vl_add (T := T1) (p := p) (r := r) p0 l1 (x := T2.length - p - 1) (by omega)
      rw [show T2.length - p - 1 + p = T2.length - 1 by omega, h, h, vl_lt (T := T2) (x := T2.length - p - 1) (by omega)] at this
      exact this
  · exact q
/-- just one shortest tuple has given values -/
theorem short_one {T1 T2 : List Int} {p1 p2 : Nat} {r1 r2 : Int} (s1 : Short T1 p1 r1) (s2 : Short T2 p2 r2) (h : ∀ x, vl T1 p1 r1 x = vl T2 p2 r2 x) : T1 = T2 ∧ p1 = p2 ∧ r1 = r2 := by
  have a := short_le s1 s2.ok h
  have b := short_le s2 s1.ok fun x => (h x).symm
  rw [Nat.gcd_comm] at b
  obtain rfl : p1 = p2 := a.symm.trans b
  have o1 := s1.ok
  have o2 := s2.ok
  have e1 := vl_add o1.p0 o1.p1 (r := r1) (x := max (T1.length - p1) (T2.length - p1)) (by omega)
  have e2 := vl_add o2.p0 o2.p1 (r := r2) (x := max (T1.length - p1) (T2.length - p1)) (by omega)
  rw [h, h] at e1
  obtain rfl : r1 = r2 := by omega
  have l : T1.length = T2.length := Nat.le_antisymm (short_start s2 s1 fun x => (h x).symm) (short_start s1 s2 h)
  refine ⟨List.ext_getElem l fun i h1 h2 => ?_, rfl, rfl⟩
  have e := h i
  rw [vl_lt h1, vl_lt h2, List.getD_eq_getElem?_getD, List.getD_eq_getElem?_getD, List.getElem?_eq_getElem h1, List.getElem?_eq_getElem h2] at e
  exact e
theorem rep_slope {T : List Int} {p s : Nat} {r c : Int} (o : RuleOk T p r) (sd : s ∣ p) (h : Rep T p r s c) : r * (s : Int) = c * (p : Int) := by
  obtain ⟨k, rfl⟩ := sd
  have all := rep_all o h
  have up : ∀ n : Nat, vl T (s * k) r (T.length - s * k + n * s) = vl T (s * k) r (T.length - s * k) + (n : Int) * c := by
    intro n
    induction n with
    | zero => simp
    | succ n ih =>
      rw [show T.length - s * k + (n + 1) * s = T.length - s * k + n * s + s by rw [Nat.add_mul]; omega, all _ (by omega), ih, Int.natCast_add, Int.add_mul]
      simp
      omega
  have e1 := up k
  have e2 := vl_add o.p0 o.p1 (r := r) (x := T.length - s * k) (Nat.le_refl _)
  rw [Nat.mul_comm k s, e2] at e1
  have e3 : r = (k : Int) * c := by omega
  rw [e3, Int.natCast_mul, Int.mul_comm (k : Int) c, Int.mul_assoc, Int.mul_comm (k : Int)]
theorem rep_quot {T : List Int} {p s : Nat} {r c : Int} (o : RuleOk T p r) (sd : s ∣ p) (h : Rep T p r s c) : r * (s : Int) / (p : Int) = c ∧ r * (s : Int) % (p : Int) = 0 := by
  have p0 := o.p0
  rw [rep_slope o sd h]
  exact ⟨Int.mul_ediv_cancel _ (by omega), Int.mul_emod_left _ _⟩
theorem cut_short {T : List Int} {p a s : Nat} {r c : Int} (o : RuleOk T p r) (hs : 0 < s) (sd : s ∣ p) (ha : a ≤ T.length - p) (c0 : 0 ≤ c) (h : ∀ y, a ≤ y → vl T p r (y + s) = vl T p r y + c)
    (hm : ∀ s' c', 0 < s' → s' < s → s' ∣ p → ¬ Rep T p r s' c') (st : a = 0 ∨ vl T p r (a - 1 + s) ≠ T.getD (a - 1) 0 + c) : Short (T.take (a + s)) s c := by
  have p1 := o.p1
  have sp : s ≤ p := Nat.le_of_dvd o.p0 sd
  have ok := cut_ok o hs (by omega) c0 h
  have eq := cut_vl (T := T) (p := p) (r := r) hs (show a + s ≤ T.length by omega) h
  have len : (T.take (a + s)).length = a + s := by rw [List.length_take]; omega
  refine ⟨ok, fun s' c' h1 h2 h3 rep => hm s' c' h1 h2 (Nat.dvd_trans h3 sd) fun i g1 g2 => ?_, ?_⟩
  · have all := rep_all ok rep i (by rw [len]; omega)
    rw [eq, eq, vl_lt (T := T) g2] at all
    exact all
  · by_cases z : a = 0
    · left
      rw [len, z, Nat.zero_add]
    · right
      rw [len, eq, show a + s - 1 = a - 1 + s by omega, show a + s - s - 1 = a - 1 by omega, getD_take (by omega)]
      rcases st with q | q
      · exact absurd q z
      · exact q
theorem dvd_of {p i : Nat} (h : (p : Int).fmod (1 + (i : Int)) = 0) : 1 + i ∣ p := by
  rw [Int.fmod_eq_emod_of_nonneg _ (by omega)] at h
  exact Int.natCast_dvd_natCast.mp (Int.dvd_of_emod_eq_zero (b := (p : Int)) (a := ((1 + i : Nat) : Int)) h)
theorem of_dvd {p i : Nat} (h : 1 + i ∣ p) : (p : Int).fmod (1 + (i : Int)) = 0 := by
  rw [Int.fmod_eq_emod_of_nonneg _ (by omega)]
  exact Int.emod_eq_zero_of_dvd (a := ((1 + i : Nat) : Int)) (Int.natCast_dvd_natCast.mpr h)
end Sm

set_option maxHeartbeats 4000000
namespace Sm
/-! a list that comes back when it is turned; the steps of the last period -/
def Rot (I : List Int) (s : Nat) : Prop := I = I.drop s ++ I.take s
structure Cyc (I : List Int) (s : Nat) : Prop where
  s0 : 0 < s
  s1 : s ≤ I.length
  dv : s ∣ I.length
  rot : s < I.length → Rot I s
  least : ∀ t, 0 < t → t < s → t ∣ I.length → ¬ Rot I t
def stepsOf (T : List Int) (p : Nat) (r : Int) : List Int := (List.range p).map fun i => vl T p r (T.length - p + i + 1) - vl T p r (T.length - p + i)
theorem stepsOf_len (T : List Int) (p : Nat) (r : Int) : (stepsOf T p r).length = p := by
  unfold stepsOf
  rw [List.length_map, List.length_range]
theorem stepsOf_get {T : List Int} {p : Nat} {r : Int} {i : Nat} (h : i < p) : (stepsOf T p r)[i]? = some (vl T p r (T.length - p + i + 1) - vl T p r (T.length - p + i)) := by
  unfold stepsOf
  rw [List.getElem?_map, List.getElem?_range h]
  rfl
theorem rot_get {I : List Int} {s i : Nat} (h : Rot I s) (hs : s ≤ I.length) (hi : i < I.length) : I[i]? = if i + s < I.length then I[i + s]? else I[i + s - I.length]? := by
  have e : I[i]? = (I.drop s ++ I.take s)[i]? := congrArg (fun l => l[i]?) h
  rw [e, List.getElem?_append, List.length_drop]
  by_cases q : i < I.length - s
  · rw [if_pos q, if_pos (by omega), List.getElem?_drop, Nat.add_comm]
  · rw [if_neg q, if_neg (by omega), List.getElem?_take_of_lt (by omega), show i - (I.length - s) = i + s - I.length by omega]
theorem of_rot {I : List Int} {s : Nat} (hs : s ≤ I.length) (h : ∀ i, i < I.length → I[i]? = if i + s < I.length then I[i + s]? else I[i + s - I.length]?) : Rot I s := by
  refine List.ext_getElem? fun i => ?_
  by_cases hi : i < I.length
  · rw [h i hi, List.getElem?_append, List.length_drop]
    by_cases q : i < I.length - s
    · rw [if_pos q, if_pos (by omega), List.getElem?_drop, Nat.add_comm]
    · rw [if_neg q, if_neg (by omega), List.getElem?_take_of_lt (by omega), show i - (I.length - s) = i + s - I.length by omega]
  · rw [List.getElem?_eq_none (by omega), List.getElem?_eq_none (by rw [List.length_append, List.length_drop, List.length_take]; omega)]
theorem rot_rep {T : List Int} {p s : Nat} {r : Int} (o : RuleW T p r) (sp : s < p) (h : Rot (stepsOf T p r) s) : Rep T p r s (vl T p r (T.length - p + s) - vl T p r (T.length - p)) := by
  have p0 := o.p0
  have p1 := o.p1
  have ln := stepsOf_len T p r
  have d : ∀ j, j < p → vl T p r (T.length - p + (j + s) + 1) - vl T p r (T.length - p + (j + s)) = vl T p r (T.length - p + j + 1) - vl T p r (T.length - p + j) := by
    intro j hj
    have e := rot_get h (by omega) (i := j) (by omega)
    rw [ln, stepsOf_get hj] at e
    by_cases q : j + s < p
    · rw [if_pos q, stepsOf_get q] at e
      exact (Option.some.inj e).symm
    · rw [if_neg q, stepsOf_get (by omega)] at e
      have e := Option.some.inj e
      have e1 := vl_add p0 p1 (r := r) (x := T.length - p + (j + s - p) + 1) (by omega)
      have e2 := vl_add p0 p1 (r := r) (x := T.length - p + (j + s - p)) (by omega)
      rw [show T.length - p + (j + s - p) + 1 + p = T.length - p + (j + s) + 1 by omega] at e1
      rw [show T.length - p + (j + s - p) + p = T.length - p + (j + s) by omega] at e2
      omega
  have all : ∀ j, j ≤ p → vl T p r (T.length - p + j + s) = vl T p r (T.length - p + j) + (vl T p r (T.length - p + s) - vl T p r (T.length - p)) := by
    intro j
    induction j with
    | zero => intro _; simp; omega
    | succ j ih =>
      intro hj
      have a := ih (by omega)
      have b := d j (by omega)
      rw [show T.length - p + (j + s) + 1 = T.length - p + (j + 1) + s by omega, show T.length - p + (j + s) = T.length - p + j + s by omega] at b
      rw [show T.length - p + (j + 1) = T.length - p + j + 1 by omega] at b ⊢
      omega
  intro i h1 h2
  have := all (i - (T.length - p)) (by omega)
  rw [show T.length - p + (i - (T.length - p)) = i by omega] at this
  rw [this, vl_lt h2]
theorem rep_rot {T : List Int} {p s : Nat} {r c : Int} (o : RuleW T p r) (sp : s ≤ p) (h : Rep T p r s c) : Rot (stepsOf T p r) s := by
  have p0 := o.p0
  have p1 := o.p1
  have ln := stepsOf_len T p r
  have all := rep_allW o h
  refine of_rot (by omega) fun i hi => ?_
  rw [ln] at hi ⊢
  rw [stepsOf_get hi]
  have a := all (T.length - p + i) (by omega)
  have b := all (T.length - p + i + 1) (by omega)
  by_cases q : i + s < p
  · rw [if_pos q, stepsOf_get q]
    rw [show T.length - p + i + s = T.length - p + (i + s) by omega] at a
    rw [show T.length - p + i + 1 + s = T.length - p + (i + s) + 1 by omega] at b
    congr 1
    omega
  · rw [if_neg q, stepsOf_get (by omega)]
    have e1 := vl_add p0 p1 (r := r) (x := T.length - p + (i + s - p) + 1) (by omega)
    have e2 := vl_add p0 p1 (r := r) (x := T.length - p + (i + s - p)) (by omega)
    rw [show T.length - p + (i + s - p) + 1 + p = T.length - p + i + 1 + s by omega] at e1
    rw [show T.length - p + (i + s - p) + p = T.length - p + i + s by omega] at e2
    congr 1
    omega
/-- the least turn of the steps is the rule's least turn -/
theorem cyc_rule {T : List Int} {p s : Nat} {r : Int} (o : RuleOk T p r) (h : Cyc (stepsOf T p r) s) : 0 < s ∧ s ≤ p ∧ s ∣ p ∧ Rep T p r s (r * (s : Int) / (p : Int)) ∧ ∀ s' c', 0 < s' → s' < s → s' ∣ p → ¬ Rep T p r s' c' := by
  obtain ⟨s0, s1, dv, rot, least⟩ := h
  rw [stepsOf_len] at s1 dv rot least
  have p0 := o.p0
  refine ⟨s0, s1, dv, ?_, fun s' c' h1 h2 h3 rep => least s' h1 h2 h3 (rep_rot o.w (by omega) rep)⟩
  by_cases q : s < p
  · have rep := rot_rep o.w q (rot q)
    rw [(rep_quot o dv rep).1]
    exact rep
  · obtain rfl : s = p := by omega
    rw [Int.mul_ediv_cancel _ (by omega)]
    exact rep_self o
/-! values told by a function, as a rule -/
theorem tab_getD {f : Nat → Int} {n i : Nat} (h : i < n) : ((List.range n).map f).getD i 0 = f i := by
  rw [List.getD_eq_getElem?_getD, List.getElem?_map, List.getElem?_range h]
  rfl
theorem tab_len {f : Nat → Int} {n : Nat} : ((List.range n).map f).length = n := by rw [List.length_map, List.length_range]
theorem tab_vl {f : Nat → Int} {B t : Nat} {R : Int} (t0 : 0 < t) (h : ∀ x, B ≤ x → f (x + t) = f x + R) : ∀ x, vl ((List.range (B + t)).map f) t R x = f x := by
  intro x
  induction x using Nat.strongRecOn with
  | _ x ih =>
    by_cases q : x < B + t
    · rw [vl_lt (by rw [tab_len]; exact q), tab_getD q]
    · rw [vl_step t0 (by rw [tab_len]; omega) (by rw [tab_len]; omega), ih (x - t) (by omega)]
      have := h (x - t) (by omega)
      rw [show x - t + t = x by omega] at this
      omega
theorem tab_ok {f : Nat → Int} {B t : Nat} {R : Int} (t0 : 0 < t) (R0 : 0 ≤ R) (h : ∀ x, B ≤ x → f (x + t) = f x + R) (f0 : ∀ x, 0 ≤ f x) (up : ∀ x, f x ≤ f (x + 1)) : RuleOk ((List.range (B + t)).map f) t R := by
  refine ⟨t0, by rw [tab_len]; omega, R0, fun i hi => ?_, fun i hi => ?_, ?_⟩
  · rw [tab_len] at hi
    rw [tab_getD hi]
    exact f0 i
  · rw [tab_len] at hi
    rw [tab_getD hi, tab_getD (by omega)]
    exact up i
  · rw [tab_len, tab_getD (by omega), tab_getD (by omega), show B + t - t = B by omega]
    have a := h B (Nat.le_refl _)
    have b := up (B + t - 1)
    rw [show B + t - 1 + 1 = B + t by omega] at b
    omega
end Sm

set_option Elab.async false
set_option linter.all false
set_option maxRecDepth 100000
set_option maxHeartbeats 4000000
namespace Sm
open PySem PySem.Spec PyProof.Rows L2
theorem getD_map1 {T : List Int} {i : Nat} (h : i < T.length) : (T.map (· + 1)).getD i 0 = T.getD i 0 + 1 := by
  rw [List.getD_eq_getElem?_getD, List.getD_eq_getElem?_getD, List.getElem?_map, List.getElem?_eq_getElem h]
  rfl
theorem plus_ok {T : List Int} {p : Nat} {r : Int} (o : RuleOk T p r) : RuleOk (T.map (· + 1)) p r := by
  have p0 := o.p0
  have p1 := o.p1
  refine ⟨p0, by rw [List.length_map]; exact p1, o.r0, fun i hi => ?_, fun i hi => ?_, ?_⟩
  · rw [List.length_map] at hi
    rw [getD_map1 hi]
    have := o.nn i hi
    omega
  · rw [List.length_map] at hi
    rw [getD_map1 hi, getD_map1 (by omega)]
    have := o.mono i hi
    omega
  · rw [List.length_map, getD_map1 (by omega), getD_map1 (by omega)]
    have := o.wrap
    omega
theorem late_len {T : List Int} {a : Nat} (h : a ≤ T.length) : (T.take a ++ (T.drop a).map (· + 1)).length = T.length := by
  rw [List.length_append, List.length_map, List.length_take, List.length_drop]
  omega
theorem late_get {T : List Int} {a i : Nat} (h : a ≤ T.length) (hi : i < T.length) : (T.take a ++ (T.drop a).map (· + 1)).getD i 0 = T.getD i 0 + (if i < a then 0 else 1) := by
  rw [List.getD_eq_getElem?_getD, List.getElem?_append]
  have lt : (T.take a).length = a := by rw [List.length_take]; omega
  by_cases q : i < a
  · rw [if_pos (by omega), if_pos q, List.getElem?_take_of_lt q, List.getD_eq_getElem?_getD]
    omega
  · rw [if_neg (by omega), if_neg q, lt, List.getElem?_map, List.getElem?_drop, show a + (i - a) = i by omega, List.getD_eq_getElem?_getD, List.getElem?_eq_getElem hi]
    rfl
theorem cut_from {xs : List V} {n : Nat} : cutV xs (some (n : Int)) none = xs.drop n := by
  unfold cutV
  rw [HT.sIx_none, HT.sIx_nat]
  rcases Nat.le_total n xs.length with h | h
  · rw [Nat.min_eq_left h]
    exact List.take_of_length_le (by rw [List.length_drop]; omega)
  · rw [Nat.min_eq_right h, List.drop_length, List.drop_eq_nil_of_le h, List.take_nil]
theorem flat_one {n : Nat} {x : V} : (List.replicate n [x]).flatten = List.replicate n x := List.flatten_replicate_singleton ..
theorem rep_int {n : Nat} {c : Int} : List.replicate n (V.int c) = (List.replicate n c).map V.int := (List.map_replicate ..).symm
theorem getD_rep {n i : Nat} {c : Int} (h : i < n) : (List.replicate n c).getD i 0 = c := by
  rw [List.getD_eq_getElem?_getD, List.getElem?_replicate, if_pos h]
  rfl
theorem zero_ok {n : Nat} {r : Int} (h : 0 < n) (h0 : 0 ≤ r) : RuleOk (List.replicate n 0) n r := by
  refine ⟨h, by rw [List.length_replicate]; exact Nat.le_refl _, h0, fun i hi => ?_, fun i hi => ?_, ?_⟩
  · rw [List.length_replicate] at hi
    rw [getD_rep hi]
    exact Int.le_refl _
  · rw [List.length_replicate] at hi
    rw [getD_rep hi, getD_rep (by omega)]
    exact Int.le_refl _
  · rw [List.length_replicate, getD_rep (by omega), getD_rep (by omega)]
    omega
theorem one_ok {c r : Int} (h : 0 ≤ c) (h0 : 0 ≤ r) : RuleOk [c] 1 r := by
  refine ⟨by decide, Nat.le_refl 1, h0, fun i hi => ?_, fun i hi => ?_, ?_⟩
  · have hi : i < 1 := hi
    rw [show i = 0 by omega]
    exact h
  · have hi : i + 1 < 1 := hi
    omega
  · show c ≤ c + r
    omega
abbrev rareT (q s : Nat) : List Int := List.replicate (s + 1) ((s : Int) - 1) ++ List.replicate (q - s - 1) ((s : Int) + (q : Int) - 1)
theorem rare_get {q s i : Nat} (hs : s + 1 ≤ q) (hi : i < q) : (rareT q s).getD i 0 = if i < s + 1 then (s : Int) - 1 else (s : Int) + (q : Int) - 1 := by
  rw [List.getD_eq_getElem?_getD, List.getElem?_append, List.length_replicate]
  by_cases h : i < s + 1
  · rw [if_pos h, if_pos h, List.getElem?_replicate, if_pos h]
    rfl
  · rw [if_neg h, if_neg h, List.getElem?_replicate, if_pos (by omega)]
    rfl
theorem rare_len {q s : Nat} (hs : s + 1 ≤ q) : (rareT q s).length = q := by
  rw [List.length_append, List.length_replicate, List.length_replicate]
  omega
theorem rare_ok {q s : Nat} (h1 : 1 ≤ s) (hs : s + 1 ≤ q) : RuleOk (rareT q s) q q := by
  have l := rare_len hs
  refine ⟨by omega, by omega, by omega, fun i hi => ?_, fun i hi => ?_, ?_⟩
  · rw [rare_get hs (by omega)]
    split <;> omega
  · rw [rare_get hs (by omega), rare_get hs (by omega)]
    split <;> split <;> omega
  · rw [l, rare_get hs (by omega), rare_get hs (by omega)]
    split <;> split <;> omega
theorem lay_ints : ∀ ns : List Int, PyData.canLayAll0 (ns.map PyData.int) = true
  | [] => rfl
  | n :: ns => by
    simp only [List.map_cons, PyData.canLayAll0, PyData.canLay0, lay_ints ns, Bool.and_self]
theorem shaped_ints (ns : List Int) : SeqAt.shaped (dataI ns) = true := by
  have d := depth_ints ns
  have e : (dataI ns).depth ≤ 64 := by
    unfold dataI
    simp only [PyData.depth]
    omega
  have l : (dataI ns).canLay0 = true := by
    unfold dataI
    simp only [PyData.canLay0, lay_ints]
  unfold SeqAt.shaped
  rw [l, decide_eq_true e]
  rfl
theorem ne_nil_ints {ns : List Int} : (!PyData.eqv (dataI ns) (.list [])) = decide (ns ≠ []) := by
  cases ns with
  | nil => rfl
  | cons n ns => rfl
theorem lc_turn1 {H0 H' : Hp} {U : Addr} {ns : List Int} {j : Nat} {x : V} (hl : ns.length ≤ 9000) (nU : H0 U = none) (hx : (ns.map V.int)[j]? = some x) (sm : Same H0 H') (hU : H' U = some (.lst (((ns.take j).map (· + 1)).map V.int))) :
    ∃ y, x = .int y ∧ (((ns.take j).map (· + 1)).map V.int).length < sizeLine ∧ Same H0 (upd H' U (.lst ((((ns.take j).map (· + 1)).map V.int) ++ [V.int (y + 1)]))) ∧
      upd H' U (.lst ((((ns.take j).map (· + 1)).map V.int) ++ [V.int (y + 1)])) U = some (.lst (((ns.take (j + 1)).map (· + 1)).map V.int)) := by
  rw [List.getElem?_map] at hx
  cases e : ns[j]? with
  | none => rw [e] at hx; cases hx
  | some y =>
    rw [e] at hx
    have hj := (List.getElem?_eq_some_iff.mp e).1
    refine ⟨y, (Option.some.inj hx).symm, ?_, fun b' u e' => ?_, ?_⟩
    · rw [List.length_map, List.length_map, List.length_take]
      exact Nat.lt_of_le_of_lt (show min j ns.length ≤ 9000 by omega) (by decide)
    · rw [upd_ne (ne_of_none e' nU)]
      exact sm _ _ e'
    · rw [upd_same, List.take_add_one, e, List.map_append, List.map_append]
      rfl
theorem small_log30 {i : Nat} (h1 : i ≤ 1000000000000000000000000000000) : (i : Int).natAbs.log2 < 1920 :=
  Nat.lt_of_lt_of_le (PySem.Flt.log2_lt_of (k := 310) (by decide) (by omega)) (by decide)
section
variable {K : PySem.W.Frag} {H : Hp} {Q : VK}
theorem sl_uni {a : Addr} {xs : List V} {lo hi : Option Int} (h : H a = some (.tup xs)) (q : ∀ u H', Same H H' → H' u = some (.tup (cutV xs lo hi)) → Q (.ref u) H') : rSlA K (.ref a) lo hi H Q := by
  refine ⟨a, xs, rfl, SqT.of h, fun w => q a H (Same.refl H) ?_, fun _ u nu => q u _ (same_upd nu) upd_same⟩
  rw [h]
  unfold cutV
  rw [w.1, w.2, List.drop_zero, Nat.sub_zero, List.take_length]
theorem cat_uni {a b : Addr} {xs ys : List V} (ha : H a = some (.tup xs)) (hb : H b = some (.tup ys)) (l : xs.length + ys.length ≤ sizeLine) (q : ∀ u H', Same H H' → H' u = some (.tup (xs ++ ys)) → Q (.ref u) H') : rCatA K (.ref a) (.ref b) H Q := by
  refine ⟨a, b, xs, ys, rfl, rfl, SqT.of ha, SqT.of hb, l, fun e => q b H (Same.refl H) ?_, fun _ e => q a H (Same.refl H) ?_, fun _ _ u nu => q u _ (same_upd nu) upd_same⟩
  · rw [hb, e, List.nil_append]
  · rw [ha, e, List.append_nil]
end
end Sm

set_option Elab.async false
set_option linter.all false
set_option maxRecDepth 100000
set_option maxHeartbeats 4000000
namespace Sm
open PySem PySem.Spec PyProof.Rows L2
/-- isinstance of the exception that the suite holds, with its dict: one class, or a tuple of classes just laid -/
def rIsX (K : PySem.W.Frag) (cls : Value) (d : Option Addr) (a : Addr) : List V → Hp → VK → Prop := fun xs H Q => ∃ (D dd : Addr) (fs : List (Str × V)), cls = .ref D ∧ d = some dd ∧ H dd = some (.xd fs) ∧ ExcC K D ∧
  ((∃ (c : V) (cv : Value) (b : Bool), xs = [.ref a, c] ∧ ClsV c cv ∧ PySem.W.kitOne K (.ref D) cv = some b ∧ Q (.bl b) H) ∨
   ∃ (tp : Addr) (cs : List V) (us : List Value) (b : Bool), xs = [.ref a, .ref tp] ∧ H tp = some (.tup cs) ∧ Paired ClsV cs us ∧ PySem.W.kitAny K (.ref D) us = some b ∧ Q (.bl b) H)
theorem call_isX {X : Cx} {a : Addr} {cls : Value} {d : Option Addr} {oe : Obj} {pn : List (Addr × Obj)} (hz : Zc cls d oe) (hf : ∃ vs, oe.data = .fields vs) : CallR (X.suite a ((a, oe) :: pn)) (.builtin "isinstance") (rIsX X.K cls d a) := by
  intro pins s σ H xs us Q I r h
  obtain ⟨D, dd, fs, rfl, rfl, ea, C, h⟩ := h
  obtain ⟨ha, _⟩ := I.pin (a, oe) (List.mem_append_left _ List.mem_cons_self)
  obtain ⟨vs, hd⟩ := hf
  have hx : ObjOk X.prog X.w H s.heap dd (.xd fs) := I.hok dd _ ea
  obtain ⟨mA, hns, hr⟩ := hx
  obtain ⟨od, ho, hl⟩ := lookIn_ns hns
  have J : PySem.W.InstAt s.heap a oe D (some od) := ⟨ha, hz.1, by unfold PySem.W.notCls; rw [hd] <;> rfl, by rw [hz.2]; exact ho⟩
  obtain ⟨cd, hc, _⟩ := PySem.W.any_some C.hd
  have Z := PySem.W.kitx_exc (x := a) (ox := oe) (od := some od) (by rw [hc]; rfl) C.hg C.hk C.hs C.ha C.hn C.ht C.hm
  rcases h with ⟨c, cv, b, rfl, k, e, q⟩ | ⟨tp, cs, ws, b, rfl, hT, k, e, q⟩
  · obtain ⟨u1, u2, rfl, r1, r2⟩ := vals2 r
    cases (show u1 = Value.ref a from r1)
    cases k.eq r2
    exact PySem.W.kia_one Z I.kIn J e (fun z => nomatch z) fun tk => ⟨.bl b, H, I.kept (t' := tk) fun _ _ z => z, rfl, q⟩
  · obtain ⟨u1, u2, rfl, r1, r2⟩ := vals2 r
    cases (show u1 = Value.ref a from r1)
    cases (show u2 = Value.ref tp from r2)
    obtain ⟨_, its, rv, o, h1, h2, n, h3⟩ := (show ObjOk X.prog X.w H s.heap tp (.tup cs) from I.hok tp _ hT)
    have e3 := ClsV.all k rv
    subst e3
    obtain ⟨oc, od', dt, sl⟩ := o
    simp only at h2 h3
    subst h2 h3
    exact PySem.W.kia_tup Z I.kIn J h1 e (fun z => nomatch z) fun tk => ⟨.bl b, H, I.kept (t' := tk) fun _ _ z => z, rfl, q⟩
theorem kit_own {K : PySem.W.Frag} {D C : Addr} {b : Bool} (h1 : PySem.W.isClsIn K C = true) (h2 : PySem.W.typeIn K (.ref C) = some (.type "type")) (h3 : PySem.W.subIn K (.ref D) (.ref C) = some b) (h4 : PySem.W.subIn K (.ref D) (.ref D) = some true) : PySem.W.kitOne K (.ref D) (.ref C) = some b := by
  unfold PySem.W.kitOne
  by_cases e : D = C
  · subst e
    rw [h4] at h3
    rw [if_pos (beq_self_eq_true _)]
    exact h3
  · rw [if_neg (fun q => e (Value.ref.inj (beq_iff_eq.mp q)))]
    have h1' : (PySem.W.clsIn K C).isSome = true := h1
    have z : ((PySem.W.clsIn K C).isSome && PySem.W.typeIn K (.ref C) == some (.type "type")) = true := by rw [h1', h2] <;> rfl
    show (if ((PySem.W.clsIn K C).isSome && PySem.W.typeIn K (.ref C) == some (.type "type")) = true then PySem.W.subIn K (.ref D) (.ref C) else none) = some b
    rw [if_pos z]
    exact h3
theorem kit_valerr {K : PySem.W.Frag} {D : Addr} {b : Bool} (h : PySem.W.subIn K (.ref D) (.type "ValueError") = some b) : PySem.W.kitOne K (.ref D) (.type "ValueError") = some b := by
  have q : ((Value.ref D) == (Value.type "ValueError")) = false := beq_eq_false_iff_ne.mpr fun z => nomatch z
  unfold PySem.W.kitOne
  rw [if_neg (by rw [q]; exact Bool.false_ne_true)]
  show (if PySem.W.kitMeta "ValueError" = true then PySem.W.subIn K (.ref D) (.type "ValueError") else none) = some b
  rw [if_pos (by decide +kernel)]
  exact h
theorem kit_cons_false {K : PySem.W.Frag} {t c : Value} {cs : List Value} {b : Bool} (h : PySem.W.kitOne K t c = some false) (hr : PySem.W.kitAny K t cs = some b) : PySem.W.kitAny K t (c :: cs) = some b := by
  unfold PySem.W.kitAny
  rw [h]
  exact hr
/-- an own exception class with one field, made by its own __init__ -/
structure XcTxt (K : PySem.W.Frag) (mg : Str → Option Value) (nm fl : Str) (C fI : Addr) : Prop where
  g : mg nm = some (.ref C)
  oex : OexC K C
  no : PySem.W.findIn K (.ref C) fl = some none
  iC : PySem.W.findIn K (.ref C) "__init__" = some (some (.ref fI))
  tI : PySem.W.typeIn K (.ref fI) = some (.type "function")
  xf : XfC K C
  ec : ExcC K C
/-- C(e), told plainly: the new exception's dict holds the field -/
def tMkF (C : Addr) (fl : Str) (ta : TA) : L2.St → Hp → XK → Prop := fun σ H Q => ta σ H fun vs H1 => ∃ v, vs = [v] ∧ ∀ d, H1 d = none → Q (.ref C) (some d) (upd H1 d (.xd [(fl, v)]))
def sp_init (K : PySem.W.Frag) (fl : Str) : Sp := fun vs H Q _ => ∃ (a C : Addr) (v : V), vs = [.ref a, v] ∧ OexC K C ∧ PySem.W.findIn K (.ref C) fl = some none ∧ H a = some (exo a C none) ∧ ∀ dx, H dx = none → dx ≠ a → Q .non (upd (upd H dx (exd dx [(fl, v)])) a (exo a C (some dx)))
theorem xc_mk {C : Addr} {fl : Str} {K : PySem.W.Frag} {ta : TA} {σ : L2.St} {H : Hp} {Q : XK} (T : OexC K C) (no : PySem.W.findIn K (.ref C) fl = some none)
    (h : ta σ H fun vs H1 => ∃ v, vs = [v] ∧ ∀ d H2, Same H1 H2 → H2 d = some (.xd [(fl, v)]) → Q (.ref C) (some d) H2) (mono : ∀ {A B : List V → Hp → Prop}, (∀ vs H1, A vs H1 → B vs H1) → ta σ H A → ta σ H B) : tMkO C (sp_init K fl) [] ta σ H Q := by
  refine mono ?_ h
  rintro vs H1 ⟨v, rfl, k⟩
  refine ⟨by show 1 ≤ 1000; decide, fun a na => ⟨a, C, v, rfl, T, no, upd_same, fun dx nd da => ⟨rfl, dx, [(fl, v)], upd_same, ?_, ?_, ?_⟩⟩⟩
  · rw [upd_ne da, upd_same]
  · rw [upd_ne da] at nd
    exact nd
  · have nd1 : H1 dx = none := by
      rw [upd_ne da] at nd
      exact nd
    refine k dx _ (fun b o hb => ?_) upd_same
    rw [upd_ne (ne_of_none hb nd1), del_ne (ne_of_none hb na), upd_ne (ne_of_none hb na), upd_ne (ne_of_none hb nd1), upd_ne (ne_of_none hb na)]
    exact hb
end Sm

set_option Elab.async false
set_option linter.all false
set_option maxRecDepth 100000
set_option maxHeartbeats 4000000
namespace Sm
open PySem PySem.Spec PyProof.Rows L2
/-- a tuple of one item, 5000 times -/
def rOneT : R2 := fun x y H Q => ∃ (b : Addr) (c : V), x = .ref b ∧ y = .int 5000 ∧ H b = some (.tup [c]) ∧ ∀ q, H q = none → Q (.ref q) (upd H q (.tup (List.replicate 5000 c)))
theorem op_oneT {X : Cx} : OpR X (binaryOp .Mult) rOneT := by
  rintro pins s σ H x y v u Q I rx ry ⟨b, c, rfl, rfl, hb, next⟩
  cases rx
  obtain ⟨tok, rfl⟩ := ry
  obtain ⟨us, rel, ⟨⟨k1, k2, k3, k4⟩, at_b, e1, cnt, e2⟩, small⟩ := I.tuple (SqT.of hb)
  simp only at e1 e2
  subst e1 e2
  cases rel with
  | cons rc rn =>
    cases rn
    rename_i u'
    have flat : (List.foldl (fun x1 x2 => x1 ++ x2) #[] (List.replicate (Int.toNat 5000) [u'].toArray)) = (List.replicate 5000 u').toArray := by
      rw [size_rep]
      exact congrArg List.toArray List.flatten_replicate_singleton
    have line : (List.replicate 5000 u').length ≤ sizeLine := by
      rw [List.length_replicate]
      decide
    have rels : ∀ n : Nat, Vals (List.replicate n c) (List.replicate n u') := fun n => by
      induction n with
      | zero => exact .nil
      | succ n ih => exact .cons rc ih
    have c4 : Builtin.Tuple.tupleTooMany ((([u'].toArray.size : Nat) : Int) * 5000) = false := by
      show Builtin.Tuple.tupleTooMany (((1 : Nat) : Int) * 5000) = false
      unfold Builtin.Tuple.tupleTooMany
      rw [sizeLine_eq]
      decide
    have mul := tuple_mulW b [u'].toArray cnt k2 k4 5000 tok (by decide) (by rfl) (by rfl) (by show ¬ (((1 : Nat) : Int) * 5000 > (2 ^ 63 - 1) / 8); decide) c4 (by rw [flat, List.size_toArray]; exact line)
    rw [flat] at mul
    have none := int_rmul_tuple 5000 tok b [u'].toArray cnt k2 k4
    refine wpAny_binaryOp_repeat_ref (U := "int") (T := "tuple") (by decide) ⟨_, at_b, rfl⟩ (fun z => typeIs_int z 5000 tok) noFill_tuple_mul F.fills_int_mul F.slot_int_rmul repeat_tuple F.slot_int_index.lookup ?_
    refine call_meets F.slot_int_rmul (typeIs_int s 5000 tok) F.entry_int_rmul (F.args_int_rmul_2 _ _) none ⟨at_b, rfl, ⟨_, at_b, rfl⟩, ?_⟩
    refine call_meets F.slot_tuple_mul ⟨_, at_b, rfl⟩ F.entry_tuple_mul (F.args_tuple_mul_2 _ _) mul ⟨at_b, ?_⟩
    have ok : (List.replicate 5000 c).length ≤ sizeLine := by
      rw [List.length_replicate]
      decide
    exact ⟨.ref s.heap.objs.size, upd H s.heap.objs.size (.tup (List.replicate 5000 c)), I.laid (t' := s.toks) (fun z ob w => Heap.get?_push_of_some _ w) (Nat.le_refl _) ⟨ok, _, rels 5000, IsTup.new _ _⟩, rfl, next _ (I.hok.fresh (Nat.le_refl _))⟩
end Sm

set_option Elab.async false
set_option linter.all false
set_option maxRecDepth 100000
set_option maxHeartbeats 8000000
namespace Sm
open PySem PySem.Spec PyProof.Rows L2
open C8 (pss_cut)
def topS (i : Nat) : Stmt := PySem.Challenge.pw_smallchange_k01_rules_of_longer_tables.main.body.getD i (.Pass ⟨0, 0, 0, 0⟩)
structure Txt (mg : Str → Option Value) : Prop where
  n_ValueError : mg "ValueError" = none
  n_abs : mg "abs" = none
  n_all : mg "all" = none
  n_any : mg "any" = none
  n_bool : mg "bool" = none
  n_int : mg "int" = none
  n_isinstance : mg "isinstance" = none
  n_len : mg "len" = none
  n_list : mg "list" = none
  n_max : mg "max" = none
  n_range : mg "range" = none
  n_repr : mg "repr" = none
  n_tuple : mg "tuple" = none
/-! ### rules in the heap -/
def RuleAt (H : Hp) (d : Addr) (T : List Int) (p : Nat) (r : Int) : Prop := ∃ t, H d = some (.tup [.ref t, .int (p : Int), .int r]) ∧ H t = some (.tup (T.map V.int))
theorem RuleAt.same {H H' : Hp} {d : Addr} {T : List Int} {p : Nat} {r : Int} (R : RuleAt H d T p r) (s : Same H H') : RuleAt H' d T p r := by
  obtain ⟨t, h1, h2⟩ := R
  exact ⟨t, s _ _ h1, s _ _ h2⟩
theorem RuleAt.fr {H H' : Hp} {d a l : Addr} {n : Int} {T : List Int} {p : Nat} {r : Int} (R : RuleAt H d T p r) (f : Fr a l H H') (D : Deck H a l n) : RuleAt H' d T p r := by
  obtain ⟨t, h1, h2⟩ := R
  exact ⟨t, f.tup D h1, f.tup D h2⟩
structure RB (T : List Int) (p : Nat) (r : Int) : Prop where
  len : T.length ≤ 6000
  r1 : r ≤ 1000000000000000000
  top : ∀ i, i < T.length → T.getD i 0 ≤ 100000000000000000000
/-- a small one, with bound M -/
structure RS (M : Int) (T : List Int) (p : Nat) (r : Int) : Prop where
  len : T.length ≤ 300
  turn : p ≤ 40
  r1 : r ≤ M
  top : ∀ i, i < T.length → T.getD i 0 ≤ M
theorem RS.rb {M : Int} {T : List Int} {p : Nat} {r : Int} (b : RS M T p r) (h : M ≤ 10000000000000000) : RB T p r := by
  have h1 := b.r1
  have h2 := b.len
  exact ⟨by omega, by omega, fun i hi => by have := b.top i hi; omega⟩
theorem RS.up {M N : Int} {T : List Int} {p : Nat} {r : Int} (b : RS M T p r) (h : M ≤ N) : RS N T p r := by
  have h1 := b.r1
  exact ⟨b.len, b.turn, by omega, fun i hi => by have := b.top i hi; omega⟩
/-- a rule cut shorter -/
structure Cut (T : List Int) (p : Nat) (r : Int) (T' : List Int) (p' : Nat) (r' : Int) : Prop where
  len : T'.length ≤ T.length
  turn : p' ≤ p
  rise : r' ≤ r
  get : ∀ i, i < T'.length → T'.getD i 0 = T.getD i 0
theorem Cut.rs {M : Int} {T T' : List Int} {p p' : Nat} {r r' : Int} (c : Cut T p r T' p' r') (b : RS M T p r) : RS M T' p' r' := by
  have h1 := c.len
  have h2 := c.turn
  have h3 := c.rise
  have b1 := b.len
  have b2 := b.turn
  have b3 := b.r1
  exact ⟨by omega, by omega, by omega, fun i hi => by rw [c.get i hi]; exact b.top i (by omega)⟩
theorem Cut.rb {T T' : List Int} {p p' : Nat} {r r' : Int} (c : Cut T p r T' p' r') (b : RB T p r) : RB T' p' r' := by
  have h1 := c.len
  have h3 := c.rise
  have b1 := b.len
  have b3 := b.r1
  exact ⟨by omega, by omega, fun i hi => by rw [c.get i hi]; exact b.top i (by omega)⟩
theorem get_int {T : List Int} {i : Nat} (h : i < T.length) : (T.map V.int)[i]? = some (.int (T.getD i 0)) := by
  rw [List.getElem?_map, List.getElem?_eq_getElem h, List.getD_eq_getElem?_getD, List.getElem?_eq_getElem h]
  rfl
theorem atI_neg1 {xs : List V} {v : V} (h0 : 0 < xs.length) (h : xs[xs.length - 1]? = some v) : atI xs (-1) = some v := by
  unfold atI ixN
  rw [if_neg (by decide), if_pos (by omega), show ((-1 : Int) + (xs.length : Int)).toNat = xs.length - 1 by omega]
  exact h
theorem last_int {T : List Int} (h : 0 < T.length) : atI (T.map V.int) (-1) = some (.int (T.getD (T.length - 1) 0)) :=
  atI_neg1 (by rw [List.length_map]; exact h) (by rw [List.length_map]; exact get_int (by omega))
theorem pick4 {a b c d r : Int} (h0 : 0 ≤ r) (h1 : r < 4) : ∃ z, [V.int a, V.int b, V.int c, V.int d][r.toNat]? = some (.int z) ∧ (z = a ∨ z = b ∨ z = c ∨ z = d) := by
  obtain rfl | rfl | rfl | rfl : r = 0 ∨ r = 1 ∨ r = 2 ∨ r = 3 := by omega
  · exact ⟨a, rfl, .inl rfl⟩
  · exact ⟨b, rfl, .inr (.inl rfl)⟩
  · exact ⟨c, rfl, .inr (.inr (.inl rfl))⟩
  · exact ⟨d, rfl, .inr (.inr (.inr rfl))⟩
/-- a table while it grows -/
structure Tb (T : List Int) : Prop where
  ne : 0 < T.length
  nn : ∀ i, i < T.length → 0 ≤ T.getD i 0
  mono : ∀ i, i + 1 < T.length → T.getD i 0 ≤ T.getD (i + 1) 0
  top : ∀ i, i < T.length → T.getD i 0 ≤ 10000000000 * ((i : Int) + 1)
theorem getD_app {T : List Int} {x : Int} {i : Nat} : (T ++ [x]).getD i 0 = if i < T.length then T.getD i 0 else if i = T.length then x else 0 := by
  rw [List.getD_eq_getElem?_getD, List.getD_eq_getElem?_getD, List.getElem?_append]
  by_cases h : i < T.length
  · rw [if_pos h, if_pos h]
  · rw [if_neg h, if_neg h]
    by_cases e : i = T.length
    · rw [if_pos e, e, Nat.sub_self]
      rfl
    · rw [if_neg e, List.getElem?_eq_none (by rw [List.length_singleton]; omega)]
      rfl
theorem Tb.more {T : List Int} (t : Tb T) {c : Int} (c0 : 0 ≤ c) (c1 : c ≤ 1000000000) : Tb (T ++ [T.getD (T.length - 1) 0 + c]) := by
  have n := t.ne
  have l := t.nn (T.length - 1) (by omega)
  have u := t.top (T.length - 1) (by omega)
  refine ⟨by rw [List.length_append]; omega, fun i hi => ?_, fun i hi => ?_, fun i hi => ?_⟩
  · rw [List.length_append, List.length_singleton] at hi
    rw [getD_app]
    split
    · exact t.nn i (by assumption)
    · rw [if_pos (by omega)]
      omega
  · rw [List.length_append, List.length_singleton] at hi
    rw [getD_app, getD_app, if_pos (by omega)]
    split
    · exact t.mono i (by assumption)
    · rw [if_pos (by omega), show i = T.length - 1 by omega]
      omega
  · rw [List.length_append, List.length_singleton] at hi
    rw [getD_app]
    split
    · exact t.top i (by assumption)
    · rw [if_pos (by omega), show i = T.length by omega]
      omega
theorem Tb.rs {T : List Int} (t : Tb T) (h : T.length ≤ 300) {p : Nat} {r : Int} (hp : p ≤ 40) (h1 : r ≤ 10000000000000) : RS 10000000000000 T p r :=
  ⟨h, hp, h1, fun i hi => by have := t.top i hi; omega⟩
theorem Tb.level {T : List Int} (t : Tb T) : RuleOk T 1 0 := ⟨by decide, t.ne, by decide, t.nn, t.mono, by omega⟩
theorem Tb.rising {T : List Int} (t : Tb T) {p : Nat} {c : Int} (p0 : 0 < p) (p1 : p ≤ T.length) (c0 : 0 ≤ c) : RuleOk T p (T.getD (T.length - 1) 0 - T.getD (T.length - p) 0 + c) := by
  have up : T.getD (T.length - p) 0 ≤ T.getD (T.length - 1) 0 := by
    have z : RuleOk T 1 0 := t.level
    exact z.row (by omega) (by omega)
  exact ⟨p0, p1, by omega, t.nn, t.mono, by omega⟩
def sp_l_value (_ : PySem.W.Frag) : Sp := fun vs H Q _ => ∃ (d : Addr) (T : List Int) (p : Nat) (r : Int) (x : Nat), vs = [.ref d, .int (x : Int)] ∧ RuleAt H d T p r ∧ RuleW T p r ∧ RB T p r ∧ Q (.int (vl T p r x)) H
def sp_l_repeats (_ : PySem.W.Frag) : Sp := fun vs H Q _ => ∃ (d : Addr) (T : List Int) (p : Nat) (r : Int) (s : Nat) (c : Int), vs = [.ref d, .int (s : Int), .int c] ∧ RuleAt H d T p r ∧ RuleOk T p r ∧ RB T p r ∧
  ∀ b, (b = true ↔ Rep T p r s c) → Q (.bl b) H
def sp_l_least (_ : PySem.W.Frag) : Sp := fun vs H Q _ => ∃ (d : Addr) (T : List Int) (p : Nat) (r : Int), vs = [.ref d] ∧ RuleAt H d T p r ∧ RuleOk T p r ∧ RB T p r ∧
  ∀ H' d' T' p' r', Same H H' → RuleAt H' d' T' p' r' → Cut T p r T' p' r' → Short T' p' r' → (∀ x, vl T' p' r' x = vl T p r x) → Q (.ref d') H'
def sp_l_rule (_ : PySem.W.Frag) : Sp := fun vs H Q _ => ∃ (p l : Addr) (n long wide tall : Int), vs = [.ref p, .int long, .int wide, .int tall] ∧ Deck H p l n ∧ 0 ≤ n ∧ n ≤ 900000 ∧ 0 ≤ long ∧ long ≤ 200 ∧ 1 ≤ wide ∧ wide ≤ 40 ∧ 0 ≤ tall ∧ tall ≤ 1000000000 ∧
  ∀ H' d T pp r n', Fr p l H H' → Deck H' p l n' → n ≤ n' → n' ≤ n + 1000 → RuleAt H' d T pp r → RS 10000000000000 T pp r → Short T pp r → Q (.ref d) H'
section
variable {P : Program} {w : World} {K : PySem.W.Frag} {mg : Str → Option Value} {base : Heap}
abbrev s_l_deck : Stmt := topS 15
abbrev N_l_deck : List Str := ["_law_script", "_law_cell"]
theorem sc_l_deck : FnScope N_l_deck ["_law_script"] (defScope s_l_deck) := ⟨rfl, rfl, rfl, by decide +kernel, rfl, by decide +kernel, by decide +kernel⟩
theorem ok_l_deck (T : Txt mg) (D : Df K mg "_law_deck" s_l_deck ["_law_script"]) : Cal P w K mg base "_law_deck" ["_law_script"] 1 (sp_l_deck K) := by
  refine D.cal sc_l_deck (fun vs H Q E h => ?_) (fun f cdv A outer s H vs Q E hr h => ?_)
  · obtain ⟨a, ns, rfl, _⟩ := h
    rfl
  obtain ⟨a, ns, rfl, hS, hlen, k⟩ := h
  refine ⟨_, (pss_one (ps_ret (pe_lst (pa_cons (pe_lc (own := [("_law_cell", 1)]) (g := gName 1) (tt := tYes) rfl sc_l_deck.nd (pi_list (pe_slice sl_list (pv 0) po_none (po_some pe_int))) (blkOk_by (own := [("_law_cell", 1)]) (N := N_l_deck) (sc := defScope s_l_deck) (by decide +kernel)) (fun _ _ _ _ _ => pg_name (i := 1) sc_l_deck.nd rfl (Or.inl rfl)) (fun _ _ _ _ _ => pts_nil) (fun _ _ _ _ _ => (pe_callB call_abs (by rfl) T.n_abs (by decide +kernel) (pa_cons (pv 1) pa_nil)))) (pa_cons pe_int pa_nil))))), ?_⟩
  refine ⟨_, rfl, _, rfl, a, _, rfl, hS, fun c nc => ?_⟩
  rw [cut63 hlen]
  have s1 := same_upd (o := .lst (ns.map V.int)) nc
  refine ⟨c, rfl, ⟨_, SqL.of upd_same⟩, fun D nD => ?_⟩
  have s2 := s1.trans (same_upd (o := .lst []) nD)
  have hc2 : upd (upd H c (.lst (ns.map V.int))) D (.lst []) c = some (.lst (ns.map V.int)) := same_upd nD _ _ upd_same
  refine lc_list (K := K) (a := c) (xs := ns.map V.int) (fun i H' => Same H H' ∧ H' c = some (.lst (ns.map V.int)) ∧ c ≠ D ∧ H D = none ∧ H' D = some (.lst (((ns.take i).map absI).map V.int)))
    ⟨s2, hc2, ne_of_none upd_same nD, s1.free nD, upd_same⟩ (fun i H' _ h => SqL.of h.2.1) ?_ ?_
  · rintro i x H' hx ⟨sm, hc, ncD, nD0, hD⟩
    rw [List.getElem?_map] at hx
    cases e : ns[i]? with
    | none => rw [e] at hx; cases hx
    | some y =>
      rw [e] at hx
      have ex : x = .int y := (Option.some.inj hx).symm
      subst ex
      refine ⟨rfl, ?_⟩
      unfold tYes
      refine iteT ?_
      refine ⟨_, rfl, _, rfl, _, hD, ?_, ?_⟩
      · rw [List.length_map, List.length_map, List.length_take]
        exact Nat.lt_of_le_of_lt (Nat.min_le_right _ _) (small1000 (by omega))
      · refine ⟨fun b o e => ?_, ?_, ncD, nD0, ?_⟩
        · rw [upd_ne (ne_of_none e nD0)]
          exact sm _ _ e
        · rw [upd_ne ncD]
          exact hc
        · rw [upd_same, List.take_add_one, e, List.map_append, List.map_append]
          rfl
  · rintro H' ⟨sm, hc, ncD, nD0, hD⟩
    refine ⟨(by show 2 ≤ sizeLine; decide), fun p np => ?_⟩
    have s3 := sm.trans (same_upd (o := .lst [.ref D, .int 0]) np)
    refine k _ p D s3 ⟨upd_same, _, (same_upd np) _ _ hD, fun c hc => ?_, ?_⟩
    · obtain ⟨y, _, rfl⟩ := List.mem_map.mp hc
      exact absI_pos y
    · rw [List.length_map, List.length_take]
      omega
abbrev s_l_draw : Stmt := topS 16
abbrev N_l_draw : List Str := ["_law_deck_here", "_law_many", "_law_place", "_law_cell", "_law_mixed"]
theorem sc_l_draw : FnScope N_l_draw ["_law_deck_here", "_law_many"] (defScope s_l_draw) := ⟨rfl, rfl, rfl, by decide +kernel, rfl, by decide +kernel, by decide +kernel⟩
theorem ok_l_draw (T : Txt mg) (D : Df K mg "_law_draw" s_l_draw ["_law_deck_here", "_law_many"]) : Cal P w K mg base "_law_draw" ["_law_deck_here", "_law_many"] 1 (sp_l_draw K) := by
  refine D.cal sc_l_draw (fun vs H Q E h => ?_) (fun f cdv A outer s H vs Q E hr h => ?_)
  · obtain ⟨p, l, n, m, rfl, _⟩ := h
    rfl
  obtain ⟨p, l, n, m, rfl, D, n0, n1, m0, m1, k⟩ := h
  obtain ⟨cells, hl, hc⟩ := D.hl
  have npl : p ≠ l := ne_of D.hp hl deck_ne
  refine ⟨_, (pss_cons (ps_asg (pe_op op_add (pe_ix ix_list (pv 0) pe_int (fun _ _ => rfl)) pe_int) (pg_sub (pv 0) pe_int set_list))
    (pss_cons (ps_set (i := 2) sc_l_draw.nd rfl (Or.inl rfl) (pe_op op_modN (pe_callTy call_int1 (by rfl) T.n_int (by decide +kernel) (pa_cons (pe_ix ix_list (pv 0) pe_int (fun _ _ => rfl)) pa_nil)) (pe_callB (call_max2 rfl) (by rfl) T.n_max (by decide +kernel) (pa_cons pe_int (pa_cons (pe_callB call_len_seq (by rfl) T.n_len (by decide +kernel) (pa_cons (pe_ix ix_list (pv 0) pe_int (fun _ _ => rfl)) pa_nil)) pa_nil)))))
    (pss_cons (ps_set (i := 3) sc_l_draw.nd rfl (Or.inl rfl) (pe_ix ix_list (pe_op op_cat (pe_ix ix_list (pv 0) pe_int (fun _ _ => rfl)) (pe_lst (pa_cons pe_int pa_nil))) (pv 2) (fun _ _ => rfl)))
    (pss_cons (ps_if (pt_cmpR op_ge (pv 3) (pe_op op_pow pe_int pe_int) (nomark _)) (pss_cons (ps_asg (pe_op op_fdivW (pv 3) (pv 1)) (pg_sub (pe_ix ix_list (pv 0) pe_int (fun _ _ => rfl)) (pv 2) set_list))
    (pss_one (ps_ret (pe_op op_modN (pe_callTy call_int1 (by rfl) T.n_int (by decide +kernel) (pa_cons (pv 3) pa_nil)) (pv 1))))) pss_nil)
    (pss_cons (ps_set (i := 4) sc_l_draw.nd rfl (Or.inl rfl) (pe_op op_pow (pe_op op_add (pe_op op_add (pe_op op_modN (pe_callTy call_int1 (by rfl) T.n_int (by decide +kernel) (pa_cons (pv 3) pa_nil)) pe_int) (pe_op op_mul pe_int (pe_ix ix_list (pv 0) pe_int (fun _ _ => rfl)))) pe_int) pe_int))
    (pss_one (ps_ret (pe_op op_modN (pe_callTy call_int1 (by rfl) T.n_int (by decide +kernel) (pa_cons (pe_op op_modN (pe_callTy call_int1 (by rfl) T.n_int (by decide +kernel) (pa_cons (pv 4) pa_nil)) pe_int) pa_nil)) (pv 1))))))))), ?_⟩
  refine ⟨_, rfl, _, _, _, _, rfl, rfl, SqL.of D.hp, atI_nat (j := 1) rfl, _, _, rfl, rfl, _, rfl, _, _, _, _, rfl, rfl, D.hp, rfl, ?_⟩
  generalize hH0 : upd H p (HO.lst (List.set [V.ref l, V.int n] (Int.toNat 1) ((fun i j => V.int (i + j)) n 1))) = H0
  have hH0 : upd H p (.lst [.ref l, .int (n + 1)]) = H0 := hH0
  have f0 : Fr p l H H0 := fun b o h1 _ h => by rw [← hH0, upd_ne h1]; exact h
  have hl0 : H0 l = some (.lst (cells.map V.int)) := by rw [← hH0, upd_ne npl.symm]; exact hl
  have hp0 : H0 p = some (.lst [.ref l, .int (n + 1)]) := by rw [← hH0, upd_same]
  -- place
  have big : (if ((cells.map V.int).length : Int) > 1 then ((cells.map V.int).length : Int) else 1) = max 1 (cells.length : Int) := by
    rw [List.length_map]
    split <;> omega
  have fm : (n + 1).fmod (max 1 (cells.length : Int)) = (n + 1) % (max 1 (cells.length : Int)) := fmod_pos (by omega)
  have q0 : 0 ≤ (n + 1).fmod (max 1 (cells.length : Int)) := by rw [fm]; exact Int.emod_nonneg _ (by omega)
  have q1 : (n + 1).fmod (max 1 (cells.length : Int)) < max 1 (cells.length : Int) := by rw [fm]; exact Int.emod_lt_of_pos _ (by omega)
  refine ⟨_, rfl, _, _, _, _, rfl, rfl, SqL.of hp0, atI_nat (j := 1) rfl, .inl ⟨_, rfl, _, rfl, _, _, _, _, rfl, rfl, SqL.of hp0, atI_nat (j := 0) rfl, _, _, rfl, .inl (SqL.of hl0), _, _, rfl, _, _, rfl, rfl, (by rw [big]; omega), ?_⟩⟩
  have z : ∀ B : Int → Prop, B ((n + 1).fmod (max 1 (cells.length : Int))) → B ((n + 1).fmod (if ((cells.map V.int).length : Int) > 1 then ((cells.map V.int).length : Int) else 1)) := fun B h => by rw [big]; exact h
  refine z (fun y => gName 2 (.int y) _ _ _) ?_
  clear z
  -- cell
  refine ⟨_, rfl, _, _, _, _, rfl, rfl, SqL.of hp0, atI_nat (j := 0) rfl, (by show 1 ≤ sizeLine; decide), fun t nt => ?_⟩
  have st := same_upd (o := .lst [.int 0]) nt
  have hp1 := st _ _ hp0
  have hl1 := st _ _ hl0
  have f1 := f0.trans (Same.fr (p := p) (l := l) st)
  obtain ⟨hc, h63⟩ := hc
  have ln : (cells.map V.int).length = cells.length := List.length_map ..
  refine ⟨_, _, _, _, rfl, rfl, hl1, upd_same, (by rw [ln]; exact Nat.le_trans (by omega : cells.length + 1 ≤ 64) (by decide)), fun t2 nt2 => ?_⟩
  have st2 := same_upd (o := .lst (cells.map V.int ++ [.int 0])) nt2
  have hp2 := st2 _ _ hp1
  have hl2 := st2 _ _ hl1
  have f2 := f1.trans (Same.fr (p := p) (l := l) st2)
  have ht2 : upd (upd H0 t (.lst [.int 0])) t2 (.lst (cells.map V.int ++ [.int 0])) t2 = some (.lst ((cells ++ [0]).map V.int)) := by rw [upd_same, List.map_append]; rfl
  generalize upd (upd H0 t (HO.lst [V.int 0])) t2 (HO.lst (cells.map V.int ++ [V.int 0])) = H2 at hp2 hl2 f2 ht2 ⊢
  have q2 : ((n + 1).fmod (max 1 (cells.length : Int))).toNat < (cells ++ [0]).length := by rw [List.length_append, List.length_singleton]; omega
  have q3 : (n + 1).fmod (max 1 (cells.length : Int)) = (((n + 1).fmod (max 1 (cells.length : Int))).toNat : Int) := by omega
  generalize (n + 1).fmod (max 1 (cells.length : Int)) = pl at q0 q1 q2 q3 ⊢
  have q4 : ((cells ++ [0]).map V.int)[pl.toNat]? = some (.int (cells ++ [0])[pl.toNat]) := by
    rw [List.getElem?_map, List.getElem?_eq_getElem q2]
    rfl
  have c0 : 0 ≤ (cells ++ [0])[pl.toNat] := by
    rcases List.mem_append.mp (List.getElem_mem q2) with q | q
    · exact hc _ q
    · rw [List.mem_singleton.mp q]
      decide
  have inside : 1000000000000000000 ≤ (cells ++ [0])[pl.toNat] → pl.toNat < cells.length := by
    intro q
    by_cases e : pl.toNat < cells.length
    · exact e
    · rw [List.getElem_append_right (by omega)] at q
      simp at q
  generalize (cells ++ [0])[pl.toNat] = c at q4 c0 inside ⊢
  refine ⟨_, rfl, _, _, _, _, rfl, rfl, SqL.of ht2, at_of q3 q4, ?_⟩
  refine ⟨_, rfl, _, _, rfl, rfl, ⟨by decide, by decide, by decide⟩, _, _, rfl, rfl, _, rfl, ite3 (fun e => ?_) (fun e => ?_)⟩
  · have e : 1000000000000000000 ≤ c := e
    have p1 := inside e
    have ix : ixN (cells.map V.int).length pl = some pl.toNat := by
      unfold ixN
      rw [if_pos q0, if_pos (by omega)]
    refine ⟨_, rfl, _, rfl, _, _, rfl, rfl, div_draw m0 m1, _, rfl, _, _, _, _, rfl, rfl, SqL.of hp2, atI_nat (j := 0) rfl, _, rfl, _, _, _, _, rfl, rfl, hl2, ix, ?_⟩
    refine ⟨_, rfl, .inl ⟨_, rfl, _, rfl, _, _, rfl, rfl, (by omega), ?_⟩⟩
    have fm : c.fmod m = c % m := fmod_pos m0
    refine k _ _ (by rw [fm]; exact Int.emod_nonneg _ (by omega)) (by rw [fm]; exact Int.emod_lt_of_pos _ m0) (f2.trans fun b o _ h2 h => by rw [upd_ne h2]; exact h) ⟨by rw [upd_ne npl]; exact hp2, cells.set pl.toNat (c / m), by rw [upd_same, List.map_set], fun y hy => ?_, by rw [List.length_set]; exact h63⟩
    rcases List.mem_or_eq_of_mem_set hy with q | q
    · exact hc y q
    · rw [q]; exact Int.ediv_nonneg c0 (by omega)
  · refine ⟨_, rfl, .inl ⟨_, rfl, _, _, rfl, rfl, (show (2147483587 : Int) ≠ 0 by decide), _, rfl, _, _, _, _, rfl, rfl, SqL.of hp2, atI_nat (j := 1) rfl, _, _, rfl, rfl, .inl ⟨by decide, by decide⟩, _, _, rfl, rfl, _, _, rfl, rfl, ?_⟩⟩
    have fm : c.fmod 2147483587 = c % 2147483587 := fmod_pos (by decide)
    have h0 := Int.emod_nonneg c (show (2147483587 : Int) ≠ 0 by decide)
    have h1 := Int.emod_lt_of_pos c (show (0 : Int) < 2147483587 by decide)
    refine ⟨_, _, rfl, rfl, ⟨by decide, by decide, by rw [fm]; omega⟩, ?_⟩
    refine ⟨_, rfl, .inl ⟨_, rfl, _, _, rfl, rfl, (show (2147483647 : Int) ≠ 0 by decide), .inl ⟨_, rfl, _, rfl, _, _, rfl, rfl, (by omega), ?_⟩⟩⟩
    refine k _ _ ?_ ?_ f2 ⟨hp2, cells, hl2, hc, h63⟩
    · rw [fmod_pos m0]; exact Int.emod_nonneg _ (by omega)
    · rw [fmod_pos m0]; exact Int.emod_lt_of_pos _ m0
abbrev s_l_one : Stmt := topS 17
abbrev N_l_one : List Str := ["_law_deck_here", "_law_items"]
theorem sc_l_one : FnScope N_l_one ["_law_deck_here", "_law_items"] (defScope s_l_one) := ⟨rfl, rfl, rfl, by decide +kernel, rfl, by decide +kernel, by decide +kernel⟩
theorem ok_l_one (T : Txt mg) (D : Df K mg "_law_one" s_l_one ["_law_deck_here", "_law_items"]) (C_l_draw : Cal P w K mg base "_law_draw" ["_law_deck_here", "_law_many"] 1 (sp_l_draw K)) : Cal P w K mg base "_law_one" ["_law_deck_here", "_law_items"] 2 (sp_l_one K) := by
  obtain ⟨f_l_draw, fd_l_draw, G_l_draw, m_l_draw, k_l_draw, b_l_draw⟩ := C_l_draw
  refine D.cal sc_l_one (fun vs H Q E h => ?_) (fun f cdv A outer s H vs Q E hr h => ?_)
  · obtain ⟨p, l, b, n, xs, rfl, _⟩ := h
    rfl
  obtain ⟨p, l, b, n, xs, rfl, D, n0, n1, hb, bp, bl, x0, x1, k⟩ := h
  refine ⟨_, (pss_one (ps_ret (pe_ix ix_list (pv 1) (pe_call G_l_draw (hr.mono (by decide)) (by rfl) m_l_draw k_l_draw b_l_draw .nil pass0 (pa_cons (pv 0) (pa_cons (pe_callB call_len_seq (by rfl) T.n_len (by decide +kernel) (pa_cons (pv 1) pa_nil)) pa_nil))) (fun _ _ => rfl)))), ?_⟩
  refine ⟨_, rfl, _, rfl, _, rfl, _, _, rfl, .inl (SqL.of hb), p, l, n, _, rfl, D, n0, n1, (by omega), (by omega), fun r H' r0 r1 f D' => ?_⟩
  have q : r.toNat < xs.length := by omega
  refine ⟨_, _, _, _, rfl, rfl, SqL.of (f b _ bp bl hb), at_of (j := r.toNat) (by omega) (List.getElem?_eq_getElem q), ?_⟩
  exact k _ H' (List.getElem_mem q) f D'
end
end Sm

set_option Elab.async false
set_option linter.all false
set_option maxRecDepth 100000
set_option maxHeartbeats 8000000
namespace Sm
open PySem PySem.Spec PyProof.Rows L2
open C8 (pss_cut tCut)
section
variable {P : Program} {w : World} {K : PySem.W.Frag} {mg : Str → Option Value} {base : Heap}
theorem RB.div {T : List Int} {p : Nat} {r x : Int} (b : RB T p r) (o : RuleW T p r) : CDivW x (p : Int) := by
  have := b.len
  have := o.p0
  have := o.p1
  exact wide_div (b := 13) (by omega) (by omega) (by decide) (by decide)
theorem RB.mulR {T : List Int} {p : Nat} {r x : Int} (b : RB T p r) (o : RuleW T p r) : CMul x r := by
  have := b.r1
  have := o.r0
  exact .inr ⟨by omega, by omega⟩
theorem RB.mulR' {T : List Int} {p : Nat} {r x : Int} (b : RB T p r) (o : RuleW T p r) : CMul r x := by
  have := b.r1
  have := o.r0
  exact .inl ⟨by omega, by omega⟩
theorem RB.mulP {T : List Int} {p : Nat} {r x : Int} (b : RB T p r) (o : RuleW T p r) : CMul x (p : Int) := by
  have := b.len
  have := o.p1
  exact .inr ⟨by omega, by omega⟩
theorem len_int (T : List Int) : (((T.map V.int).length : Nat) : Int) = (T.length : Int) := by rw [List.length_map]
theorem turns_eq {T : List Int} {p x : Nat} (h : T.length ≤ x) : ((x : Int) - (((T.map V.int).length : Nat) : Int)) / (p : Int) + 1 = (((x - T.length) / p + 1 : Nat) : Int) := by
  rw [len_int]
  exact div_cast h
theorem index_eq {q p x : Nat} (h : q * p ≤ x) : (x : Int) - (q : Int) * (p : Int) = ((x - q * p : Nat) : Int) := by
  rw [Int.natCast_sub h, Int.natCast_mul]
abbrev s_l_value : Stmt := topS 18
abbrev N_l_value : List Str := ["_law_rule_here", "_law_x", "_law_table", "_law_period", "_law_rise", "_law_turns"]
theorem sc_l_value : FnScope N_l_value ["_law_rule_here", "_law_x"] (defScope s_l_value) := ⟨rfl, rfl, rfl, by decide +kernel, rfl, by decide +kernel, by decide +kernel⟩
theorem ok_l_value (T : Txt mg) (D : Df K mg "_law_value" s_l_value ["_law_rule_here", "_law_x"]) : Cal P w K mg base "_law_value" ["_law_rule_here", "_law_x"] 1 (sp_l_value K) := by
  refine D.cal sc_l_value (fun vs H Q E h => ?_) (fun f cdv A outer s H vs Q E hr h => ?_)
  · obtain ⟨d, T0, p, r, x, rfl, _⟩ := h
    rfl
  obtain ⟨d, T0, p, r, x, rfl, ⟨t, hd, ht⟩, o, b, k⟩ := h
  have p0 := o.p0
  have p1 := o.p1
  refine ⟨_, (pss_cons (ps_asg (pv 0) (pg_tup (by rfl) (pgs_cons (pg_name (i := 2) sc_l_value.nd rfl (Or.inl rfl)) (pgs_cons (pg_name (i := 3) sc_l_value.nd rfl (Or.inl rfl)) (pgs_cons (pg_name (i := 4) sc_l_value.nd rfl (Or.inl rfl)) pgs_nil)))))
    (pss_cons (ps_if (pt_cmpR op_lt (pv 1) (pe_callB call_len_seq (by rfl) T.n_len (by decide +kernel) (pa_cons (pv 2) pa_nil)) (nomark _)) (pss_one (ps_ret (pe_ix ix_tup (pv 2) (pv 1) (fun _ _ => rfl)))) pss_nil)
    (pss_cons (ps_set (i := 5) sc_l_value.nd rfl (Or.inl rfl) (pe_op op_add (pe_op op_fdivW (pe_op op_sub (pv 1) (pe_callB call_len_seq (by rfl) T.n_len (by decide +kernel) (pa_cons (pv 2) pa_nil))) (pv 3)) pe_int))
    (pss_one (ps_ret (pe_op op_add (pe_ix ix_tup (pv 2) (pe_op op_sub (pv 1) (pe_op op_mul (pv 5) (pv 3))) (fun _ _ => rfl)) (pe_op op_mul (pv 5) (pv 4)))))))), ?_⟩
  refine ⟨_, rfl, _, _, rfl, SqT.of hd, rfl, _, _, rfl, _, _, rfl, _, _, rfl, rfl, ?_⟩
  refine ⟨_, rfl, _, rfl, _, _, rfl, .inr (SqT.of ht), _, _, rfl, rfl, _, rfl, ite3 (fun e => ?_) (fun e => ?_)⟩
  · rw [len_int] at e
    have e : x < T0.length := by omega
    rw [vl_lt e] at k
    exact ⟨_, rfl, _, rfl, _, _, _, _, rfl, rfl, SqT.of ht, atI_nat (get_int e), k⟩
  · rw [len_int] at e
    have e : T0.length ≤ x := by omega
    have z : ∀ B : Int → Prop, B (((x - T0.length) / p + 1 : Nat) : Int) → B (((x : Int) - (((T0.map V.int).length : Nat) : Int)) / (p : Int) + 1) := fun B h => by rw [turns_eq e]; exact h
    refine ⟨_, rfl, _, rfl, _, _, rfl, .inr (SqT.of ht), _, _, rfl, rfl, _, rfl, _, _, rfl, rfl, b.div o, _, _, rfl, rfl, ?_⟩
    refine z (fun y => gName 5 (.int y) _ _ _) ?_
    clear z
    obtain ⟨a1, a2, a3⟩ := place p0 p1 e
    have kv : vl T0 p r x = T0.getD (x - ((x - T0.length) / p + 1) * p) 0 + (((x - T0.length) / p + 1 : Nat) : Int) * r := if_neg (by omega)
    rw [kv] at k
    generalize (x - T0.length) / p + 1 = q at a1 a2 a3 k ⊢
    exact ⟨_, rfl, _, rfl, _, rfl, _, rfl, _, _, rfl, rfl, b.mulP o, _, _, rfl, rfl, _, _, _, _, rfl, rfl, SqT.of ht, at_of (index_eq a1) (get_int a3), _, rfl, _, rfl, _, _, rfl, rfl, b.mulR o, _, _, rfl, rfl, k⟩
abbrev s_l_repeats : Stmt := topS 19
abbrev N_l_repeats : List Str := ["_law_rule_here", "_law_step", "_law_more", "_law_table", "_law_period", "_law_rise", "_law_x"]
theorem sc_l_repeats : FnScope N_l_repeats ["_law_rule_here", "_law_step", "_law_more"] (defScope s_l_repeats) := ⟨rfl, rfl, rfl, by decide +kernel, rfl, by decide +kernel, by decide +kernel⟩
theorem ok_l_repeats (T : Txt mg) (D : Df K mg "_law_repeats" s_l_repeats ["_law_rule_here", "_law_step", "_law_more"]) (C_l_value : Cal P w K mg base "_law_value" ["_law_rule_here", "_law_x"] 1 (sp_l_value K)) : Cal P w K mg base "_law_repeats" ["_law_rule_here", "_law_step", "_law_more"] 2 (sp_l_repeats K) := by
  obtain ⟨f_l_value, fd_l_value, G_l_value, m_l_value, k_l_value, b_l_value⟩ := C_l_value
  refine D.cal sc_l_repeats (fun vs H Q E h => ?_) (fun f cdv A outer s H vs Q E hr h => ?_)
  · obtain ⟨d, T0, p, r, s, c, rfl, _⟩ := h
    rfl
  obtain ⟨d, T0, p, r, st, c, rfl, R, o, b, k⟩ := h
  obtain ⟨t, hd, ht⟩ := id R
  have p0 := o.p0
  have p1 := o.p1
  have bl := b.len
  refine ⟨_, (pss_cons (ps_asg (pv 0) (pg_tup (by rfl) (pgs_cons (pg_name (i := 3) sc_l_repeats.nd rfl (Or.inl rfl)) (pgs_cons (pg_name (i := 4) sc_l_repeats.nd rfl (Or.inl rfl)) (pgs_cons (pg_name (i := 5) sc_l_repeats.nd rfl (Or.inl rfl)) pgs_nil)))))
    (pss_cons (ps_for PassesOwn.never rfl (pi_range2 (by rfl) T.n_range (pa_cons (pe_op op_sub (pe_callB call_len_seq (by rfl) T.n_len (by decide +kernel) (pa_cons (pv 3) pa_nil)) (pv 4)) (pa_cons (pe_callB call_len_seq (by rfl) T.n_len (by decide +kernel) (pa_cons (pv 3) pa_nil)) pa_nil))) (pg_name (i := 6) sc_l_repeats.nd rfl (Or.inl rfl))
      (pss_one (ps_if (pt_cmpR op_ne (pe_call G_l_value (hr.mono (by decide)) (by rfl) m_l_value k_l_value b_l_value .nil pass0 (pa_cons (pv 0) (pa_cons (pe_op op_add (pv 6) (pv 1)) pa_nil))) (pe_op op_add (pe_ix ix_tup (pv 3) (pv 6) (fun _ _ => rfl)) (pv 2)) (nomark _)) (pss_one (ps_ret pe_bl)) pss_nil)))
    (pss_one (ps_ret pe_bl)))), ?_⟩
  refine ⟨_, rfl, _, _, rfl, SqT.of hd, rfl, _, _, rfl, _, _, rfl, _, _, rfl, rfl, ?_⟩
  have ll := len_int T0
  refine ⟨_, rfl, _, _, rfl, .inr (SqT.of ht), _, rfl, _, _, rfl, rfl, _, rfl, _, _, rfl, .inr (SqT.of ht), _, _, rfl, ⟨by rw [ll]; omega, by rw [ll]; omega, by rw [ll]; omega, by rw [ll]; omega⟩, ?_⟩
  refine for_range (lo := _) (n := _) (fun i σ H' => ∃ v, σ = [some (.ref d), some (.int (st : Int)), some (.int c), some (.ref t), some (.int (p : Int)), some (.int r), v] ∧ H' = H ∧ ∀ j, j < i → vl T0 p r (T0.length - p + j + st) = T0.getD (T0.length - p + j) 0 + c)
    ⟨none, rfl, rfl, fun j hj => absurd hj (Nat.not_lt_zero _)⟩ ?_ ?_
  · rintro i σ H' hi ⟨v, rfl, rfl, hj⟩
    have hi : i < p := by
      rw [ll] at hi
      omega
    have e1 : (((T0.map V.int).length : Nat) : Int) - (p : Int) + (i : Int) = ((T0.length - p + i : Nat) : Int) := by rw [ll]; omega
    have e2 : (((T0.map V.int).length : Nat) : Int) - (p : Int) + (i : Int) + (st : Int) = ((T0.length - p + i + st : Nat) : Int) := by rw [ll]; omega
    have z : ∀ B : Int → Prop, B ((T0.length - p + i : Nat) : Int) → B ((((T0.map V.int).length : Nat) : Int) - (p : Int) + (i : Int)) := fun B h => by rw [e1]; exact h
    refine z (fun y => gName 6 (.int y) _ _ _) ?_
    clear z
    refine ⟨_, rfl, _, rfl, _, rfl, _, _, rfl, rfl, d, T0, p, r, T0.length - p + i + st, rfl, R, o.w, b, _, rfl, _, rfl, _, _, _, _, rfl, rfl, SqT.of ht, atI_nat (get_int (by omega)), _, rfl, _, _, rfl, rfl, rfl, _, rfl, ?_⟩
    by_cases e : vl T0 p r (T0.length - p + i + st) = T0.getD (T0.length - p + i) 0 + c
    · refine iteNP (congrArg V.int e) ⟨_, rfl, rfl, fun j hj' => ?_⟩
      by_cases q : j = i
      · rw [q]
        exact e
      · exact hj j (by omega)
    · exact iteNN (fun q => e (V.int.inj q)) (k false ⟨fun q => (nomatch q), fun rep => absurd (rep (T0.length - p + i) (by omega) (by omega)) e⟩)
  · rintro σ H' ⟨v, rfl, rfl, hj⟩
    refine k true ⟨fun _ i h1 h2 => ?_, fun _ => rfl⟩
    have := hj (i - (T0.length - p)) (by rw [ll]; omega)
    rw [show T0.length - p + (i - (T0.length - p)) = i by omega] at this
    exact this
def LeastW (d t : Addr) (T0 : List Int) (p : Nat) (r : Int) (s : Nat) (c : Int) (v : Option V) (H0 : Hp) : Nat → List (Option V) → Hp → Prop := fun m σ H =>
  σ = [some (.ref d), some (.ref t), some (.int (p : Int)), some (.int r), some (.int (s : Int)), some (.int (m : Int)), v, some (.int c)] ∧ H = H0 ∧ m ≤ T0.length - p ∧ ∀ y, m ≤ y → vl T0 p r (y + s) = vl T0 p r y + c
abbrev s_l_least : Stmt := topS 20
abbrev N_l_least : List Str := ["_law_rule_here", "_law_table", "_law_period", "_law_rise", "_law_step", "_law_start", "_law_one_here", "_law_more"]
theorem sc_l_least : FnScope N_l_least ["_law_rule_here"] (defScope s_l_least) := ⟨rfl, rfl, rfl, by decide +kernel, rfl, by decide +kernel, by decide +kernel⟩
theorem ok_l_least (T : Txt mg) (D : Df K mg "_law_least" s_l_least ["_law_rule_here"]) (C_l_value : Cal P w K mg base "_law_value" ["_law_rule_here", "_law_x"] 1 (sp_l_value K)) (C_l_repeats : Cal P w K mg base "_law_repeats" ["_law_rule_here", "_law_step", "_law_more"] 2 (sp_l_repeats K)) : Cal P w K mg base "_law_least" ["_law_rule_here"] 3 (sp_l_least K) := by
  obtain ⟨f_l_value, fd_l_value, G_l_value, m_l_value, k_l_value, b_l_value⟩ := C_l_value
  obtain ⟨f_l_repeats, fd_l_repeats, G_l_repeats, m_l_repeats, k_l_repeats, b_l_repeats⟩ := C_l_repeats
  refine D.cal sc_l_least (fun vs H Q E h => ?_) (fun f cdv A outer s H vs Q E hr h => ?_)
  · obtain ⟨d, T0, p, r, rfl, _⟩ := h
    rfl
  obtain ⟨d, T0, p, r, rfl, R, o, b, k⟩ := h
  obtain ⟨t, hd, ht⟩ := id R
  have p0 := o.p0
  have p1 := o.p1
  have bl := b.len
  have r0 := o.r0
  have ll := len_int T0
  refine ⟨_, (pss_cons (ps_asg (pv 0) (pg_tup (by rfl) (pgs_cons (pg_name (i := 1) sc_l_least.nd rfl (Or.inl rfl)) (pgs_cons (pg_name (i := 2) sc_l_least.nd rfl (Or.inl rfl)) (pgs_cons (pg_name (i := 3) sc_l_least.nd rfl (Or.inl rfl)) pgs_nil)))))
    (pss_cons (ps_par (i := 4) (j := 5) (by rfl) sc_l_least.nd rfl rfl (by decide) rfl rfl (pa_cons (pv 2) (pa_cons (pe_op op_sub (pe_callB call_len_seq (by rfl) T.n_len (by decide +kernel) (pa_cons (pv 1) pa_nil)) (pv 2)) pa_nil)) (by rfl))
    (pss_cut (ps_for PassesOwn.never rfl (pi_range2 (by rfl) T.n_range (pa_cons pe_int (pa_cons (pv 2) pa_nil))) (pg_name (i := 6) sc_l_least.nd rfl (Or.inl rfl))
      (pss_one (ps_if (PW.pt (pw_and (pt_cmpR op_eq (pv 4) (pv 2) (nomark _)) (pw_and (pt_cmpR op_eq (pe_op op_modN (pe_callTy call_int1 (by rfl) T.n_int (by decide +kernel) (pa_cons (pv 2) pa_nil)) (pv 6)) pe_int (nomark _)) (pw_and1 (pt_cmpR op_eq (pe_op op_modN (pe_callTy call_int1 (by rfl) T.n_int (by decide +kernel) (pa_cons (pe_op op_mul (pv 3) (pv 6)) pa_nil)) (pv 2)) pe_int (nomark _)))))) (pss_one (ps_if (pt_val (pe_call G_l_repeats (hr.mono (by decide)) (by rfl) m_l_repeats k_l_repeats b_l_repeats .nil pass0 (pa_cons (pv 0) (pa_cons (pv 6) (pa_cons (pe_op op_fdivW (pe_op op_mul (pv 3) (pv 6)) (pv 2)) pa_nil))))) (pss_one (ps_set (i := 4) sc_l_least.nd rfl (Or.inl rfl) (pv 6))) pss_nil)) pss_nil)))
    (pss_cons (ps_set (i := 7) sc_l_least.nd rfl (Or.inl rfl) (pe_op op_fdivW (pe_op op_mul (pv 3) (pv 4)) (pv 2)))
    (pss_cons (ps_while PassesOwn.never (PW.pt (pw_and (pt_cmpR op_gt (pv 5) pe_int (nomark _)) (pw_and1 (pt_cmpR op_eq (pe_call G_l_value (hr.mono (by decide)) (by rfl) m_l_value k_l_value b_l_value .nil pass0 (pa_cons (pv 0) (pa_cons (pe_op op_add (pe_op op_sub (pv 5) pe_int) (pv 4)) pa_nil))) (pe_op op_add (pe_ix ix_tup (pv 1) (pe_op op_sub (pv 5) pe_int) (fun _ _ => rfl)) (pv 7)) (nomark _)))))
      (pss_one (ps_set (i := 5) sc_l_least.nd rfl (Or.inl rfl) (pe_op op_sub (pv 5) pe_int))))
    (pss_one (ps_ret (pe_tup (pa_cons (pe_callTy call_tupleT (by rfl) T.n_tuple (by decide +kernel) (pa_cons (pe_slice sl_tupA (pv 1) po_none (po_some (pe_op op_add (pv 5) (pv 4)))) pa_nil)) (pa_cons (pv 4) (pa_cons (pv 7) pa_nil))))))))))), ?_⟩
  refine ⟨_, rfl, _, _, rfl, SqT.of hd, rfl, _, _, rfl, _, _, rfl, _, _, rfl, rfl, ?_⟩
  have z : ∀ B : Int → Prop, B ((T0.length - p : Nat) : Int) → B ((((T0.map V.int).length : Nat) : Int) - (p : Int)) := fun B h => by
    rw [ll, ← Int.natCast_sub p1]
    exact h
  refine ⟨_, rfl, _, rfl, _, _, rfl, .inr (SqT.of ht), _, rfl, _, _, rfl, rfl, _, _, rfl, ?_⟩
  refine z (fun y => tCut _ _ _ (List.set (List.set _ 4 (some (.int (p : Int)))) 5 (some (.int y))) H) ?_
  clear z
  refine ⟨fun σ H' => H' = H ∧ ∃ (s : Nat) (v : Option V), σ = [some (.ref d), some (.ref t), some (.int (p : Int)), some (.int r), some (.int (s : Int)), some (.int ((T0.length - p : Nat) : Int)), v, none] ∧ 1 ≤ s ∧ s ≤ p ∧ Rep T0 p r s (r * (s : Int) / (p : Int)) ∧ s ∣ p ∧ ∀ s' c', 0 < s' → s' < s → s' ∣ p → ¬ Rep T0 p r s' c', ?_, ?_⟩
  · refine ⟨_, rfl, _, _, rfl, ⟨by omega, by omega, by omega, by omega⟩, for_range (lo := _) (n := _) (fun i σ H' => H' = H ∧ ∃ (s : Nat) (v : Option V), σ = [some (.ref d), some (.ref t), some (.int (p : Int)), some (.int r), some (.int (s : Int)), some (.int ((T0.length - p : Nat) : Int)), v, none] ∧ 1 ≤ s ∧ s ≤ p ∧ Rep T0 p r s (r * (s : Int) / (p : Int)) ∧ s ∣ p ∧ (s = p ∨ s ≤ i) ∧ ∀ s' c', 0 < s' → s' < s → s' ≤ i → s' ∣ p → ¬ Rep T0 p r s' c')
      ⟨rfl, p, none, rfl, p0, Nat.le_refl _, ?_, Nat.dvd_refl _, .inl rfl, fun s' c' h1 _ h3 => absurd h1 (by omega)⟩ ?_ ?_⟩
    · rw [Int.mul_ediv_cancel _ (by omega)]
      exact rep_self o
    · rintro i σ H' hi ⟨rfl, s, v, rfl, s0, s1, hs, sd, sl, hm⟩
      have hi : i < p - 1 := by omega
      have one : (1 : Int) + (i : Int) = ((1 + i : Nat) : Int) := rfl
      have more : (∀ c', 1 + i ∣ p → ¬ Rep T0 p r (1 + i) c') → ∀ s' c', 0 < s' → s' < s → s' ≤ i + 1 → s' ∣ p → ¬ Rep T0 p r s' c' := by
        intro h s' c' h1 h2 h3 h4
        by_cases q : s' = 1 + i
        · subst q
          exact h c' h4
        · exact hm s' c' h1 h2 (by omega) h4
      have stay : s = p ∨ s ≤ i + 1 := sl.elim .inl fun h => .inr (by omega)
      refine ⟨_, rfl, _, rfl, rfl, _, rfl, ite3 (fun e => ?_) (fun e => ?_)⟩
      · have e : s = p := Int.ofNat.inj (V.int.inj e)
        refine ⟨_, rfl, .inl ⟨_, rfl, _, rfl, _, _, rfl, rfl, (by omega), rfl, _, rfl, ite3 (fun e2 => ?_) (fun e2 => ?_)⟩⟩
        · have dv : 1 + i ∣ p := dvd_of (V.int.inj e2)
          refine ⟨_, rfl, _, rfl, _, _, rfl, rfl, b.mulR' o.w, .inl ⟨_, rfl, _, rfl, _, _, rfl, rfl, (by omega), rfl, _, rfl, ite3 (fun e3 => ?_) (fun e3 => ?_)⟩⟩
          · refine ⟨_, rfl, _, rfl, _, rfl, _, rfl, _, _, rfl, rfl, b.mulR' o.w, _, rfl, _, _, rfl, rfl, b.div o.w, d, T0, p, r, 1 + i, _, rfl, R, o, b, fun bb hb => ⟨_, rfl, ?_⟩⟩
            cases bb with
            | true => exact iteT ⟨_, rfl, rfl, 1 + i, _, rfl, by omega, by omega, hb.mp rfl, dv, .inr (by omega), fun s' c' h1 h2 h3 h4 => hm s' c' h1 (by omega) (by omega) h4⟩
            | false => exact iteF ⟨rfl, s, _, rfl, s0, s1, hs, sd, stay, more fun c' d' rep => by
                have q := (rep_quot o d' rep).1
                have h := hb.mpr (by rw [← q] at rep; exact rep)
                cases h⟩
          · exact ⟨rfl, s, _, rfl, s0, s1, hs, sd, stay, more fun c' d' rep => e3 (congrArg V.int ((Int.fmod_eq_emod_of_nonneg _ (by omega)).trans (rep_quot o d' rep).2))⟩
        · exact iteF ⟨rfl, s, _, rfl, s0, s1, hs, sd, stay, more fun c' d' rep => e2 (congrArg V.int (of_dvd d'))⟩
      · refine iteF ⟨rfl, s, _, rfl, s0, s1, hs, sd, stay, fun s' c' h1 h2 h3 h4 => ?_⟩
        have ne : s ≠ p := fun q => e (by rw [q])
        exact hm s' c' h1 h2 (by omega) h4
    · rintro σ H' ⟨rfl, s, v, rfl, s0, s1, hs, sd, sl, hm⟩
      exact ⟨rfl, s, v, rfl, s0, s1, hs, sd, fun s' c' h1 h2 h4 => hm s' c' h1 h2 (by omega) h4⟩
  · rintro σ H' ⟨rfl, s, v, rfl, s0, s1, hs, sd, hm⟩
    have c0 : 0 ≤ r * (s : Int) / (p : Int) := Int.ediv_nonneg (Int.mul_nonneg r0 (by omega)) (by omega)
    have c1 : r * (s : Int) / (p : Int) ≤ r := by
      have h1 : r * (s : Int) ≤ r * (p : Int) := Int.mul_le_mul_of_nonneg_left (by omega) r0
      have h2 := Int.ediv_le_ediv (show (0 : Int) < (p : Int) by omega) h1
      rw [Int.mul_ediv_cancel _ (by omega)] at h2
      exact h2
    refine ⟨_, rfl, _, rfl, _, _, rfl, rfl, b.mulR' o.w, _, rfl, _, _, rfl, rfl, b.div o.w, ?_⟩
    have all := rep_all o hs
    obtain ⟨c, ec⟩ : ∃ c, c = r * (s : Int) / (p : Int) := ⟨_, rfl⟩
    rw [← ec] at c0 c1 all
    refine ⟨LeastW d t T0 p r s c v H', ⟨T0.length - p, by rw [ec]; rfl, rfl, Nat.le_refl _, all⟩, ?_⟩
    rintro m σ H'' ⟨rfl, rfl, al, ha⟩
    -- the end, from any start
    have fin : (m = 0 ∨ vl T0 p r (m - 1 + s) ≠ T0.getD (m - 1) 0 + c) → ∀ (H2 : Hp) (t' : Addr), Same H'' H2 → H2 t' = some (.tup ((T0.take (m + s)).map V.int)) → ∀ q, H2 q = none → Q (.ref q) (upd H2 q (.tup [.ref t', .int (s : Int), .int c])) := by
      intro st H2 t' sm h2 q nq
      have sq := same_upd (o := .tup [.ref t', .int (s : Int), .int c]) nq
      refine k _ q (T0.take (m + s)) s c (sm.trans sq) ⟨t', upd_same, sq _ _ h2⟩ ⟨?_, s1, c1, fun i hi => ?_⟩ (cut_short o s0 sd al c0 ha hm st) (cut_vl s0 (by omega) ha)
      · rw [List.length_take]
        omega
      · rw [List.length_take] at hi
        exact getD_take (by omega)
    refine ⟨_, rfl, _, _, rfl, rfl, _, rfl, ?_⟩
    by_cases e : (0 : Int) < (m : Int)
    · have e1 : (m : Int) - 1 = ((m - 1 : Nat) : Int) := by omega
      have e2 : (m : Int) - 1 + (s : Int) = ((m - 1 + s : Nat) : Int) := by omega
      refine iteP e ⟨_, rfl, _, rfl, _, _, rfl, rfl, _, rfl, _, _, rfl, rfl, d, T0, p, r, m - 1 + s, congrArg (fun z => [V.ref d, V.int z]) e2, R, o.w, b, _, rfl, _, rfl, _, _, rfl, rfl, _, _, _, _, rfl, rfl, SqT.of ht, at_of e1 (get_int (by omega)), _, rfl, _, _, rfl, rfl, rfl, _, rfl, ?_⟩
      by_cases e3 : vl T0 p r (m - 1 + s) = T0.getD (m - 1) 0 + c
      · refine iteP (congrArg V.int e3) ⟨LeastW d t T0 p r s c v H'' (m - 1), fun σ' H3 hw => ⟨m - 1, by omega, hw⟩, _, rfl, _, _, rfl, rfl, ?_⟩
        refine ⟨by rw [← e1]; rfl, rfl, by omega, fun y hy => ?_⟩
        by_cases q : y = m - 1
        · rw [q, e3, vl_lt (by omega)]
        · exact ha y (by omega)
      · refine iteN (fun q => e3 (V.int.inj q)) ?_
        refine ⟨_, rfl, _, rfl, _, rfl, _, _, rfl, rfl, _, rfl, _, _, rfl, SqT.of ht, fun wh => ?_, fun _ p' np' => ?_⟩
        · have w2 : min (m + s) (T0.map V.int).length = (T0.map V.int).length := (HT.sIx_nat _ _ (m + s)).symm.trans wh.2
          rw [List.length_map] at w2
          exact ⟨_, _, rfl, SqT.of ht, _, rfl, _, rfl, (by show 3 ≤ sizeLine; decide), fun q nq => fin (.inr e3) _ t (Same.refl _) (by rw [List.take_of_length_le (by omega)]; exact ht) q nq⟩
        · exact ⟨_, _, rfl, SqT.of upd_same, _, rfl, _, rfl, (by show 3 ≤ sizeLine; decide), fun q nq => fin (.inr e3) _ p' (same_upd np') (by rw [upd_same, show cutV (T0.map V.int) none (some ((m : Int) + (s : Int))) = cutV (T0.map V.int) none (some ((m + s : Nat) : Int)) from rfl, cut_all, List.map_take]) q nq⟩
    · refine iteN e (iteF ?_)
      refine ⟨_, rfl, _, rfl, _, rfl, _, _, rfl, rfl, _, rfl, _, _, rfl, SqT.of ht, fun wh => ?_, fun _ p' np' => ?_⟩
      · have w2 : min (m + s) (T0.map V.int).length = (T0.map V.int).length := (HT.sIx_nat _ _ (m + s)).symm.trans wh.2
        rw [List.length_map] at w2
        exact ⟨_, _, rfl, SqT.of ht, _, rfl, _, rfl, (by show 3 ≤ sizeLine; decide), fun q nq => fin (.inl (by omega)) _ t (Same.refl _) (by rw [List.take_of_length_le (by omega)]; exact ht) q nq⟩
      · exact ⟨_, _, rfl, SqT.of upd_same, _, rfl, _, rfl, (by show 3 ≤ sizeLine; decide), fun q nq => fin (.inl (by omega)) _ p' (same_upd np') (by rw [upd_same, show cutV (T0.map V.int) none (some ((m : Int) + (s : Int))) = cutV (T0.map V.int) none (some ((m + s : Nat) : Int)) from rfl, cut_all, List.map_take]) q nq⟩
end
end Sm

set_option Elab.async false
set_option linter.all false
set_option maxRecDepth 100000
set_option maxHeartbeats 16000000
namespace Sm
open PySem PySem.Spec PyProof.Rows L2
section
variable {P : Program} {w : World} {K : PySem.W.Frag} {mg : Str → Option Value} {base : Heap}
abbrev s_l_rule : Stmt := topS 21
abbrev N_l_rule : List Str := ["_law_deck_here", "_law_long", "_law_wide", "_law_tall", "_law_start", "_law_period", "_law_table", "_law_k", "_law_rise"]
theorem sc_l_rule : FnScope N_l_rule ["_law_deck_here", "_law_long", "_law_wide", "_law_tall"] (defScope s_l_rule) := ⟨rfl, rfl, rfl, by decide +kernel, rfl, by decide +kernel, by decide +kernel⟩
/-- what a draw needs of the deck, and an item of a list of four -/
theorem list_ne {H : Hp} {p l b : Addr} {n : Int} {xs : List V} (D : Deck H p l n) (h : H b = none) : b ≠ p ∧ b ≠ l := D.lne h
theorem ok_l_rule (T : Txt mg) (D : Df K mg "_law_rule" s_l_rule ["_law_deck_here", "_law_long", "_law_wide", "_law_tall"]) (C_l_least : Cal P w K mg base "_law_least" ["_law_rule_here"] 3 (sp_l_least K)) (C_l_draw : Cal P w K mg base "_law_draw" ["_law_deck_here", "_law_many"] 1 (sp_l_draw K)) : Cal P w K mg base "_law_rule" ["_law_deck_here", "_law_long", "_law_wide", "_law_tall"] 4 (sp_l_rule K) := by
  obtain ⟨f_l_least, fd_l_least, G_l_least, m_l_least, k_l_least, b_l_least⟩ := C_l_least
  obtain ⟨f_l_draw, fd_l_draw, G_l_draw, m_l_draw, k_l_draw, b_l_draw⟩ := C_l_draw
  refine D.cal sc_l_rule (fun vs H Q E h => ?_) (fun f cdv A outer s H vs Q E hr h => ?_)
  · obtain ⟨p, l, n, long, wide, tall, rfl, _⟩ := h
    rfl
  obtain ⟨p, l, n, long, wide, tall, rfl, D0, n0, n1, lo0, lo1, wi0, wi1, ta0, ta1, k⟩ := h
  refine ⟨_, (pss_cons (ps_par (i := 4) (j := 5) (by rfl) sc_l_rule.nd rfl rfl (by decide) rfl rfl (pa_cons (pe_call G_l_draw (hr.mono (by decide)) (by rfl) m_l_draw k_l_draw b_l_draw .nil pass0 (pa_cons (pv 0) (pa_cons (pe_op op_add (pv 1) pe_int) pa_nil))) (pa_cons (pe_op op_add pe_int (pe_call G_l_draw (hr.mono (by decide)) (by rfl) m_l_draw k_l_draw b_l_draw .nil pass0 (pa_cons (pv 0) (pa_cons (pv 2) pa_nil)))) pa_nil)) (by rfl))
    (pss_cons (ps_set (i := 6) sc_l_rule.nd rfl (Or.inl rfl) (pe_lst (pa_cons (pe_ix ix_list (pe_lst (pa_cons pe_int (pa_cons pe_int (pa_cons pe_int (pa_cons (pe_call G_l_draw (hr.mono (by decide)) (by rfl) m_l_draw k_l_draw b_l_draw .nil pass0 (pa_cons (pv 0) (pa_cons (pe_op op_add (pv 3) pe_int) pa_nil))) pa_nil))))) (pe_call G_l_draw (hr.mono (by decide)) (by rfl) m_l_draw k_l_draw b_l_draw .nil pass0 (pa_cons (pv 0) (pa_cons pe_int pa_nil))) (fun _ _ => rfl)) pa_nil)))
    (pss_cons (ps_for PassesOwn.never rfl (pi_range1 (by rfl) T.n_range (pa_cons (pe_op op_sub (pe_op op_add (pv 4) (pv 5)) pe_int) pa_nil)) (pg_name (i := 7) sc_l_rule.nd rfl (Or.inl rfl))
      (pss_one (ps_expr (pe_bm PySem.F.plainAttrs_list PySem.F.slot_list_append PySem.F.type_list_append mt_append (pv 6) (pa_cons (pe_op op_add (pe_ix ix_list (pv 6) (pe_un un_neg pe_int) (fun _ _ => rfl)) (pe_ix ix_list (pe_lst (pa_cons pe_int (pa_cons pe_int (pa_cons pe_int (pa_cons (pe_call G_l_draw (hr.mono (by decide)) (by rfl) m_l_draw k_l_draw b_l_draw .nil pass0 (pa_cons (pv 0) (pa_cons (pe_op op_add (pv 3) pe_int) pa_nil))) pa_nil))))) (pe_call G_l_draw (hr.mono (by decide)) (by rfl) m_l_draw k_l_draw b_l_draw .nil pass0 (pa_cons (pv 0) (pa_cons pe_int pa_nil))) (fun _ _ => rfl))) pa_nil)))))
    (pss_cons (ps_if (pt_cmpR op_eq (pe_call G_l_draw (hr.mono (by decide)) (by rfl) m_l_draw k_l_draw b_l_draw .nil pass0 (pa_cons (pv 0) (pa_cons pe_int pa_nil))) pe_int (nomark _)) (pss_one (ps_ret (pe_call G_l_least (hr.mono (by decide)) (by rfl) m_l_least k_l_least b_l_least .nil pass0 (pa_cons (pe_tup (pa_cons (pe_callTy call_tuple_of (by rfl) T.n_tuple (by decide +kernel) (pa_cons (pv 6) pa_nil)) (pa_cons pe_int (pa_cons pe_int pa_nil)))) pa_nil)))) pss_nil)
    (pss_cons (ps_set (i := 8) sc_l_rule.nd rfl (Or.inl rfl) (pe_op op_add (pe_op op_sub (pe_ix ix_list (pv 6) (pe_un un_neg pe_int) (fun _ _ => rfl)) (pe_ix ix_list (pv 6) (pv 4) (fun _ _ => rfl))) (pe_ix ix_list (pe_lst (pa_cons pe_int (pa_cons pe_int (pa_cons pe_int (pa_cons (pe_call G_l_draw (hr.mono (by decide)) (by rfl) m_l_draw k_l_draw b_l_draw .nil pass0 (pa_cons (pv 0) (pa_cons (pe_op op_add (pv 3) pe_int) pa_nil))) pa_nil))))) (pe_call G_l_draw (hr.mono (by decide)) (by rfl) m_l_draw k_l_draw b_l_draw .nil pass0 (pa_cons (pv 0) (pa_cons pe_int pa_nil))) (fun _ _ => rfl))))
    (pss_one (ps_ret (pe_call G_l_least (hr.mono (by decide)) (by rfl) m_l_least k_l_least b_l_least .nil pass0 (pa_cons (pe_tup (pa_cons (pe_callTy call_tuple_of (by rfl) T.n_tuple (by decide +kernel) (pa_cons (pv 6) pa_nil)) (pa_cons (pv 5) (pa_cons (pv 8) pa_nil)))) pa_nil))))))))), ?_⟩
  -- start, period
  refine ⟨_, rfl, _, rfl, _, _, rfl, rfl, p, l, n, _, rfl, D0, n0, by omega, by omega, by omega, fun rs H1 rs0 rs1 f1 D1 => ?_⟩
  refine ⟨_, rfl, _, rfl, p, l, n + 1, _, rfl, D1, by omega, by omega, by omega, by omega, fun rp H2 rp0 rp1 f2 D2 => ?_⟩
  refine ⟨_, _, rfl, rfl, _, _, rfl, ?_⟩
  -- the table's first item
  refine ⟨_, rfl, _, rfl, _, _, rfl, rfl, p, l, n + 1 + 1, _, rfl, D2, by omega, by omega, by omega, by omega, fun a H3 a0 a1 f3 D3 => ?_⟩
  refine ⟨(by show 4 ≤ sizeLine; decide), fun b nb => ?_⟩
  have sb := same_upd (o := .lst [.int 0, .int 0, .int 0, .int a]) nb
  obtain ⟨bp, bl⟩ := D3.lne nb
  refine ⟨_, rfl, p, l, n + 1 + 1 + 1, 4, rfl, D3.same sb, by omega, by omega, by omega, by omega, fun i4 H4 i40 i41 f4 D4 => ?_⟩
  obtain ⟨z, hz, zz⟩ := pick4 (a := 0) (b := 0) (c := 0) (d := a) i40 i41
  have z0 : 0 ≤ z := by omega
  have z1 : z ≤ 1000000000 := by omega
  refine ⟨_, _, _, _, rfl, rfl, SqL.of (f4 b _ bp bl upd_same), at_of (j := i4.toNat) (by omega) hz, ?_⟩
  refine ⟨(by show 1 ≤ sizeLine; decide), fun L nL => ?_⟩
  obtain ⟨Lp, Ll⟩ := D4.lne nL
  have sL := same_upd (o := .lst [.int z]) nL
  have fr : Fr p l H (upd H4 L (.lst [.int z])) := (f1.trans (f2.trans (f3.trans ((Same.fr sb).trans f4)))).trans (Same.fr sL)
  have D5 := D4.same sL
  have hn : ∀ b o, H b = some o → b ≠ L := by
    intro b o hb e
    subst e
    by_cases q1 : b = p
    · exact Lp q1
    · by_cases q2 : b = l
      · exact Ll q2
      · have := (f1.trans (f2.trans (f3.trans ((Same.fr sb).trans f4)))) b o q1 q2 hb
        rw [nL] at this
        cases this
  -- the loop
  refine ⟨_, rfl, _, rfl, _, _, rfl, rfl, _, _, rfl, rfl, _, rfl, (by omega), (by omega), ?_⟩
  refine for_range (lo := 0) (n := _) (fun i σ H' => ∃ (n' : Int) (T0 : List Int) (v : Option V), σ = [some (.ref p), some (.int long), some (.int wide), some (.int tall), some (.int rs), some (.int (1 + rp)), some (.ref L), v, none] ∧
      Deck H' p l n' ∧ n ≤ n' ∧ n' ≤ n + 4 + 2 * (i : Int) ∧ Fr p l H H' ∧ H' L = some (.lst (T0.map V.int)) ∧ T0.length = i + 1 ∧ Tb T0)
    ⟨_, [z], none, rfl, D5, by omega, by omega, fr, upd_same, rfl, ⟨by show 0 < 1; decide, fun i hi => ?_, fun i hi => ?_, fun i hi => ?_⟩⟩ ?_ ?_
  · have hi : i < 1 := hi
    rw [show i = 0 by omega]
    exact z0
  · have hi : i + 1 < 1 := hi
    omega
  · have hi : i < 1 := hi
    rw [show i = 0 by omega]
    show z ≤ 10000000000 * (((0 : Nat) : Int) + 1)
    omega
  · rintro i σ H' hi ⟨n', T0, v, rfl, D', m0, m1, f', hL, hT, tb⟩
    have hi : i < (rs + (1 + rp) - 1).toNat := hi
    refine ⟨_, rfl, .inl ⟨rfl, _, SqL.of hL⟩, ?_⟩
    refine ⟨_, rfl, _, rfl, _, _, _, _, rfl, rfl, SqL.of hL, last_int tb.ne, ?_⟩
    refine ⟨_, rfl, _, rfl, _, _, rfl, rfl, p, l, n', _, rfl, D', by omega, by omega, by omega, by omega, fun a' H6 a0' a1' f6 D6 => ?_⟩
    refine ⟨(by show 4 ≤ sizeLine; decide), fun b' nb' => ?_⟩
    have sb' := same_upd (o := .lst [.int 0, .int 0, .int 1, .int a']) nb'
    obtain ⟨bp', bl'⟩ := D6.lne nb'
    refine ⟨_, rfl, p, l, n' + 1, 4, rfl, D6.same sb', by omega, by omega, by omega, by omega, fun i5 H7 i50 i51 f7 D7 => ?_⟩
    obtain ⟨c, hc, cc⟩ := pick4 (a := 0) (b := 0) (c := 1) (d := a') i50 i51
    have c0 : 0 ≤ c := by omega
    have c1 : c ≤ 1000000000 := by omega
    have hL7 : H7 L = some (.lst (T0.map V.int)) := f7 L _ Lp Ll (sb' _ _ (f6 L _ Lp Ll hL))
    refine ⟨_, _, _, _, rfl, rfl, SqL.of (f7 b' _ bp' bl' upd_same), at_of (j := i5.toNat) (by omega) hc, _, _, rfl, rfl, L, _, _, rfl, rfl, hL7, ?_, ?_⟩
    · rw [List.length_map, hT]
      exact small1000 (by omega)
    · have fL : Fr p l H (upd H7 L (.lst ((T0 ++ [T0.getD (T0.length - 1) 0 + c]).map V.int))) := by
        intro b o h1 h2 hb
        rw [upd_ne (hn b o hb)]
        exact (f'.trans (f6.trans ((Same.fr sb').trans f7))) b o h1 h2 hb
      refine ⟨n' + 1 + 1, T0 ++ [T0.getD (T0.length - 1) 0 + c], _, rfl, ⟨by rw [upd_ne Lp.symm]; exact D7.hp, ?_⟩, by omega, by omega, ?_, ?_, ?_, tb.more c0 c1⟩
      · obtain ⟨cells, q1, q2⟩ := D7.hl
        exact ⟨cells, by rw [upd_ne Ll.symm]; exact q1, q2⟩
      · rw [List.map_append] at fL
        exact fL
      · rw [upd_same, List.map_append]
        rfl
      · rw [List.length_append, List.length_singleton, hT]
  · rintro σ H' ⟨n', T0, v, rfl, D', m0, m1, f', hL, hT, tb⟩
    have hlen : (T0.length : Int) = rs + (1 + rp) := by omega
    have small : T0.length ≤ 300 := by omega
    have line : T0.length ≤ sizeLine := Nat.le_trans small (by decide)
    have topI := tb.top
    refine ⟨_, rfl, p, l, n', 5, rfl, D', by omega, by omega, by omega, by omega, fun r5 H6 r50 r51 f6 D6 => ?_⟩
    have hL6 := f6 L _ Lp Ll hL
    refine ⟨rfl, _, rfl, ite3 (fun e => ?_) (fun e => ?_)⟩
    · -- a level rule
      refine ⟨_, rfl, L, _, rfl, .inl ⟨SqL.of hL6, fun t nt => ?_⟩⟩
      have st := same_upd (o := .tup (T0.map V.int)) nt
      refine ⟨(by show 3 ≤ sizeLine; decide), fun d nd => ?_⟩
      have sd := same_upd (o := .tup [.ref t, .int 1, .int 0]) nd
      refine ⟨d, T0, 1, 0, rfl, ⟨t, upd_same, sd _ _ upd_same⟩, tb.level, (tb.rs small (by omega) (by decide)).rb (by decide), fun H9 d' T' p' r' s9 hr' hc hsh hv => ?_⟩
      have s := st.trans (sd.trans s9)
      exact k H9 d' T' p' r' (n' + 1) (f'.trans (f6.trans (Same.fr s))) (D6.same s) (by omega) (by omega) hr' (hc.rs (tb.rs small (by omega) (by decide))) hsh
    · -- a rising rule
      have gs : (T0.map V.int)[rs.toNat]? = some (.int (T0.getD rs.toNat 0)) := get_int (by omega)
      refine ⟨_, rfl, _, rfl, _, _, _, _, rfl, rfl, SqL.of hL6, last_int tb.ne, _, rfl, _, rfl, _, _, _, _, rfl, rfl, SqL.of hL6, at_of (j := rs.toNat) (by omega) gs, _, _, rfl, rfl, ?_⟩
      refine ⟨_, rfl, _, rfl, _, _, rfl, rfl, p, l, n' + 1, _, rfl, D6, by omega, by omega, by omega, by omega, fun a' H7 a0' a1' f7 D7 => ?_⟩
      refine ⟨(by show 4 ≤ sizeLine; decide), fun b' nb' => ?_⟩
      have sb' := same_upd (o := .lst [.int 0, .int 0, .int 1, .int a']) nb'
      obtain ⟨bp', bl'⟩ := D7.lne nb'
      refine ⟨_, rfl, p, l, n' + 1 + 1, 4, rfl, D7.same sb', by omega, by omega, by omega, by omega, fun i5 H8 i50 i51 f8 D8 => ?_⟩
      obtain ⟨c, hc, cc⟩ := pick4 (a := 0) (b := 0) (c := 1) (d := a') i50 i51
      have c0 : 0 ≤ c := by omega
      have c1 : c ≤ 1000000000 := by omega
      have hL8 : H8 L = some (.lst (T0.map V.int)) := f8 L _ Lp Ll (sb' _ _ (f7 L _ Lp Ll hL6))
      refine ⟨_, _, _, _, rfl, rfl, SqL.of (f8 b' _ bp' bl' upd_same), at_of (j := i5.toNat) (by omega) hc, _, _, rfl, rfl, ?_⟩
      refine ⟨_, rfl, L, _, rfl, .inl ⟨SqL.of hL8, fun t nt => ?_⟩⟩
      have st := same_upd (o := .tup (T0.map V.int)) nt
      refine ⟨_, rfl, _, rfl, (by show 3 ≤ sizeLine; decide), fun d nd => ?_⟩
      have ep : (1 : Int) + rp = (((1 + rp).toNat : Nat) : Int) := by omega
      have er : T0.length - (1 + rp).toNat = rs.toNat := by omega
      have ok := tb.rising (p := (1 + rp).toNat) (c := c) (by omega) (by omega) c0
      rw [er] at ok
      have t1 := tb.top (T0.length - 1) (by omega)
      have t2 := tb.nn rs.toNat (by omega)
      have sd := same_upd (o := .tup [.ref t, .int (1 + rp), .int (T0.getD (T0.length - 1) 0 - T0.getD rs.toNat 0 + c)]) nd
      refine ⟨d, T0, (1 + rp).toNat, T0.getD (T0.length - 1) 0 - T0.getD rs.toNat 0 + c, rfl, ⟨t, by rw [← ep]; exact upd_same, sd _ _ upd_same⟩, ok, (tb.rs small (by omega) (by omega)).rb (by decide), fun H9 d' T' p' r' s9 hr' hc hsh hv => ?_⟩
      have s := st.trans (sd.trans s9)
      exact k H9 d' T' p' r' (n' + 1 + 1 + 1) (f'.trans (f6.trans (f7.trans ((Same.fr sb').trans (f8.trans (Same.fr s)))))) (D8.same s) (by omega) (by omega) hr' (hc.rs (tb.rs small (by omega) (by omega))) hsh
end
end Sm

set_option Elab.async false
set_option linter.all false
set_option maxRecDepth 100000
set_option maxHeartbeats 16000000
namespace Sm
open PySem PySem.Spec PyProof.Rows L2
open C8 (pss_cut tCut)
def sp_cycle_of (K : PySem.W.Frag) : Sp := fun vs H Q _ => ∃ (a : Addr) (I : List Int), vs = [.ref a] ∧ H a = some (.lst (I.map V.int)) ∧ 0 < I.length ∧ I.length ≤ 6000 ∧ ∀ H' s, Same H H' → Cyc I s → Q (.int (s : Int)) H'
theorem ints_eqvAll : ∀ I J : List Int, PyData.eqvAll (I.map PyData.int) (J.map PyData.int) = decide (I = J)
  | [], [] => by simp [PyData.eqvAll]
  | [], j :: J => by simp [PyData.eqvAll]
  | i :: I, [] => by simp [PyData.eqvAll]
  | i :: I, j :: J => by
    have := ints_eqvAll I J
    simp only [List.map_cons, PyData.eqvAll, this]
    simp [PyData.eqv]
    rfl
theorem ints_eqv (I J : List Int) : PyData.eqv (.list (I.map PyData.int)) (.list (J.map PyData.int)) = decide (I = J) := by
  rw [← ints_eqvAll]
  simp [PyData.eqv]
theorem ints_shaped (I : List Int) : SeqAt.shaped (.list (I.map PyData.int)) = true := by
  have a : PyData.canLayAll0 (I.map PyData.int) = true := by
    induction I with
    | nil => rfl
    | cons i I ih => simp [PyData.canLayAll0, PyData.canLay0, ih]
  have b := depth_ints I
  have c : PyData.depth (.list (I.map PyData.int)) ≤ 64 := by
    simp only [PyData.depth]
    omega
  simp [SeqAt.shaped, PyData.canLay0, a, c]
theorem steps_split {T : List Int} {p : Nat} {r : Int} (o : RuleW T p r) : ((List.range (p - 1)).map fun i => T.getD (T.length - p + (i + 1)) 0 - T.getD (T.length - p + i) 0) ++ [T.getD (T.length - p + 0) 0 + r - T.getD (T.length - 1) 0] = stepsOf T p r := by
  have p0 := o.p0
  have p1 := o.p1
  obtain ⟨q, rfl⟩ : ∃ q, p = q + 1 := ⟨p - 1, by omega⟩
  unfold stepsOf
  rw [List.range_succ, List.map_append, Nat.add_sub_cancel]
  congr 1
  · refine List.map_congr_left fun i hi => ?_
    have hi := List.mem_range.mp hi
    rw [vl_lt (by omega), vl_lt (by omega), Nat.add_assoc]
  · show [_] = [vl T (q + 1) r (T.length - (q + 1) + q + 1) - vl T (q + 1) r (T.length - (q + 1) + q)]
    have e := vl_add p0 p1 (r := r) (x := T.length - (q + 1)) (Nat.le_refl _)
    rw [show T.length - (q + 1) + q + 1 = T.length - (q + 1) + (q + 1) by omega, e, vl_lt (by omega), vl_lt (by omega), show T.length - (q + 1) + q = T.length - 1 by omega]
    rfl
/-! ### a list or a tuple -/
def SA (H : Hp) (a : Addr) (xs : List V) : Prop := H a = some (.lst xs) ∨ H a = some (.tup xs)
theorem SA.same {H H' : Hp} {a : Addr} {xs : List V} (h : SA H a xs) (s : Same H H') : SA H' a xs := h.imp (s _ _) (s _ _)
theorem SA.sq {K : PySem.W.Frag} {H : Hp} {a : Addr} {xs : List V} (h : SA H a xs) : SqL K H a xs ∨ SqT K H a xs := h.imp SqL.of SqT.of
theorem ix_any {K : PySem.W.Frag} {H : Hp} {a : Addr} {xs : List V} {i : Int} {v : V} {Q : VK} (h : SA H a xs) (g : atI xs i = some v) (q : Q v H) : rIx K (.ref a) (.int i) H Q := by
  rcases h with h | h
  · exact .inl ⟨_, _, _, _, rfl, rfl, SqL.of h, g, q⟩
  · exact .inr (.inl ⟨_, _, _, _, rfl, rfl, SqT.of h, g, q⟩)
theorem sl_any {X : Cx} : SlR X (fun x lo hi H Q => rSlL X.K x lo hi H Q ∨ rSlA X.K x lo hi H Q) := fun pins s σ H x v vl vu lo hi sl Q I rv sw pl pu h => h.elim (sl_list pins s σ H x v vl vu lo hi sl Q I rv sw pl pu) (sl_tupA pins s σ H x v vl vu lo hi sl Q I rv sw pl pu)
theorem sl_anyU {K : PySem.W.Frag} {H : Hp} {a : Addr} {xs : List V} {lo hi : Option Int} {Q : VK} (h : SA H a xs) (q : ∀ u H', Same H H' → SA H' u (cutV xs lo hi) → Q (.ref u) H') : rSlL K (.ref a) lo hi H Q ∨ rSlA K (.ref a) lo hi H Q := by
  rcases h with h | h
  · exact .inl ⟨a, xs, rfl, SqL.of h, fun p np => q p _ (same_upd np) (.inl upd_same)⟩
  · exact .inr (sl_uni h fun u H' s' hu => q u H' s' (.inr hu))
theorem tup_anyU {K : PySem.W.Frag} {H : Hp} {a : Addr} {xs : List V} {Q : VK} (h : SA H a xs) (q : ∀ u H', Same H H' → H' u = some (.tup xs) → Q (.ref u) H') :
    ∃ p ys, [V.ref a] = [V.ref p] ∧ ((SqL K H p ys ∧ ∀ l, H l = none → Q (.ref l) (upd H l (.tup ys))) ∨ (SqT K H p ys ∧ Q (.ref p) H)) := by
  rcases h with h | h
  · exact ⟨a, xs, rfl, .inl ⟨SqL.of h, fun l nl => q l _ (same_upd nl) upd_same⟩⟩
  · exact ⟨a, xs, rfl, .inr ⟨SqT.of h, q a H (Same.refl _) h⟩⟩
def sp_shortest (K : PySem.W.Frag) : Sp := fun vs H Q _ => ∃ (a : Addr) (T : List Int) (p : Nat) (r : Int), vs = [.ref a, .int (p : Int), .int r] ∧ SA H a (T.map V.int) ∧ RuleOk T p r ∧ RB T p r ∧
  ∀ H' d' T' p' r', Same H H' → RuleAt H' d' T' p' r' → Cut T p r T' p' r' → Short T' p' r' → (∀ x, vl T' p' r' x = vl T p r x) → Q (.ref d') H'
section
variable {P : Program} {w : World} {K : PySem.W.Frag} {mg : Str → Option Value} {base : Heap}
abbrev s_cycle_of : Stmt := topS 13
abbrev N_cycle_of : List Str := ["items", "turn"]
theorem sc_cycle_of : FnScope N_cycle_of ["items"] (defScope s_cycle_of) := ⟨rfl, rfl, rfl, by decide +kernel, rfl, by decide +kernel, by decide +kernel⟩
theorem ok_cycle_of (T : Txt mg) (D : Df K mg "cycle_of" s_cycle_of ["items"]) : Cal P w K mg base "cycle_of" ["items"] 1 (sp_cycle_of K) := by
  refine D.cal sc_cycle_of (fun vs H Q E h => ?_) (fun f cdv A outer s H vs Q E hr h => ?_)
  · obtain ⟨a, I, rfl, _⟩ := h
    rfl
  obtain ⟨a, I, rfl, hS, i0, i1, k⟩ := h
  have ll := len_int I
  have lm : (I.map V.int).length = I.length := List.length_map ..
  refine ⟨_, (pss_cons (ps_for PassesOwn.never rfl (pi_range2 (by rfl) T.n_range (pa_cons pe_int (pa_cons (pe_callB call_len_seq (by rfl) T.n_len (by decide +kernel) (pa_cons (pv 0) pa_nil)) pa_nil))) (pg_name (i := 1) sc_cycle_of.nd rfl (Or.inl rfl))
      (pss_one (ps_if (PW.pt (pw_and (pt_cmpR op_eq (pe_op op_modN (pe_callB call_len_seq (by rfl) T.n_len (by decide +kernel) (pa_cons (pv 0) pa_nil)) (pv 1)) pe_int (nomark _)) (pw_and1 (pt_cmpR (op_eqD hr.units) (pv 0) (pe_op op_cat (pe_slice sl_list (pv 0) (po_some (pv 1)) po_none) (pe_slice sl_list (pv 0) po_none (po_some (pv 1)))) (nomark _))))) (pss_one (ps_ret (pv 1))) pss_nil)))
    (pss_one (ps_ret (pe_callB call_len_seq (by rfl) T.n_len (by decide +kernel) (pa_cons (pv 0) pa_nil))))), ?_⟩
  refine ⟨_, rfl, _, _, rfl, .inl (SqL.of hS), _, _, rfl, ⟨by omega, by omega, by rw [ll]; omega, by rw [ll]; omega⟩, ?_⟩
  refine for_range (lo := _) (n := _) (fun i σ H' => ∃ v, σ = [some (.ref a), v] ∧ Same H H' ∧ H' a = some (.lst (I.map V.int)) ∧ ∀ t, 0 < t → t ≤ i → t < I.length → t ∣ I.length → ¬ Rot I t)
    ⟨none, rfl, Same.refl _, hS, fun t h1 h2 => absurd h1 (by omega)⟩ ?_ ?_
  · rintro i σ H' hi ⟨v, rfl, s, hS, least⟩
    rw [ll] at hi
    have hi : 1 + i < I.length := by omega
    have more : (1 + i ∣ I.length → ¬ Rot I (1 + i)) → ∀ t, 0 < t → t ≤ i + 1 → t < I.length → t ∣ I.length → ¬ Rot I t := by
      intro h t h1 h2 h3 h4
      by_cases q : t = 1 + i
      · subst q
        exact h h4
      · exact least t h1 (by omega) h3 h4
    refine ⟨_, rfl, _, _, rfl, .inl (SqL.of hS), _, rfl, _, _, rfl, rfl, (by omega), rfl, _, rfl, ite3 (fun e => ?_) (fun e => ?_)⟩
    · rw [ll] at e
      have dv : 1 + i ∣ I.length := dvd_of (V.int.inj e)
      refine ⟨_, rfl, _, rfl, _, rfl, _, rfl, a, _, rfl, SqL.of hS, fun c nc => ?_⟩
      have e1 : cutV (I.map V.int) (some (1 + (i : Int))) none = (I.drop (1 + i)).map V.int := by
        rw [show (1 : Int) + (i : Int) = ((1 + i : Nat) : Int) by omega, cut_from, List.map_drop]
      have e2 : cutV (I.map V.int) none (some (1 + (i : Int))) = (I.take (1 + i)).map V.int := by
        rw [show (1 : Int) + (i : Int) = ((1 + i : Nat) : Int) by omega, cut_all, List.map_take]
      have s1 := same_upd (o := .lst (cutV (I.map V.int) (some (1 + (i : Int))) none)) nc
      refine ⟨_, rfl, _, rfl, _, rfl, a, _, rfl, SqL.of (s1 _ _ hS), fun d nd => ?_⟩
      have s2 := same_upd (o := .lst (cutV (I.map V.int) none (some (1 + (i : Int))))) nd
      refine ⟨_, _, _, _, rfl, rfl, s2 _ _ upd_same, upd_same, ?_, fun g ng => ?_⟩
      · rw [e1, e2, List.length_map, List.length_map, List.length_drop, List.length_take]
        exact Nat.le_trans (show I.length - (1 + i) + min (1 + i) I.length ≤ 6000 by omega) (by decide)
      rw [e1, e2] at *
      have s3 := same_upd (o := .lst ((I.drop (1 + i)).map V.int ++ (I.take (1 + i)).map V.int)) ng
      have sz := s1.trans (s2.trans s3)
      have hg : ∀ H9 : Hp, H9 = upd (upd (upd H' c (.lst ((I.drop (1 + i)).map V.int))) d (.lst ((I.take (1 + i)).map V.int))) g (.lst ((I.drop (1 + i)).map V.int ++ (I.take (1 + i)).map V.int)) → H9 g = some (.lst ((I.drop (1 + i) ++ I.take (1 + i)).map V.int)) := by
        rintro H9 rfl
        rw [upd_same, List.map_append]
      have hg := hg _ rfl
      generalize upd (upd (upd H' c (.lst ((I.drop (1 + i)).map V.int))) d (.lst ((I.take (1 + i)).map V.int))) g (.lst ((I.drop (1 + i)).map V.int ++ (I.take (1 + i)).map V.int)) = H9 at sz hg ⊢
      refine ⟨dataI I, dataI (I.drop (1 + i) ++ I.take (1 + i)), .lst (SqL.of (sz _ _ hS)) (dp_ints _), .lst (SqL.of hg) (dp_ints _), ints_shaped _, ints_shaped _, ?_⟩
      unfold dataI
      rw [ints_eqv]
      refine ⟨_, rfl, ite3 (fun r => ?_) (fun r => ?_)⟩
      · refine ⟨_, rfl, ?_⟩
        have z : (1 : Int) + (i : Int) = ((1 + i : Nat) : Int) := by omega
        rw [z]
        exact k H9 (1 + i) (s.trans sz) ⟨by omega, by omega, dv, fun _ => r, fun t h1 h2 h3 => least t h1 (by omega) (by omega) h3⟩
      · exact ⟨_, rfl, s.trans sz, sz _ _ hS, more fun _ => r⟩
    · exact iteF ⟨_, rfl, s, hS, more fun dv => absurd (congrArg V.int (by rw [ll]; exact of_dvd dv)) e⟩
  · rintro σ H' ⟨v, rfl, s, hS, least⟩
    rw [ll] at least
    refine ⟨_, rfl, _, _, rfl, .inl (SqL.of hS), ?_⟩
    rw [ll]
    exact k H' I.length s ⟨i0, Nat.le_refl _, Nat.dvd_refl _, fun h => absurd h (Nat.lt_irrefl _), fun t h1 h2 h3 => least t h1 (by omega) (by omega) h3⟩
abbrev s_shortest : Stmt := topS 12
abbrev N_shortest : List Str := ["table", "period", "rise", "tail", "steps", "turn", "gain", "count", "at"]
theorem sc_shortest : FnScope N_shortest ["table", "period", "rise"] (defScope s_shortest) := ⟨rfl, rfl, rfl, by decide +kernel, rfl, by decide +kernel, by decide +kernel⟩
theorem ok_shortest (T : Txt mg) (D : Df K mg "shortest" s_shortest ["table", "period", "rise"]) (C_cycle_of : Cal P w K mg base "cycle_of" ["items"] 1 (sp_cycle_of K)) : Cal P w K mg base "shortest" ["table", "period", "rise"] 2 (sp_shortest K) := by
  obtain ⟨f_cycle_of, fd_cycle_of, G_cycle_of, m_cycle_of, k_cycle_of, b_cycle_of⟩ := C_cycle_of
  refine D.cal sc_shortest (fun vs H Q E h => ?_) (fun f cdv A outer s H vs Q E hr h => ?_)
  · obtain ⟨a, T0, p, r, rfl, _⟩ := h
    rfl
  obtain ⟨a, T0, p, r, rfl, hS, o, b, k⟩ := h
  have p0 := o.p0
  have p1 := o.p1
  have bl := b.len
  have r0 := o.r0
  have ll := len_int T0
  have lm : (T0.map V.int).length = T0.length := List.length_map ..
  have lo : (((T0.map V.int).length : Nat) : Int) - (p : Int) = ((T0.length - p : Nat) : Int) := by rw [ll]; omega
  refine ⟨_, (pss_cons (ps_set (i := 3) sc_shortest.nd rfl (Or.inr rfl) (pe_slice sl_any (pv 0) (po_some (pe_op op_sub (pe_callB call_len_seq (by rfl) T.n_len (by decide +kernel) (pa_cons (pv 0) pa_nil)) (pv 1))) po_none))
    (pss_cons (ps_setLc (i := 4) (own := [("at", 8)]) (g := gName 8) (tt := tYes) rfl sc_shortest.nd rfl rfl (sw_true rfl rfl rfl (by decide +kernel)) (pi_range1 (by rfl) T.n_range (pa_cons (pe_op op_sub (pv 1) pe_int) pa_nil)) (blkOk_by (own := [("at", 8)]) (N := N_shortest) (sc := defScope s_shortest) (by decide +kernel)) (fun _ _ _ _ _ => pg_name (i := 8) sc_shortest.nd rfl (Or.inl rfl)) (fun _ _ _ _ _ => pts_nil) (fun _ _ _ _ _ => (pe_op op_sub (pe_ix (show IxR _ (rIx K) from ix_seq) (pv 3) (pe_op op_add (pv 8) pe_int) (fun _ _ => rfl)) (pe_ix (show IxR _ (rIx K) from ix_seq) (pv 3) (pv 8) (fun _ _ => rfl)))))
    (pss_cons (ps_set (i := 5) sc_shortest.nd rfl (Or.inl rfl) (pe_call G_cycle_of (hr.mono (by decide)) (by rfl) m_cycle_of k_cycle_of b_cycle_of .nil pass0 (pa_cons (pe_op op_cat (pv 4) (pe_lst (pa_cons (pe_op op_sub (pe_op op_add (pe_ix ix_seq (pv 3) pe_int (fun _ _ => rfl)) (pv 2)) (pe_ix ix_seq (pv 3) (pe_un un_neg pe_int) (fun _ _ => rfl))) pa_nil))) pa_nil)))
    (pss_cons (ps_set (i := 6) sc_shortest.nd rfl (Or.inl rfl) (pe_op op_fdivW (pe_op op_mul (pv 2) (pv 5)) (pv 1)))
    (pss_cons (ps_set (i := 7) sc_shortest.nd rfl (Or.inl rfl) (pe_callB call_len_seq (by rfl) T.n_len (by decide +kernel) (pa_cons (pv 0) pa_nil)))
    (pss_cons (ps_while PassesOwn.never (PW.pt (pw_and (pt_cmpR op_gt (pv 7) (pv 5) (nomark _)) (pw_and1 (pt_cmpR op_eq (pe_ix ix_seq (pv 0) (pe_op op_sub (pv 7) pe_int) (fun _ _ => rfl)) (pe_op op_add (pe_ix ix_seq (pv 0) (pe_op op_sub (pe_op op_sub (pv 7) pe_int) (pv 5)) (fun _ _ => rfl)) (pv 6)) (nomark _)))))
      (pss_one (ps_aug (i := 7) sc_shortest.nd rfl (Or.inl rfl) pe_int ip_sub)))
    (pss_one (ps_ret (pe_tup (pa_cons (pe_callTy call_tuple_of (by rfl) T.n_tuple (by decide +kernel) (pa_cons (pe_slice sl_any (pv 0) po_none (po_some (pv 7))) pa_nil)) (pa_cons (pv 5) (pa_cons (pv 6) pa_nil)))))))))))), ?_⟩
  refine ⟨_, rfl, _, rfl, _, _, rfl, hS.sq, _, rfl, _, _, rfl, rfl, _, rfl, ?_⟩
  rw [lo]
  refine sl_anyU hS fun c H1 s1 hc => ?_
  rw [cut_from, ← List.map_drop] at hc
  have tl : (T0.drop (T0.length - p)).length = p := by rw [List.length_drop]; omega
  have tg : ∀ i, i < p → ((T0.drop (T0.length - p)).map V.int)[i]? = some (.int (T0.getD (T0.length - p + i) 0)) := by
    intro i hi
    rw [List.getElem?_map, List.getElem?_drop, List.getElem?_eq_getElem (by omega), List.getD_eq_getElem?_getD, List.getElem?_eq_getElem (by omega)]
    rfl
  have cnt : ((p : Int) - 1).toNat = p - 1 := by omega
  refine ⟨_, rfl, _, _, rfl, rfl, _, rfl, (by omega), (by omega), fun D nD => ?_⟩
  rw [cnt]
  have sD := same_upd (o := .lst []) nD
  refine lc_range (lo := 0) (n := p - 1) (fun j H' => Same H1 H' ∧ H' D = some (.lst (((List.range j).map fun i => T0.getD (T0.length - p + (i + 1)) 0 - T0.getD (T0.length - p + i) 0).map V.int))) ⟨sD, upd_same⟩ ?_ ?_
  · rintro j H' hj ⟨s', hD⟩
    refine ⟨rfl, ?_⟩
    unfold tYes
    refine iteT ?_
    have e1 : (0 : Int) + (j : Int) + 1 = ((j + 1 : Nat) : Int) := by omega
    have e0 : (0 : Int) + (j : Int) = (j : Int) := Int.zero_add _
    refine ⟨_, rfl, _, rfl, _, _, rfl, rfl, ix_any (hc.same s') (at_of e1 (tg (j + 1) (by omega))) ⟨_, rfl, _, rfl, ix_any (hc.same s') (at_of e0 (tg j (by omega))) ⟨_, _, rfl, rfl, _, hD, ?_, fun b o e => ?_, ?_⟩⟩⟩
    · rw [List.length_map, List.length_map, List.length_range]
      exact Nat.lt_of_le_of_lt (show j ≤ 6000 by omega) (by decide)
    · rw [upd_ne (ne_of_none e nD)]
      exact s' _ _ e
    · rw [upd_same, List.range_succ, List.map_append, List.map_append]
      rfl
  rintro H2 ⟨s2, hD⟩
  have hc2 := hc.same s2
  have g0 := tg 0 p0
  have gl := tg (p - 1) (by omega)
  rw [show T0.length - p + (p - 1) = T0.length - 1 by omega] at gl
  refine ⟨_, rfl, _, rfl, ix_any hc2 (atI_nat (j := 0) g0) ⟨_, rfl, _, _, rfl, rfl, _, rfl, _, rfl, ix_any hc2 (atI_neg1 (by rw [List.length_map, tl]; exact p0) (by rw [List.length_map, tl]; exact gl)) ⟨_, _, rfl, rfl, (by show 1 ≤ sizeLine; decide), fun e ne => ?_⟩⟩⟩
  have se := same_upd (o := .lst [.int (T0.getD (T0.length - p + 0) 0 + r - T0.getD (T0.length - 1) 0)]) ne
  refine ⟨_, _, _, _, rfl, rfl, se _ _ hD, upd_same, ?_, fun g ng => ?_⟩
  · rw [List.length_map, List.length_map, List.length_range]
    exact Nat.le_trans (show p - 1 + 1 ≤ 6000 by omega) (by decide)
  have sg := same_upd (o := .lst ((((List.range (p - 1)).map fun i => T0.getD (T0.length - p + (i + 1)) 0 - T0.getD (T0.length - p + i) 0).map V.int) ++ [.int (T0.getD (T0.length - p + 0) 0 + r - T0.getD (T0.length - 1) 0)])) ng
  have hg : ∀ H9 : Hp, H9 g = some (.lst ((((List.range (p - 1)).map fun i => T0.getD (T0.length - p + (i + 1)) 0 - T0.getD (T0.length - p + i) 0).map V.int) ++ [.int (T0.getD (T0.length - p + 0) 0 + r - T0.getD (T0.length - 1) 0)])) → H9 g = some (.lst ((stepsOf T0 p r).map V.int)) := by
    intro H9 h
    rw [h, ← steps_split o.w, List.map_append]
    rfl
  have s3 := s1.trans (s2.trans (se.trans sg))
  refine ⟨g, stepsOf T0 p r, rfl, hg _ upd_same, by rw [stepsOf_len]; exact p0, by rw [stepsOf_len]; omega, fun H3 s s4 cyc => ?_⟩
  obtain ⟨s0, sp, sd, hs, hm⟩ := cyc_rule o cyc
  have sz := s3.trans s4
  have hS3 := hS.same sz
  refine ⟨_, rfl, _, rfl, _, _, rfl, rfl, b.mulR' o.w, _, rfl, _, _, rfl, rfl, b.div o.w, _, rfl, _, _, rfl, hS3.sq, ?_⟩
  have c0 : 0 ≤ r * (s : Int) / (p : Int) := Int.ediv_nonneg (Int.mul_nonneg r0 (by omega)) (by omega)
  have c1 : r * (s : Int) / (p : Int) ≤ r := by
    have h1 : r * (s : Int) ≤ r * (p : Int) := Int.mul_le_mul_of_nonneg_left (by omega) r0
    have h2 := Int.ediv_le_ediv (show (0 : Int) < (p : Int) by omega) h1
    rw [Int.mul_ediv_cancel _ (by omega)] at h2
    exact h2
  have all := rep_all o hs
  obtain ⟨cc, ec⟩ : ∃ cc, cc = r * (s : Int) / (p : Int) := ⟨_, rfl⟩
  rw [← ec] at c0 c1 all
  refine ⟨fun m σ H' => σ = [some (.ref a), some (.int (p : Int)), some (.int r), some (.ref c), some (.ref D), some (.int (s : Int)), some (.int cc), some (.int ((m + s : Nat) : Int)), none] ∧ H' = H3 ∧ m + s ≤ T0.length ∧ ∀ y, m ≤ y → vl T0 p r (y + s) = vl T0 p r y + cc, ⟨T0.length - s, ?_, rfl, by omega, fun y hy => all y (by omega)⟩, ?_⟩
  · rw [ec, show T0.length - s + s = T0.length by omega, ← ll]
    rfl
  rintro m σ H' ⟨rfl, rfl, al, ha⟩
  have fin : (m = 0 ∨ vl T0 p r (m - 1 + s) ≠ T0.getD (m - 1) 0 + cc) → ∀ (H5 : Hp) (t' : Addr), Same H' H5 → H5 t' = some (.tup ((T0.take (m + s)).map V.int)) → ∀ q, H5 q = none → Q (.ref q) (upd H5 q (.tup [.ref t', .int (s : Int), .int cc])) := by
    intro st H5 t' sm h5 q nq
    have sq := same_upd (o := .tup [.ref t', .int (s : Int), .int cc]) nq
    have am : m ≤ T0.length - p := by
      rcases Nat.lt_or_ge (T0.length - p) m with w | w
      · exfalso
        rcases st with z | z
        · omega
        · apply z
          rw [all (m - 1) (by omega), vl_lt (by omega)]
      · exact w
    refine k _ q (T0.take (m + s)) s cc (sz.trans (sm.trans sq)) ⟨t', upd_same, sq _ _ h5⟩ ⟨?_, sp, c1, fun i hi => ?_⟩ (cut_short o s0 sd am c0 ha hm st) (cut_vl s0 (by omega) ha)
    · rw [List.length_take]
      omega
    · rw [List.length_take] at hi
      exact getD_take (by omega)
  have cx : cutV (T0.map V.int) none (some ((m + s : Nat) : Int)) = (T0.take (m + s)).map V.int := by rw [cut_all, List.map_take]
  refine ⟨_, rfl, _, rfl, _, _, rfl, rfl, _, rfl, ?_⟩
  by_cases e : ((m + s : Nat) : Int) > (s : Int)
  · have e1 : ((m + s : Nat) : Int) - 1 = ((m + s - 1 : Nat) : Int) := by omega
    have e2 : ((m + s : Nat) : Int) - 1 - (s : Int) = ((m - 1 : Nat) : Int) := by omega
    refine iteP e ⟨_, rfl, _, rfl, _, _, rfl, rfl, ix_any hS3 (at_of e1 (get_int (by omega))) ⟨_, rfl, _, rfl, _, _, rfl, rfl, _, rfl, _, _, rfl, rfl, ix_any hS3 (at_of e2 (get_int (by omega))) ⟨_, rfl, _, _, rfl, rfl, rfl, _, rfl, ?_⟩⟩⟩
    have e4 : vl T0 p r (m - 1 + s) = T0.getD (m + s - 1) 0 := by rw [show m - 1 + s = m + s - 1 by omega, vl_lt (by omega)]
    by_cases e3 : T0.getD (m + s - 1) 0 = T0.getD (m - 1) 0 + cc
    · refine iteP (congrArg V.int e3) ⟨fun σ H'' => σ = [some (.ref a), some (.int (p : Int)), some (.int r), some (.ref c), some (.ref D), some (.int (s : Int)), some (.int cc), some (.int ((m - 1 + s : Nat) : Int)), none] ∧ H'' = H' ∧ m - 1 + s ≤ T0.length ∧ ∀ y, m - 1 ≤ y → vl T0 p r (y + s) = vl T0 p r y + cc, fun σ' H3 hw => ⟨m - 1, by omega, hw⟩, ?_⟩
      have e5 : ((m + s : Nat) : Int) - 1 = ((m - 1 + s : Nat) : Int) := by omega
      refine ⟨_, rfl, _, _, rfl, rfl, ⟨by rw [← e5]; rfl, rfl, by omega, fun y hy => ?_⟩⟩
      by_cases q : y = m - 1
      · rw [q, e4, e3, vl_lt (by omega)]
      · exact ha y (by omega)
    · refine iteN (fun q => e3 (V.int.inj q)) ?_
      refine ⟨_, rfl, _, rfl, _, rfl, sl_anyU hS3 fun g H5 s5 hg => ?_⟩
      rw [cx] at hg
      rcases hg with hg | hg
      · refine ⟨_, _, rfl, .inl ⟨SqL.of hg, fun t' nt => ⟨_, rfl, _, rfl, (by show 3 ≤ sizeLine; decide), fun q nq => ?_⟩⟩⟩
        exact fin (.inr (by rw [e4]; exact e3)) _ t' (s5.trans (same_upd nt)) upd_same q nq
      · refine ⟨_, _, rfl, .inr ⟨SqT.of hg, _, rfl, _, rfl, (by show 3 ≤ sizeLine; decide), fun q nq => ?_⟩⟩
        exact fin (.inr (by rw [e4]; exact e3)) _ g s5 hg q nq
  · refine iteN e (iteF ?_)
    refine ⟨_, rfl, _, rfl, _, rfl, sl_anyU hS3 fun g H5 s5 hg => ?_⟩
    rw [cx] at hg
    rcases hg with hg | hg
    · refine ⟨_, _, rfl, .inl ⟨SqL.of hg, fun t' nt => ⟨_, rfl, _, rfl, (by show 3 ≤ sizeLine; decide), fun q nq => ?_⟩⟩⟩
      exact fin (.inl (by omega)) _ t' (s5.trans (same_upd nt)) upd_same q nq
    · refine ⟨_, _, rfl, .inr ⟨SqT.of hg, _, rfl, _, rfl, (by show 3 ≤ sizeLine; decide), fun q nq => ?_⟩⟩
      exact fin (.inl (by omega)) _ g s5 hg q nq
end
end Sm

set_option Elab.async false
set_option linter.all false
set_option maxRecDepth 100000
set_option maxHeartbeats 16000000
namespace Sm
open PySem PySem.Spec PyProof.Rows L2
open C8 (pss_cut tCut)
def FormOk (T : List Int) (p r : Int) : Prop := 1 ≤ p ∧ p ≤ (T.length : Int) ∧ 0 ≤ r ∧ ∀ i, i < T.length → 0 ≤ T.getD i 0
def sp_is_whole (_ : PySem.W.Frag) : Sp := fun vs H Q _ => ∃ i : Int, vs = [.int i] ∧ Q (.bl true) H
def sp_is_amount (_ : PySem.W.Frag) : Sp := fun vs H Q _ => ∃ i : Int, vs = [.int i] ∧ Q (.bl (decide (i ≥ 0))) H
def sp_told_error (_ : PySem.W.Frag) : Sp := fun vs H Q _ => ∃ (a : Addr) (T : List Int) (p r : Int), vs = [.ref a, .int p, .int r] ∧ SA H a (T.map V.int) ∧ T.length ≤ 6000 ∧
  (∀ H', Same H H' → ¬ FormOk T p r → Q (.str "form") H') ∧ (∀ H', Same H H' → FormOk T p r → ¬ RuleOk T p.toNat r → Q (.str "falls") H') ∧ (∀ H', Same H H' → FormOk T p r → RuleOk T p.toNat r → Q .non H')
theorem ite3n {p A B : Prop} [Decidable p] (h1 : p → B) (h2 : ¬ p → A) : if (!decide p) = true then A else B := by
  by_cases h : p
  · exact iteNP h (h1 h)
  · exact iteNN h (h2 h)
theorem all_nn {T : List Int} : (T.map fun v => decide (v ≥ 0)).all id = true ↔ ∀ i, i < T.length → 0 ≤ T.getD i 0 := by
  rw [List.all_map, List.all_eq_true]
  constructor
  · intro h i hi
    have := h (T.getD i 0) (by rw [List.getD_eq_getElem?_getD, List.getElem?_eq_getElem hi]; exact List.getElem_mem hi)
    exact of_decide_eq_true this
  · intro h x hx
    obtain ⟨i, hi, rfl⟩ := List.getElem_of_mem hx
    have := h i hi
    rw [List.getD_eq_getElem?_getD, List.getElem?_eq_getElem hi] at this
    exact decide_eq_true this
theorem any_mono {T : List Int} : ((List.range (T.length - 1)).map fun i => decide (T.getD i 0 > T.getD (i + 1) 0)).any id = false ↔ ∀ i, i + 1 < T.length → T.getD i 0 ≤ T.getD (i + 1) 0 := by
  rw [List.any_map, List.any_eq_false]
  constructor
  · intro h i hi
    have := h i (List.mem_range.mpr (by omega))
    have := of_decide_eq_false (Bool.eq_false_iff.mpr this)
    omega
  · intro h i hi
    have := h i (by have := List.mem_range.mp hi; omega)
    exact Bool.eq_false_iff.mp (decide_eq_false (by omega))
section
variable {P : Program} {w : World} {K : PySem.W.Frag} {mg : Str → Option Value} {base : Heap}
abbrev s_is_whole : Stmt := topS 1
abbrev N_is_whole : List Str := ["value"]
theorem sc_is_whole : FnScope N_is_whole ["value"] (defScope s_is_whole) := ⟨rfl, rfl, rfl, by decide +kernel, rfl, by decide +kernel, by decide +kernel⟩
theorem ok_is_whole (T : Txt mg) (D : Df K mg "is_whole" s_is_whole ["value"]) : Cal P w K mg base "is_whole" ["value"] 1 (sp_is_whole K) := by
  refine D.cal sc_is_whole (fun vs H Q E h => ?_) (fun f cdv A outer s H vs Q E hr h => ?_)
  · obtain ⟨i, rfl, _⟩ := h
    rfl
  obtain ⟨i, rfl, k⟩ := h
  refine ⟨_, (pss_one (ps_ret (pe_and (pe_callB call_isi (by rfl) T.n_isinstance (by decide +kernel) (pa_cons (pv 0) (pa_cons (pe_bltn (v := .ty "int") (by rfl) T.n_int (by decide +kernel) rfl) pa_nil))) (pe_one (pe_not (pe_callB call_isi (by rfl) T.n_isinstance (by decide +kernel) (pa_cons (pv 0) (pa_cons (pe_bltn (v := .ty "bool") (by rfl) T.n_bool (by decide +kernel) rfl) pa_nil)))))))), ?_⟩
  refine ⟨_, rfl, _, _, _, _, _, rfl, .ty "int", .base (.int _), kit_ty (b := "int") (r := true) (by decide +kernel), _, rfl, iteT ?_⟩
  refine ⟨_, rfl, _, _, _, _, _, rfl, .ty "bool", .base (.int _), kit_ty (b := "bool") (r := false) (by decide +kernel), _, rfl, k⟩
abbrev s_is_amount : Stmt := topS 2
abbrev N_is_amount : List Str := ["value"]
theorem sc_is_amount : FnScope N_is_amount ["value"] (defScope s_is_amount) := ⟨rfl, rfl, rfl, by decide +kernel, rfl, by decide +kernel, by decide +kernel⟩
theorem ok_is_amount (T : Txt mg) (D : Df K mg "is_amount" s_is_amount ["value"]) (C_is_whole : Cal P w K mg base "is_whole" ["value"] 1 (sp_is_whole K)) : Cal P w K mg base "is_amount" ["value"] 2 (sp_is_amount K) := by
  obtain ⟨f_is_whole, fd_is_whole, G_is_whole, m_is_whole, k_is_whole, b_is_whole⟩ := C_is_whole
  refine D.cal sc_is_amount (fun vs H Q E h => ?_) (fun f cdv A outer s H vs Q E hr h => ?_)
  · obtain ⟨i, rfl, _⟩ := h
    rfl
  obtain ⟨i, rfl, k⟩ := h
  refine ⟨_, (pss_one (ps_ret (pe_and (pe_call G_is_whole (hr.mono (by decide)) (by rfl) m_is_whole k_is_whole b_is_whole .nil pass0 (pa_cons (pv 0) pa_nil)) (pe_one (pe_cmpR op_ge (pv 0) pe_int (nomark _)))))), ?_⟩
  exact ⟨_, rfl, _, rfl, _, rfl, iteT ⟨_, rfl, _, _, rfl, rfl, k⟩⟩
abbrev s_told_error : Stmt := topS 10
abbrev N_told_error : List Str := ["table", "period", "rise", "at", "worth"]
theorem sc_told_error : FnScope N_told_error ["table", "period", "rise"] (defScope s_told_error) := ⟨rfl, rfl, rfl, by decide +kernel, rfl, by decide +kernel, by decide +kernel⟩
theorem ok_told_error (T : Txt mg) (D : Df K mg "told_error" s_told_error ["table", "period", "rise"]) (C_is_amount : Cal P w K mg base "is_amount" ["value"] 2 (sp_is_amount K)) (C_is_whole : Cal P w K mg base "is_whole" ["value"] 1 (sp_is_whole K)) : Cal P w K mg base "told_error" ["table", "period", "rise"] 3 (sp_told_error K) := by
  obtain ⟨f_is_amount, fd_is_amount, G_is_amount, m_is_amount, k_is_amount, b_is_amount⟩ := C_is_amount
  obtain ⟨f_is_whole, fd_is_whole, G_is_whole, m_is_whole, k_is_whole, b_is_whole⟩ := C_is_whole
  refine D.cal sc_told_error (fun vs H Q E h => ?_) (fun f cdv A outer s H vs Q E hr h => ?_)
  · obtain ⟨a, T0, p, r, rfl, _⟩ := h
    rfl
  obtain ⟨a, T0, p, r, rfl, hA, tl, kf, ke, kr⟩ := h
  have ll := len_int T0
  have lm : (T0.map V.int).length = T0.length := List.length_map ..
  rcases id hA with hS | hS
  ·
    refine ⟨_, (pss_cons (ps_if (PW.pt (pw_or (pt_not (pt_val (pe_call G_is_whole (hr.mono (by decide)) (by rfl) m_is_whole k_is_whole b_is_whole .nil pass0 (pa_cons (pv 1) pa_nil)))) (pw_or (pt_not (pt_chain op_le op_le pe_int (pv 1) (pe_callB call_len_seq (by rfl) T.n_len (by decide +kernel) (pa_cons (pv 0) pa_nil)))) (pw_or1 (pt_not (pt_val (pe_call G_is_amount (hr.mono (by decide)) (by rfl) m_is_amount k_is_amount b_is_amount .nil pass0 (pa_cons (pv 2) pa_nil)))))))) (pss_one (ps_ret pe_str)) pss_nil)
    (pss_cons (ps_if (pt_not (pt_val (pe_callB (cr_all rfl) (by rfl) T.n_all (by decide +kernel) (pa_cons (pe_lc (own := [("worth", 4)]) (g := gName 4) (tt := tYes) rfl sc_told_error.nd (pi_list (pv 0)) (blkOk_by (own := [("worth", 4)]) (N := N_told_error) (sc := defScope s_told_error) (by decide +kernel)) (fun _ _ _ _ _ => pg_name (i := 4) sc_told_error.nd rfl (Or.inl rfl)) (fun _ _ _ _ _ => pts_nil) (fun _ _ _ _ _ => (pe_call G_is_amount (hr.mono (by decide)) (by rfl) m_is_amount k_is_amount b_is_amount .nil pass0 (pa_cons (pv 4) pa_nil)))) pa_nil)))) (pss_one (ps_ret pe_str)) pss_nil)
    (pss_cons (ps_if (pt_val (pe_callB (cr_any rfl) (by rfl) T.n_any (by decide +kernel) (pa_cons (pe_lc (own := [("at", 3)]) (g := gName 3) (tt := tYes) rfl sc_told_error.nd (pi_range1 (by rfl) T.n_range (pa_cons (pe_op op_sub (pe_callB call_len_seq (by rfl) T.n_len (by decide +kernel) (pa_cons (pv 0) pa_nil)) pe_int) pa_nil)) (blkOk_by (own := [("at", 3)]) (N := N_told_error) (sc := defScope s_told_error) (by decide +kernel)) (fun _ _ _ _ _ => pg_name (i := 3) sc_told_error.nd rfl (Or.inl rfl)) (fun _ _ _ _ _ => pts_nil) (fun _ _ _ _ _ => (pe_cmpR op_gt (pe_ix (show IxR _ (rIx K) from ix_seq) (pv 0) (pv 3) (fun _ _ => rfl)) (pe_ix (show IxR _ (rIx K) from ix_seq) (pv 0) (pe_op op_add (pv 3) pe_int) (fun _ _ => rfl)) (nomark _)))) pa_nil))) (pss_one (ps_ret pe_str)) pss_nil)
    (pss_cons (ps_if (pt_cmpR op_gt (pe_ix ix_seq (pv 0) (pe_un un_neg pe_int) (fun _ _ => rfl)) (pe_op op_add (pe_ix ix_seq (pv 0) (pe_op op_sub (pe_callB call_len_seq (by rfl) T.n_len (by decide +kernel) (pa_cons (pv 0) pa_nil)) (pv 1)) (fun _ _ => rfl)) (pv 2)) (nomark _)) (pss_one (ps_ret pe_str)) pss_nil)
    (pss_one (ps_ret pe_non)))))), ?_⟩
    refine ⟨_, rfl, p, rfl, _, rfl, iteF ?_⟩
    refine ⟨_, rfl, _, _, rfl, rfl, _, rfl, ite3 (fun c1 => ?_) (fun c1 => ⟨_, rfl, iteT (kf H (Same.refl _) fun F => c1 F.1)⟩)⟩
    refine ⟨_, rfl, _, _, rfl, hA.sq, _, _, rfl, rfl, _, rfl, ite3n (fun c2 => ?_) (fun c2 => kf H (Same.refl _) fun F => c2 (by rw [ll]; exact F.2.1))⟩
    rw [ll] at c2
    refine ⟨_, rfl, r, rfl, _, rfl, ite3n (fun c3 => ?_) (fun c3 => kf H (Same.refl _) fun F => c3 F.2.2.1)⟩
    -- all
    refine ⟨_, rfl, a, rfl, ⟨_, SqL.of hS⟩, fun D nD => ?_⟩
    have sD := same_upd (o := .lst []) nD
    refine lc_list (K := K) (a := a) (xs := T0.map V.int) (fun j H' => Same H H' ∧ H' D = some (.lst (((T0.take j).map fun v => decide (v ≥ 0)).map V.bl))) ⟨sD, upd_same⟩ (fun j H' _ h => SqL.of (h.1 _ _ hS)) ?_ ?_
    · rintro j x H' hx ⟨s', hD⟩
      have hj : j < T0.length := by
        have := (List.getElem?_eq_some_iff.mp hx).1
        rw [lm] at this
        exact this
      have tk : T0.take (j + 1) = T0.take j ++ [T0.getD j 0] := by
        rw [List.take_add_one, List.getD_eq_getElem?_getD, List.getElem?_eq_getElem hj]
        rfl
      rw [get_int hj] at hx
      have hx := (Option.some.inj hx).symm
      subst hx
      refine ⟨rfl, ?_⟩
      unfold tYes
      refine iteT ?_
      refine ⟨_, rfl, _, rfl, _, hD, ?_, fun b o e => ?_, ?_⟩
      · rw [List.length_map, List.length_map, List.length_take]
        exact Nat.lt_of_le_of_lt (show min j T0.length ≤ 6000 by omega) (by decide)
      · rw [upd_ne (ne_of_none e nD)]
        exact s' _ _ e
      · rw [upd_same, tk, List.map_append, List.map_append]
        rfl
    rintro H1 ⟨s1, hD⟩
    rw [lm, List.take_length] at hD
    refine ⟨D, _, rfl, SqL.of hD, _, rfl, ?_⟩
    have hA1 := hA.same s1
    by_cases c4 : ∀ i, i < T0.length → 0 ≤ T0.getD i 0
    · rw [all_nn.mpr c4]
      refine iteF ?_
      have F : FormOk T0 p r := ⟨c1, c2, c3, c4⟩
      obtain ⟨q, rfl⟩ : ∃ q : Nat, p = (q : Int) := ⟨p.toNat, by omega⟩
      rw [Int.toNat_natCast] at kr ke
      -- any
      refine ⟨_, rfl, _, _, rfl, hA1.sq, _, _, rfl, rfl, _, rfl, (by rw [ll]; omega), (by rw [ll]; omega), fun U nU => ?_⟩
      have cnt : ((((T0.map V.int).length : Nat) : Int) - 1).toNat = T0.length - 1 := by rw [ll]; omega
      rw [cnt]
      have sU := same_upd (o := .lst []) nU
      refine lc_range (lo := 0) (n := T0.length - 1) (fun j H' => Same H1 H' ∧ H' U = some (.lst (((List.range j).map fun i => decide (T0.getD i 0 > T0.getD (i + 1) 0)).map V.bl))) ⟨sU, upd_same⟩ ?_ ?_
      · rintro j H' hj ⟨s', hU⟩
        refine ⟨rfl, ?_⟩
        unfold tYes
        refine iteT ?_
        refine ⟨_, rfl, _, rfl, ix_any (hA1.same s') (at_of (j := j) (Int.zero_add _) (get_int (by omega))) ⟨_, rfl, _, rfl, _, _, rfl, rfl, ix_any (hA1.same s') (at_of (j := j + 1) (by omega) (get_int (by omega))) ⟨_, _, rfl, rfl, _, hU, ?_, fun b o e => ?_, ?_⟩⟩⟩
        · rw [List.length_map, List.length_map, List.length_range]
          exact Nat.lt_of_le_of_lt (show j ≤ 6000 by omega) (by decide)
        · rw [upd_ne (ne_of_none e nU)]
          exact s' _ _ e
        · rw [upd_same, List.range_succ, List.map_append, List.map_append]
          rfl
      rintro H2 ⟨s2, hU⟩
      refine ⟨U, _, rfl, SqL.of hU, _, rfl, ?_⟩
      have hA2 := hA1.same s2
      have s12 := s1.trans s2
      by_cases c5 : ∀ i, i + 1 < T0.length → T0.getD i 0 ≤ T0.getD (i + 1) 0
      · rw [any_mono.mpr c5]
        refine iteF ?_
        have e1 : (((T0.map V.int).length : Nat) : Int) - (q : Int) = ((T0.length - q : Nat) : Int) := by rw [ll]; omega
        refine ⟨_, rfl, _, rfl, ix_any hA2 (last_int (by omega)) ⟨_, rfl, _, rfl, _, _, rfl, hA2.sq, _, rfl, _, _, rfl, rfl, ix_any hA2 (at_of e1 (get_int (by omega))) ⟨_, rfl, _, _, rfl, rfl, _, _, rfl, rfl, _, rfl, ite3 (fun c6 => ke H2 s12 F fun o => ?_) (fun c6 => kr H2 s12 F ⟨by omega, by omega, c3, c4, c5, by omega⟩)⟩⟩⟩
        have := o.wrap
        omega
      · rw [show (((List.range (T0.length - 1)).map fun i => decide (T0.getD i 0 > T0.getD (i + 1) 0)).any id) = true from by
          cases z : ((List.range (T0.length - 1)).map fun i => decide (T0.getD i 0 > T0.getD (i + 1) 0)).any id with
          | true => rfl
          | false => exact absurd (any_mono.mp z) c5]
        exact iteT (ke H2 s12 F fun o => c5 o.mono)
    · rw [show (((T0.map fun v => decide (v ≥ 0)).all id)) = false from by
        cases z : (T0.map fun v => decide (v ≥ 0)).all id with
        | false => rfl
        | true => exact absurd (all_nn.mp z) c4]
      exact iteT (kf H1 s1 fun F => c4 F.2.2.2)
  ·
    refine ⟨_, (pss_cons (ps_if (PW.pt (pw_or (pt_not (pt_val (pe_call G_is_whole (hr.mono (by decide)) (by rfl) m_is_whole k_is_whole b_is_whole .nil pass0 (pa_cons (pv 1) pa_nil)))) (pw_or (pt_not (pt_chain op_le op_le pe_int (pv 1) (pe_callB call_len_seq (by rfl) T.n_len (by decide +kernel) (pa_cons (pv 0) pa_nil)))) (pw_or1 (pt_not (pt_val (pe_call G_is_amount (hr.mono (by decide)) (by rfl) m_is_amount k_is_amount b_is_amount .nil pass0 (pa_cons (pv 2) pa_nil)))))))) (pss_one (ps_ret pe_str)) pss_nil)
    (pss_cons (ps_if (pt_not (pt_val (pe_callB (cr_all rfl) (by rfl) T.n_all (by decide +kernel) (pa_cons (pe_lc (own := [("worth", 4)]) (g := gName 4) (tt := tYes) rfl sc_told_error.nd (pi_tup (pv 0)) (blkOk_by (own := [("worth", 4)]) (N := N_told_error) (sc := defScope s_told_error) (by decide +kernel)) (fun _ _ _ _ _ => pg_name (i := 4) sc_told_error.nd rfl (Or.inl rfl)) (fun _ _ _ _ _ => pts_nil) (fun _ _ _ _ _ => (pe_call G_is_amount (hr.mono (by decide)) (by rfl) m_is_amount k_is_amount b_is_amount .nil pass0 (pa_cons (pv 4) pa_nil)))) pa_nil)))) (pss_one (ps_ret pe_str)) pss_nil)
    (pss_cons (ps_if (pt_val (pe_callB (cr_any rfl) (by rfl) T.n_any (by decide +kernel) (pa_cons (pe_lc (own := [("at", 3)]) (g := gName 3) (tt := tYes) rfl sc_told_error.nd (pi_range1 (by rfl) T.n_range (pa_cons (pe_op op_sub (pe_callB call_len_seq (by rfl) T.n_len (by decide +kernel) (pa_cons (pv 0) pa_nil)) pe_int) pa_nil)) (blkOk_by (own := [("at", 3)]) (N := N_told_error) (sc := defScope s_told_error) (by decide +kernel)) (fun _ _ _ _ _ => pg_name (i := 3) sc_told_error.nd rfl (Or.inl rfl)) (fun _ _ _ _ _ => pts_nil) (fun _ _ _ _ _ => (pe_cmpR op_gt (pe_ix (show IxR _ (rIx K) from ix_seq) (pv 0) (pv 3) (fun _ _ => rfl)) (pe_ix (show IxR _ (rIx K) from ix_seq) (pv 0) (pe_op op_add (pv 3) pe_int) (fun _ _ => rfl)) (nomark _)))) pa_nil))) (pss_one (ps_ret pe_str)) pss_nil)
    (pss_cons (ps_if (pt_cmpR op_gt (pe_ix ix_seq (pv 0) (pe_un un_neg pe_int) (fun _ _ => rfl)) (pe_op op_add (pe_ix ix_seq (pv 0) (pe_op op_sub (pe_callB call_len_seq (by rfl) T.n_len (by decide +kernel) (pa_cons (pv 0) pa_nil)) (pv 1)) (fun _ _ => rfl)) (pv 2)) (nomark _)) (pss_one (ps_ret pe_str)) pss_nil)
    (pss_one (ps_ret pe_non)))))), ?_⟩
    refine ⟨_, rfl, p, rfl, _, rfl, iteF ?_⟩
    refine ⟨_, rfl, _, _, rfl, rfl, _, rfl, ite3 (fun c1 => ?_) (fun c1 => ⟨_, rfl, iteT (kf H (Same.refl _) fun F => c1 F.1)⟩)⟩
    refine ⟨_, rfl, _, _, rfl, hA.sq, _, _, rfl, rfl, _, rfl, ite3n (fun c2 => ?_) (fun c2 => kf H (Same.refl _) fun F => c2 (by rw [ll]; exact F.2.1))⟩
    rw [ll] at c2
    refine ⟨_, rfl, r, rfl, _, rfl, ite3n (fun c3 => ?_) (fun c3 => kf H (Same.refl _) fun F => c3 F.2.2.1)⟩
    -- all
    refine ⟨_, rfl, a, rfl, ⟨_, SqT.of hS⟩, fun D nD => ?_⟩
    have sD := same_upd (o := .lst []) nD
    refine lc_tup (K := K) (a := a) (xs := T0.map V.int) (fun j H' => Same H H' ∧ H' D = some (.lst (((T0.take j).map fun v => decide (v ≥ 0)).map V.bl))) ⟨sD, upd_same⟩ (fun j H' _ h => SqT.of (h.1 _ _ hS)) ?_ ?_
    · rintro j x H' hx ⟨s', hD⟩
      have hj : j < T0.length := by
        have := (List.getElem?_eq_some_iff.mp hx).1
        rw [lm] at this
        exact this
      have tk : T0.take (j + 1) = T0.take j ++ [T0.getD j 0] := by
        rw [List.take_add_one, List.getD_eq_getElem?_getD, List.getElem?_eq_getElem hj]
        rfl
      rw [get_int hj] at hx
      have hx := (Option.some.inj hx).symm
      subst hx
      refine ⟨rfl, ?_⟩
      unfold tYes
      refine iteT ?_
      refine ⟨_, rfl, _, rfl, _, hD, ?_, fun b o e => ?_, ?_⟩
      · rw [List.length_map, List.length_map, List.length_take]
        exact Nat.lt_of_le_of_lt (show min j T0.length ≤ 6000 by omega) (by decide)
      · rw [upd_ne (ne_of_none e nD)]
        exact s' _ _ e
      · rw [upd_same, tk, List.map_append, List.map_append]
        rfl
    rintro H1 ⟨s1, hD⟩
    rw [lm, List.take_length] at hD
    refine ⟨D, _, rfl, SqL.of hD, _, rfl, ?_⟩
    have hA1 := hA.same s1
    by_cases c4 : ∀ i, i < T0.length → 0 ≤ T0.getD i 0
    · rw [all_nn.mpr c4]
      refine iteF ?_
      have F : FormOk T0 p r := ⟨c1, c2, c3, c4⟩
      obtain ⟨q, rfl⟩ : ∃ q : Nat, p = (q : Int) := ⟨p.toNat, by omega⟩
      rw [Int.toNat_natCast] at kr ke
      -- any
      refine ⟨_, rfl, _, _, rfl, hA1.sq, _, _, rfl, rfl, _, rfl, (by rw [ll]; omega), (by rw [ll]; omega), fun U nU => ?_⟩
      have cnt : ((((T0.map V.int).length : Nat) : Int) - 1).toNat = T0.length - 1 := by rw [ll]; omega
      rw [cnt]
      have sU := same_upd (o := .lst []) nU
      refine lc_range (lo := 0) (n := T0.length - 1) (fun j H' => Same H1 H' ∧ H' U = some (.lst (((List.range j).map fun i => decide (T0.getD i 0 > T0.getD (i + 1) 0)).map V.bl))) ⟨sU, upd_same⟩ ?_ ?_
      · rintro j H' hj ⟨s', hU⟩
        refine ⟨rfl, ?_⟩
        unfold tYes
        refine iteT ?_
        refine ⟨_, rfl, _, rfl, ix_any (hA1.same s') (at_of (j := j) (Int.zero_add _) (get_int (by omega))) ⟨_, rfl, _, rfl, _, _, rfl, rfl, ix_any (hA1.same s') (at_of (j := j + 1) (by omega) (get_int (by omega))) ⟨_, _, rfl, rfl, _, hU, ?_, fun b o e => ?_, ?_⟩⟩⟩
        · rw [List.length_map, List.length_map, List.length_range]
          exact Nat.lt_of_le_of_lt (show j ≤ 6000 by omega) (by decide)
        · rw [upd_ne (ne_of_none e nU)]
          exact s' _ _ e
        · rw [upd_same, List.range_succ, List.map_append, List.map_append]
          rfl
      rintro H2 ⟨s2, hU⟩
      refine ⟨U, _, rfl, SqL.of hU, _, rfl, ?_⟩
      have hA2 := hA1.same s2
      have s12 := s1.trans s2
      by_cases c5 : ∀ i, i + 1 < T0.length → T0.getD i 0 ≤ T0.getD (i + 1) 0
      · rw [any_mono.mpr c5]
        refine iteF ?_
        have e1 : (((T0.map V.int).length : Nat) : Int) - (q : Int) = ((T0.length - q : Nat) : Int) := by rw [ll]; omega
        refine ⟨_, rfl, _, rfl, ix_any hA2 (last_int (by omega)) ⟨_, rfl, _, rfl, _, _, rfl, hA2.sq, _, rfl, _, _, rfl, rfl, ix_any hA2 (at_of e1 (get_int (by omega))) ⟨_, rfl, _, _, rfl, rfl, _, _, rfl, rfl, _, rfl, ite3 (fun c6 => ke H2 s12 F fun o => ?_) (fun c6 => kr H2 s12 F ⟨by omega, by omega, c3, c4, c5, by omega⟩)⟩⟩⟩
        have := o.wrap
        omega
      · rw [show (((List.range (T0.length - 1)).map fun i => decide (T0.getD i 0 > T0.getD (i + 1) 0)).any id) = true from by
          cases z : ((List.range (T0.length - 1)).map fun i => decide (T0.getD i 0 > T0.getD (i + 1) 0)).any id with
          | true => rfl
          | false => exact absurd (any_mono.mp z) c5]
        exact iteT (ke H2 s12 F fun o => c5 o.mono)
    · rw [show (((T0.map fun v => decide (v ≥ 0)).all id)) = false from by
        cases z : (T0.map fun v => decide (v ≥ 0)).all id with
        | false => rfl
        | true => exact absurd (all_nn.mp z) c4]
      exact iteT (kf H1 s1 fun F => c4 F.2.2.2)
end
end Sm

set_option Elab.async false
set_option linter.all false
set_option maxRecDepth 100000
set_option maxHeartbeats 16000000
namespace Sm
open PySem PySem.Spec PyProof.Rows L2
open C8 (pss_cut tCut)
abbrev s_init : Stmt := inClass (topS 6) 0
abbrev N_init : List Str := ["self", "error"]
theorem sc_init : FnScope N_init ["self", "error"] (defScope s_init) := ⟨rfl, rfl, rfl, by decide +kernel, rfl, by decide +kernel, by decide +kernel⟩
/-- what the written part says of the exceptions' classes -/
structure Txc (K : PySem.W.Frag) (mg : Str → Option Value) (cChangeError cTooLong cBadRule cNoStart cNoRise fB : Addr) : Prop where
  gChangeError : mg "ChangeError" = some (.ref cChangeError)
  gTooLong : mg "TooLong" = some (.ref cTooLong)
  gBadRule : mg "BadRule" = some (.ref cBadRule)
  gNoStart : mg "NoStart" = some (.ref cNoStart)
  gNoRise : mg "NoRise" = some (.ref cNoRise)
  oex : OexC K cBadRule
  noE : PySem.W.findIn K (.ref cBadRule) "error" = some none
  iC : PySem.W.findIn K (.ref cBadRule) "__init__" = some (some (.ref fB))
  tI : PySem.W.typeIn K (.ref fB) = some (.type "function")
  xf : XfC K cBadRule
  ec : ExcC K cBadRule
  te : PySem.W.exmOne K (.ref cBadRule) (.ref cChangeError) = some true
  k1 : PySem.W.kitAny K (.ref cBadRule) [.ref cTooLong, .ref cNoStart, .ref cNoRise] = some false
  k2 : PySem.W.kitOne K (.ref cBadRule) (.type "ValueError") = some true
  k3 : PySem.W.kitOne K (.ref cBadRule) (.ref cBadRule) = some true
  fI : ∃ fd, Fun K "__init__" "BadRule.__init__" s_init fB fd ∧ Binds K fd ["self", "error"] []
def CalX (P : Program) (w : World) (K : PySem.W.Frag) (mg : Str → Option Value) (base : Heap) (x : Str) (ps : List Str) (k : Nat) (sp : Sp) : Prop :=
  ∃ (f : Addr) (fd : FuncData), FnOk P w K mg base (L2.CX P w) k f fd ps sp ∧ mg x = some (.ref f) ∧ PySem.W.keepIn K (.ref f) = true ∧ Binds K fd ps []
def sp_canonicalX (cBadRule : Addr) : Sp := fun vs H Q E => ∃ (a : Addr) (T : List Int) (p r : Int), vs = [.ref a, .int p, .int r] ∧ SA H a (T.map V.int) ∧ T.length ≤ 6000 ∧ (RuleOk T p.toNat r → RB T p.toNat r) ∧
  (∀ H' d, Same H H' → ¬ FormOk T p r → H' d = some (.xd [(("error" : Str), .str "form")]) → E (.ref cBadRule) (some d) H') ∧
  (∀ H' d, Same H H' → FormOk T p r → ¬ RuleOk T p.toNat r → H' d = some (.xd [(("error" : Str), .str "falls")]) → E (.ref cBadRule) (some d) H') ∧
  (∀ H' e T' p' r', Same H H' → FormOk T p r → RuleOk T p.toNat r → RuleAt H' e T' p' r' → Cut T p.toNat r T' p' r' → Short T' p' r' → (∀ x, vl T' p' r' x = vl T p.toNat r x) → Q (.ref e) H')
def sp_l_tried (_ : PySem.W.Frag) : Sp := fun vs H Q _ => ∃ (a : Addr) (T : List Int) (p r : Int), vs = [.ref a, .int p, .int r] ∧ SA H a (T.map V.int) ∧ T.length ≤ 6000 ∧ (RuleOk T p.toNat r → RB T p.toNat r) ∧
  (∀ H' q, Same H H' → ¬ FormOk T p r → H' q = some (.lst [.str "form"]) → Q (.ref q) H') ∧
  (∀ H' q, Same H H' → FormOk T p r → ¬ RuleOk T p.toNat r → H' q = some (.lst [.str "falls"]) → Q (.ref q) H') ∧
  (∀ H' e T' p' r', Same H H' → FormOk T p r → RuleOk T p.toNat r → RuleAt H' e T' p' r' → Cut T p.toNat r T' p' r' → Short T' p' r' → (∀ x, vl T' p' r' x = vl T p.toNat r x) → Q (.ref e) H')
section
variable {P : Program} {w : World} {K : PySem.W.Frag} {mg : Str → Option Value} {base : Heap} {cChangeError cTooLong cBadRule cNoStart cNoRise fB : Addr}
theorem ok_init {fd : FuncData} (F : Fun K "__init__" "BadRule.__init__" s_init fB fd) : FnOk P w K mg base CX0 1 fB fd ["self", "error"] (sp_init K "error") := by
  refine F.ok sc_init (fun vs H Q E h => ?_) (fun cdv A outer s H vs Q E hr h => ?_)
  · obtain ⟨a, C, v, rfl, _⟩ := h
    rfl
  obtain ⟨a, C, v, rfl, T, no, ha, k⟩ := h
  refine ⟨_, pss_one (ps_ost (pv 0) (pv 1)), ?_⟩
  exact ⟨_, rfl, _, rfl, a, C, rfl, T, no, .inl ⟨ha, k⟩⟩
abbrev s_canonical : Stmt := topS 11
abbrev N_canonical : List Str := ["table", "period", "rise", "wrong"]
theorem sc_canonical : FnScope N_canonical ["table", "period", "rise"] (defScope s_canonical) := ⟨rfl, rfl, rfl, by decide +kernel, rfl, by decide +kernel, by decide +kernel⟩
theorem ok_canonicalX (T : Txt mg) (XC : Txc K mg cChangeError cTooLong cBadRule cNoStart cNoRise fB) (D : Df K mg "canonical" s_canonical ["table", "period", "rise"]) (C_told_error : Cal P w K mg base "told_error" ["table", "period", "rise"] 3 (sp_told_error K)) (C_shortest : Cal P w K mg base "shortest" ["table", "period", "rise"] 2 (sp_shortest K)) : CalX P w K mg base "canonical" ["table", "period", "rise"] 4 (sp_canonicalX cBadRule) := by
  obtain ⟨f_told_error, fd_told_error, G_told_error, m_told_error, k_told_error, b_told_error⟩ := C_told_error
  obtain ⟨f_shortest, fd_shortest, G_shortest, m_shortest, k_shortest, b_shortest⟩ := C_shortest
  obtain ⟨fdI, FI, b_init⟩ := XC.fI
  have G_init : FnOk P w K mg base CX0 1 fB fdI ["self", "error"] (sp_init K "error") := ok_init FI
  obtain ⟨f, fd, F, m, b⟩ := D
  refine ⟨f, fd, F.okX sc_canonical (fun vs H Q E h => ?_) (fun cdv A outer s H vs Q E hr h => ?_), m, F.kp, b⟩
  · obtain ⟨a, T0, p, r, rfl, _⟩ := h
    rfl
  obtain ⟨a, T0, p, r, rfl, hA, tl, rb, kf, ke, kr⟩ := h
  refine ⟨_, (pss_cons (ps_set (i := 3) sc_canonical.nd rfl (Or.inl rfl) (pe_call G_told_error (hr.mono (by decide)) (by rfl) m_told_error k_told_error b_told_error .nil pass0 (pa_cons (pv 0) (pa_cons (pv 1) (pa_cons (pv 2) pa_nil)))))
    (pss_cons (ps_if (pt_cmpR op_notN (pv 3) pe_non (nomark _)) (pss_one (ps_raise rfl (takes_of rfl rfl rfl rfl) (pmk_oex XC.oex XC.iC XC.tI G_init (hr.mono (by decide)) b_init .nil pass0 (by rfl) XC.gBadRule (pa_cons (pv 3) pa_nil)))) pss_nil)
    (pss_one (ps_ret (pe_call G_shortest (hr.mono (by decide)) (by rfl) m_shortest k_shortest b_shortest .nil pass0 (pa_cons (pv 0) (pa_cons (pv 1) (pa_cons (pv 2) pa_nil)))))))), ?_⟩
  refine ⟨_, rfl, _, rfl, _, rfl, a, T0, p, r, rfl, hA, tl, fun H1 s1 F => ?_, fun H1 s1 F o => ?_, fun H1 s1 F o => ?_⟩
  · refine ⟨_, rfl, rfl, _, rfl, iteNN (fun q => nomatch q) ?_⟩
    refine xc_mk XC.oex XC.noE ⟨_, rfl, V.str "form", rfl, fun d H2 s2 hd => kf H2 d (s1.trans s2) F hd⟩ (fun h z => ?_)
    obtain ⟨v, e, q⟩ := z
    exact ⟨v, e, h _ _ q⟩
  · refine ⟨_, rfl, rfl, _, rfl, iteNN (fun q => nomatch q) ?_⟩
    refine xc_mk XC.oex XC.noE ⟨_, rfl, V.str "falls", rfl, fun d H2 s2 hd => ke H2 d (s1.trans s2) F o hd⟩ (fun h z => ?_)
    obtain ⟨v, e, q⟩ := z
    exact ⟨v, e, h _ _ q⟩
  · obtain ⟨q, rfl⟩ : ∃ q : Nat, p = (q : Int) := ⟨p.toNat, by have := F.1; omega⟩
    refine ⟨_, rfl, rfl, _, rfl, iteNP rfl ?_⟩
    refine ⟨_, rfl, _, rfl, _, rfl, a, T0, q, r, rfl, hA.same s1, o, rb o, fun H2 d' T' p' r' s2 R c sh hv => kr H2 d' T' p' r' (s1.trans s2) F o R c sh hv⟩
abbrev s_l_tried : Stmt := topS 23
abbrev N_l_tried : List Str := ["_law_table", "_law_period", "_law_rise", "error"]
theorem sc_l_tried : FnScope N_l_tried ["_law_table", "_law_period", "_law_rise"] (defScope s_l_tried) := ⟨rfl, rfl, rfl, by decide +kernel, rfl, by decide +kernel, by decide +kernel⟩
theorem ok_l_tried (T : Txt mg) (XC : Txc K mg cChangeError cTooLong cBadRule cNoStart cNoRise fB) (D : Df K mg "_law_tried" s_l_tried ["_law_table", "_law_period", "_law_rise"]) (C_canonical : CalX P w K mg base "canonical" ["table", "period", "rise"] 4 (sp_canonicalX cBadRule)) : Cal P w K mg base "_law_tried" ["_law_table", "_law_period", "_law_rise"] 5 (sp_l_tried K) := by
  obtain ⟨f_canonical, fd_canonical, G_canonical, m_canonical, k_canonical, b_canonical⟩ := C_canonical
  refine D.cal sc_l_tried (fun vs H Q E h => ?_) (fun f cdv A outer s H vs Q E hr h => ?_)
  · obtain ⟨a, T0, p, r, rfl, _⟩ := h
    rfl
  obtain ⟨a, T0, p, r, rfl, hA, tl, rb, kf, ke, kr⟩ := h
  refine ⟨_, (pss_one (ps_try_as (i := 3) rfl rfl sc_l_tried.nd rfl rfl ⟨rfl, by decide, .inl XC.gChangeError⟩ takes0
      (fun W pn xe tk _ => (pss_one (ps_ret (pe_callS G_canonical (hr.mono (by decide)) rfl m_canonical k_canonical b_canonical (fun σ => passAt tk σ) (pa_cons (pv 0) (pa_cons (pv 1) (pa_cons (pv 2) pa_nil)))))))
      (fun a oe cls d pn hz hf => (pss_cons (ps_if (PW.pt (pw_or (pt_val (pe_callB (call_isX hz hf) (by rfl) T.n_isinstance (by decide +kernel) (pa_cons (pv 3) (pa_cons (pe_tup (pa_cons (pe_glob (v := .ref cTooLong) rfl XC.gTooLong rfl) (pa_cons (pe_glob (v := .ref cNoStart) rfl XC.gNoStart rfl) (pa_cons (pe_glob (v := .ref cNoRise) rfl XC.gNoRise rfl) pa_nil)))) pa_nil)))) (pw_or1 (pt_not (pt_val (pe_callB (call_isX hz hf) (by rfl) T.n_isinstance (by decide +kernel) (pa_cons (pv 3) (pa_cons (pe_bltn (v := .ty "ValueError") (by rfl) T.n_ValueError (by decide +kernel) rfl) pa_nil)))))))) (pss_one (ps_ret (pe_lst (pa_cons pe_str pa_nil)))) pss_nil)
    (pss_one (ps_ret (pe_ifExp (pt_val (pe_callB (call_isX hz hf) (by rfl) T.n_isinstance (by decide +kernel) (pa_cons (pv 3) (pa_cons (pe_glob (v := .ref cBadRule) rfl XC.gBadRule rfl) pa_nil)))) (pe_lst (pa_cons (pe_xf XC.xf XC.noE hz hf (pv 3)) pa_nil)) (pe_lst (pa_cons pe_str pa_nil))))))))), ?_⟩
  refine ⟨_, rfl, _, rfl, _, rfl, a, T0, p, r, rfl, hA, tl, rb, fun H1 d s1 F hd => ?_, fun H1 d s1 F o hd => ?_, fun H1 e T' p' r' s1 F o R c sh hv => ?_⟩
  · refine ⟨true, XC.te, fun _ a0 na => ?_, fun q => nomatch q⟩
    refine ⟨_, rfl, (by show 3 ≤ sizeLine; decide), fun tp ntp => ?_⟩
    have st := same_upd (o := .tup [.ref cTooLong, .ref cNoStart, .ref cNoRise]) ntp
    refine ⟨cBadRule, d, _, rfl, rfl, st _ _ hd, XC.ec, .inr ⟨tp, _, _, false, rfl, upd_same, .cons (.own _) (.cons (.own _) (.cons (.own _) .nil)), XC.k1, _, rfl, iteF ?_⟩⟩
    refine ⟨_, rfl, cBadRule, d, _, rfl, rfl, st _ _ hd, XC.ec, .inl ⟨_, _, true, rfl, .ty _, XC.k2, _, rfl, iteF ?_⟩⟩
    refine ⟨_, rfl, cBadRule, d, _, rfl, rfl, st _ _ hd, XC.ec, .inl ⟨_, _, true, rfl, .own _, XC.k3, _, rfl, iteT ?_⟩⟩
    refine ⟨_, rfl, rfl, rfl, d, _, _, rfl, st _ _ hd, rfl, (by show 1 ≤ sizeLine; decide), fun q nq => ?_⟩
    exact kf _ q (s1.trans (st.trans (same_upd nq))) F upd_same
  · refine ⟨true, XC.te, fun _ a0 na => ?_, fun q => nomatch q⟩
    refine ⟨_, rfl, (by show 3 ≤ sizeLine; decide), fun tp ntp => ?_⟩
    have st := same_upd (o := .tup [.ref cTooLong, .ref cNoStart, .ref cNoRise]) ntp
    refine ⟨cBadRule, d, _, rfl, rfl, st _ _ hd, XC.ec, .inr ⟨tp, _, _, false, rfl, upd_same, .cons (.own _) (.cons (.own _) (.cons (.own _) .nil)), XC.k1, _, rfl, iteF ?_⟩⟩
    refine ⟨_, rfl, cBadRule, d, _, rfl, rfl, st _ _ hd, XC.ec, .inl ⟨_, _, true, rfl, .ty _, XC.k2, _, rfl, iteF ?_⟩⟩
    refine ⟨_, rfl, cBadRule, d, _, rfl, rfl, st _ _ hd, XC.ec, .inl ⟨_, _, true, rfl, .own _, XC.k3, _, rfl, iteT ?_⟩⟩
    refine ⟨_, rfl, rfl, rfl, d, _, _, rfl, st _ _ hd, rfl, (by show 1 ≤ sizeLine; decide), fun q nq => ?_⟩
    exact ke _ q (s1.trans (st.trans (same_upd nq))) F o upd_same
  · exact kr H1 e T' p' r' s1 F o R c sh hv
end
end Sm

set_option Elab.async false
set_option linter.all false
set_option maxRecDepth 100000
set_option maxHeartbeats 16000000
namespace Sm
open PySem PySem.Spec PyProof.Rows L2
open C8 (pss_cut tCut)
def vals (T : List Int) (p : Nat) (r : Int) (n : Nat) : List Int := (List.range n).map (vl T p r)
theorem vals_len (T : List Int) (p : Nat) (r : Int) (n : Nat) : (vals T p r n).length = n := by unfold vals; rw [List.length_map, List.length_range]
theorem vals_getD {T : List Int} {p : Nat} {r : Int} {n i : Nat} (h : i < n) : (vals T p r n).getD i 0 = vl T p r i := by
  unfold vals
  rw [List.getD_eq_getElem?_getD, List.getElem?_map, List.getElem?_range h]
  rfl
theorem vals_succ {T : List Int} {p : Nat} {r : Int} {n : Nat} : vals T p r (n + 1) = vals T p r n ++ [vl T p r n] := by
  unfold vals
  rw [List.range_succ, List.map_append]
  rfl
/-- several periods as one -/
theorem longer_vl {T : List Int} {p : Nat} {r : Int} (o : RuleOk T p r) {n N : Nat} (hn : 0 < n) (hN : T.length - p + n * p ≤ N) : ∀ x, vl (vals T p r N) (n * p) ((n : Int) * r) x = vl T p r x := by
  have p0 := o.p0
  have p1 := o.p1
  have np : 0 < n * p := Nat.mul_pos hn p0
  have ln := vals_len T p r N
  intro x
  induction x using Nat.strongRecOn with
  | _ x ih =>
    by_cases q : x < N
    · rw [vl_lt (by omega), vals_getD q]
    · rw [vl_step np (by omega) (by omega), ih (x - n * p) (by omega), ← vl_addk p0 p1 (by omega) n, show x - n * p + n * p = x by omega]
theorem longer_ok {T : List Int} {p : Nat} {r : Int} (o : RuleOk T p r) {n N : Nat} (hn : 0 < n) (hN : T.length - p + n * p ≤ N) : RuleOk (vals T p r N) (n * p) ((n : Int) * r) := by
  have p0 := o.p0
  have p1 := o.p1
  have np : 0 < n * p := Nat.mul_pos hn p0
  have ln := vals_len T p r N
  refine ⟨np, by omega, Int.mul_nonneg (by omega) o.r0, fun i hi => ?_, fun i hi => ?_, ?_⟩
  · rw [vals_getD (by omega)]
    exact o.pos i
  · rw [vals_getD (by omega), vals_getD (by omega)]
    exact o.up i
  · rw [ln, vals_getD (by omega), vals_getD (by omega), ← vl_addk p0 p1 (by omega) n, show N - n * p + n * p = N by omega]
    have := o.up (N - 1)
    rw [show N - 1 + 1 = N by omega] at this
    exact this
theorem RS.vl {M : Int} {T : List Int} {p : Nat} {r : Int} (o : RuleOk T p r) (b : RS M T p r) (hM : 0 ≤ M) : ∀ x : Nat, vl T p r x ≤ M * ((x : Int) + 1) := by
  intro x
  induction x using Nat.strongRecOn with
  | _ x ih =>
    have p0 := o.p0
    have p1 := o.p1
    have r1 := b.r1
    by_cases q : x < T.length
    · rw [vl_lt q]
      have h1 := b.top x q
      have h2 : M * 1 ≤ M * ((x : Int) + 1) := Int.mul_le_mul_of_nonneg_left (by omega) hM
      omega
    · rw [vl_step p0 o.p1 (by omega)]
      have h1 := ih (x - p) (by omega)
      have h2 : M * (((x - p : Nat) : Int) + 1 + 1) ≤ M * ((x : Int) + 1) := Int.mul_le_mul_of_nonneg_left (by omega) hM
      rw [Int.mul_add M (((x - p : Nat) : Int) + 1) 1] at h2
      omega
def sp_l_longer (_ : PySem.W.Frag) : Sp := fun vs H Q _ => ∃ (d : Addr) (T : List Int) (p : Nat) (r : Int) (m n : Nat), vs = [.ref d, .int (m : Int), .int (n : Int)] ∧ RuleAt H d T p r ∧ RuleOk T p r ∧ RB T p r ∧ n ≤ 6000 ∧ T.length - p + m + n * p ≤ 6000 ∧
  ∀ H' e, Same H H' → RuleAt H' e (vals T p r (T.length - p + m + n * p)) (n * p) ((n : Int) * r) → Q (.ref e) H'
def sp_l_due (_ : PySem.W.Frag) : Sp := fun vs H Q _ => ∃ (a : Addr) (T : List Int) (p r : Int), vs = [.ref a, .int p, .int r] ∧ H a = some (.tup (T.map V.int)) ∧ RB T p.toNat r ∧
  (∀ H' q, Same H H' → ¬ FormOk T p r → H' q = some (.lst [.str "form"]) → Q (.ref q) H') ∧
  (∀ H' q, Same H H' → FormOk T p r → ¬ RuleOk T p.toNat r → H' q = some (.lst [.str "falls"]) → Q (.ref q) H') ∧
  (∀ H' e T' p' r', Same H H' → FormOk T p r → RuleOk T p.toNat r → RuleAt H' e T' p' r' → Cut T p.toNat r T' p' r' → Short T' p' r' → (∀ x, vl T' p' r' x = vl T p.toNat r x) → Q (.ref e) H')
theorem no_neg {T : List Int} : T.filter (fun v => decide (v < 0)) = [] ↔ ∀ i, i < T.length → 0 ≤ T.getD i 0 := by
  rw [List.filter_eq_nil_iff]
  constructor
  · intro h i hi
    have := h (T.getD i 0) (by rw [List.getD_eq_getElem?_getD, List.getElem?_eq_getElem hi]; exact List.getElem_mem hi)
    have := of_decide_eq_false (Bool.eq_false_iff.mpr this)
    omega
  · intro h x hx
    obtain ⟨i, hi, rfl⟩ := List.getElem_of_mem hx
    have := h i hi
    rw [List.getD_eq_getElem?_getD, List.getElem?_eq_getElem hi] at this
    exact Bool.eq_false_iff.mp (decide_eq_false (by simpa using this))
section
variable {P : Program} {w : World} {K : PySem.W.Frag} {mg : Str → Option Value} {base : Heap}
abbrev s_l_longer : Stmt := topS 22
abbrev N_l_longer : List Str := ["_law_rule_here", "_law_more", "_law_turns", "_law_table", "_law_period", "_law_rise", "_law_many", "_law_x"]
theorem sc_l_longer : FnScope N_l_longer ["_law_rule_here", "_law_more", "_law_turns"] (defScope s_l_longer) := ⟨rfl, rfl, rfl, by decide +kernel, rfl, by decide +kernel, by decide +kernel⟩
theorem ok_l_longer (T : Txt mg) (D : Df K mg "_law_longer" s_l_longer ["_law_rule_here", "_law_more", "_law_turns"]) (C_l_value : Cal P w K mg base "_law_value" ["_law_rule_here", "_law_x"] 1 (sp_l_value K)) : Cal P w K mg base "_law_longer" ["_law_rule_here", "_law_more", "_law_turns"] 2 (sp_l_longer K) := by
  obtain ⟨f_l_value, fd_l_value, G_l_value, m_l_value, k_l_value, b_l_value⟩ := C_l_value
  refine D.cal sc_l_longer (fun vs H Q E h => ?_) (fun f cdv A outer s H vs Q E hr h => ?_)
  · obtain ⟨d, T0, p, r, m, n, rfl, _⟩ := h
    rfl
  obtain ⟨d, T0, p, r, m, n, rfl, R, o, b, n1, big, k⟩ := h
  obtain ⟨t, hd, ht⟩ := id R
  have p0 := o.p0
  have p1 := o.p1
  have bl := b.len
  have ll := len_int T0
  refine ⟨_, (pss_cons (ps_asg (pv 0) (pg_tup (by rfl) (pgs_cons (pg_name (i := 3) sc_l_longer.nd rfl (Or.inl rfl)) (pgs_cons (pg_name (i := 4) sc_l_longer.nd rfl (Or.inl rfl)) (pgs_cons (pg_name (i := 5) sc_l_longer.nd rfl (Or.inl rfl)) pgs_nil)))))
    (pss_cons (ps_set (i := 6) sc_l_longer.nd rfl (Or.inl rfl) (pe_op op_add (pe_op op_add (pe_op op_sub (pe_callB call_len_seq (by rfl) T.n_len (by decide +kernel) (pa_cons (pv 3) pa_nil)) (pv 4)) (pv 1)) (pe_op op_mul (pv 2) (pv 4))))
    (pss_one (ps_ret (pe_tup (pa_cons (pe_callTy call_tuple_of (by rfl) T.n_tuple (by decide +kernel) (pa_cons (pe_lc (own := [("_law_x", 7)]) (g := gName 7) (tt := tYes) rfl sc_l_longer.nd (pi_range1 (by rfl) T.n_range (pa_cons (pv 6) pa_nil)) (blkOk_by (own := [("_law_x", 7)]) (N := N_l_longer) (sc := defScope s_l_longer) (by decide +kernel)) (fun _ _ _ _ _ => pg_name (i := 7) sc_l_longer.nd rfl (Or.inl rfl)) (fun _ _ _ _ _ => pts_nil) (fun _ _ _ _ _ => (pe_call G_l_value (hr.mono (by decide)) (by rfl) m_l_value k_l_value b_l_value .nil pass0 (pa_cons (pv 0) (pa_cons (pv 7) pa_nil))))) pa_nil)) (pa_cons (pe_op op_mul (pv 4) (pv 2)) (pa_cons (pe_op op_mul (pv 5) (pv 2)) pa_nil)))))))), ?_⟩
  refine ⟨_, rfl, _, _, rfl, SqT.of hd, rfl, _, _, rfl, _, _, rfl, _, _, rfl, rfl, ?_⟩
  refine ⟨_, rfl, _, _, rfl, .inr (SqT.of ht), _, rfl, _, _, rfl, rfl, _, rfl, _, _, rfl, rfl, _, rfl, _, rfl, _, _, rfl, rfl, .inr ⟨by omega, by omega⟩, _, _, rfl, rfl, ?_⟩
  have en : (((T0.map V.int).length : Nat) : Int) - (p : Int) + (m : Int) + (n : Int) * (p : Int) = ((T0.length - p + m + n * p : Nat) : Int) := by rw [ll, Int.natCast_add, Int.natCast_add, Int.natCast_sub p1, Int.natCast_mul]
  have z : ∀ B : Int → Prop, B ((T0.length - p + m + n * p : Nat) : Int) → B ((((T0.map V.int).length : Nat) : Int) - (p : Int) + (m : Int) + (n : Int) * (p : Int)) := fun B h => by rw [en]; exact h
  refine z (fun y => gName 6 (.int y) _ _ _) ?_
  clear z
  generalize eN : T0.length - p + m + n * p = N at big k ⊢
  refine ⟨_, rfl, _, rfl, by omega, by omega, fun U nU => ?_⟩
  have sU := same_upd (o := .lst []) nU
  rw [Int.toNat_natCast]
  refine lc_range (lo := 0) (n := N) (fun j H' => Same H H' ∧ H' U = some (.lst ((vals T0 p r j).map V.int))) ⟨sU, upd_same⟩ ?_ ?_
  · rintro j H' hj ⟨s', hU⟩
    refine ⟨rfl, ?_⟩
    unfold tYes
    refine iteT ?_
    refine ⟨_, rfl, _, rfl, d, T0, p, r, j, congrArg (fun z => [V.ref d, V.int z]) (Int.zero_add _), R.same s', o.w, b, _, hU, ?_, fun b o e => ?_, ?_⟩
    · rw [List.length_map, vals_len]
      exact Nat.lt_of_le_of_lt (show j ≤ 6000 by omega) (by decide)
    · rw [upd_ne (ne_of_none e nU)]
      exact s' _ _ e
    · rw [upd_same, vals_succ, List.map_append]
      rfl
  rintro H1 ⟨s1, hU⟩
  refine ⟨U, _, rfl, .inl ⟨SqL.of hU, fun t' nt => ?_⟩⟩
  have st := same_upd (o := .tup ((vals T0 p r N).map V.int)) nt
  refine ⟨_, rfl, _, rfl, _, _, rfl, rfl, .inl ⟨by omega, by omega⟩, _, rfl, _, rfl, _, _, rfl, rfl, .inr ⟨by omega, by omega⟩, (by show 3 ≤ sizeLine; decide), fun q nq => ?_⟩
  refine k _ q (s1.trans (st.trans (same_upd nq))) ⟨t', ?_, same_upd nq _ _ upd_same⟩
  rw [upd_same, Int.natCast_mul, Int.mul_comm (n : Int) (p : Int), Int.mul_comm (n : Int) r]
abbrev s_l_due : Stmt := topS 24
abbrev N_l_due : List Str := ["_law_table", "_law_period", "_law_rise", "_law_form", "_law_x", "_law_one_here"]
theorem sc_l_due : FnScope N_l_due ["_law_table", "_law_period", "_law_rise"] (defScope s_l_due) := ⟨rfl, rfl, rfl, by decide +kernel, rfl, by decide +kernel, by decide +kernel⟩
theorem ok_l_due (T : Txt mg) (D : Df K mg "_law_due" s_l_due ["_law_table", "_law_period", "_law_rise"]) (C_l_least : Cal P w K mg base "_law_least" ["_law_rule_here"] 3 (sp_l_least K)) (C_l_value : Cal P w K mg base "_law_value" ["_law_rule_here", "_law_x"] 1 (sp_l_value K)) : Cal P w K mg base "_law_due" ["_law_table", "_law_period", "_law_rise"] 4 (sp_l_due K) := by
  obtain ⟨f_l_least, fd_l_least, G_l_least, m_l_least, k_l_least, b_l_least⟩ := C_l_least
  obtain ⟨f_l_value, fd_l_value, G_l_value, m_l_value, k_l_value, b_l_value⟩ := C_l_value
  refine D.cal sc_l_due (fun vs H Q E h => ?_) (fun f cdv A outer s H vs Q E hr h => ?_)
  · obtain ⟨a, T0, p, r, rfl, _⟩ := h
    rfl
  obtain ⟨a, T0, p, r, rfl, hS, b, kf, ke, kr⟩ := h
  have bl := b.len
  have ll := len_int T0
  have lm : (T0.map V.int).length = T0.length := List.length_map ..
  refine ⟨_, (pss_cons (ps_if (PW.pt (pw_or (pt_cmpR (op_neD hr.units) (pe_lc (own := [("_law_one_here", 5)]) (g := gName 5) (tt := _) rfl sc_l_due.nd (pi_tup (pv 0)) (blkOk_by (own := [("_law_one_here", 5)]) (N := N_l_due) (sc := defScope s_l_due) (by decide +kernel)) (fun _ _ _ _ _ => pg_name (i := 5) sc_l_due.nd rfl (Or.inl rfl)) (fun _ _ _ _ _ => pts_one (pt_cmpR op_lt (pv 5) pe_int (nomark _))) (fun _ _ _ _ _ => (pv 5))) (pe_lst pa_nil) (nomark _)) (pw_or (pt_cmpR op_lt (pv 2) pe_int (nomark _)) (pw_or1 (pt_not (pt_chain op_le op_le pe_int (pv 1) (pe_callB call_len_seq (by rfl) T.n_len (by decide +kernel) (pa_cons (pv 0) pa_nil)))))))) (pss_one (ps_ret (pe_lst (pa_cons pe_str pa_nil)))) pss_nil)
    (pss_cons (ps_set (i := 3) sc_l_due.nd rfl (Or.inl rfl) (pe_tup (pa_cons (pe_callTy call_tupleT (by rfl) T.n_tuple (by decide +kernel) (pa_cons (pv 0) pa_nil)) (pa_cons (pv 1) (pa_cons (pv 2) pa_nil)))))
    (pss_cons (ps_for PassesOwn.never rfl (pi_range1 (by rfl) T.n_range (pa_cons (pe_callB call_len_seq (by rfl) T.n_len (by decide +kernel) (pa_cons (pv 0) pa_nil)) pa_nil)) (pg_name (i := 4) sc_l_due.nd rfl (Or.inl rfl))
      (pss_one (ps_if (pt_cmpR op_lt (pe_call G_l_value (hr.mono (by decide)) (by rfl) m_l_value k_l_value b_l_value .nil pass0 (pa_cons (pv 3) (pa_cons (pe_op op_add (pv 4) pe_int) pa_nil))) (pe_ix ix_tup (pv 0) (pv 4) (fun _ _ => rfl)) (nomark _)) (pss_one (ps_ret (pe_lst (pa_cons pe_str pa_nil)))) pss_nil)))
    (pss_one (ps_ret (pe_call G_l_least (hr.mono (by decide)) (by rfl) m_l_least k_l_least b_l_least .nil pass0 (pa_cons (pv 3) pa_nil))))))), ?_⟩
  refine ⟨_, rfl, a, rfl, ⟨_, SqT.of hS⟩, fun D nD => ?_⟩
  have sD := same_upd (o := .lst []) nD
  refine lc_tup (K := K) (a := a) (xs := T0.map V.int) (fun j H' => Same H H' ∧ H' D = some (.lst (((T0.take j).filter fun v => decide (v < 0)).map V.int))) ⟨sD, upd_same⟩ (fun j H' _ h => SqT.of (h.1 _ _ hS)) ?_ ?_
  · rintro j x H' hx ⟨s', hD⟩
    have hj : j < T0.length := by
      have := (List.getElem?_eq_some_iff.mp hx).1
      rw [lm] at this
      exact this
    have tk : T0.take (j + 1) = T0.take j ++ [T0.getD j 0] := by
      rw [List.take_add_one, List.getD_eq_getElem?_getD, List.getElem?_eq_getElem hj]
      rfl
    rw [get_int hj] at hx
    have hx := (Option.some.inj hx).symm
    subst hx
    refine ⟨rfl, ?_⟩
    refine ⟨_, rfl, _, _, rfl, rfl, _, rfl, ite3 (fun e => ?_) (fun e => ?_)⟩
    · refine ⟨_, rfl, _, hD, ?_, fun b o e => ?_, ?_⟩
      · rw [List.length_map]
        refine Nat.lt_of_le_of_lt (List.length_filter_le ..) ?_
        rw [List.length_take]
        exact Nat.lt_of_le_of_lt (show min j T0.length ≤ 6000 by omega) (by decide)
      · rw [upd_ne (ne_of_none e nD)]
        exact s' _ _ e
      · rw [upd_same, tk, List.filter_append, List.map_append, List.filter_cons_of_pos (by exact decide_eq_true e)]
        rfl
    · refine ⟨s', ?_⟩
      rw [tk, List.filter_append, List.filter_cons_of_neg (by rw [decide_eq_false e]; exact Bool.false_ne_true), List.filter_nil, List.append_nil]
      exact hD
  rintro H1 ⟨s1, hD⟩
  rw [lm, List.take_length] at hD
  refine ⟨Nat.zero_le _, fun Z nZ => ?_⟩
  have sZ := same_upd (o := .lst []) nZ
  refine ⟨dataI (T0.filter fun v => decide (v < 0)), .list [], .lst (SqL.of (sZ _ _ hD)) (dp_ints _), .lst (SqL.of upd_same) .nil, shaped_ints _, rfl, ?_⟩
  rw [ne_nil_ints]
  have s2 := s1.trans sZ
  generalize upd H1 Z (.lst []) = H2 at s2 ⊢
  have form : ¬ FormOk T0 p r → ∀ q, H2 q = none → Q (.ref q) (upd H2 q (.lst [.str "form"])) := fun F q nq => kf _ q (s2.trans (same_upd nq)) F upd_same
  have sz : 1 ≤ sizeLine := by decide
  have hS2 := s2 _ _ hS
  refine ⟨_, rfl, ite3 (fun e => ?_) (fun e => ?_)⟩
  · exact iteT ⟨sz, form fun F => e (no_neg.mpr F.2.2.2)⟩
  have nn := no_neg.mp (by simpa using e)
  refine ⟨_, rfl, _, _, rfl, rfl, _, rfl, ite3 (fun c3 => iteT ⟨sz, form fun F => by have := F.2.2.1; omega⟩) (fun c3 => ?_)⟩
  refine ⟨_, rfl, _, _, rfl, rfl, _, rfl, ite3 (fun c1 => ?_) (fun c1 => ⟨_, rfl, iteT ⟨sz, form fun F => c1 F.1⟩⟩)⟩
  refine ⟨_, rfl, _, _, rfl, .inr (SqT.of hS2), _, _, rfl, rfl, _, rfl, ite3n (fun c2 => ?_) (fun c2 => ⟨sz, form fun F => c2 (by rw [ll]; exact F.2.1)⟩)⟩
  rw [ll] at c2
  have F : FormOk T0 p r := ⟨c1, c2, by omega, nn⟩
  obtain ⟨q, rfl⟩ : ∃ q : Nat, p = (q : Int) := ⟨p.toNat, by omega⟩
  rw [Int.toNat_natCast] at kr ke b
  have w : RuleW T0 q r := ⟨by omega, by omega, by omega⟩
  refine ⟨_, rfl, a, _, rfl, SqT.of hS2, _, rfl, _, rfl, (by show 3 ≤ sizeLine; decide), fun d nd => ?_⟩
  have sd := same_upd (o := .tup [.ref a, .int (q : Int), .int r]) nd
  have R : RuleAt (upd H2 d (.tup [.ref a, .int (q : Int), .int r])) d T0 q r := ⟨a, upd_same, sd _ _ hS2⟩
  have hS3 := sd _ _ hS2
  have s3 := s2.trans sd
  generalize upd H2 d (.tup [.ref a, .int (q : Int), .int r]) = H3 at R hS3 s3 ⊢
  refine ⟨_, rfl, _, _, rfl, .inr (SqT.of hS3), _, rfl, (by rw [ll]; omega), (by rw [ll]; omega), for_range (lo := 0) (n := _) (fun i σ H' => ∃ v, σ = [some (.ref a), some (.int (q : Int)), some (.int r), some (.ref d), v, none] ∧ H' = H3 ∧ ∀ x, x < i → T0.getD x 0 ≤ vl T0 q r (x + 1)) ⟨none, rfl, rfl, fun x hx => absurd hx (Nat.not_lt_zero _)⟩ ?_ ?_⟩
  · rintro i σ H' hi ⟨v, rfl, rfl, hx⟩
    have hi : i < T0.length := by rw [ll] at hi; omega
    refine ⟨_, rfl, _, rfl, _, _, rfl, rfl, d, T0, q, r, i + 1, congrArg (fun z => [V.ref d, V.int z]) (show (0 : Int) + (i : Int) + 1 = ((i + 1 : Nat) : Int) by omega), R, w, b, _, rfl, _, rfl, _, _, _, _, rfl, rfl, SqT.of hS3, at_of (j := i) (Int.zero_add _) (get_int hi), _, _, rfl, rfl, _, rfl, ite3 (fun e => ?_) (fun e => ?_)⟩
    · refine ⟨sz, fun g ng => ke _ g (s3.trans (same_upd ng)) F (fun o => ?_) upd_same⟩
      have := o.up i
      rw [vl_lt hi] at this
      omega
    · refine ⟨_, rfl, rfl, fun x h => ?_⟩
      by_cases z : x = i
      · rw [z]
        omega
      · exact hx x (by omega)
  · rintro σ H' ⟨v, rfl, rfl, hx⟩
    rw [ll, Int.toNat_natCast] at hx
    have o := W_ok w nn hx
    exact ⟨_, rfl, d, T0, q, r, rfl, R, o, b, fun H4 d' T' p' r' s4 R' c sh hv => kr H4 d' T' p' r' (s3.trans s4) F o R' c sh hv⟩
end
end Sm

set_option Elab.async false
set_option linter.all false
set_option maxRecDepth 100000
set_option maxHeartbeats 16000000
namespace Sm
open PySem PySem.Spec PyProof.Rows L2
open C8 (pss_cut tCut)
theorem no_part {σ : L2.St} {H : Hp} {Q : Option Int → Hp → Prop} (h : Q none H) : tNoPart σ H Q := h
theorem pickI (L : List Int) {r : Int} (h0 : 0 ≤ r) (h1 : r < (L.length : Int)) : ∃ z ∈ L, (L.map V.int)[r.toNat]? = some (.int z) := by
  have q : r.toNat < L.length := by omega
  refine ⟨L[r.toNat], List.getElem_mem q, ?_⟩
  rw [List.getElem?_map, List.getElem?_eq_getElem q]
  rfl
def sp_l_spoilt (_ : PySem.W.Frag) : Sp := fun vs H Q _ => ∃ (p l d : Addr) (n : Int) (T : List Int) (pp : Nat) (r : Int), vs = [.ref p, .ref d] ∧ Deck H p l n ∧ 0 ≤ n ∧ n ≤ 900000 ∧ RuleAt H d T pp r ∧ 0 < T.length ∧ T.length ≤ 6000 ∧ 0 ≤ r ∧ r ≤ 1000000000000000000 ∧ (∀ i, i < T.length → T.getD i 0 ≤ 10000000000000000000) ∧
  ∀ H' q t' T' p' r' n', Fr p l H H' → Deck H' p l n' → n ≤ n' → n' ≤ n + 10 → H' q = some (.tup [.ref t', .int p', .int r']) → H' t' = some (.tup (T'.map V.int)) → RB T' p'.toNat r' → Q (.ref q) H'
theorem spoilt_rb {T : List Int} {a : Nat} {z r' p' : Int} (tl : T.length ≤ 6000) (ha : a < T.length) (top : ∀ i, i < T.length → T.getD i 0 ≤ 10000000000000000000) (hz : z ≤ 10000000000000000001) (hr : r' ≤ 1000000000000000000) : RB (T.take a ++ [z] ++ T.drop (a + 1)) p'.toNat r' := by
  refine ⟨?_, hr, fun i hi => ?_⟩
  · rw [List.length_append, List.length_append, List.length_take, List.length_drop, List.length_singleton]
    omega
  · have m : (T.take a ++ [z] ++ T.drop (a + 1)).getD i 0 ∈ T.take a ++ [z] ++ T.drop (a + 1) := by
      rw [List.getD_eq_getElem?_getD, List.getElem?_eq_getElem hi]
      exact List.getElem_mem hi
    have inT : ∀ x ∈ T, x ≤ 10000000000000000000 := fun x hx => by
      obtain ⟨j, hj, rfl⟩ := List.getElem_of_mem hx
      have := top j hj
      rw [List.getD_eq_getElem?_getD, List.getElem?_eq_getElem hj] at this
      exact this
    rcases List.mem_append.mp m with m | m
    · rcases List.mem_append.mp m with m | m
      · have := inT _ (List.mem_of_mem_take m)
        omega
      · rw [List.mem_singleton.mp m]
        omega
    · have := inT _ (List.mem_of_mem_drop m)
      omega
section
variable {P : Program} {w : World} {K : PySem.W.Frag} {mg : Str → Option Value} {base : Heap}
abbrev s_l_spoilt : Stmt := topS 25
abbrev N_l_spoilt : List Str := ["_law_deck_here", "_law_form", "_law_table", "_law_period", "_law_rise", "_law_at", "_law_way", "_law_other", "_law_periods", "_law_rises"]
theorem sc_l_spoilt : FnScope N_l_spoilt ["_law_deck_here", "_law_form"] (defScope s_l_spoilt) := ⟨rfl, rfl, rfl, by decide +kernel, rfl, by decide +kernel, by decide +kernel⟩
theorem ok_l_spoilt (T : Txt mg) (D : Df K mg "_law_spoilt" s_l_spoilt ["_law_deck_here", "_law_form"]) (C_l_draw : Cal P w K mg base "_law_draw" ["_law_deck_here", "_law_many"] 1 (sp_l_draw K)) : Cal P w K mg base "_law_spoilt" ["_law_deck_here", "_law_form"] 2 (sp_l_spoilt K) := by
  obtain ⟨f_l_draw, fd_l_draw, G_l_draw, m_l_draw, k_l_draw, b_l_draw⟩ := C_l_draw
  refine D.cal sc_l_spoilt (fun vs H Q E h => ?_) (fun f cdv A outer s H vs Q E hr h => ?_)
  · obtain ⟨p, l, d, n, T0, pp, r, rfl, _⟩ := h
    rfl
  obtain ⟨p, l, d, n, T0, pp, r, rfl, D0, n0, n1, R, t0, tl, r0, r1, top, k⟩ := h
  obtain ⟨t, hd, ht⟩ := id R
  have ll := len_int T0
  refine ⟨_, (pss_cons (ps_asg (pv 1) (pg_tup (by rfl) (pgs_cons (pg_name (i := 2) sc_l_spoilt.nd rfl (Or.inl rfl)) (pgs_cons (pg_name (i := 3) sc_l_spoilt.nd rfl (Or.inl rfl)) (pgs_cons (pg_name (i := 4) sc_l_spoilt.nd rfl (Or.inl rfl)) pgs_nil)))))
    (pss_cons (ps_par (i := 5) (j := 6) (by rfl) sc_l_spoilt.nd rfl rfl (by decide) rfl rfl (pa_cons (pe_call G_l_draw (hr.mono (by decide)) (by rfl) m_l_draw k_l_draw b_l_draw .nil pass0 (pa_cons (pv 0) (pa_cons (pe_callB call_len_seq (by rfl) T.n_len (by decide +kernel) (pa_cons (pv 2) pa_nil)) pa_nil))) (pa_cons (pe_call G_l_draw (hr.mono (by decide)) (by rfl) m_l_draw k_l_draw b_l_draw .nil pass0 (pa_cons (pv 0) (pa_cons pe_int pa_nil))) pa_nil)) (by rfl))
    (pss_cons (ps_if (pt_cmpR op_lt (pv 6) pe_int (nomark _)) (pss_cons (ps_set (i := 7) sc_l_spoilt.nd rfl (Or.inl rfl) (pe_ix ix_list (pe_lst (pa_cons (pe_un un_neg pe_int) (pa_cons (pe_op op_add (pe_ix ix_tup (pv 2) (pv 5) (fun _ _ => rfl)) pe_int) (pa_cons (pe_callB (call_max2 rfl) (by rfl) T.n_max (by decide +kernel) (pa_cons pe_int (pa_cons (pe_op op_sub (pe_ix ix_tup (pv 2) (pv 5) (fun _ _ => rfl)) pe_int) pa_nil))) pa_nil)))) (pv 6) (fun _ _ => rfl)))
    (pss_one (ps_ret (pe_tup (pa_cons (pe_op op_catA (pe_op op_catA (pe_slice sl_tupA (pv 2) po_none (po_some (pv 5))) (pe_tup (pa_cons (pv 7) pa_nil))) (pe_slice sl_tupA (pv 2) (po_some (pe_op op_add (pv 5) pe_int)) po_none)) (pa_cons (pv 3) (pa_cons (pv 4) pa_nil))))))) pss_nil)
    (pss_cons (ps_set (i := 8) sc_l_spoilt.nd rfl (Or.inl rfl) (pe_lst (pa_cons pe_int (pa_cons (pe_op op_add (pe_callB call_len_seq (by rfl) T.n_len (by decide +kernel) (pa_cons (pv 2) pa_nil)) pe_int) (pa_cons (pe_un un_neg (pv 3)) (pa_cons (pv 3) (pa_cons (pv 3) pa_nil)))))))
    (pss_cons (ps_set (i := 9) sc_l_spoilt.nd rfl (Or.inl rfl) (pe_lst (pa_cons (pv 4) (pa_cons (pv 4) (pa_cons (pv 4) (pa_cons (pe_un un_neg pe_int) (pa_cons (pe_callB (call_max2 rfl) (by rfl) T.n_max (by decide +kernel) (pa_cons pe_int (pa_cons (pe_op op_sub (pv 4) pe_int) pa_nil))) pa_nil)))))))
    (pss_one (ps_ret (pe_tup (pa_cons (pv 2) (pa_cons (pe_ix ix_list (pv 8) (pe_op op_sub (pv 6) pe_int) (fun _ _ => rfl)) (pa_cons (pe_ix ix_list (pv 9) (pe_op op_sub (pv 6) pe_int) (fun _ _ => rfl)) pa_nil))))))))))), ?_⟩
  refine ⟨_, rfl, _, _, rfl, SqT.of hd, rfl, _, _, rfl, _, _, rfl, _, _, rfl, rfl, ?_⟩
  refine ⟨_, rfl, _, rfl, _, _, rfl, .inr (SqT.of ht), p, l, n, _, rfl, D0, n0, by omega, by rw [ll]; omega, by rw [ll]; omega, fun ra H1 a0 a1 f1 D1 => ?_⟩
  refine ⟨_, rfl, p, l, n + 1, 8, rfl, D1, by omega, by omega, by omega, by omega, fun wy H2 w0 w1 f2 D2 => ?_⟩
  rw [ll] at a1
  have f12 := f1.trans f2
  have hd2 := f12.tup D0 hd
  have ht2 := f12.tup D0 ht
  refine ⟨_, _, rfl, ?_⟩
  refine ⟨_, rfl, _, _, rfl, rfl, _, rfl, ite3 (fun e => ?_) (fun e => ?_)⟩
  · have ga := get_int (T := T0) (i := ra.toNat) (by omega)
    have gt := top ra.toNat (by omega)
    refine ⟨_, rfl, _, rfl, _, rfl, _, _, _, _, rfl, rfl, SqT.of ht2, at_of (j := ra.toNat) (by omega) ga, _, _, rfl, rfl, ?_⟩
    refine ⟨_, rfl, _, rfl, _, _, _, _, rfl, rfl, SqT.of ht2, at_of (j := ra.toNat) (by omega) ga, _, _, rfl, rfl, _, _, rfl, (by show 3 ≤ sizeLine; decide), fun b nb => ?_⟩
    have sb := same_upd (o := .lst [.int (-1), .int (T0.getD ra.toNat 0 + 1), .int (if T0.getD ra.toNat 0 - 1 > 0 then T0.getD ra.toNat 0 - 1 else 0)]) nb
    obtain ⟨z, hz, gz⟩ := pickI [-1, T0.getD ra.toNat 0 + 1, if T0.getD ra.toNat 0 - 1 > 0 then T0.getD ra.toNat 0 - 1 else 0] w0 (by show wy < 3; omega)
    have zz : z ≤ 10000000000000000001 := by
      simp only [List.mem_cons, List.not_mem_nil, or_false] at hz
      rcases hz with rfl | rfl | rfl
      · decide
      · omega
      · split <;> omega
    refine ⟨_, rfl, _, _, _, _, rfl, rfl, SqL.of upd_same, at_of (j := wy.toNat) (by omega) gz, ?_⟩
    have ht3 := sb _ _ ht2
    have D3 := D2.same sb
    have f3 := f12.trans (Same.fr sb)
    generalize upd H2 b _ = H3 at ht3 D3 f3 ⊢
    have er : ra = ((ra.toNat : Nat) : Int) := by omega
    have er1 : ra + 1 = ((ra.toNat + 1 : Nat) : Int) := by omega
    have ln : (T0.take ra.toNat).length = ra.toNat := by rw [List.length_take]; omega
    have ln2 : (T0.drop (ra.toNat + 1)).length = T0.length - (ra.toNat + 1) := List.length_drop
    generalize ra.toNat = an at er er1 ln ln2 a0 a1
    have a2 : an < T0.length := by omega
    subst er
    refine ⟨_, rfl, _, rfl, _, rfl, sl_uni ht3 fun u1 H4 s4 hu1 => ?_⟩
    rw [cut_all, ← List.map_take] at hu1
    refine ⟨_, rfl, (by show 1 ≤ sizeLine; decide), fun u2 nu2 => ?_⟩
    have s5 := same_upd (o := .tup [.int z]) nu2
    refine cat_uni (s5 _ _ hu1) upd_same (by rw [List.length_map, ln]; exact Nat.le_trans (show an + 1 ≤ 6000 by omega) (by decide)) fun u3 H6 s6 hu3 => ?_
    refine ⟨_, rfl, _, rfl, _, _, rfl, rfl, _, rfl, no_part ?_⟩
    rw [er1]
    have s46 := s4.trans (s5.trans s6)
    refine sl_uni (s46 _ _ ht3) fun u4 H7 s7 hu4 => ?_
    rw [cut_from, ← List.map_drop] at hu4
    refine cat_uni (s7 _ _ hu3) hu4 (by rw [List.length_append, List.length_map, List.length_map, ln, ln2]; exact Nat.le_trans (show an + 1 + (T0.length - (an + 1)) ≤ 6000 by omega) (by decide)) fun u5 H8 s8 hu5 => ?_
    refine ⟨_, rfl, _, rfl, (by show 3 ≤ sizeLine; decide), fun q nq => ?_⟩
    have sq := same_upd (o := .tup [.ref u5, .int (pp : Int), .int r]) nq
    have sz := s46.trans (s7.trans (s8.trans sq))
    refine k _ q u5 (T0.take an ++ [z] ++ T0.drop (an + 1)) (pp : Int) r (n + 1 + 1) (f3.trans (Same.fr sz)) (D3.same sz) (by omega) (by omega) upd_same ?_ (spoilt_rb tl a2 top zz r1)
    rw [sq _ _ hu5, List.map_append, List.map_append]
    rfl
  · refine ⟨_, rfl, _, _, rfl, .inr (SqT.of ht2), _, _, rfl, rfl, _, rfl, _, rfl, _, rfl, _, rfl, (by show 5 ≤ sizeLine; decide), fun b nb => ?_⟩
    have sb := same_upd (o := .lst [.int 0, .int (((T0.map V.int).length : Nat) + 1), .int (-(pp : Int)), .int (pp : Int), .int (pp : Int)]) nb
    obtain ⟨z, hz, gz⟩ := pickI [0, (((T0.map V.int).length : Nat) : Int) + 1, -(pp : Int), (pp : Int), (pp : Int)] (r := wy - 3) (by omega) (by show wy - 3 < 5; omega)
    refine ⟨_, rfl, _, rfl, _, rfl, _, rfl, _, rfl, _, _, rfl, rfl, _, _, rfl, (by show 5 ≤ sizeLine; decide), fun b2 nb2 => ?_⟩
    have sb2 := same_upd (o := .lst [.int r, .int r, .int r, .int (-1), .int (if r - 1 > 0 then r - 1 else 0)]) nb2
    obtain ⟨z2, hz2, gz2⟩ := pickI [r, r, r, -1, if r - 1 > 0 then r - 1 else 0] (r := wy - 3) (by omega) (by show wy - 3 < 5; omega)
    have zz : z2 ≤ 1000000000000000000 := by
      simp only [List.mem_cons, List.not_mem_nil, or_false] at hz2
      rcases hz2 with rfl | rfl | rfl | rfl | rfl
      · omega
      · omega
      · omega
      · decide
      · split <;> omega
    refine ⟨_, rfl, _, rfl, _, rfl, _, _, rfl, rfl, _, _, _, _, rfl, rfl, SqL.of (sb2 _ _ upd_same), at_of (j := (wy - 3).toNat) (by omega) gz, _, rfl, _, rfl, _, _, rfl, rfl, _, _, _, _, rfl, rfl, SqL.of upd_same, at_of (j := (wy - 3).toNat) (by omega) gz2, (by show 3 ≤ sizeLine; decide), fun q nq => ?_⟩
    have sz := sb.trans (sb2.trans (same_upd (o := .tup [.ref t, .int z, .int z2]) nq))
    exact k _ q t T0 z z2 (n + 1 + 1) (f12.trans (Same.fr sz)) (D2.same sz) (by omega) (by omega) upd_same (sz _ _ ht2) ⟨tl, zz, fun i hi => by have := top i hi; omega⟩
end
end Sm

set_option Elab.async false
set_option linter.all false
set_option maxRecDepth 100000
set_option maxHeartbeats 16000000
namespace Sm
open PySem PySem.Spec PyProof.Rows L2
open C8 (pss_cut tCut)
/-! ### rules as data -/
def rD (T : List Int) (p : Nat) (r : Int) : PyData := .tuple [.tuple (T.map PyData.int), .int (p : Int), .int r]
theorem log_small {i : Int} (h0 : 0 ≤ i) (h1 : i ≤ 100000000000000000000) : i.natAbs.log2 < 1920 :=
  Nat.lt_of_lt_of_le (PySem.Flt.log2_lt_of (k := 310) (by decide) (by omega)) (by decide)
theorem RuleAt.dp {K : PySem.W.Frag} {H : Hp} {d : Addr} {T : List Int} {p : Nat} {r : Int} (R : RuleAt H d T p r) : Dp K H (.ref d) (rD T p r) := by
  obtain ⟨t, h1, h2⟩ := R
  exact .tup (SqT.of h1) (.cons (.tup (SqT.of h2) (dp_ints T)) (.cons (.int _) (.cons (.int _) .nil)))
theorem mem_getD {T : List Int} {n : Int} (h : n ∈ T) : ∃ i, i < T.length ∧ T.getD i 0 = n := by
  obtain ⟨i, hi, e⟩ := List.mem_iff_getElem.mp h
  exact ⟨i, hi, by rw [List.getD_eq_getElem?_getD, List.getElem?_eq_getElem hi, e]; rfl⟩
/-- data that can be shown, its length -/
structure ShwN (n : Nat) (d : PyData) : Prop where
  sh : PyData.showable d = true
  nd : PyData.hasDict d = false
  dep : d.depth ≤ 5
  len : d.shown.length ≤ n
theorem sm_ints {T : List Int} (nn : ∀ i, i < T.length → 0 ≤ T.getD i 0) (top : ∀ i, i < T.length → T.getD i 0 ≤ 100000000000000000000) : ∀ n ∈ T, n.natAbs.log2 < 1920 := fun n hn => by
  obtain ⟨i, hi, rfl⟩ := mem_getD hn
  exact log_small (nn i hi) (top i hi)
theorem rD_show {T : List Int} {p : Nat} {r : Int} (o : RuleOk T p r) (b : RB T p r) : ShwN (1930 * T.length + 10000) (rD T p r) := by
  have bl := b.len
  have p1 := o.p1
  have r0 := o.r0
  have r1 := b.r1
  have sm := sm_ints o.nn b.top
  have sp : (p : Int).natAbs.log2 < 1920 := log_small (by omega) (by omega)
  have sr : r.natAbs.log2 < 1920 := log_small r0 (by omega)
  have lp := PyProof.Rows.int_text_len_1921 sp
  have lr := PyProof.Rows.int_text_len_1921 sr
  have dep := depth_ints T
  obtain ⟨s1, s2⟩ := shown_ints sm
  have t1 := PySem.tupleText_len_le (PyData.shownAll (T.map PyData.int))
  refine ⟨?_, ?_, ?_, ?_⟩
  · unfold rD
    simp only [PyData.showable, PyData.showableAll, showable_ints sm, decide_eq_true sp, decide_eq_true sr, Bool.and_self]
  · unfold rD
    simp only [PyData.hasDict, PyData.hasDictAll, hasDict_ints, Bool.or_self]
  · unfold rD
    simp only [PyData.depth, PyData.depthAll]
    omega
  · unfold rD
    simp only [PyData.shown, PyData.shownAll]
    have t2 := PySem.tupleText_len_le [tupleText (PyData.shownAll (T.map PyData.int)), Str.ofString (toString (p : Int)), Str.ofString (toString r)]
    simp only [List.map_cons, List.map_nil, List.sum_cons, List.sum_nil, List.length_cons, List.length_nil] at t2
    omega
theorem two_show {n : Nat} {a : PyData} (ha : ShwN n a) (hn : 2 * n + 100 ≤ 16000000) : PyData.showable (.list [a, a]) = true ∧ PyData.hasDict (.list [a, a]) = false ∧ PyData.depth (.list [a, a]) ≤ 60 ∧ (PyData.shown (.list [a, a])).length ≤ sizeLine := by
  have d1 := ha.dep
  have l1 := ha.len
  refine ⟨?_, ?_, ?_, ?_⟩
  · simp only [PyData.showable, PyData.showableAll, ha.sh, Bool.and_self]
  · simp only [PyData.hasDict, PyData.hasDictAll, ha.nd, Bool.or_self]
  · simp only [PyData.depth, PyData.depthAll]
    omega
  · simp only [PyData.shown, PyData.shownAll]
    have t := listText_len_le [a.shown, a.shown]
    simp only [List.map_cons, List.map_nil, List.sum_cons, List.sum_nil, List.length_cons, List.length_nil] at t
    rw [sizeLine_eq]
    omega
theorem ShwN.up {n : Nat} {a : PyData} (ha : ShwN n a) (hn : n ≤ 16000000) : a.depth ≤ 60 ∧ a.shown.length ≤ sizeLine := by
  have d1 := ha.dep
  have l1 := ha.len
  rw [sizeLine_eq]
  omega
/-- a table's data: a list's or a tuple's -/
theorem SA.dp {K : PySem.W.Frag} {H : Hp} {a : Addr} {T : List Int} (h : SA H a (T.map V.int)) (nn : ∀ i, i < T.length → 0 ≤ T.getD i 0) (top : ∀ i, i < T.length → T.getD i 0 ≤ 100000000000000000000) :
    ∃ d, (∀ H', Same H H' → Dp K H' (.ref a) d) ∧ ShwN (1930 * T.length + 10000) d := by
  have sm := sm_ints nn top
  have dep := depth_ints T
  obtain ⟨s1, s2⟩ := shown_ints sm
  rcases h with h | h
  · refine ⟨.list (T.map PyData.int), fun H' s => .lst (SqL.of (s _ _ h)) (dp_ints T), ?_, ?_, ?_, ?_⟩
    · simp only [PyData.showable, showable_ints sm]
    · simp only [PyData.hasDict, hasDict_ints]
    · simp only [PyData.depth]
      omega
    · have := listText_len_le (PyData.shownAll (T.map PyData.int))
      simp only [PyData.shown]
      omega
  · refine ⟨.tuple (T.map PyData.int), fun H' s => .tup (SqT.of (s _ _ h)) (dp_ints T), ?_, ?_, ?_, ?_⟩
    · simp only [PyData.showable, showable_ints sm]
    · simp only [PyData.hasDict, hasDict_ints]
    · simp only [PyData.depth]
      omega
    · have := PySem.tupleText_len_le (PyData.shownAll (T.map PyData.int))
      simp only [PyData.shown]
      omega
theorem form_show : ShwN 1000 (.list [.str "form"]) := ⟨by rfl, by rfl, by decide, by decide +kernel⟩
theorem falls_show : ShwN 1000 (.list [.str "falls"]) := ⟨by rfl, by rfl, by decide, by decide +kernel⟩
/-! ### equal rules -/
theorem rD_eqv (T : List Int) (p : Nat) (r : Int) : PyData.eqv (rD T p r) (rD T p r) = true := by
  unfold rD
  simp [PyData.eqv, PyData.eqvAll, ints_eqvAll]
theorem rD_shaped (T : List Int) (p : Nat) (r : Int) : SeqAt.shaped (rD T p r) = true := by
  have d := depth_ints T
  have e : (rD T p r).depth ≤ 64 := by
    unfold rD
    simp only [PyData.depth, PyData.depthAll]
    omega
  have l : (rD T p r).canLay0 = true := by
    unfold rD
    simp only [PyData.canLay0, PyData.canLayAll0, lay_ints, Bool.and_self]
  unfold SeqAt.shaped
  rw [l, decide_eq_true e]
  rfl
/-! ### two written rules -/
theorem rep_short {n : Nat} (h : 0 < n) : Short (List.replicate n 0) n 1 := by
  have o : RuleOk (List.replicate n 0) n 1 := zero_ok h (by decide)
  have ln : (List.replicate n (0 : Int)).length = n := List.length_replicate
  refine ⟨o, fun s c s0 s1 _ rep => ?_, .inl ln.symm⟩
  have a := rep 0 (by omega) (by omega)
  have b := rep (n - s) (by omega) (by omega)
  rw [vl_lt (by omega), getD_rep (by omega), getD_rep (by omega)] at a
  rw [show n - s + s = n by omega, vl_step h (by omega) (by omega), Nat.sub_self, vl_lt (by omega), getD_rep (by omega), getD_rep (by omega)] at b
  omega
theorem one_short {c : Int} (h : 0 ≤ c) : Short [c] 1 0 := by
  refine ⟨one_ok h (by decide), fun s c h1 h2 => by omega, .inl rfl⟩
theorem level_ok {n p : Nat} {c : Int} (h : 0 < p) (hp : p ≤ n) (h0 : 0 ≤ c) : RuleOk (List.replicate n c) p 0 := by
  have ln : (List.replicate n c).length = n := List.length_replicate
  refine ⟨h, by omega, by decide, fun i hi => ?_, fun i hi => ?_, ?_⟩
  · rw [getD_rep (by omega)]
    exact h0
  · rw [getD_rep (by omega), getD_rep (by omega)]
    exact Int.le_refl _
  · rw [getD_rep (by omega), getD_rep (by omega)]
    omega
theorem level_vl {n p : Nat} {c : Int} (h : 0 < p) (hp : p ≤ n) : ∀ x, vl (List.replicate n c) p 0 x = c := by
  have ln : (List.replicate n c).length = n := List.length_replicate
  intro x
  induction x using Nat.strongRecOn with
  | _ x ih =>
    by_cases q : x < n
    · rw [vl_lt (by omega), getD_rep q]
    · rw [vl_step h (by omega) (by omega), ih (x - p) (by omega)]
      omega
end Sm

set_option Elab.async false
set_option linter.all false
set_option maxRecDepth 100000
set_option maxHeartbeats 32000000
namespace Sm
open PySem PySem.Spec PyProof.Rows L2
def sp_law (K : PySem.W.Frag) : Sp := fun vs H Q _ => ∃ (a : Addr) (ns : List Int), vs = [.ref a] ∧ SqL K H a (ns.map V.int) ∧ ns.length ≤ 63 ∧ ∀ H', Q (.bl true) H'
def sp_canonical (_ : PySem.W.Frag) : Sp := fun vs H Q _ => ∃ (a : Addr) (T : List Int) (p : Nat) (r : Int), vs = [.ref a, .int (p : Int), .int r] ∧ SA H a (T.map V.int) ∧ RuleOk T p r ∧ RB T p r ∧
  ∀ H' e T' p' r', Same H H' → RuleAt H' e T' p' r' → Cut T p r T' p' r' → Short T' p' r' → (∀ x, vl T' p' r' x = vl T p r x) → Q (.ref e) H'
theorem form_of {T : List Int} {p : Nat} {r : Int} (o : RuleOk T p r) : FormOk T (p : Int) r := ⟨by have := o.p0; omega, by have := o.p1; omega, o.r0, o.nn⟩
theorem ok_canonical0 {P : Program} {w : World} {K : PySem.W.Frag} {mg : Str → Option Value} {base : Heap} {cBadRule : Addr} (C : CalX P w K mg base "canonical" ["table", "period", "rise"] 4 (sp_canonicalX cBadRule)) : Cal P w K mg base "canonical" ["table", "period", "rise"] 4 (sp_canonical K) := by
  obtain ⟨f, fd, F, m, kp, b⟩ := C
  refine ⟨f, fd, ⟨fun vs H Q E h => ?_, fun A outer s H args us vs Q E hr e0 hb hv h => ?_⟩, m, kp, b⟩
  · obtain ⟨a, T, p, r, rfl, _⟩ := h
    rfl
  obtain ⟨a, T, p, r, rfl, hA, o, rb, k⟩ := h
  refine codeAny_mono (F.run A outer s H args us _ Q E0 hr e0 hb hv ⟨a, T, (p : Int), r, rfl, hA, rb.len, fun _ => rb, fun H' d _ nf _ => (nf (form_of o)).elim, fun H' d _ _ no _ => (no o).elim, fun H' e T' p' r' s' _ _ R c sh hv => k H' e T' p' r' s' R c sh hv⟩) ?_
  rintro (e | fl) s' got
  · obtain ⟨_, _, _, _, _, _, _, _, _, _, _, _, hE⟩ := got
    exact hE.elim
  · match fl, got with
    | .next, got => exact got.elim
    | .brk, got => exact got.elim
    | .cont, got => exact got.elim
    | .ret u, got => exact got
/-- a form of the rule with the values of T0 -/
structure RF (T : List Int) (p : Nat) (r : Int) : Prop where
  ok : RuleOk T p r
  len : T.length ≤ 6000
  r1 : r ≤ 1000000000000000000
  top : ∀ i, i < T.length → T.getD i 0 ≤ 10000000000000000000
theorem RF.rb {T : List Int} {p : Nat} {r : Int} (f : RF T p r) : RB T p r := ⟨f.len, f.r1, fun i hi => by have := f.top i hi; omega⟩
theorem RS.rf {T : List Int} {p : Nat} {r : Int} (b : RS 10000000000000 T p r) (o : RuleOk T p r) : RF T p r := ⟨o, by have := b.len; omega, by have := b.r1; omega, fun i hi => by have := b.top i hi; omega⟩
theorem RS.longer {T : List Int} {p : Nat} {r : Int} (b : RS 10000000000000 T p r) (o : RuleOk T p r) {n N : Nat} (hn : 0 < n) (hn2 : n ≤ 6000) (hN : T.length - p + n * p ≤ N) (big : N ≤ 6000) : RF (vals T p r N) (n * p) ((n : Int) * r) := by
  refine ⟨longer_ok o hn hN, by rw [vals_len]; exact big, ?_, fun i hi => ?_⟩
  · have h1 := b.r1
    have h0 := o.r0
    have h2 : (n : Int) * r ≤ (n : Int) * 10000000000000 := Int.mul_le_mul_of_nonneg_left h1 (by omega)
    omega
  · rw [vals_len] at hi
    rw [vals_getD hi]
    have h1 := RS.vl o b (by decide) i
    have h2 : (10000000000000 : Int) * ((i : Int) + 1) ≤ 10000000000000 * 6001 := Int.mul_le_mul_of_nonneg_left (by omega) (by decide)
    omega
def FK (T0 : List Int) (p0 : Nat) (r0 : Int) (H : Hp) (d : Addr) : Prop := ∃ (T : List Int) (p : Nat) (r : Int), RuleAt H d T p r ∧ RF T p r ∧ ∀ x, vl T p r x = vl T0 p0 r0 x
theorem FK.fr {T0 : List Int} {p0 : Nat} {r0 : Int} {H H' : Hp} {d a l : Addr} {n : Int} (h : FK T0 p0 r0 H d) (f : Fr a l H H') (D : Deck H a l n) : FK T0 p0 r0 H' d := by
  obtain ⟨T, p, r, R, q⟩ := h
  exact ⟨T, p, r, R.fr f D, q⟩
theorem sizes6 {H : Hp} {t1 t2 t3 t4 t5 t6 : Addr} {i : Nat} (hi : i < 6) (h1 : H t1 = some (.tup [.int 4, .int 4, .int 2])) (h2 : H t2 = some (.tup [.int 0, .int 12, .int 3])) (h3 : H t3 = some (.tup [.int 20, .int 6, .int (10 ^ 9)]))
    (h4 : H t4 = some (.tup [.int 8, .int 30, .int 1])) (h5 : H t5 = some (.tup [.int 160, .int 30, .int (10 ^ 9)])) (h6 : H t6 = some (.tup [.int 2, .int 3, .int 1])) :
    ∃ (tv : Addr) (lo wi ta : Int), [V.ref t1, V.ref t2, V.ref t3, V.ref t4, V.ref t5, V.ref t6][i]? = some (.ref tv) ∧ H tv = some (.tup [.int lo, .int wi, .int ta]) ∧ 0 ≤ lo ∧ lo ≤ 200 ∧ 1 ≤ wi ∧ wi ≤ 40 ∧ 0 ≤ ta ∧ ta ≤ 1000000000 := by
  obtain rfl | rfl | rfl | rfl | rfl | rfl : i = 0 ∨ i = 1 ∨ i = 2 ∨ i = 3 ∨ i = 4 ∨ i = 5 := by omega
  · exact ⟨t1, 4, 4, 2, rfl, h1, by decide, by decide, by decide, by decide, by decide, by decide⟩
  · exact ⟨t2, 0, 12, 3, rfl, h2, by decide, by decide, by decide, by decide, by decide, by decide⟩
  · exact ⟨t3, 20, 6, 10 ^ 9, rfl, h3, by decide, by decide, by decide, by decide, by decide, by decide⟩
  · exact ⟨t4, 8, 30, 1, rfl, h4, by decide, by decide, by decide, by decide, by decide, by decide⟩
  · exact ⟨t5, 160, 30, 10 ^ 9, rfl, h5, by decide, by decide, by decide, by decide, by decide, by decide⟩
  · exact ⟨t6, 2, 3, 1, rfl, h6, by decide, by decide, by decide, by decide, by decide, by decide⟩
end Sm

set_option Elab.async false
set_option linter.all false
set_option maxRecDepth 100000
set_option maxHeartbeats 32000000
namespace Sm
open PySem PySem.Spec PyProof.Rows L2
theorem rep_list {n : Nat} {c : Int} : (List.replicate n [V.int c]).flatten = (List.replicate n c).map V.int := by rw [flat_one, rep_int]
theorem rep_rb {n p : Nat} {c r : Int} (h : n ≤ 6000) (hr : r ≤ 1000000000000000000) (hc : c ≤ 100000000000000000000) : RB (List.replicate n c) p r := by
  have ln : (List.replicate n c).length = n := List.length_replicate
  exact ⟨by omega, hr, fun i hi => by rw [getD_rep (by omega)]; exact hc⟩
section
variable {P : Program} {w : World} {K : PySem.W.Frag} {mg : Str → Option Value} {base : Heap}
abbrev s_law : Stmt := topS 26
abbrev N_law : List Str := ["_law_script", "_law_deck_here", "_law_turn", "_law_long", "_law_wide", "_law_tall", "_law_rule_here", "_law_forms", "_law_form", "_law_table", "_law_shown", "_law_told", "_law_again", "_law_period", "_law_rise", "_law_great"]
theorem sc_law : FnScope N_law ["_law_script"] (defScope s_law) := ⟨rfl, rfl, rfl, by decide +kernel, rfl, by decide +kernel, by decide +kernel⟩
theorem ok_lawG {f : Addr} {fd : FuncData} (T : Txt mg) (F : Fun K "law" "law" s_law f fd) (C_canonical : Cal P w K mg base "canonical" ["table", "period", "rise"] 4 (sp_canonical K)) (C_l_longer : Cal P w K mg base "_law_longer" ["_law_rule_here", "_law_more", "_law_turns"] 2 (sp_l_longer K)) (C_l_rule : Cal P w K mg base "_law_rule" ["_law_deck_here", "_law_long", "_law_wide", "_law_tall"] 4 (sp_l_rule K)) (C_l_tried : Cal P w K mg base "_law_tried" ["_law_table", "_law_period", "_law_rise"] 5 (sp_l_tried K)) (C_l_due : Cal P w K mg base "_law_due" ["_law_table", "_law_period", "_law_rise"] 4 (sp_l_due K)) (C_l_spoilt : Cal P w K mg base "_law_spoilt" ["_law_deck_here", "_law_form"] 2 (sp_l_spoilt K)) (C_l_draw : Cal P w K mg base "_law_draw" ["_law_deck_here", "_law_many"] 1 (sp_l_draw K)) (C_l_deck : Cal P w K mg base "_law_deck" ["_law_script"] 1 (sp_l_deck K)) : FnG P w K mg base 6 f fd ["_law_script"] (sp_law K) := by
  obtain ⟨f_canonical, fd_canonical, G_canonical, m_canonical, k_canonical, b_canonical⟩ := C_canonical
  obtain ⟨f_l_longer, fd_l_longer, G_l_longer, m_l_longer, k_l_longer, b_l_longer⟩ := C_l_longer
  obtain ⟨f_l_rule, fd_l_rule, G_l_rule, m_l_rule, k_l_rule, b_l_rule⟩ := C_l_rule
  obtain ⟨f_l_tried, fd_l_tried, G_l_tried, m_l_tried, k_l_tried, b_l_tried⟩ := C_l_tried
  obtain ⟨f_l_due, fd_l_due, G_l_due, m_l_due, k_l_due, b_l_due⟩ := C_l_due
  obtain ⟨f_l_spoilt, fd_l_spoilt, G_l_spoilt, m_l_spoilt, k_l_spoilt, b_l_spoilt⟩ := C_l_spoilt
  obtain ⟨f_l_draw, fd_l_draw, G_l_draw, m_l_draw, k_l_draw, b_l_draw⟩ := C_l_draw
  obtain ⟨f_l_deck, fd_l_deck, G_l_deck, m_l_deck, k_l_deck, b_l_deck⟩ := C_l_deck
  refine FnG.body F sc_law (fun vs H Q E h => ?_) (fun cdv A outer s H vs Q E gu hr h => ?_)
  · obtain ⟨a, ns, rfl, _⟩ := h
    rfl
  obtain ⟨a, ns, rfl, hS, hlen, kk⟩ := h
  refine ⟨_, (pss_cons (ps_set (i := 1) sc_law.nd rfl (Or.inl rfl) (pe_call G_l_deck (hr.mono (by decide)) (by rfl) m_l_deck k_l_deck b_l_deck .nil pass0 (pa_cons (pv 0) pa_nil)))
    (pss_cons (ps_for PassesOwn.never rfl (pi_range1 (by rfl) T.n_range (pa_cons pe_int pa_nil)) (pg_name (i := 2) sc_law.nd rfl (Or.inl rfl))
      (pss_cons (ps_asg (pe_ix ix_list (pe_lst (pa_cons (pe_tup (pa_cons pe_int (pa_cons pe_int (pa_cons pe_int pa_nil)))) (pa_cons (pe_tup (pa_cons pe_int (pa_cons pe_int (pa_cons pe_int pa_nil)))) (pa_cons (pe_tup (pa_cons pe_int (pa_cons pe_int (pa_cons (pe_op op_pow pe_int pe_int) pa_nil)))) (pa_cons (pe_tup (pa_cons pe_int (pa_cons pe_int (pa_cons pe_int pa_nil)))) (pa_cons (pe_tup (pa_cons pe_int (pa_cons pe_int (pa_cons (pe_op op_pow pe_int pe_int) pa_nil)))) (pa_cons (pe_tup (pa_cons pe_int (pa_cons pe_int (pa_cons pe_int pa_nil)))) pa_nil))))))) (pv 2) (fun _ _ => rfl)) (pg_tup (by rfl) (pgs_cons (pg_name (i := 3) sc_law.nd rfl (Or.inl rfl)) (pgs_cons (pg_name (i := 4) sc_law.nd rfl (Or.inl rfl)) (pgs_cons (pg_name (i := 5) sc_law.nd rfl (Or.inl rfl)) pgs_nil)))))
    (pss_cons (ps_set (i := 6) sc_law.nd rfl (Or.inl rfl) (pe_call G_l_rule (hr.mono (by decide)) (by rfl) m_l_rule k_l_rule b_l_rule .nil pass0 (pa_cons (pv 1) (pa_cons (pv 3) (pa_cons (pv 4) (pa_cons (pv 5) pa_nil))))))
    (pss_cons (ps_set (i := 7) sc_law.nd rfl (Or.inl rfl) (pe_lst (pa_cons (pv 6) (pa_cons (pe_call G_l_longer (hr.mono (by decide)) (by rfl) m_l_longer k_l_longer b_l_longer .nil pass0 (pa_cons (pv 6) (pa_cons (pe_call G_l_draw (hr.mono (by decide)) (by rfl) m_l_draw k_l_draw b_l_draw .nil pass0 (pa_cons (pv 1) (pa_cons pe_int pa_nil))) (pa_cons (pe_op op_add pe_int (pe_call G_l_draw (hr.mono (by decide)) (by rfl) m_l_draw k_l_draw b_l_draw .nil pass0 (pa_cons (pv 1) (pa_cons pe_int pa_nil)))) pa_nil)))) (pa_cons (pe_call G_l_longer (hr.mono (by decide)) (by rfl) m_l_longer k_l_longer b_l_longer .nil pass0 (pa_cons (pv 6) (pa_cons pe_int (pa_cons pe_int pa_nil)))) pa_nil)))))
    (pss_one (ps_for PassesOwn.never rfl (pi_list (pv 7)) (pg_name (i := 8) sc_law.nd rfl (Or.inr rfl))
      (pss_cons (ps_for PassesOwn.never rfl (pi_list (pe_lst (pa_cons (pe_callTy call_list_of (by rfl) T.n_list (by decide +kernel) (pa_cons (pe_ix ix_tup (pv 8) pe_int (fun _ _ => rfl)) pa_nil)) (pa_cons (pe_ix ix_tup (pv 8) pe_int (fun _ _ => rfl)) pa_nil)))) (pg_name (i := 9) sc_law.nd rfl (Or.inr rfl))
      (pss_cons (ps_set (i := 10) sc_law.nd rfl (Or.inl rfl) (pe_callB (call_repr_data gu ⟨_, hr⟩) (by rfl) T.n_repr (by decide +kernel) (pa_cons (pv 9) pa_nil)))
    (pss_cons (ps_setLc (i := 11) (own := [("_law_again", 12)]) (g := gName 12) (tt := tYes) rfl sc_law.nd rfl rfl (sw_true rfl rfl rfl (by decide +kernel)) (pi_range1 (by rfl) T.n_range (pa_cons pe_int pa_nil)) (blkOk_by (own := [("_law_again", 12)]) (N := N_law) (sc := defScope s_law) (by decide +kernel)) (fun _ _ _ _ _ => pg_name (i := 12) sc_law.nd rfl (Or.inl rfl)) (fun _ _ _ _ _ => pts_nil) (fun _ _ _ _ _ => (pe_call G_l_tried (hr.mono (by decide)) (by rfl) m_l_tried k_l_tried b_l_tried .nil pass0 (pa_cons (pv 9) (pa_cons (pe_ix (show IxR _ (rIxT K) from ix_tup) (pv 8) pe_int (fun _ _ => rfl)) (pa_cons (pe_ix (show IxR _ (rIxT K) from ix_tup) (pv 8) pe_int (fun _ _ => rfl)) pa_nil))))))
    (pss_one (ps_if (PW.pt (pw_or (pt_cmpR op_ne (pe_callB (call_repr_data gu ⟨_, hr⟩) (by rfl) T.n_repr (by decide +kernel) (pa_cons (pv 11) pa_nil)) (pe_callB (call_repr_data gu ⟨_, hr⟩) (by rfl) T.n_repr (by decide +kernel) (pa_cons (pe_lst (pa_cons (pv 6) (pa_cons (pv 6) pa_nil))) pa_nil)) (nomark _)) (pw_or1 (pt_cmpR op_ne (pe_callB (call_repr_data gu ⟨_, hr⟩) (by rfl) T.n_repr (by decide +kernel) (pa_cons (pv 9) pa_nil)) (pv 10) (nomark _))))) (pss_one (ps_ret pe_bl)) pss_nil)))))
    (pss_one (ps_for PassesOwn.never rfl (pi_range1 (by rfl) T.n_range (pa_cons pe_int pa_nil)) (pg_name (i := 12) sc_law.nd rfl (Or.inl rfl))
      (pss_cons (ps_asg (pe_call G_l_spoilt (hr.mono (by decide)) (by rfl) m_l_spoilt k_l_spoilt b_l_spoilt .nil pass0 (pa_cons (pv 1) (pa_cons (pv 8) pa_nil))) (pg_tup (by rfl) (pgs_cons (pg_name (i := 9) sc_law.nd rfl (Or.inr rfl)) (pgs_cons (pg_name (i := 13) sc_law.nd rfl (Or.inl rfl)) (pgs_cons (pg_name (i := 14) sc_law.nd rfl (Or.inl rfl)) pgs_nil)))))
    (pss_one (ps_if (pt_cmpR op_ne (pe_callB (call_repr_data gu ⟨_, hr⟩) (by rfl) T.n_repr (by decide +kernel) (pa_cons (pe_call G_l_tried (hr.mono (by decide)) (by rfl) m_l_tried k_l_tried b_l_tried .nil pass0 (pa_cons (pv 9) (pa_cons (pv 13) (pa_cons (pv 14) pa_nil)))) pa_nil)) (pe_callB (call_repr_data gu ⟨_, hr⟩) (by rfl) T.n_repr (by decide +kernel) (pa_cons (pe_call G_l_due (hr.mono (by decide)) (by rfl) m_l_due k_l_due b_l_due .nil pass0 (pa_cons (pv 9) (pa_cons (pv 13) (pa_cons (pv 14) pa_nil)))) pa_nil)) (nomark _)) (pss_one (ps_ret pe_bl)) pss_nil))))))))))))
    (pss_cons (ps_set (i := 6) sc_law.nd rfl (Or.inl rfl) (pe_call G_l_rule (hr.mono (by decide)) (by rfl) m_l_rule k_l_rule b_l_rule .nil pass0 (pa_cons (pv 1) (pa_cons pe_int (pa_cons pe_int (pa_cons pe_int pa_nil))))))
    (pss_cons (ps_set (i := 15) sc_law.nd rfl (Or.inl rfl) (pe_call G_l_longer (hr.mono (by decide)) (by rfl) m_l_longer k_l_longer b_l_longer .nil pass0 (pa_cons (pv 6) (pa_cons (pe_op op_modN pe_int (pe_ix ix_tup (pv 6) pe_int (fun _ _ => rfl))) (pa_cons (pe_op op_fdivW pe_int (pe_ix ix_tup (pv 6) pe_int (fun _ _ => rfl))) pa_nil)))))
    (pss_cons (ps_if (pt_cmpR (op_neD hr.units) (pe_call G_canonical (hr.mono (by decide)) (by rfl) m_canonical k_canonical b_canonical .nil pass0 (pa_cons (pe_callTy call_list_of (by rfl) T.n_list (by decide +kernel) (pa_cons (pe_ix ix_tup (pv 15) pe_int (fun _ _ => rfl)) pa_nil)) (pa_cons (pe_ix ix_tup (pv 15) pe_int (fun _ _ => rfl)) (pa_cons (pe_ix ix_tup (pv 15) pe_int (fun _ _ => rfl)) pa_nil)))) (pv 6) (nomark _)) (pss_one (ps_ret pe_bl)) pss_nil)
    (pss_one (ps_ret (pe_and (pe_cmpR (op_eqD hr.units) (pe_call G_canonical (hr.mono (by decide)) (by rfl) m_canonical k_canonical b_canonical .nil pass0 (pa_cons (pe_op op_rep (pe_lst (pa_cons pe_int pa_nil)) pe_int) (pa_cons pe_int (pa_cons pe_int pa_nil)))) (pe_tup (pa_cons (pe_op op_oneT (pe_tup (pa_cons pe_int pa_nil)) pe_int) (pa_cons pe_int (pa_cons pe_int pa_nil)))) (nomark _)) (pe_one (pe_cmpR (op_eqD hr.units) (pe_call G_canonical (hr.mono (by decide)) (by rfl) m_canonical k_canonical b_canonical .nil pass0 (pa_cons (pe_op op_rep (pe_lst (pa_cons pe_int pa_nil)) pe_int) (pa_cons pe_int (pa_cons pe_int pa_nil)))) (pe_tup (pa_cons (pe_tup (pa_cons pe_int pa_nil)) (pa_cons pe_int (pa_cons pe_int pa_nil)))) (nomark _))))))))))), ?_⟩
  refine ⟨_, rfl, a, ns, rfl, hS, hlen, fun H1 p l s1 D1 => ?_⟩
  refine ⟨6, rfl, (by decide), (by decide), for_range (lo := 0) (n := 6) (fun i σ H' => ∃ (n : Int) (v2 v3 v4 v5 v6 v7 v8 v9 v10 v11 v12 v13 v14 : Option V), σ = [some (.ref a), some (.ref p), v2, v3, v4, v5, v6, v7, v8, v9, v10, v11, v12, v13, v14, none] ∧ Deck H' p l n ∧ 0 ≤ n ∧ n ≤ 6000 * (i : Int))
    ⟨0, none, none, none, none, none, none, none, none, none, none, none, none, none, rfl, D1, by omega, by omega⟩ ?_ ?_⟩
  · rintro i σ H2 hi ⟨n, v2, v3, v4, v5, v6, v7, v8, v9, v10, v11, v12, v13, v14, rfl, D2, n0, n1⟩
    refine ⟨(by show 3 ≤ sizeLine; decide), fun t1 nt1 => ⟨(by show 3 ≤ sizeLine; decide), fun t2 nt2 => ⟨_, _, rfl, rfl, ⟨by decide, by decide, by decide⟩, (by show 3 ≤ sizeLine; decide), fun t3 nt3 => ⟨(by show 3 ≤ sizeLine; decide), fun t4 nt4 =>
      ⟨_, _, rfl, rfl, ⟨by decide, by decide, by decide⟩, (by show 3 ≤ sizeLine; decide), fun t5 nt5 => ⟨(by show 3 ≤ sizeLine; decide), fun t6 nt6 => ⟨(by show 6 ≤ sizeLine; decide), fun tb ntb => ?_⟩⟩⟩⟩⟩⟩⟩
    have u1 := same_upd (o := .tup [.int 4, .int 4, .int 2]) nt1
    have u2 := same_upd (o := .tup [.int 0, .int 12, .int 3]) nt2
    have u3 := same_upd (o := .tup [.int 20, .int 6, .int (10 ^ 9)]) nt3
    have u4 := same_upd (o := .tup [.int 8, .int 30, .int 1]) nt4
    have u5 := same_upd (o := .tup [.int 160, .int 30, .int (10 ^ 9)]) nt5
    have u6 := same_upd (o := .tup [.int 2, .int 3, .int 1]) nt6
    have ub := same_upd (o := .lst [.ref t1, .ref t2, .ref t3, .ref t4, .ref t5, .ref t6]) ntb
    obtain ⟨tv, lo, wi, ta, hget, htv, lo0, lo1, wi0, wi1, ta0, ta1⟩ := sizes6 hi ((u2.trans (u3.trans (u4.trans (u5.trans (u6.trans ub))))) _ _ upd_same) ((u3.trans (u4.trans (u5.trans (u6.trans ub)))) _ _ upd_same) ((u4.trans (u5.trans (u6.trans ub))) _ _ upd_same) ((u5.trans (u6.trans ub)) _ _ upd_same) ((u6.trans ub) _ _ upd_same) (ub _ _ upd_same)
    have sA := u1.trans (u2.trans (u3.trans (u4.trans (u5.trans (u6.trans ub)))))
    have DA := D2.same sA
    refine ⟨_, rfl, _, _, _, _, rfl, rfl, SqL.of upd_same, at_of (j := i) (Int.zero_add _) hget, _, _, rfl, SqT.of htv, rfl, _, _, rfl, _, _, rfl, _, _, rfl, rfl, ?_⟩
    generalize upd (upd (upd (upd (upd (upd (upd H2 t1 _) t2 _) t3 _) t4 _) t5 _) t6 _) tb _ = HA at sA DA htv ⊢
    clear u1 u2 u3 u4 u5 u6 ub nt1 nt2 nt3 nt4 nt5 nt6 ntb
    -- the rule
    refine ⟨_, rfl, _, rfl, _, rfl, _, rfl, p, l, n, lo, wi, ta, rfl, DA, n0, by omega, lo0, lo1, wi0, wi1, ta0, ta1, fun HB d0 T0 p0 r0 nB fB DB mB0 mB1 RB0 rs0 sh0 => ?_⟩
    have o0 := sh0.ok
    have pp0 := o0.p0
    have pp1 := o0.p1
    have ll0 := rs0.len
    have lt0 := rs0.turn
    -- the forms
    refine ⟨_, rfl, _, rfl, _, rfl, p, l, nB, 50, rfl, DB, by omega, by omega, by decide, by decide, fun c1 HC c10 c11 fC DC => ?_⟩
    refine ⟨_, rfl, p, l, nB + 1, 9, rfl, DC, by omega, by omega, by decide, by decide, fun c2 HD c20 c21 fD DD => ?_⟩
    have m1 : (1 + c2).toNat * p0 ≤ 9 * 40 := Nat.mul_le_mul (by omega) (by omega)
    have R0D := (RB0.fr fC DB).fr fD DC
    refine ⟨_, _, rfl, rfl, d0, T0, p0, r0, c1.toNat, (1 + c2).toNat, by rw [Int.toNat_of_nonneg c10, Int.toNat_of_nonneg (by omega)]; rfl, R0D, o0, rs0.rb (by decide), by omega, by omega, fun HE d1 sE R1 => ?_⟩
    have F1 := rs0.longer o0 (n := (1 + c2).toNat) (N := T0.length - p0 + c1.toNat + (1 + c2).toNat * p0) (by omega) (by omega) (by omega) (by omega)
    have V1 := longer_vl o0 (n := (1 + c2).toNat) (N := T0.length - p0 + c1.toNat + (1 + c2).toNat * p0) (by omega) (by omega)
    refine ⟨_, rfl, d0, T0, p0, r0, 1, 1, rfl, R0D.same sE, o0, rs0.rb (by decide), by omega, by omega, fun HF d2 sF R2 => ?_⟩
    have F2 := rs0.longer o0 (n := 1) (N := T0.length - p0 + 1 + 1 * p0) (by omega) (by omega) (by omega) (by omega)
    have V2 := longer_vl o0 (n := 1) (N := T0.length - p0 + 1 + 1 * p0) (by omega) (by omega)
    refine ⟨(by show 3 ≤ sizeLine; decide), fun U nU => ?_⟩
    have sU := same_upd (o := .lst [.ref d0, .ref d1, .ref d2]) nU
    have Un := (DD.same (sE.trans sF)).lne nU
    have sEU := sE.trans (sF.trans sU)
    have DU := DD.same sEU
    have R0U := R0D.same sEU
    have k0 : FK T0 p0 r0 _ d0 := ⟨T0, p0, r0, R0U, rs0.rf o0, fun _ => rfl⟩
    have k1 : FK T0 p0 r0 _ d1 := ⟨_, _, _, R1.same (sF.trans sU), F1, V1⟩
    have k2 : FK T0 p0 r0 _ d2 := ⟨_, _, _, R2.same sU, F2, V2⟩
    have hU : upd HF U (.lst [.ref d0, .ref d1, .ref d2]) U = some (.lst [.ref d0, .ref d1, .ref d2]) := upd_same
    generalize upd HF U (.lst [.ref d0, .ref d1, .ref d2]) = HU at DU R0U k0 k1 k2 hU sU sEU ⊢
    have all : ∀ v ∈ [V.ref d0, V.ref d1, V.ref d2], ∃ d, v = .ref d ∧ FK T0 p0 r0 HU d := by
      intro v hv
      simp only [List.mem_cons, List.not_mem_nil, or_false] at hv
      rcases hv with rfl | rfl | rfl
      · exact ⟨_, rfl, k0⟩
      · exact ⟨_, rfl, k1⟩
      · exact ⟨_, rfl, k2⟩
    clear k0 k1 k2 F1 F2 V1 V2 R1 R2 sE sF sU sEU nU R0D
    refine ⟨_, rfl, U, rfl, ⟨_, SqL.of hU⟩, for_list (K := K) (a := U) (xs := [.ref d0, .ref d1, .ref d2]) (fun j σ H' => ∃ (n' : Int) (w8 w9 w10 w11 w12 w13 w14 : Option V), σ = [some (.ref a), some (.ref p), some (.int (0 + (i : Int))), some (.int lo), some (.int wi), some (.int ta), some (.ref d0), some (.ref U), w8, w9, w10, w11, w12, w13, w14, none] ∧ Fr p l HU H' ∧ Deck H' p l n' ∧ nB + 2 ≤ n' ∧ n' ≤ nB + 2 + 100 * (j : Int))
      ⟨_, _, _, _, _, _, _, _, rfl, fun _ _ _ _ h => h, DU, by omega, by omega⟩ (fun j σ H' _ h => by obtain ⟨_, _, _, _, _, _, _, _, _, f, _⟩ := h; exact SqL.of (f U _ Un.1 Un.2 hU)) ?_ ?_⟩
    · rintro j x σ H' hx ⟨n', w8, w9, w10, w11, w12, w13, w14, rfl, f', D', q0, q1⟩
      have hj : j < 3 := (List.getElem?_eq_some_iff.mp hx).1
      obtain ⟨dx, rfl, kx⟩ := all x (List.mem_of_getElem? hx)
      obtain ⟨T, px, r, Rx, fx, hvx⟩ := kx.fr f' DU
      have R0' := R0U.fr f' DU
      obtain ⟨t, hdx, htx⟩ := id Rx
      have ox := fx.ok
      have xl := fx.len
      refine ⟨_, rfl, _, _, _, _, rfl, rfl, SqT.of hdx, atI_nat (j := 0) rfl, ?_⟩
      refine ⟨_, _, rfl, .inr (SqT.of htx), fun L nL => ?_⟩
      have sL := same_upd (o := .lst (T.map V.int)) nL
      refine ⟨_, rfl, _, _, _, _, rfl, rfl, SqT.of (sL _ _ hdx), atI_nat (j := 0) rfl, (by show 2 ≤ sizeLine; decide), fun W nW => ?_⟩
      have sW := same_upd (o := .lst [.ref L, .ref t]) nW
      have sLW := sL.trans sW
      have hL : upd (upd H' L (.lst (T.map V.int))) W (.lst [.ref L, .ref t]) L = some (.lst (T.map V.int)) := sW _ _ upd_same
      have hW : upd (upd H' L (.lst (T.map V.int))) W (.lst [.ref L, .ref t]) W = some (.lst [.ref L, .ref t]) := upd_same
      generalize upd (upd H' L (.lst (T.map V.int))) W (.lst [.ref L, .ref t]) = HW at sLW hL hW ⊢
      have hdW := sLW _ _ hdx
      have htW := sLW _ _ htx
      have R0W := R0'.same sLW
      clear sL sW nL nW
      refine ⟨W, rfl, ⟨_, SqL.of hW⟩, for_list (K := K) (a := W) (xs := [.ref L, .ref t]) (fun j2 σ H'' => Same HW H'' ∧ ∃ (w9 w10 w11 w12 w13 w14 : Option V), σ = [some (.ref a), some (.ref p), some (.int (0 + (i : Int))), some (.int lo), some (.int wi), some (.int ta), some (.ref d0), some (.ref U), some (.ref dx), w9, w10, w11, w12, w13, w14, none])
        ⟨Same.refl _, _, _, _, _, _, _, rfl⟩ (fun j2 σ H'' _ h => SqL.of (h.1 _ _ hW)) ?_ ?_⟩
      · rintro j2 y σ H3 hy ⟨s3, w9, w10, w11, w12, w13, w14, rfl⟩
        obtain ⟨xa, rfl, hSA⟩ : ∃ xa, y = .ref xa ∧ SA H3 xa (T.map V.int) := by
          have hy := List.mem_of_getElem? hy
          simp only [List.mem_cons, List.not_mem_nil, or_false] at hy
          rcases hy with rfl | rfl
          · exact ⟨L, rfl, .inl (s3 _ _ hL)⟩
          · exact ⟨t, rfl, .inr (s3 _ _ htW)⟩
        have hd3 := s3 _ _ hdW
        have R03 := R0W.same s3
        obtain ⟨dt, hdt, sdt⟩ := SA.dp hSA ox.nn fx.rb.top
        obtain ⟨z1, z2⟩ := sdt.up (by omega)
        refine ⟨_, rfl, xa, dt, rfl, hdt _ (Same.refl _), sdt.sh, sdt.nd, z1, z2, ?_⟩
        refine ⟨2, rfl, (by decide), (by decide), fun Z nZ => ?_⟩
        have sZ := same_upd (o := .lst []) nZ
        refine lc_range (lo := 0) (n := 2) (fun j3 H' => Same H3 H' ∧ ∃ es : List Addr, es.length = j3 ∧ H' Z = some (.lst (es.map V.ref)) ∧ ∀ e ∈ es, RuleAt H' e T0 p0 r0) ⟨sZ, [], rfl, upd_same, fun e he => nomatch he⟩ ?_ ?_
        · rintro j3 H4 hj3 ⟨s4, es, el, hZ, hes⟩
          refine ⟨rfl, ?_⟩
          unfold tYes
          refine iteT ?_
          refine ⟨_, rfl, _, rfl, _, _, _, _, rfl, rfl, SqT.of (s4 _ _ hd3), atI_nat (j := 1) rfl, _, rfl, _, _, _, _, rfl, rfl, SqT.of (s4 _ _ hd3), atI_nat (j := 2) rfl, xa, T, (px : Int), r, rfl, hSA.same s4, xl, fun _ => by rw [Int.toNat_natCast]; exact fx.rb, fun H5 q5 s5 nf _ => (nf (form_of ox)).elim, fun H5 q5 s5 _ no _ => (no (by rw [Int.toNat_natCast]; exact ox)).elim, fun H5 e5 T5 p5 r5 s5 _ _ R5 c5 sh5 hv5 => ?_⟩
          rw [Int.toNat_natCast] at hv5
          obtain ⟨rfl, rfl, rfl⟩ := short_one sh5 sh0 fun x => (hv5 x).trans (hvx x)
          have hZ5 := s5 _ _ hZ
          have R5' : ∀ {e : Addr}, RuleAt H5 e T5 p5 r5 → RuleAt (upd H5 Z (.lst (es.map V.ref ++ [.ref e5]))) e T5 p5 r5 := fun {e} ⟨t', g1, g2⟩ => ⟨t', by rw [upd_ne (ne_of g1 hZ5 (by intro q; cases q))]; exact g1, by rw [upd_ne (ne_of g2 hZ5 (by intro q; cases q))]; exact g2⟩
          refine ⟨_, hZ5, ?_, fun b' o' e' => ?_, es ++ [e5], by rw [List.length_append, List.length_singleton, el], ?_, fun e he => ?_⟩
          · rw [List.length_map, el]
            exact Nat.lt_of_le_of_lt (show j3 ≤ 2 by omega) (by decide)
          · rw [upd_ne (ne_of_none e' nZ)]
            exact s5 _ _ (s4 _ _ e')
          · rw [upd_same, List.map_append]
            rfl
          · rcases List.mem_append.mp he with he | he
            · exact R5' ((hes e he).same s5)
            · rw [List.mem_singleton.mp he]
              exact R5' R5
        rintro H4 ⟨s4, es, el, hZ, hes⟩
        obtain ⟨e1, e2, rfl⟩ : ∃ e1 e2, es = [e1, e2] := by
          match es, el with
          | [e1, e2], _ => exact ⟨e1, e2, rfl⟩
        obtain ⟨b1, b2, b3, b4⟩ := two_show (rD_show o0 (rs0.rb (by decide))) (by omega)
        have g1 := hes e1 (List.mem_cons_self ..)
        have g2 := hes e2 (List.mem_cons_of_mem _ (List.mem_cons_self ..))
        refine ⟨_, rfl, Z, .list [rD T0 p0 r0, rD T0 p0 r0], rfl, .lst (SqL.of hZ) (.cons g1.dp (.cons g2.dp .nil)), b1, b2, b3, b4, ?_⟩
        refine ⟨_, rfl, _, rfl, (by show 2 ≤ sizeLine; decide), fun g ng => ?_⟩
        have sg := same_upd (o := .lst [.ref d0, .ref d0]) ng
        have R0g := (R03.same s4).same sg
        refine ⟨g, .list [rD T0 p0 r0, rD T0 p0 r0], rfl, .lst (SqL.of upd_same) (.cons R0g.dp (.cons R0g.dp .nil)), b1, b2, b3, b4, rfl, _, rfl, iteNP rfl ?_⟩
        refine ⟨_, rfl, xa, dt, rfl, hdt _ (s4.trans sg), sdt.sh, sdt.nd, z1, z2, _, rfl, rfl, _, rfl, iteNP rfl ?_⟩
        exact ⟨s3.trans (s4.trans sg), _, _, _, _, _, _, rfl⟩
      · rintro σ H3 ⟨s3, w9, w10, w11, w12, w13, w14, rfl⟩
        have s13 := sLW.trans s3
        refine ⟨3, rfl, (by decide), (by decide), for_range (lo := 0) (n := 3) (fun m σ H'' => ∃ (n'' : Int) (w9 w10 w11 w12 w13 w14 : Option V), σ = [some (.ref a), some (.ref p), some (.int (0 + (i : Int))), some (.int lo), some (.int wi), some (.int ta), some (.ref d0), some (.ref U), some (.ref dx), w9, w10, w11, w12, w13, w14, none] ∧ Fr p l H' H'' ∧ Deck H'' p l n'' ∧ nB + 2 ≤ n'' ∧ n'' ≤ nB + 2 + 100 * (j : Int) + 20 * (m : Int))
          ⟨_, _, _, _, _, _, _, rfl, Same.fr s13, D'.same s13, by omega, by omega⟩ ?_ ?_⟩
        · rintro m σ H4 hm ⟨n4, w9, w10, w11, w12, w13, w14, rfl, f4, D4, q2, q3⟩
          have hm : m < 3 := hm
          refine ⟨_, rfl, _, rfl, p, l, dx, n4, T, px, r, rfl, D4, by omega, by omega, Rx.fr f4 D', by have := ox.p0; have := ox.p1; omega, xl, ox.r0, fx.r1, fx.top, fun H5 q5 t5 T5 p5 r5 n5 f5 D5 e1 e2 hq5 ht5 rb5 => ?_⟩
          refine ⟨_, _, rfl, SqT.of hq5, rfl, _, _, rfl, _, _, rfl, _, _, rfl, rfl, ?_⟩
          have fin : ∀ {H7 : Hp}, Same H5 H7 → Fr p l H' H7 ∧ Deck H7 p l n5 ∧ nB + 2 ≤ n5 ∧ n5 ≤ nB + 2 + 100 * (j : Int) + 20 * ((m + 1 : Nat) : Int) := fun {H7} s => ⟨f4.trans (f5.trans (Same.fr s)), D5.same s, by omega, by omega⟩
          obtain ⟨y1, y2⟩ := form_show.up (by decide)
          obtain ⟨x1, x2⟩ := falls_show.up (by decide)
          refine ⟨_, rfl, _, rfl, _, rfl, t5, T5, p5, r5, rfl, .inr ht5, rb5.len, fun _ => rb5, fun H6 q6 s6 F h6 => ?_, fun H6 q6 s6 F o h6 => ?_, fun H6 e6 T6 p6 r6 s6 F o R6 c6 sh6 hv6 => ?_⟩
          · refine ⟨q6, .list [.str "form"], rfl, .lst (SqL.of h6) (.cons (.str _) .nil), form_show.sh, form_show.nd, y1, y2, ?_⟩
            refine ⟨_, rfl, _, rfl, _, rfl, t5, T5, p5, r5, rfl, s6 _ _ ht5, rb5, fun H7 q7 s7 _ h7 => ?_, fun H7 q7 s7 F' _ _ => (F F').elim, fun H7 e7 T7 p7 r7 s7 F' _ _ _ _ _ => (F F').elim⟩
            refine ⟨q7, .list [.str "form"], rfl, .lst (SqL.of h7) (.cons (.str _) .nil), form_show.sh, form_show.nd, y1, y2, rfl, _, rfl, iteNP rfl ?_⟩
            exact ⟨n5, _, _, _, _, _, _, rfl, fin (s6.trans s7)⟩
          · refine ⟨q6, .list [.str "falls"], rfl, .lst (SqL.of h6) (.cons (.str _) .nil), falls_show.sh, falls_show.nd, x1, x2, ?_⟩
            refine ⟨_, rfl, _, rfl, _, rfl, t5, T5, p5, r5, rfl, s6 _ _ ht5, rb5, fun H7 q7 s7 F' _ => (F' F).elim, fun H7 q7 s7 _ _ h7 => ?_, fun H7 e7 T7 p7 r7 s7 _ o' _ _ _ _ => (o o').elim⟩
            refine ⟨q7, .list [.str "falls"], rfl, .lst (SqL.of h7) (.cons (.str _) .nil), falls_show.sh, falls_show.nd, x1, x2, rfl, _, rfl, iteNP rfl ?_⟩
            exact ⟨n5, _, _, _, _, _, _, rfl, fin (s6.trans s7)⟩
          · have rb6 := c6.rb rb5
            have w6 := rD_show sh6.ok rb6
            have l6 := rb6.len
            obtain ⟨v1, v2⟩ := w6.up (by omega)
            refine ⟨e6, rD T6 p6 r6, rfl, R6.dp, w6.sh, w6.nd, v1, v2, ?_⟩
            refine ⟨_, rfl, _, rfl, _, rfl, t5, T5, p5, r5, rfl, s6 _ _ ht5, rb5, fun H7 q7 s7 F' _ => (F' F).elim, fun H7 q7 s7 _ o' _ => (o' o).elim, fun H7 e7 T7 p7 r7 s7 _ _ R7 c7 sh7 hv7 => ?_⟩
            obtain ⟨rfl, rfl, rfl⟩ := short_one sh7 sh6 fun x => (hv7 x).trans (hv6 x).symm
            refine ⟨e7, rD T7 p7 r7, rfl, R7.dp, w6.sh, w6.nd, v1, v2, rfl, _, rfl, iteNP rfl ?_⟩
            exact ⟨n5, _, _, _, _, _, _, rfl, fin (s6.trans s7)⟩
        · rintro σ H4 ⟨n4, w9, w10, w11, w12, w13, w14, rfl, f4, D4, q2, q3⟩
          have q3 : n4 ≤ nB + 2 + 100 * (j : Int) + 20 * (3 : Int) := q3
          exact ⟨n4, _, _, _, _, _, _, _, rfl, f'.trans f4, D4, by omega, by omega⟩
    · rintro σ H' ⟨n', w8, w9, w10, w11, w12, w13, w14, rfl, f', D', q0, q1⟩
      have q1 : n' ≤ nB + 2 + 100 * (3 : Int) := q1
      exact ⟨n', _, _, _, _, _, _, _, _, _, _, _, _, _, rfl, D', by omega, by omega⟩
  · rintro σ H' ⟨n, v2, v3, v4, v5, v6, v7, v8, v9, v10, v11, v12, v13, v14, rfl, D2, n0, n1⟩
    have n1 : n ≤ 6000 * (6 : Int) := n1
    refine ⟨_, rfl, p, l, n, 30, 7, 3, rfl, D2, n0, by omega, by decide, by decide, by decide, by decide, by decide, by decide, fun HB d0 T0 p0 r0 nB fB DB mB0 mB1 RB0 rs0 sh0 => ?_⟩
    obtain ⟨t0, hd0, ht0⟩ := id RB0
    have o0 := sh0.ok
    have pp0 := o0.p0
    have pp1 := o0.p1
    have ll0 := rs0.len
    have lt0 := rs0.turn
    have rb0 : RB T0 p0 r0 := rs0.rb (by decide)
    have dm := Nat.div_add_mod 4900 p0
    rw [Nat.mul_comm] at dm
    have dp : 0 < 4900 / p0 := Nat.div_pos (by omega) pp0
    have dl : 4900 / p0 ≤ 4900 := Nat.div_le_self ..
    refine ⟨_, rfl, _, rfl, _, _, _, _, rfl, rfl, SqT.of hd0, atI_nat (j := 1) rfl, _, _, rfl, rfl, (by omega), _, rfl, _, _, _, _, rfl, rfl, SqT.of hd0, atI_nat (j := 1) rfl, _, _, rfl, rfl, rb0.div o0.w, d0, T0, p0, r0, 4900 % p0, 4900 / p0, (by show [V.ref d0, V.int ((4900 : Int).fmod (p0 : Int)), V.int ((4900 : Int) / (p0 : Int))] = _; rw [Int.fmod_eq_emod_of_nonneg _ (by omega)]; rfl), RB0, o0, rb0, by omega, by omega, fun HE d1 sE R1 => ?_⟩
    have F1 := rs0.longer o0 (n := 4900 / p0) (N := T0.length - p0 + 4900 % p0 + 4900 / p0 * p0) dp (by omega) (by omega) (by omega)
    have V1 := longer_vl o0 (n := 4900 / p0) (N := T0.length - p0 + 4900 % p0 + 4900 / p0 * p0) dp (by omega)
    generalize vals T0 p0 r0 (T0.length - p0 + 4900 % p0 + 4900 / p0 * p0) = T1 at R1 F1 V1
    obtain ⟨t1, hd1, ht1⟩ := id R1
    refine ⟨_, rfl, _, _, _, _, rfl, rfl, SqT.of hd1, atI_nat (j := 0) rfl, _, _, rfl, .inr (SqT.of ht1), fun L nL => ?_⟩
    have sL := same_upd (o := .lst (T1.map V.int)) nL
    refine ⟨_, rfl, _, _, _, _, rfl, rfl, SqT.of (sL _ _ hd1), atI_nat (j := 1) rfl, _, rfl, _, _, _, _, rfl, rfl, SqT.of (sL _ _ hd1), atI_nat (j := 2) rfl, L, T1, 4900 / p0 * p0, ((4900 / p0 : Nat) : Int) * r0, rfl, .inl upd_same, F1.ok, F1.rb, fun HF e5 T5 p5 r5 sF R5 c5 sh5 hv5 => ?_⟩
    obtain ⟨rfl, rfl, rfl⟩ := short_one sh5 sh0 fun x => (hv5 x).trans (V1 x)
    have R0F := RB0.same (sE.trans (sL.trans sF))
    refine ⟨_, rfl, rD T5 p5 r5, rD T5 p5 r5, R5.dp, R0F.dp, rD_shaped _ _ _, rD_shaped _ _ _, ?_⟩
    rw [rD_eqv]
    refine ⟨_, rfl, iteF ?_⟩
    clear R0F R5 sF sL nL hd1 ht1 R1 F1 V1 sE c5 hv5
    -- the last two
    refine ⟨(by show 1 ≤ sizeLine; decide), fun z nz => ⟨z, 5000, _, rfl, rfl, upd_same, by decide, by decide, (by show 1 * 5000 ≤ sizeLine; decide), fun q nq => ?_⟩⟩
    have hq : upd (upd HF z (.lst [.int 0])) q (.lst (List.replicate (Int.toNat 5000) [V.int 0]).flatten) q = some (.lst ((List.replicate 5000 (0 : Int)).map V.int)) := by
      rw [upd_same]
      exact congrArg (fun x => some (HO.lst x)) (rep_list (n := 5000))
    generalize upd (upd HF z (.lst [.int 0])) q (.lst (List.replicate (Int.toNat 5000) [V.int 0]).flatten) = HG at hq ⊢
    refine ⟨q, List.replicate 5000 0, 5000, 1, rfl, .inl hq, (rep_short (by decide)).ok, rep_rb (by decide) (by decide) (by decide), fun HH e6 T6 p6 r6 sH R6 c6 sh6 hv6 => ?_⟩
    obtain ⟨rfl, rfl, rfl⟩ := short_one sh6 (rep_short (n := 5000) (by decide)) hv6
    refine ⟨(by show 1 ≤ sizeLine; decide), fun z2 nz2 => ⟨z2, .int 0, rfl, rfl, upd_same, fun q2 nq2 => ?_⟩⟩
    have sz2 := same_upd (o := .tup [.int 0]) nz2
    have hq2 : upd (upd HH z2 (.tup [.int 0])) q2 (.tup (List.replicate 5000 (V.int 0))) q2 = some (.tup ((List.replicate 5000 (0 : Int)).map V.int)) := by
      rw [upd_same, rep_int]
    have sq2 := same_upd (o := .tup (List.replicate 5000 (V.int 0))) nq2
    have R6' := (R6.same sz2).same sq2
    generalize upd (upd HH z2 (.tup [.int 0])) q2 (.tup (List.replicate 5000 (V.int 0))) = HI at hq2 R6' ⊢
    refine ⟨(by show 3 ≤ sizeLine; decide), fun q3 nq3 => ?_⟩
    have sq3 := same_upd (o := .tup [.ref q2, .int 5000, .int 1]) nq3
    have R7 : RuleAt (upd HI q3 (.tup [.ref q2, .int 5000, .int 1])) q3 (List.replicate 5000 0) 5000 1 := ⟨q2, upd_same, sq3 _ _ hq2⟩
    refine ⟨rD (List.replicate 5000 0) 5000 1, rD (List.replicate 5000 0) 5000 1, (R6'.same sq3).dp, R7.dp, rD_shaped _ _ _, rD_shaped _ _ _, ?_⟩
    rw [rD_eqv]
    clear R7 R6' sq3 hq2 sq2 sz2 R6
    refine ⟨_, rfl, iteT ?_⟩
    generalize upd HI q3 (.tup [.ref q2, .int 5000, .int 1]) = HJ
    refine ⟨(by show 1 ≤ sizeLine; decide), fun z3 nz3 => ⟨z3, 5000, _, rfl, rfl, upd_same, by decide, by decide, (by show 1 * 5000 ≤ sizeLine; decide), fun q4 nq4 => ?_⟩⟩
    have hq4 : upd (upd HJ z3 (.lst [.int 7])) q4 (.lst (List.replicate (Int.toNat 5000) [V.int 7]).flatten) q4 = some (.lst ((List.replicate 5000 (7 : Int)).map V.int)) := by
      rw [upd_same]
      exact congrArg (fun x => some (HO.lst x)) (rep_list (n := 5000))
    generalize upd (upd HJ z3 (.lst [.int 7])) q4 (.lst (List.replicate (Int.toNat 5000) [V.int 7]).flatten) = HK at hq4 ⊢
    refine ⟨q4, List.replicate 5000 7, 1250, 0, rfl, .inl hq4, level_ok (by decide) (by decide) (by decide), rep_rb (by decide) (by decide) (by decide), fun HL e8 T8 p8 r8 sL R8 c8 sh8 hv8 => ?_⟩
    obtain ⟨rfl, rfl, rfl⟩ := short_one sh8 (one_short (c := 7) (by decide)) fun x => (hv8 x).trans ((level_vl (by decide) (by decide) x).trans (level_vl (n := 1) (p := 1) (c := 7) (by decide) (by decide) x).symm)
    refine ⟨(by show 1 ≤ sizeLine; decide), fun q5 nq5 => ⟨(by show 3 ≤ sizeLine; decide), fun q6 nq6 => ?_⟩⟩
    have s5 := same_upd (o := .tup [.int 7]) nq5
    have s6 := same_upd (o := .tup [.ref q5, .int 1, .int 0]) nq6
    have R9 : RuleAt (upd (upd HL q5 (.tup [.int 7])) q6 (.tup [.ref q5, .int 1, .int 0])) q6 [7] 1 0 := ⟨q5, upd_same, s6 _ _ upd_same⟩
    refine ⟨rD [7] 1 0, rD [7] 1 0, ((R8.same s5).same s6).dp, R9.dp, rD_shaped _ _ _, rD_shaped _ _ _, ?_⟩
    rw [rD_eqv]
    exact kk _
end
end Sm

set_option Elab.async false
set_option linter.all false
set_option maxRecDepth 100000
set_option maxHeartbeats 16000000
namespace Sm
open PySem PySem.Spec PyProof.Rows L2
theorem all_mk {l : PySem.W.OpenLaw} {w : World} {K : PySem.W.Frag} {h : Heap} {mg : Str → Option Value} {fa : Addr} (X : K.In h) (G : h.Ns mainGlobals mg) (hfa : mg "law" = some (.ref fa))
    {F_is_whole : Addr} {od_is_whole an_is_whole : Option Addr} {sl_is_whole : Array (Option Value)} {oc_is_whole kV_is_whole dc_is_whole pm_is_whole cd_is_whole ct_is_whole : Value} (a_is_whole : PySem.W.nsIn K mainGlobals "is_whole" = some (some (.ref F_is_whole))) (l_is_whole : K.lookup F_is_whole = some ⟨oc_is_whole, od_is_whole, .func (PySem.W.fnOf "is_whole" "is_whole" (defArgs s_is_whole) (defBody s_is_whole) (defScope s_is_whole) .none kV_is_whole dc_is_whole pm_is_whole an_is_whole cd_is_whole ct_is_whole), sl_is_whole⟩) (c_is_whole : PySem.W.codeIn K cd_is_whole "is_whole" = true) (k_is_whole : PySem.W.keepIn K (.ref F_is_whole) = true)
    {F_is_amount : Addr} {od_is_amount an_is_amount : Option Addr} {sl_is_amount : Array (Option Value)} {oc_is_amount kV_is_amount dc_is_amount pm_is_amount cd_is_amount ct_is_amount : Value} (a_is_amount : PySem.W.nsIn K mainGlobals "is_amount" = some (some (.ref F_is_amount))) (l_is_amount : K.lookup F_is_amount = some ⟨oc_is_amount, od_is_amount, .func (PySem.W.fnOf "is_amount" "is_amount" (defArgs s_is_amount) (defBody s_is_amount) (defScope s_is_amount) .none kV_is_amount dc_is_amount pm_is_amount an_is_amount cd_is_amount ct_is_amount), sl_is_amount⟩) (c_is_amount : PySem.W.codeIn K cd_is_amount "is_amount" = true) (k_is_amount : PySem.W.keepIn K (.ref F_is_amount) = true)
    {F_told_error : Addr} {od_told_error an_told_error : Option Addr} {sl_told_error : Array (Option Value)} {oc_told_error kV_told_error dc_told_error pm_told_error cd_told_error ct_told_error : Value} (a_told_error : PySem.W.nsIn K mainGlobals "told_error" = some (some (.ref F_told_error))) (l_told_error : K.lookup F_told_error = some ⟨oc_told_error, od_told_error, .func (PySem.W.fnOf "told_error" "told_error" (defArgs s_told_error) (defBody s_told_error) (defScope s_told_error) .none kV_told_error dc_told_error pm_told_error an_told_error cd_told_error ct_told_error), sl_told_error⟩) (c_told_error : PySem.W.codeIn K cd_told_error "told_error" = true) (k_told_error : PySem.W.keepIn K (.ref F_told_error) = true)
    {F_canonical : Addr} {od_canonical an_canonical : Option Addr} {sl_canonical : Array (Option Value)} {oc_canonical kV_canonical dc_canonical pm_canonical cd_canonical ct_canonical : Value} (a_canonical : PySem.W.nsIn K mainGlobals "canonical" = some (some (.ref F_canonical))) (l_canonical : K.lookup F_canonical = some ⟨oc_canonical, od_canonical, .func (PySem.W.fnOf "canonical" "canonical" (defArgs s_canonical) (defBody s_canonical) (defScope s_canonical) .none kV_canonical dc_canonical pm_canonical an_canonical cd_canonical ct_canonical), sl_canonical⟩) (c_canonical : PySem.W.codeIn K cd_canonical "canonical" = true) (k_canonical : PySem.W.keepIn K (.ref F_canonical) = true)
    {F_shortest : Addr} {od_shortest an_shortest : Option Addr} {sl_shortest : Array (Option Value)} {oc_shortest kV_shortest dc_shortest pm_shortest cd_shortest ct_shortest : Value} (a_shortest : PySem.W.nsIn K mainGlobals "shortest" = some (some (.ref F_shortest))) (l_shortest : K.lookup F_shortest = some ⟨oc_shortest, od_shortest, .func (PySem.W.fnOf "shortest" "shortest" (defArgs s_shortest) (defBody s_shortest) (defScope s_shortest) .none kV_shortest dc_shortest pm_shortest an_shortest cd_shortest ct_shortest), sl_shortest⟩) (c_shortest : PySem.W.codeIn K cd_shortest "shortest" = true) (k_shortest : PySem.W.keepIn K (.ref F_shortest) = true)
    {F_cycle_of : Addr} {od_cycle_of an_cycle_of : Option Addr} {sl_cycle_of : Array (Option Value)} {oc_cycle_of kV_cycle_of dc_cycle_of pm_cycle_of cd_cycle_of ct_cycle_of : Value} (a_cycle_of : PySem.W.nsIn K mainGlobals "cycle_of" = some (some (.ref F_cycle_of))) (l_cycle_of : K.lookup F_cycle_of = some ⟨oc_cycle_of, od_cycle_of, .func (PySem.W.fnOf "cycle_of" "cycle_of" (defArgs s_cycle_of) (defBody s_cycle_of) (defScope s_cycle_of) .none kV_cycle_of dc_cycle_of pm_cycle_of an_cycle_of cd_cycle_of ct_cycle_of), sl_cycle_of⟩) (c_cycle_of : PySem.W.codeIn K cd_cycle_of "cycle_of" = true) (k_cycle_of : PySem.W.keepIn K (.ref F_cycle_of) = true)
    {F_l_deck : Addr} {od_l_deck an_l_deck : Option Addr} {sl_l_deck : Array (Option Value)} {oc_l_deck kV_l_deck dc_l_deck pm_l_deck cd_l_deck ct_l_deck : Value} (a_l_deck : PySem.W.nsIn K mainGlobals "_law_deck" = some (some (.ref F_l_deck))) (l_l_deck : K.lookup F_l_deck = some ⟨oc_l_deck, od_l_deck, .func (PySem.W.fnOf "_law_deck" "_law_deck" (defArgs s_l_deck) (defBody s_l_deck) (defScope s_l_deck) .none kV_l_deck dc_l_deck pm_l_deck an_l_deck cd_l_deck ct_l_deck), sl_l_deck⟩) (c_l_deck : PySem.W.codeIn K cd_l_deck "_law_deck" = true) (k_l_deck : PySem.W.keepIn K (.ref F_l_deck) = true)
    {F_l_draw : Addr} {od_l_draw an_l_draw : Option Addr} {sl_l_draw : Array (Option Value)} {oc_l_draw kV_l_draw dc_l_draw pm_l_draw cd_l_draw ct_l_draw : Value} (a_l_draw : PySem.W.nsIn K mainGlobals "_law_draw" = some (some (.ref F_l_draw))) (l_l_draw : K.lookup F_l_draw = some ⟨oc_l_draw, od_l_draw, .func (PySem.W.fnOf "_law_draw" "_law_draw" (defArgs s_l_draw) (defBody s_l_draw) (defScope s_l_draw) .none kV_l_draw dc_l_draw pm_l_draw an_l_draw cd_l_draw ct_l_draw), sl_l_draw⟩) (c_l_draw : PySem.W.codeIn K cd_l_draw "_law_draw" = true) (k_l_draw : PySem.W.keepIn K (.ref F_l_draw) = true)
    {F_l_value : Addr} {od_l_value an_l_value : Option Addr} {sl_l_value : Array (Option Value)} {oc_l_value kV_l_value dc_l_value pm_l_value cd_l_value ct_l_value : Value} (a_l_value : PySem.W.nsIn K mainGlobals "_law_value" = some (some (.ref F_l_value))) (l_l_value : K.lookup F_l_value = some ⟨oc_l_value, od_l_value, .func (PySem.W.fnOf "_law_value" "_law_value" (defArgs s_l_value) (defBody s_l_value) (defScope s_l_value) .none kV_l_value dc_l_value pm_l_value an_l_value cd_l_value ct_l_value), sl_l_value⟩) (c_l_value : PySem.W.codeIn K cd_l_value "_law_value" = true) (k_l_value : PySem.W.keepIn K (.ref F_l_value) = true)
    {F_l_repeats : Addr} {od_l_repeats an_l_repeats : Option Addr} {sl_l_repeats : Array (Option Value)} {oc_l_repeats kV_l_repeats dc_l_repeats pm_l_repeats cd_l_repeats ct_l_repeats : Value} (a_l_repeats : PySem.W.nsIn K mainGlobals "_law_repeats" = some (some (.ref F_l_repeats))) (l_l_repeats : K.lookup F_l_repeats = some ⟨oc_l_repeats, od_l_repeats, .func (PySem.W.fnOf "_law_repeats" "_law_repeats" (defArgs s_l_repeats) (defBody s_l_repeats) (defScope s_l_repeats) .none kV_l_repeats dc_l_repeats pm_l_repeats an_l_repeats cd_l_repeats ct_l_repeats), sl_l_repeats⟩) (c_l_repeats : PySem.W.codeIn K cd_l_repeats "_law_repeats" = true) (k_l_repeats : PySem.W.keepIn K (.ref F_l_repeats) = true)
    {F_l_least : Addr} {od_l_least an_l_least : Option Addr} {sl_l_least : Array (Option Value)} {oc_l_least kV_l_least dc_l_least pm_l_least cd_l_least ct_l_least : Value} (a_l_least : PySem.W.nsIn K mainGlobals "_law_least" = some (some (.ref F_l_least))) (l_l_least : K.lookup F_l_least = some ⟨oc_l_least, od_l_least, .func (PySem.W.fnOf "_law_least" "_law_least" (defArgs s_l_least) (defBody s_l_least) (defScope s_l_least) .none kV_l_least dc_l_least pm_l_least an_l_least cd_l_least ct_l_least), sl_l_least⟩) (c_l_least : PySem.W.codeIn K cd_l_least "_law_least" = true) (k_l_least : PySem.W.keepIn K (.ref F_l_least) = true)
    {F_l_rule : Addr} {od_l_rule an_l_rule : Option Addr} {sl_l_rule : Array (Option Value)} {oc_l_rule kV_l_rule dc_l_rule pm_l_rule cd_l_rule ct_l_rule : Value} (a_l_rule : PySem.W.nsIn K mainGlobals "_law_rule" = some (some (.ref F_l_rule))) (l_l_rule : K.lookup F_l_rule = some ⟨oc_l_rule, od_l_rule, .func (PySem.W.fnOf "_law_rule" "_law_rule" (defArgs s_l_rule) (defBody s_l_rule) (defScope s_l_rule) .none kV_l_rule dc_l_rule pm_l_rule an_l_rule cd_l_rule ct_l_rule), sl_l_rule⟩) (c_l_rule : PySem.W.codeIn K cd_l_rule "_law_rule" = true) (k_l_rule : PySem.W.keepIn K (.ref F_l_rule) = true)
    {F_l_longer : Addr} {od_l_longer an_l_longer : Option Addr} {sl_l_longer : Array (Option Value)} {oc_l_longer kV_l_longer dc_l_longer pm_l_longer cd_l_longer ct_l_longer : Value} (a_l_longer : PySem.W.nsIn K mainGlobals "_law_longer" = some (some (.ref F_l_longer))) (l_l_longer : K.lookup F_l_longer = some ⟨oc_l_longer, od_l_longer, .func (PySem.W.fnOf "_law_longer" "_law_longer" (defArgs s_l_longer) (defBody s_l_longer) (defScope s_l_longer) .none kV_l_longer dc_l_longer pm_l_longer an_l_longer cd_l_longer ct_l_longer), sl_l_longer⟩) (c_l_longer : PySem.W.codeIn K cd_l_longer "_law_longer" = true) (k_l_longer : PySem.W.keepIn K (.ref F_l_longer) = true)
    {F_l_tried : Addr} {od_l_tried an_l_tried : Option Addr} {sl_l_tried : Array (Option Value)} {oc_l_tried kV_l_tried dc_l_tried pm_l_tried cd_l_tried ct_l_tried : Value} (a_l_tried : PySem.W.nsIn K mainGlobals "_law_tried" = some (some (.ref F_l_tried))) (l_l_tried : K.lookup F_l_tried = some ⟨oc_l_tried, od_l_tried, .func (PySem.W.fnOf "_law_tried" "_law_tried" (defArgs s_l_tried) (defBody s_l_tried) (defScope s_l_tried) .none kV_l_tried dc_l_tried pm_l_tried an_l_tried cd_l_tried ct_l_tried), sl_l_tried⟩) (c_l_tried : PySem.W.codeIn K cd_l_tried "_law_tried" = true) (k_l_tried : PySem.W.keepIn K (.ref F_l_tried) = true)
    {F_l_due : Addr} {od_l_due an_l_due : Option Addr} {sl_l_due : Array (Option Value)} {oc_l_due kV_l_due dc_l_due pm_l_due cd_l_due ct_l_due : Value} (a_l_due : PySem.W.nsIn K mainGlobals "_law_due" = some (some (.ref F_l_due))) (l_l_due : K.lookup F_l_due = some ⟨oc_l_due, od_l_due, .func (PySem.W.fnOf "_law_due" "_law_due" (defArgs s_l_due) (defBody s_l_due) (defScope s_l_due) .none kV_l_due dc_l_due pm_l_due an_l_due cd_l_due ct_l_due), sl_l_due⟩) (c_l_due : PySem.W.codeIn K cd_l_due "_law_due" = true) (k_l_due : PySem.W.keepIn K (.ref F_l_due) = true)
    {F_l_spoilt : Addr} {od_l_spoilt an_l_spoilt : Option Addr} {sl_l_spoilt : Array (Option Value)} {oc_l_spoilt kV_l_spoilt dc_l_spoilt pm_l_spoilt cd_l_spoilt ct_l_spoilt : Value} (a_l_spoilt : PySem.W.nsIn K mainGlobals "_law_spoilt" = some (some (.ref F_l_spoilt))) (l_l_spoilt : K.lookup F_l_spoilt = some ⟨oc_l_spoilt, od_l_spoilt, .func (PySem.W.fnOf "_law_spoilt" "_law_spoilt" (defArgs s_l_spoilt) (defBody s_l_spoilt) (defScope s_l_spoilt) .none kV_l_spoilt dc_l_spoilt pm_l_spoilt an_l_spoilt cd_l_spoilt ct_l_spoilt), sl_l_spoilt⟩) (c_l_spoilt : PySem.W.codeIn K cd_l_spoilt "_law_spoilt" = true) (k_l_spoilt : PySem.W.keepIn K (.ref F_l_spoilt) = true)
    {F_law : Addr} {od_law an_law : Option Addr} {sl_law : Array (Option Value)} {oc_law kV_law dc_law pm_law cd_law ct_law : Value} (a_law : PySem.W.nsIn K mainGlobals "law" = some (some (.ref F_law))) (l_law : K.lookup F_law = some ⟨oc_law, od_law, .func (PySem.W.fnOf "law" "law" (defArgs s_law) (defBody s_law) (defScope s_law) .none kV_law dc_law pm_law an_law cd_law ct_law), sl_law⟩) (c_law : PySem.W.codeIn K cd_law "law" = true) (k_law : PySem.W.keepIn K (.ref F_law) = true)
    {cCE cTL cBR cNS cNR fB : Addr} {nm qn : Str} {Nn : Addr} {bs : List Value} {sn : List Str} {sub : List Value} {ab : Bool} {col : Option Bool} {dd : Option Addr} {m0 m1 m2 m3 m5 : Option Value} {odI anI : Option Addr} {slI : Array (Option Value)} {ocI kVI dcI pmI cdI ctI : Value}
    (a_cCE : PySem.W.nsIn K mainGlobals "ChangeError" = some (some (.ref cCE)))
    (a_cTL : PySem.W.nsIn K mainGlobals "TooLong" = some (some (.ref cTL)))
    (a_cBR : PySem.W.nsIn K mainGlobals "BadRule" = some (some (.ref cBR)))
    (a_cNS : PySem.W.nsIn K mainGlobals "NoStart" = some (some (.ref cNS)))
    (a_cNR : PySem.W.nsIn K mainGlobals "NoRise" = some (some (.ref cNR)))
    (x_BR : K.lookup cBR = some (excClassObj nm qn cBR Nn bs [.ref cCE, .type "ValueError", .type "Exception", .type "BaseException", .type "object"] true sn sub ab col dd m0 m1 m2 m3 m5 "ValueError.__new__"))
    (f_sa : PySem.W.findIn K (.ref cBR) "__setattr__" = some (some (.builtin "object.__setattr__")))
    (f_ga : PySem.W.findIn K (.ref cBR) "__getattribute__" = some (some (.builtin "BaseException.__getattribute__")))
    (f_gg : PySem.W.findIn K (.ref cBR) "__getattr__" = some none)
    (f_no : PySem.W.findIn K (.ref cBR) "error" = some none)
    (f_iC : PySem.W.findIn K (.ref cBR) "__init__" = some (some (.ref fB)))
    (f_cl : PySem.W.findIn K (.ref cBR) "__class__" = some (some (.builtin "object.__class__")))
    (t_fB : PySem.W.typeIn K (.ref fB) = some (.type "function"))
    (t_BR : PySem.W.typeIn K (.ref cBR) = some (.type "type"))
    (k_BR : PySem.W.keepIn K (.ref cBR) = true)
    (e_BR : PySem.W.subIn K (.ref cBR) (.type "BaseException") = some true)
    (v_BR : PySem.W.subIn K (.ref cBR) (.type "ValueError") = some true)
    (s_BR : PySem.W.subIn K (.ref cBR) (.ref cBR) = some true)
    (h_BR : PySem.W.hasDictIn K cBR = true)
    (m_BR : PySem.W.mroIn K cBR (.type "object") = some true)
    (g_cl : PySem.W.specialIn K (.builtin "object.__class__") "__get__" = some (some (.builtin "getset_descriptor.__get__")))
    (t_cl : PySem.W.takesIn K (.builtin "object.__class__") = some true)
    (e_CE : PySem.W.subIn K (.ref cCE) (.type "BaseException") = some true)
    (h_CE : PySem.W.hasDictIn K cCE = true)
    (t_CE : PySem.W.typeIn K (.ref cCE) = some (.type "type"))
    (s_CE : PySem.W.subIn K (.ref cBR) (.ref cCE) = some true)
    (i_TL : PySem.W.isClsIn K cTL = true)
    (t_TL : PySem.W.typeIn K (.ref cTL) = some (.type "type"))
    (s_TL : PySem.W.subIn K (.ref cBR) (.ref cTL) = some false)
    (i_NS : PySem.W.isClsIn K cNS = true)
    (t_NS : PySem.W.typeIn K (.ref cNS) = some (.type "type"))
    (s_NS : PySem.W.subIn K (.ref cBR) (.ref cNS) = some false)
    (i_NR : PySem.W.isClsIn K cNR = true)
    (t_NR : PySem.W.typeIn K (.ref cNR) = some (.type "type"))
    (s_NR : PySem.W.subIn K (.ref cBR) (.ref cNR) = some false)
    (l_fB : K.lookup fB = some ⟨ocI, odI, .func (PySem.W.fnOf "__init__" "BadRule.__init__" (defArgs s_init) (defBody s_init) (defScope s_init) .none kVI dcI pmI anI cdI ctI), slI⟩)
    (c_fB : PySem.W.codeIn K cdI "BadRule.__init__" = true)
    (k_fB : PySem.W.keepIn K (.ref fB) = true)
    (z_ValueError : PySem.W.nsIn K mainGlobals "ValueError" = some none)
    (z_abs : PySem.W.nsIn K mainGlobals "abs" = some none)
    (z_all : PySem.W.nsIn K mainGlobals "all" = some none)
    (z_any : PySem.W.nsIn K mainGlobals "any" = some none)
    (z_bool : PySem.W.nsIn K mainGlobals "bool" = some none)
    (z_int : PySem.W.nsIn K mainGlobals "int" = some none)
    (z_isinstance : PySem.W.nsIn K mainGlobals "isinstance" = some none)
    (z_len : PySem.W.nsIn K mainGlobals "len" = some none)
    (z_list : PySem.W.nsIn K mainGlobals "list" = some none)
    (z_max : PySem.W.nsIn K mainGlobals "max" = some none)
    (z_range : PySem.W.nsIn K mainGlobals "range" = some none)
    (z_repr : PySem.W.nsIn K mainGlobals "repr" = some none)
    (z_tuple : PySem.W.nsIn K mainGlobals "tuple" = some none) :
    ∃ fd : FuncData, (∀ (s : Shared) (v : Value), BindsTo s fd ⟨[v], []⟩ [("_law_script", v)]) ∧ ∀ base : Heap, K.In base → base.Ns mainGlobals mg → FnG l.prog w K mg base 6 fa fd ["_law_script"] (sp_law K) := by
  have e := hfa.symm.trans (PySem.W.mg_of X G a_law)
  cases e
  have T : Txt mg := ⟨PySem.W.mg_none_of X G z_ValueError, PySem.W.mg_none_of X G z_abs, PySem.W.mg_none_of X G z_all, PySem.W.mg_none_of X G z_any, PySem.W.mg_none_of X G z_bool, PySem.W.mg_none_of X G z_int, PySem.W.mg_none_of X G z_isinstance, PySem.W.mg_none_of X G z_len, PySem.W.mg_none_of X G z_list, PySem.W.mg_none_of X G z_max, PySem.W.mg_none_of X G z_range, PySem.W.mg_none_of X G z_repr, PySem.W.mg_none_of X G z_tuple⟩
  have XC : Txc K mg cCE cTL cBR cNS cNR fB :=
    { gChangeError := PySem.W.mg_of X G a_cCE, gTooLong := PySem.W.mg_of X G a_cTL, gBadRule := PySem.W.mg_of X G a_cBR, gNoStart := PySem.W.mg_of X G a_cNS, gNoRise := PySem.W.mg_of X G a_cNR,
      oex := ⟨⟨nm, qn, Nn, bs, _, sn, sub, ab, col, dd, m0, m1, m2, m3, m5, x_BR, by rfl⟩, f_sa, e_BR, t_BR, k_BR⟩, noE := f_no, iC := f_iC, tI := t_fB, xf := ⟨f_ga, f_gg, e_BR, h_BR⟩,
      ec := ⟨f_ga, f_gg, e_BR, h_BR, f_cl, g_cl, t_cl, m_BR⟩, te := PySem.W.exm_ref e_CE h_CE t_CE s_CE,
      k1 := kit_cons_false (kit_own i_TL t_TL s_TL s_BR) (kit_cons_false (kit_own i_NS t_NS s_NS s_BR) (kit_cons_false (kit_own i_NR t_NR s_NR s_BR) rfl)), k2 := kit_valerr v_BR, k3 := if_pos (beq_self_eq_true _),
      fI := ⟨_, fun_mk (st := s_init) l_fB c_fB k_fB, (fun_mk (st := s_init) l_fB c_fB k_fB).binds (ps := ["self", "error"]) fun _ _ _ _ _ _ us hl => match us, hl with | [_, _], _ => rfl⟩ }
  have D_is_whole : Df K mg "is_whole" s_is_whole ["value"] := ⟨_, _, fun_mk (st := s_is_whole) l_is_whole c_is_whole k_is_whole, PySem.W.mg_of X G a_is_whole, (fun_mk (st := s_is_whole) l_is_whole c_is_whole k_is_whole).binds (ps := ["value"]) fun _ _ _ _ _ _ us hl => match us, hl with | [_], _ => rfl⟩
  have D_is_amount : Df K mg "is_amount" s_is_amount ["value"] := ⟨_, _, fun_mk (st := s_is_amount) l_is_amount c_is_amount k_is_amount, PySem.W.mg_of X G a_is_amount, (fun_mk (st := s_is_amount) l_is_amount c_is_amount k_is_amount).binds (ps := ["value"]) fun _ _ _ _ _ _ us hl => match us, hl with | [_], _ => rfl⟩
  have D_told_error : Df K mg "told_error" s_told_error ["table", "period", "rise"] := ⟨_, _, fun_mk (st := s_told_error) l_told_error c_told_error k_told_error, PySem.W.mg_of X G a_told_error, (fun_mk (st := s_told_error) l_told_error c_told_error k_told_error).binds (ps := ["table", "period", "rise"]) fun _ _ _ _ _ _ us hl => match us, hl with | [_, _, _], _ => rfl⟩
  have D_canonical : Df K mg "canonical" s_canonical ["table", "period", "rise"] := ⟨_, _, fun_mk (st := s_canonical) l_canonical c_canonical k_canonical, PySem.W.mg_of X G a_canonical, (fun_mk (st := s_canonical) l_canonical c_canonical k_canonical).binds (ps := ["table", "period", "rise"]) fun _ _ _ _ _ _ us hl => match us, hl with | [_, _, _], _ => rfl⟩
  have D_shortest : Df K mg "shortest" s_shortest ["table", "period", "rise"] := ⟨_, _, fun_mk (st := s_shortest) l_shortest c_shortest k_shortest, PySem.W.mg_of X G a_shortest, (fun_mk (st := s_shortest) l_shortest c_shortest k_shortest).binds (ps := ["table", "period", "rise"]) fun _ _ _ _ _ _ us hl => match us, hl with | [_, _, _], _ => rfl⟩
  have D_cycle_of : Df K mg "cycle_of" s_cycle_of ["items"] := ⟨_, _, fun_mk (st := s_cycle_of) l_cycle_of c_cycle_of k_cycle_of, PySem.W.mg_of X G a_cycle_of, (fun_mk (st := s_cycle_of) l_cycle_of c_cycle_of k_cycle_of).binds (ps := ["items"]) fun _ _ _ _ _ _ us hl => match us, hl with | [_], _ => rfl⟩
  have D_l_deck : Df K mg "_law_deck" s_l_deck ["_law_script"] := ⟨_, _, fun_mk (st := s_l_deck) l_l_deck c_l_deck k_l_deck, PySem.W.mg_of X G a_l_deck, (fun_mk (st := s_l_deck) l_l_deck c_l_deck k_l_deck).binds (ps := ["_law_script"]) fun _ _ _ _ _ _ us hl => match us, hl with | [_], _ => rfl⟩
  have D_l_draw : Df K mg "_law_draw" s_l_draw ["_law_deck_here", "_law_many"] := ⟨_, _, fun_mk (st := s_l_draw) l_l_draw c_l_draw k_l_draw, PySem.W.mg_of X G a_l_draw, (fun_mk (st := s_l_draw) l_l_draw c_l_draw k_l_draw).binds (ps := ["_law_deck_here", "_law_many"]) fun _ _ _ _ _ _ us hl => match us, hl with | [_, _], _ => rfl⟩
  have D_l_value : Df K mg "_law_value" s_l_value ["_law_rule_here", "_law_x"] := ⟨_, _, fun_mk (st := s_l_value) l_l_value c_l_value k_l_value, PySem.W.mg_of X G a_l_value, (fun_mk (st := s_l_value) l_l_value c_l_value k_l_value).binds (ps := ["_law_rule_here", "_law_x"]) fun _ _ _ _ _ _ us hl => match us, hl with | [_, _], _ => rfl⟩
  have D_l_repeats : Df K mg "_law_repeats" s_l_repeats ["_law_rule_here", "_law_step", "_law_more"] := ⟨_, _, fun_mk (st := s_l_repeats) l_l_repeats c_l_repeats k_l_repeats, PySem.W.mg_of X G a_l_repeats, (fun_mk (st := s_l_repeats) l_l_repeats c_l_repeats k_l_repeats).binds (ps := ["_law_rule_here", "_law_step", "_law_more"]) fun _ _ _ _ _ _ us hl => match us, hl with | [_, _, _], _ => rfl⟩
  have D_l_least : Df K mg "_law_least" s_l_least ["_law_rule_here"] := ⟨_, _, fun_mk (st := s_l_least) l_l_least c_l_least k_l_least, PySem.W.mg_of X G a_l_least, (fun_mk (st := s_l_least) l_l_least c_l_least k_l_least).binds (ps := ["_law_rule_here"]) fun _ _ _ _ _ _ us hl => match us, hl with | [_], _ => rfl⟩
  have D_l_rule : Df K mg "_law_rule" s_l_rule ["_law_deck_here", "_law_long", "_law_wide", "_law_tall"] := ⟨_, _, fun_mk (st := s_l_rule) l_l_rule c_l_rule k_l_rule, PySem.W.mg_of X G a_l_rule, (fun_mk (st := s_l_rule) l_l_rule c_l_rule k_l_rule).binds (ps := ["_law_deck_here", "_law_long", "_law_wide", "_law_tall"]) fun _ _ _ _ _ _ us hl => match us, hl with | [_, _, _, _], _ => rfl⟩
  have D_l_longer : Df K mg "_law_longer" s_l_longer ["_law_rule_here", "_law_more", "_law_turns"] := ⟨_, _, fun_mk (st := s_l_longer) l_l_longer c_l_longer k_l_longer, PySem.W.mg_of X G a_l_longer, (fun_mk (st := s_l_longer) l_l_longer c_l_longer k_l_longer).binds (ps := ["_law_rule_here", "_law_more", "_law_turns"]) fun _ _ _ _ _ _ us hl => match us, hl with | [_, _, _], _ => rfl⟩
  have D_l_tried : Df K mg "_law_tried" s_l_tried ["_law_table", "_law_period", "_law_rise"] := ⟨_, _, fun_mk (st := s_l_tried) l_l_tried c_l_tried k_l_tried, PySem.W.mg_of X G a_l_tried, (fun_mk (st := s_l_tried) l_l_tried c_l_tried k_l_tried).binds (ps := ["_law_table", "_law_period", "_law_rise"]) fun _ _ _ _ _ _ us hl => match us, hl with | [_, _, _], _ => rfl⟩
  have D_l_due : Df K mg "_law_due" s_l_due ["_law_table", "_law_period", "_law_rise"] := ⟨_, _, fun_mk (st := s_l_due) l_l_due c_l_due k_l_due, PySem.W.mg_of X G a_l_due, (fun_mk (st := s_l_due) l_l_due c_l_due k_l_due).binds (ps := ["_law_table", "_law_period", "_law_rise"]) fun _ _ _ _ _ _ us hl => match us, hl with | [_, _, _], _ => rfl⟩
  have D_l_spoilt : Df K mg "_law_spoilt" s_l_spoilt ["_law_deck_here", "_law_form"] := ⟨_, _, fun_mk (st := s_l_spoilt) l_l_spoilt c_l_spoilt k_l_spoilt, PySem.W.mg_of X G a_l_spoilt, (fun_mk (st := s_l_spoilt) l_l_spoilt c_l_spoilt k_l_spoilt).binds (ps := ["_law_deck_here", "_law_form"]) fun _ _ _ _ _ _ us hl => match us, hl with | [_, _], _ => rfl⟩
  have D_law : Df K mg "law" s_law ["_law_script"] := ⟨_, _, fun_mk (st := s_law) l_law c_law k_law, PySem.W.mg_of X G a_law, (fun_mk (st := s_law) l_law c_law k_law).binds (ps := ["_law_script"]) fun _ _ _ _ _ _ us hl => match us, hl with | [_], _ => rfl⟩
  refine ⟨PySem.W.fnOf "law" "law" (defArgs s_law) (defBody s_law) (defScope s_law) .none kV_law dc_law pm_law an_law cd_law ct_law, fun s v => .of_eq rfl, fun base _ _ => ?_⟩
  have C_is_whole : Cal l.prog w K mg base "is_whole" ["value"] 1 (sp_is_whole K) := ok_is_whole T D_is_whole
  have C_cycle_of : Cal l.prog w K mg base "cycle_of" ["items"] 1 (sp_cycle_of K) := ok_cycle_of T D_cycle_of
  have C_l_deck : Cal l.prog w K mg base "_law_deck" ["_law_script"] 1 (sp_l_deck K) := ok_l_deck T D_l_deck
  have C_l_draw : Cal l.prog w K mg base "_law_draw" ["_law_deck_here", "_law_many"] 1 (sp_l_draw K) := ok_l_draw T D_l_draw
  have C_l_value : Cal l.prog w K mg base "_law_value" ["_law_rule_here", "_law_x"] 1 (sp_l_value K) := ok_l_value T D_l_value
  have C_is_amount : Cal l.prog w K mg base "is_amount" ["value"] 2 (sp_is_amount K) := ok_is_amount T D_is_amount C_is_whole
  have C_shortest : Cal l.prog w K mg base "shortest" ["table", "period", "rise"] 2 (sp_shortest K) := ok_shortest T D_shortest C_cycle_of
  have C_l_repeats : Cal l.prog w K mg base "_law_repeats" ["_law_rule_here", "_law_step", "_law_more"] 2 (sp_l_repeats K) := ok_l_repeats T D_l_repeats C_l_value
  have C_l_longer : Cal l.prog w K mg base "_law_longer" ["_law_rule_here", "_law_more", "_law_turns"] 2 (sp_l_longer K) := ok_l_longer T D_l_longer C_l_value
  have C_l_spoilt : Cal l.prog w K mg base "_law_spoilt" ["_law_deck_here", "_law_form"] 2 (sp_l_spoilt K) := ok_l_spoilt T D_l_spoilt C_l_draw
  have C_told_error : Cal l.prog w K mg base "told_error" ["table", "period", "rise"] 3 (sp_told_error K) := ok_told_error T D_told_error C_is_amount C_is_whole
  have C_l_least : Cal l.prog w K mg base "_law_least" ["_law_rule_here"] 3 (sp_l_least K) := ok_l_least T D_l_least C_l_value C_l_repeats
  have CX_canonical : CalX l.prog w K mg base "canonical" ["table", "period", "rise"] 4 (sp_canonicalX cBR) := ok_canonicalX T XC D_canonical C_told_error C_shortest
  have C_canonical : Cal l.prog w K mg base "canonical" ["table", "period", "rise"] 4 (sp_canonical K) := ok_canonical0 CX_canonical
  have C_l_rule : Cal l.prog w K mg base "_law_rule" ["_law_deck_here", "_law_long", "_law_wide", "_law_tall"] 4 (sp_l_rule K) := ok_l_rule T D_l_rule C_l_least C_l_draw
  have C_l_due : Cal l.prog w K mg base "_law_due" ["_law_table", "_law_period", "_law_rise"] 4 (sp_l_due K) := ok_l_due T D_l_due C_l_least C_l_value
  have C_l_tried : Cal l.prog w K mg base "_law_tried" ["_law_table", "_law_period", "_law_rise"] 5 (sp_l_tried K) := ok_l_tried T XC D_l_tried CX_canonical
  exact ok_lawG T (fun_mk (st := s_law) l_law c_law k_law) C_canonical C_l_longer C_l_rule C_l_tried C_l_due C_l_spoilt C_l_draw C_l_deck

end Sm
open PySem PySem.W PyProof.Rows in
set_option maxRecDepth 100000 in
set_option maxHeartbeats 0 in
theorem PySem.Challenge.cw_smallchange_k01_rules_of_longer_tables_holds : PySem.Challenge.rw_smallchange_k01_rules_of_longer_tables.Holds := by
  w_on; o_law; k_head; (case hw => w_witness2)
  k_fill
  refine Sm.walk_at_law (l := PySem.Challenge.rw_smallchange_k01_rules_of_longer_tables) (k := 6) (x := "_law_script") (sp := Sm.sp_law) rfl rfl ⟨rfl, by decide, by decide⟩ (fun w h Y => PySem.W.kIn_of Y) ?F (fun _ _ a ns hl hS => ⟨a, ns, rfl, hS, hl, fun _ => rfl⟩)
  case F =>
    intro w mg fa h KX G hmg
    refine' Sm.all_mk KX G hmg ?a_is_whole ?l_is_whole ?c_is_whole ?k_is_whole ?a_is_amount ?l_is_amount ?c_is_amount ?k_is_amount ?a_told_error ?l_told_error ?c_told_error ?k_told_error ?a_canonical ?l_canonical ?c_canonical ?k_canonical ?a_shortest ?l_shortest ?c_shortest ?k_shortest ?a_cycle_of ?l_cycle_of ?c_cycle_of ?k_cycle_of ?a_l_deck ?l_l_deck ?c_l_deck ?k_l_deck ?a_l_draw ?l_l_draw ?c_l_draw ?k_l_draw ?a_l_value ?l_l_value ?c_l_value ?k_l_value ?a_l_repeats ?l_l_repeats ?c_l_repeats ?k_l_repeats ?a_l_least ?l_l_least ?c_l_least ?k_l_least ?a_l_rule ?l_l_rule ?c_l_rule ?k_l_rule ?a_l_longer ?l_l_longer ?c_l_longer ?k_l_longer ?a_l_tried ?l_l_tried ?c_l_tried ?k_l_tried ?a_l_due ?l_l_due ?c_l_due ?k_l_due ?a_l_spoilt ?l_l_spoilt ?c_l_spoilt ?k_l_spoilt ?a_law ?l_law ?c_law ?k_law ?a_cCE ?a_cTL ?a_cBR ?a_cNS ?a_cNR ?x_BR ?f_sa ?f_ga ?f_gg ?f_no ?f_iC ?f_cl ?t_fB ?t_BR ?k_BR ?e_BR ?v_BR ?s_BR ?h_BR ?m_BR ?g_cl ?t_cl ?e_CE ?h_CE ?t_CE ?s_CE ?i_TL ?t_TL ?s_TL ?i_NS ?t_NS ?s_NS ?i_NR ?t_NR ?s_NR ?l_fB ?c_fB ?k_fB ?z_ValueError ?z_abs ?z_all ?z_any ?z_bool ?z_int ?z_isinstance ?z_len ?z_list ?z_max ?z_range ?z_repr ?z_tuple
    (case a_is_whole => k_is)
    (case l_is_whole => k_is)
    (case c_is_whole => k_is)
    (case k_is_whole => k_is)
    (case a_is_amount => k_is)
    (case l_is_amount => k_is)
    (case c_is_amount => k_is)
    (case k_is_amount => k_is)
    (case a_told_error => k_is)
    (case l_told_error => k_is)
    (case c_told_error => k_is)
    (case k_told_error => k_is)
    (case a_canonical => k_is)
    (case l_canonical => k_is)
    (case c_canonical => k_is)
    (case k_canonical => k_is)
    (case a_shortest => k_is)
    (case l_shortest => k_is)
    (case c_shortest => k_is)
    (case k_shortest => k_is)
    (case a_cycle_of => k_is)
    (case l_cycle_of => k_is)
    (case c_cycle_of => k_is)
    (case k_cycle_of => k_is)
    (case a_l_deck => k_is)
    (case l_l_deck => k_is)
    (case c_l_deck => k_is)
    (case k_l_deck => k_is)
    (case a_l_draw => k_is)
    (case l_l_draw => k_is)
    (case c_l_draw => k_is)
    (case k_l_draw => k_is)
    (case a_l_value => k_is)
    (case l_l_value => k_is)
    (case c_l_value => k_is)
    (case k_l_value => k_is)
    (case a_l_repeats => k_is)
    (case l_l_repeats => k_is)
    (case c_l_repeats => k_is)
    (case k_l_repeats => k_is)
    (case a_l_least => k_is)
    (case l_l_least => k_is)
    (case c_l_least => k_is)
    (case k_l_least => k_is)
    (case a_l_rule => k_is)
    (case l_l_rule => k_is)
    (case c_l_rule => k_is)
    (case k_l_rule => k_is)
    (case a_l_longer => k_is)
    (case l_l_longer => k_is)
    (case c_l_longer => k_is)
    (case k_l_longer => k_is)
    (case a_l_tried => k_is)
    (case l_l_tried => k_is)
    (case c_l_tried => k_is)
    (case k_l_tried => k_is)
    (case a_l_due => k_is)
    (case l_l_due => k_is)
    (case c_l_due => k_is)
    (case k_l_due => k_is)
    (case a_l_spoilt => k_is)
    (case l_l_spoilt => k_is)
    (case c_l_spoilt => k_is)
    (case k_l_spoilt => k_is)
    (case a_law => k_is)
    (case l_law => k_is)
    (case c_law => k_is)
    (case k_law => k_is)
    (case a_cCE => first | k_is | rfl)
    (case a_cTL => first | k_is | rfl)
    (case a_cBR => first | k_is | rfl)
    (case a_cNS => first | k_is | rfl)
    (case a_cNR => first | k_is | rfl)
    (case x_BR => first | k_is | rfl)
    (case f_sa => first | k_is | rfl)
    (case f_ga => first | k_is | rfl)
    (case f_gg => first | k_is | rfl)
    (case f_no => first | k_is | rfl)
    (case f_iC => first | k_is | rfl)
    (case f_cl => first | k_is | rfl)
    (case t_fB => first | k_is | rfl)
    (case t_BR => first | k_is | rfl)
    (case k_BR => first | k_is | rfl)
    (case e_BR => first | k_is | rfl)
    (case v_BR => first | k_is | rfl)
    (case s_BR => first | k_is | rfl)
    (case h_BR => first | k_is | rfl)
    (case m_BR => first | k_is | rfl)
    (case g_cl => first | k_is | rfl)
    (case t_cl => first | k_is | rfl)
    (case e_CE => first | k_is | rfl)
    (case h_CE => first | k_is | rfl)
    (case t_CE => first | k_is | rfl)
    (case s_CE => first | k_is | rfl)
    (case i_TL => first | k_is | rfl)
    (case t_TL => first | k_is | rfl)
    (case s_TL => first | k_is | rfl)
    (case i_NS => first | k_is | rfl)
    (case t_NS => first | k_is | rfl)
    (case s_NS => first | k_is | rfl)
    (case i_NR => first | k_is | rfl)
    (case t_NR => first | k_is | rfl)
    (case s_NR => first | k_is | rfl)
    (case l_fB => first | k_is | rfl)
    (case c_fB => first | k_is | rfl)
    (case k_fB => first | k_is | rfl)
    (case z_ValueError => k_is)
    (case z_abs => k_is)
    (case z_all => k_is)
    (case z_any => k_is)
    (case z_bool => k_is)
    (case z_int => k_is)
    (case z_isinstance => k_is)
    (case z_len => k_is)
    (case z_list => k_is)
    (case z_max => k_is)
    (case z_range => k_is)
    (case z_repr => k_is)
    (case z_tuple => k_is)
