import PyProof.Rows.All
import Wide.All
import OpenK.AllK
import Wide.FinOn
import HandS.ForMost
import HandS.Wide
import HandS.Codes
import PyProof.ReprRoads
import HandS.IsInst
import HandS.Dict
import HandS.List
import KE.DataEq
import PyProof.FactsAll.dict_1
import PyProof.FactsAll.subtypes
import HandS.TupAny
import HandS.TupMul
import HandS.Deep
import HandS.Conv
import HandS.Style
import HandS.TupSets
import PySem.Challenge.RW_smallchange_k50_prices_and_loops_judged
set_option Elab.async false
set_option linter.all false
set_option maxRecDepth 100000
set_option maxHeartbeats 4000000
namespace Sm
open PySem PySem.Spec PyProof.Rows L2
/-! ### promises of defs where no repr is under way: as FnOk, with A's guards empty -/
structure FnG (P : Program) (w : World) (K : PySem.W.Frag) (mg : Str → Option Value) (base : Heap) (k : Nat) (f : Addr) (fd : FuncData) (ps : List Str) (sp : Sp) : Prop where
  len : ∀ vs H Q E, sp vs H Q E → vs.length = ps.length
  run : ∀ (A : Around) (outer : List Env) (s : Shared) (H : Hp) (args : Args) (us : List Value) (vs : List V) (Q : VK) (E : XK), A.guards = some [] → Room k A →
    Env0 P w K mg base A outer s H → BindsTo s fd args (ps.zip us) → Vals vs us → sp vs H Q E → codeAny (model P w) A (.call (.ref f) args) (CR CX0 outer P w H s Q E) s
section
variable {P : Program} {w : World} {K : PySem.W.Frag} {mg : Str → Option Value} {base : Heap} {k : Nat} {f : Addr} {fd : FuncData} {ps : List Str} {sp : Sp}
theorem FnG.of (F : FnOk P w K mg base CX0 k f fd ps sp) : FnG P w K mg base k f fd ps sp :=
  ⟨F.len, fun A outer s H args us vs Q E _ hr e b v h => F.run A outer s H args us vs Q E hr e b v h⟩
theorem FnG.body {x : Str} {st : Stmt} {N : List Str} (F : Fun K x x st f fd) (S : FnScope N ps (defScope st)) (len : ∀ vs H Q E, sp vs H Q E → vs.length = ps.length)
    (hb : ∀ (cdv : Value) (A : Around) (outer : List Env) (s : Shared) (H : Hp) (vs : List V) (Q : VK) (E : XK), A.guards = some [] → Room k (A.deeper (envOfC x (defScope st) s.heap.objs.size f cdv)) → sp vs H Q E →
      ∃ t, PSs (cxOf CX0 P w K mg base N x (defScope st) f cdv A outer s H E).nox (defBody st) t ∧ t { nx := fun _ H' => Q .non H', rt := Q } (start N vs) H) : FnG P w K mg base (k + 1) f fd ps sp := by
  obtain ⟨oc, od, kV, doc, pm, an, cdv, ct, osl, efd, look, code⟩ := F.ex
  subst efd
  constructor
  · exact len
  intro A outer s H args us vs Q E guard room e0 bind rel want
  have inn : K.In s.heap := e0.mod.kin.keeps fun b o e => (e0.bs b o e).1
  have nolim : s.heap.NoLimit := e0.mod.nolimit.keeps fun b o e => (e0.bs b o e).1
  refine codeAny_call_function room.depth (inn _ _ look) rfl S.co S.gen rfl (PySem.W.codeRec_of inn code) (bind _ _ _ _ ?_)
  refine wpAny_newFunctionEnv_cells S.kind ?_ ?_
  · rintro ⟨n, v⟩ there
    have := S.par n (List.of_mem_zip there).1
    cases this with
    | inl q => exact .inl q
    | inr q => exact .inr ⟨q, PySem.W.cellsFrom_some _ _ _ (.inl q)⟩
  · intro env eenv s1 laid
    subst eenv
    refine ⟨nolim.keeps laid.toInCall.keep, codeAny_func ?_⟩
    obtain ⟨t, der, goal⟩ := hb cdv A outer s H vs Q E guard (room.deeper _) want
    have I := inv_start (CX := CX0) (E := E) S room.hd e0 (len _ _ _ _ want) rel laid
    refine wpAny_mono (der.nox.run [] s1 (start N vs) H _ I goal) (fun out s' got => ?_) fun e s' got => got
    match out, got with
    | .ret u, ⟨v, σ', H', J, rv, q⟩ => exact ⟨v, H', J.os, J.bare, J.base, J.hok, rv, q⟩
    | .next, ⟨σ', H', J, q⟩ => exact ⟨V.non, H', J.os, J.bare, J.base, J.hok, rfl, q⟩
    | .brk, ⟨_, _, _, q⟩ => exact q.elim
    | .cont, ⟨_, _, _, q⟩ => exact q.elim
end
section
variable {X : Cx} {k : Nat} {f : Addr} {fd : FuncData} {ps : List Str} {sp : Sp} {x : Str} {p pos : Pos} {e : Expr} {es : List Expr} {t : TA}
theorem pe_callG (F : FnG X.prog X.w X.K X.mg X.base k f fd ps sp) (gu : X.A.guards = some []) (hr : Room k X.A) (hg : Gl X x) (hm : X.mg x = some (.ref f)) (hk : PySem.W.keepIn X.K (.ref f) = true) (hb : Binds X.K fd ps [])
    (ha : PA X (e :: es) t) (hdb : (x == ("__debug__" : Str)) = false := by decide) (he : starEach (e :: es) X.env = (false, eval e X.env) :: starEach es X.env := by rfl) (hpl : (backTo pos (starEach es X.env)).any (·.1) = false := by rfl) :
    PE X (.Call (.Name x p) (e :: es) [] pos) (tCall sp [] E0 t) := by
  constructor
  intro pins s σ H Q I want
  refine wpAny_Call_Name_kw (ld_glob I hg hm ?_ hdb)
  refine PySem.W.callWith_K (h₀ := X.base) I.ok.mod.kin hk (thn (ha.run pos pins s σ H _ I want) ?_) he hpl
  rintro us s1 ⟨vs, H1, I1, rel, q⟩
  refine ⟨I1.kIn, ?_⟩
  have q : sp vs H1 Q E0 := by
    have q : sp (vs ++ []) H1 Q E0 := q
    rw [List.append_nil] at q
    exact q
  have b := hb s1 us I1.kIn (by rw [List.append_nil, ← rel.length]; exact F.len _ _ _ _ q)
  rw [List.append_nil] at b
  refine wpAny_call (codeAny_mono (F.run X.A X.stack s1 H1 ⟨us, []⟩ us vs Q E0 gu hr I1.env0 b rel q) ?_)
  rintro (e | out) s' got
  · exact got.elim
  · match out, got with
    | .ret u, got => exact I1.after got
    | .next, got => exact got.elim
    | .brk, got => exact got.elim
    | .cont, got => exact got.elim
/-- repr of data at any depth -/
theorem call_repr_data (gu : X.A.guards = some []) (room : ∃ k, Room k X.A) : CallR X (.builtin "repr") (fun xs H Q => ∃ a d, xs = [.ref a] ∧ Dp X.K H (.ref a) d ∧ PyData.showable d = true ∧ PyData.hasDict d = false ∧ d.depth ≤ 60 ∧ d.shown.length ≤ sizeLine ∧ Q (.str d.shown) H) := by
  intro pins s σ H xs us Q I rel want
  obtain ⟨a, d, rfl, data, sh, nd, dep, len, q⟩ := want
  obtain ⟨u, rfl, ru⟩ := vals1 rel
  obtain ⟨as, reads⟩ := Dp.reads I d _ u data ru
  cases ru
  obtain ⟨k, room⟩ := room
  have un := room.un
  exact repr_of_reads' reads sh (PyData.noDict_hsm nd) gu (by omega) (fun _ _ e => e) (fun h' v tk keep => ⟨.str d.shown, H, I.kept keep, ⟨_, rfl⟩, q⟩) len
end
/-! ### the law's own call, at the caller's place -/
theorem law_at {P : Program} {w : World} {K : PySem.W.Frag} {mg mb : Str → Option Value} {k : Nat} {fa a : Addr} {fd : FuncData} {x : Str} {sp : Sp} {s₁ : Shared} {vs : List Value} {ns : List Int}
    (KX : K.In s₁.heap) (hns : s₁.heap.Ns mainGlobals mg) (hb : s₁.heap.Ns builtinsNs mb) (hbb : ∀ x : Str, x ≠ "__name__" → mb x = bootBuiltins x) (hlim : s₁.heap.NoLimit) (hg : s₁.gens = #[])
    (ha : s₁.heap.get? a = some { cls := .type "list", data := .seq vs.toArray }) (hi : IntsAre vs ns) (hl : ns.length ≤ sizeLine) (hr : Room k callerA)
    (F : ∀ base : Heap, K.In base → base.Ns mainGlobals mg → FnG P w K mg base k fa fd [x] sp) (hbind : ∀ (s : Shared) (u : Value), BindsTo s fd ⟨[u], []⟩ [(x, u)])
    (hsp : ∀ H : Hp, SqL K H a (ns.map V.int) → sp [.ref a] H (fun v _ => v = .bl true) E0) :
    codeAny (model P w) callerA (.call (.ref fa) ⟨[.ref a], []⟩) (fun r s' => r = .ok (.ret (.bool true)) ∧ OldK s₁.heap s'.heap ∧ s'.os = s₁.os ∧ AllBare s'.gens) s₁ := by
  have ivs := vals_ints hi
  -- what is tracked: the script, if the module does not hold it itself
  obtain ⟨H, seq, ok, only, free⟩ : ∃ H : Hp, SqL K H a (ns.map V.int) ∧ HOk P w H s₁.heap ∧ (∀ b u, H b = some u → b = a ∧ u = .frz { cls := .type "list", data := .seq vs.toArray } (.lst (ns.map V.int))) ∧ ∀ b u, H b = some u → K.lookup b = none := by
    cases look : K.lookup a with
    | some o =>
      have same := KX a o look
      rw [ha] at same
      injection same with same
      subst same
      have empty : ∀ {u : HO}, (none : Option HO) = some u → False := fun z => nomatch z
      refine ⟨fun _ => none, .inr ⟨_, vs.toArray, _, look, rfl, rfl, rfl, ?_, ?_⟩, fun b u z => (empty z).elim, fun b u z => (empty z).elim, fun b u z => (empty z).elim⟩
      · rw [List.size_toArray, hi.length]
        exact hl
      · simpa using ivs
    | none =>
      have at_a : ∀ b u, (fun b => if b = a then some (HO.frz { cls := .type "list", data := .seq vs.toArray } (.lst (ns.map V.int))) else none : Hp) b = some u → b = a ∧ u = .frz { cls := .type "list", data := .seq vs.toArray } (.lst (ns.map V.int)) := by
        intro b u z
        by_cases e : b = a
        · have z := (if_pos e).symm.trans z
          exact ⟨e, (Option.some.inj z).symm⟩
        · exact nomatch (if_neg e).symm.trans z
      refine ⟨_, .inl (.inr ⟨_, if_pos rfl⟩), fun b u z => ?_, at_a, fun b u z => ?_⟩
      · obtain ⟨rfl, rfl⟩ := at_a b u z
        exact ⟨ha, by rw [List.length_map]; exact hl, vs, _, ivs, ha⟩
      · rw [(at_a b u z).1]
        exact look
  have stays : ∀ {b : Addr} {o : Obj}, s₁.heap.get? b = some o → (∀ u, H b ≠ some u) → (hidT s₁.heap H).get? b = some o := fun {b o} e no => hidT_get e (by
    cases z : H b with
    | none => rfl
    | some u => exact (no u z).elim)
  have spaces : ∀ {b : Addr} {m : Str → Option Value}, s₁.heap.Ns b m → (hidT s₁.heap H).Ns b m := by
    rintro b m ⟨o, es, ep, there, data, rest⟩
    refine ⟨o, es, ep, stays there fun u z => ?_, data, rest⟩
    rw [(only b u z).1, ha] at there
    injection there with there
    subst there
    exact nomatch data
  have inn : K.In (hidT s₁.heap H) := fun b o e => stays (KX b o e) fun u z => by
    rw [free b u z] at e
    exact nomatch e
  have mod : Mod K mg (hidT s₁.heap H) := by
    obtain ⟨mc, c1, c2⟩ := hlim
    exact ⟨inn, spaces hns, ⟨mb, spaces hb, hbb⟩, mc, spaces c1, c2⟩
  have e0 : Env0 P w K mg (hidT s₁.heap H) callerA [] s₁ H := by
    refine ⟨rfl, mod, fun b o e => of_hidT e, Nat.le_of_eq (hidT_size _ _), trivial, ?_, ok, .of_eq hg⟩
    intro b q
    exact absurd q (List.not_mem_nil (a := b))
  refine codeAny_mono ((F _ inn (spaces hns)).run callerA [] s₁ H ⟨[.ref a], []⟩ [.ref a] [.ref a] _ _ rfl hr e0 (hbind s₁ (.ref a)) (.cons rfl .nil) (hsp H seq)) ?_
  rintro (e | out) s' got
  · exact got.elim
  · match out, got with
    | .next, got => exact got.elim
    | .brk, got => exact got.elim
    | .cont, got => exact got.elim
    | .ret u, ⟨v, H', os, bare, un, ok', rel, q⟩ =>
      have q : v = V.bl true := q
      subst q
      have rel : u = Value.bool true := rel
      subst rel
      refine ⟨rfl, .of_keep fun b o e => ?_, os, bare⟩
      cases z : H b with
      | none => exact un.keep b o e z (List.not_mem_nil (a := b)) (List.not_mem_nil (a := b))
      | some u =>
        obtain ⟨rfl, rfl⟩ := only b u z
        have now := (ok' _ _ (un.frzs _ _ _ z)).1
        rw [ha] at e
        injection e with e
        rw [← e]
        exact now
theorem walk_at_law {l : PySem.W.OpenLaw} {k : Nat} {q : Program} {loose : List Str} {XP : (Str → Option Value) → Heap → Prop} {YP : World → Heap → Prop} {d : DefRec} {K : Params → PySem.W.Frag} {sp : PySem.W.Frag → Sp} {x : Str}
    (hn : l.most = some 63) (hdf : d.params.defaults = []) (hr : Room k callerA) (hY : ∀ (w : World) (h : Heap), YP w h → (K w.params).In h)
    (F : ∀ (w : World) (mg : Str → Option Value) (fa : Addr) (h : Heap), (K w.params).In h → h.Ns mainGlobals mg → mg d.name = some (.ref fa) →
      ∃ fd : FuncData, (∀ (s : Shared) (u : Value), BindsTo s fd ⟨[u], []⟩ [(x, u)]) ∧ ∀ base : Heap, (K w.params).In base → base.Ns mainGlobals mg → FnG l.prog w (K w.params) mg base k fa fd [x] (sp (K w.params)))
    (hsp : ∀ (K : PySem.W.Frag) (H : Hp) (a : Addr) (ns : List Int), ns.length ≤ 63 → SqL K H a (ns.map V.int) → sp K [.ref a] H (fun v _ => v = .bl true) E0) :
    PySem.W.WalkO q loose XP YP l.row.toRowW d [] (fun f vs => PySem.call f vs) := by
  refine Att.attach_call hn hdf ?_
  intro w s₀ s₁ mg mb fa o pm cd doc a vs ns G Y ho hd hcd hmg hobj hints hlen hg
  obtain ⟨fd, bind, each⟩ := F w mg fa _ (hY w _ Y) G.T.g hmg
  exact law_at (hY w _ Y) G.T.g G.T.b G.T.builtins G.T.nolimit hg hobj hints (Nat.le_trans hlen (by decide)) hr each bind fun H sq => hsp (K w.params) H a ns hlen sq
end Sm

set_option Elab.async false
set_option linter.all false
set_option maxRecDepth 100000
set_option maxHeartbeats 4000000
namespace Sm
open PySem PySem.Spec PyProof.Rows L2
section
variable {P : Program} {w : World} {K : PySem.W.Frag} {mg : Str → Option Value} {base : Heap}
def Df (K : PySem.W.Frag) (mg : Str → Option Value) (x : Str) (st : Stmt) (ps : List Str) : Prop :=
  ∃ (f : Addr) (fd : FuncData), Fun K x x st f fd ∧ mg x = some (.ref f) ∧ Binds K fd ps []
def Cal (P : Program) (w : World) (K : PySem.W.Frag) (mg : Str → Option Value) (base : Heap) (x : Str) (ps : List Str) (k : Nat) (sp : Sp) : Prop :=
  ∃ (f : Addr) (fd : FuncData), FnOk P w K mg base CX0 k f fd ps sp ∧ mg x = some (.ref f) ∧ PySem.W.keepIn K (.ref f) = true ∧ Binds K fd ps []
theorem Df.cal {x : Str} {st : Stmt} {N ps : List Str} {k : Nat} {sp : Sp} (D : Df K mg x st ps) (S : FnScope N ps (defScope st)) (len : ∀ vs H Q E, sp vs H Q E → vs.length = ps.length)
    (hbody : ∀ (f : Addr) (cdv : Value) (A : Around) (outer : List Env) (s : Shared) (H : Hp) (vs : List V) (Q : VK) (E : XK), Room k (A.deeper (envOfC x (defScope st) s.heap.objs.size f cdv)) → sp vs H Q E →
      ∃ t, PSs (cxOf CX0 P w K mg base N x (defScope st) f cdv A outer s H E).nox (defBody st) t ∧ t { nx := fun _ H' => Q .non H', rt := Q } (start N vs) H) : Cal P w K mg base x ps (k + 1) sp := by
  obtain ⟨f, fd, F, m, b⟩ := D
  exact ⟨f, fd, F.ok S len (fun cdv A outer s H vs Q E hr h => hbody f cdv A outer s H vs Q E hr h), m, F.kp, b⟩
theorem same_upd {H : Hp} {p : Addr} {o : HO} (h : H p = none) : Same H (upd H p o) := fun b x e => by
  rw [upd_ne (ne_of_none e h)]
  exact e
theorem iteP {p A B : Prop} [Decidable p] (h : p) (a : A) : if decide p = true then A else B := by
  rw [decide_eq_true h]
  exact iteT a
theorem iteN {p A B : Prop} [Decidable p] (h : ¬ p) (b : B) : if decide p = true then A else B := by
  rw [decide_eq_false h]
  exact iteF b
theorem iteNP {p A B : Prop} [Decidable p] (h : p) (b : B) : if (!decide p) = true then A else B := by
  rw [decide_eq_true h]
  exact iteF b
theorem iteNN {p A B : Prop} [Decidable p] (h : ¬ p) (a : A) : if (!decide p) = true then A else B := by
  rw [decide_eq_false h]
  exact iteT a
theorem ite3 {p A B : Prop} [Decidable p] (h1 : p → A) (h2 : ¬ p → B) : if decide p = true then A else B := by
  by_cases h : p
  · exact iteP h (h1 h)
  · exact iteN h (h2 h)
theorem fmod_pos {a b : Int} (h : 0 < b) : a.fmod b = a % b := Int.fmod_eq_emod_of_nonneg a (by omega)
end
/-! ### the deck -/
structure Deck (H : Hp) (p l : Addr) (n : Int) : Prop where
  hp : H p = some (.lst [.ref l, .int n])
  hl : ∃ cells : List Int, H l = some (.lst (cells.map V.int)) ∧ (∀ c ∈ cells, 0 ≤ c) ∧ cells.length ≤ 63
theorem deck_ne {l : Addr} {n : Int} {cells : List Int} : HO.lst [.ref l, .int n] ≠ HO.lst (cells.map V.int) := by
  intro q
  injection q with q
  cases cells with
  | nil => cases q
  | cons c r => cases (List.cons.inj q).1
/-- all but the deck is as it was -/
def Fr (p l : Addr) (H H' : Hp) : Prop := ∀ b o, b ≠ p → b ≠ l → H b = some o → H' b = some o
theorem Fr.trans {p l : Addr} {H H1 H2 : Hp} (a : Fr p l H H1) (b : Fr p l H1 H2) : Fr p l H H2 := fun c o h1 h2 h => b c o h1 h2 (a c o h1 h2 h)
theorem Same.fr {p l : Addr} {H H' : Hp} (s : Same H H') : Fr p l H H' := fun b o _ _ h => s b o h
theorem Deck.same {H H' : Hp} {p l : Addr} {n : Int} (D : Deck H p l n) (s : Same H H') : Deck H' p l n := by
  obtain ⟨cells, hl, hc⟩ := D.hl
  exact ⟨s _ _ D.hp, cells, s _ _ hl, hc⟩
theorem Fr.tup {H H' : Hp} {p l b : Addr} {n : Int} {xs : List V} (f : Fr p l H H') (D : Deck H p l n) (h : H b = some (.tup xs)) : H' b = some (.tup xs) := by
  obtain ⟨cells, hl, hc⟩ := D.hl
  exact f b _ (ne_of h D.hp (by intro q; cases q)) (ne_of h hl (by intro q; cases q)) h
def sp_l_deck (K : PySem.W.Frag) : Sp := fun vs H Q _ => ∃ (a : Addr) (ns : List Int), vs = [.ref a] ∧ SqL K H a (ns.map V.int) ∧ ns.length ≤ 63 ∧ ∀ H' p l, Same H H' → Deck H' p l 0 → Q (.ref p) H'
def sp_l_draw (K : PySem.W.Frag) : Sp := fun vs H Q _ => ∃ (p l : Addr) (n m : Int), vs = [.ref p, .int m] ∧ Deck H p l n ∧ 0 ≤ n ∧ n ≤ 1000000 ∧ 0 < m ∧ m ≤ 1000000000000000000000000000000000000000000000000000000000000 ∧
  ∀ r H', 0 ≤ r → r < m → Fr p l H H' → Deck H' p l (n + 1) → Q (.int r) H'
def sp_l_one (K : PySem.W.Frag) : Sp := fun vs H Q _ => ∃ (p l b : Addr) (n : Int) (xs : List V), vs = [.ref p, .ref b] ∧ Deck H p l n ∧ 0 ≤ n ∧ n ≤ 1000000 ∧ H b = some (.lst xs) ∧ b ≠ p ∧ b ≠ l ∧ 0 < xs.length ∧ xs.length ≤ 1000 ∧
  ∀ x H', x ∈ xs → Fr p l H H' → Deck H' p l (n + 1) → Q x H'
theorem cut63 {ns : List Int} (h : ns.length ≤ 63) : cutV (ns.map V.int) none (some 63) = ns.map V.int := by
  unfold cutV
  rw [HT.sIx_none, show HT.sIx (ns.map V.int).length (ns.map V.int).length (some 63) = min 63 (ns.map V.int).length from HT.sIx_nat _ _ 63]
  rw [List.length_map, Nat.min_eq_right h, List.drop_zero]
  exact List.take_of_length_le (by rw [List.length_map]; omega)
def absI (n : Int) : Int := if n < 0 then -n else n
theorem absI_pos (n : Int) : 0 ≤ absI n := by
  unfold absI
  split <;> omega
theorem div_draw {c m : Int} (h0 : 0 < m) (h : m ≤ 1000000000000000000000000000000000000000000000000000000000000) : CDivW c m :=
  wide_div (b := 300) h0 (by omega) (by decide) (by decide)
theorem cut_all {xs : List V} {n : Nat} : cutV xs none (some (n : Int)) = xs.take n := by
  unfold cutV
  rw [HT.sIx_none, HT.sIx_nat, List.drop_zero, Nat.sub_zero]
  rcases Nat.le_total n xs.length with h | h
  · rw [Nat.min_eq_left h]
  · rw [Nat.min_eq_right h, List.take_length, List.take_of_length_le h]
theorem ne_new {H : Hp} {p b : Addr} {o : HO} (h : H p = some o) (n : H b = none) : b ≠ p := (ne_of_none h n).symm
/-- what the deck's second list is not -/
theorem Deck.lne {H : Hp} {p l b : Addr} {n : Int} (D : Deck H p l n) (h : H b = none) : b ≠ p ∧ b ≠ l := by
  obtain ⟨cells, hl, hc⟩ := D.hl
  exact ⟨ne_new D.hp h, ne_new hl h⟩
section
variable {X : Cx}
/-- repr of an int or None -/
theorem call_repr_some : CallR X (.builtin "repr") (fun xs H Q => (∃ i, xs = [.int i] ∧ i.natAbs.log2 < 1920 ∧ Q (.str (toString i)) H) ∨ (xs = [.non] ∧ Q (.str "None") H)) := by
  intro pins s σ H xs us Q I r h
  rcases h with ⟨i, rfl, hz, q⟩ | ⟨rfl, q⟩
  · obtain ⟨u, rfl, t, rfl⟩ := vals1 r
    exact PySem.P.repr_of_int hz ⟨.str _, H, I.tok _, ⟨_, rfl⟩, q⟩
  · obtain ⟨u, rfl, rfl⟩ := vals1 r
    exact PySem.P.repr_of_none ⟨.str _, H, I.tok _, ⟨_, rfl⟩, q⟩
def dataI (ns : List Int) : PyData := .list (ns.map PyData.int)
theorem dp_ints {K : PySem.W.Frag} {H : Hp} : ∀ ns : List Int, DpAll K H (ns.map V.int) (ns.map PyData.int)
  | [] => .nil
  | n :: ns => .cons (.int n) (dp_ints ns)
theorem showable_ints : ∀ {ns : List Int}, (∀ n ∈ ns, n.natAbs.log2 < 1920) → PyData.showableAll (ns.map PyData.int) = true
  | [], _ => rfl
  | n :: ns, h => by
    have a := h n (List.mem_cons_self ..)
    have b := showable_ints (ns := ns) fun m hm => h m (List.mem_cons_of_mem _ hm)
    simp only [List.map_cons, PyData.showableAll, PyData.showable, decide_eq_true a, b, Bool.and_self]
theorem hasDict_ints : ∀ ns : List Int, PyData.hasDictAll (ns.map PyData.int) = false
  | [] => rfl
  | n :: ns => by
    simp only [List.map_cons, PyData.hasDictAll, PyData.hasDict, hasDict_ints ns, Bool.or_self]
theorem depth_ints : ∀ ns : List Int, PyData.depthAll (ns.map PyData.int) ≤ 1
  | [] => by simp [PyData.depthAll]
  | n :: ns => by
    have := depth_ints ns
    simp only [List.map_cons, PyData.depthAll, PyData.depth]
    omega
theorem shown_ints : ∀ {ns : List Int}, (∀ n ∈ ns, n.natAbs.log2 < 1920) → ((PyData.shownAll (ns.map PyData.int)).map (·.length)).sum ≤ 1921 * ns.length ∧ (PyData.shownAll (ns.map PyData.int)).length = ns.length
  | [], _ => by simp [PyData.shownAll]
  | n :: ns, h => by
    have a := PyProof.Rows.int_text_len_1921 (h n (List.mem_cons_self ..))
    obtain ⟨b, c⟩ := shown_ints (ns := ns) fun m hm => h m (List.mem_cons_of_mem _ hm)
    simp only [List.map_cons, PyData.shownAll, PyData.shown, List.sum_cons, List.length_cons]
    omega
/-- repr of a list of ints -/
theorem call_repr_ints (gu : X.A.guards = some []) (room : ∃ k, Room k X.A) : CallR X (.builtin "repr") (fun xs H Q => ∃ a ns, xs = [.ref a] ∧ SqL X.K H a (ns.map V.int) ∧ ns.length ≤ 5000 ∧ (∀ n ∈ ns, n.natAbs.log2 < 1920) ∧ Q (.str (dataI ns).shown) H) := by
  intro pins s σ H xs us Q I r h
  obtain ⟨a, ns, rfl, hS, len, small, q⟩ := h
  refine call_repr_data gu room pins s σ H _ us Q I r ⟨a, dataI ns, rfl, .lst hS (dp_ints ns), ?_, ?_, ?_, ?_, q⟩
  · unfold dataI
    simp only [PyData.showable, showable_ints small]
  · unfold dataI
    simp only [PyData.hasDict, hasDict_ints]
  · have := depth_ints ns
    unfold dataI
    simp only [PyData.depth]
    omega
  · obtain ⟨s1, s2⟩ := shown_ints small
    have := listText_len_le (PyData.shownAll (ns.map PyData.int))
    unfold dataI
    simp only [PyData.shown]
    rw [sizeLine_eq]
    omega
end
end Sm

set_option Elab.async false
set_option linter.all false
set_option maxRecDepth 100000
set_option maxHeartbeats 4000000
namespace Sm
open PySem PySem.Spec PyProof.Rows L2
/-! ### values of all kinds as data, dicts with text keys and ints too -/
def kD : Key → PyData
  | .inl i => .int i
  | .inr x => .str x
mutual
inductive Dq (K : PySem.W.Frag) (H : Hp) : V → PyData → Prop
  | non : Dq K H .non .none
  | bl (b : Bool) : Dq K H (.bl b) (.bool b)
  | int (i : Int) : Dq K H (.int i) (.int i)
  | str (x : Str) : Dq K H (.str x) (.str x)
  | lst {a : Addr} {xs : List V} {ds : List PyData} : H a = some (.lst xs) → (a == sysModules) = false → DqAll K H xs ds → Dq K H (.ref a) (.list ds)
  | tup {a : Addr} {xs : List V} {ds : List PyData} : H a = some (.tup xs) → DqAll K H xs ds → Dq K H (.ref a) (.tuple ds)
  | dic {a : Addr} (kvs : List (Key × Int)) : H a = some (.dK (kvs.map fun q => (q.1, V.int q.2))) → Dq K H (.ref a) (.dict (kvs.map fun q => (kD q.1, PyData.int q.2)))
inductive DqAll (K : PySem.W.Frag) (H : Hp) : List V → List PyData → Prop
  | nil : DqAll K H [] []
  | cons {v : V} {vs : List V} {d : PyData} {ds : List PyData} : Dq K H v d → DqAll K H vs ds → DqAll K H (v :: vs) (d :: ds)
end
mutual
theorem Dq.mono {K : PySem.W.Frag} {H H' : Hp} (e : ∀ b o, H b = some o → H' b = some o) : ∀ (d : PyData) (v : V), Dq K H v d → Dq K H' v d
  | .none, _, h => by cases h; exact .non
  | .bool b, _, h => by cases h; exact .bl b
  | .int i, _, h => by cases h; exact .int i
  | .str x, _, h => by cases h; exact .str x
  | .list ds, _, h => by
    cases h with
    | lst hs ne ha => exact .lst (e _ _ hs) ne (Dq.monoAll e ds _ ha)
  | .tuple ds, _, h => by
    cases h with
    | tup hs ha => exact .tup (e _ _ hs) (Dq.monoAll e ds _ ha)
  | .dict _, _, h => by
    cases h with
    | dic kvs hk => exact .dic kvs (e _ _ hk)
theorem Dq.monoAll {K : PySem.W.Frag} {H H' : Hp} (e : ∀ b o, H b = some o → H' b = some o) : ∀ (ds : List PyData) (vs : List V), DqAll K H vs ds → DqAll K H' vs ds
  | [], _, h => by cases h; exact .nil
  | d :: ds, _, h => by
    cases h with
    | cons h1 h2 => exact .cons (Dq.mono e d _ h1) (Dq.monoAll e ds _ h2)
end
theorem Dq.same {K : PySem.W.Frag} {H H' : Hp} {v : V} {d : PyData} (h : Dq K H v d) (s : Same H H') : Dq K H' v d := Dq.mono (fun b o => s b o) d v h
section
variable {X : Cx} {pins : List (Addr × Obj)} {σ : L2.St} {H : Hp} {s : Shared}
theorem dic_keys {h : Heap} {P : Program} {w : World} : ∀ {es : List DictEntry} {vs : List (Key × Value)} {kvs : List (Key × Int)}, Pairs (mixKind P w) es vs → KV (kvs.map fun q => (q.1, V.int q.2)) vs →
    ReadsAll h (es.map (·.key)) (kvs.map fun q => kD q.1) [] ∧ ReadsAll h (es.map (·.val)) (kvs.map fun q => PyData.int q.2) []
  | [], _, kvs, .nil, r => by
    cases kvs with
    | nil => exact ⟨.nil, .nil⟩
    | cons a b => exact nomatch r
  | e :: es, _, kvs, .cons h1 h2 h3, r => by
    cases kvs with
    | nil => exact nomatch r
    | cons a b =>
      cases r with
      | cons r1 r2 =>
        obtain ⟨q1, q2⟩ := dic_keys (h := h) h3 r2
        obtain ⟨g1, g2⟩ := r1
        have g1 : a.1 = _ := g1
        have g2 : RelV (V.int a.2) _ := g2
        obtain ⟨t, g2⟩ := g2
        refine ⟨?_, ?_⟩
        · have hk : Reads h e.key (kD a.1) [] := by
            rcases keyIs_shape h1 with ⟨i, t, e1, e2⟩ | ⟨x, t, e1, e2⟩
            · rw [g1, e2, e1]
              exact .int i t
            · rw [g1, e2, e1]
              exact .str x t
          exact .cons hk q1
        · have hv : Reads h e.val (.int a.2) [] := by
            rw [h2, g2]
            exact .int _ t
          exact .cons hv q2
mutual
theorem Dq.reads (I : Inv X pins σ H s) : ∀ (d : PyData) (v : V) (u : Value), Dq X.K H v d → RelV v u → ∃ as, Reads s.heap u d as ∧ sysModules ∉ as
  | .none, _, _, h, r => by
    cases h
    cases r
    exact ⟨_, Reads.none, List.not_mem_nil⟩
  | .bool b, _, _, h, r => by
    cases h
    cases r
    exact ⟨_, Reads.bool b, List.not_mem_nil⟩
  | .int i, _, _, h, r => by
    cases h
    obtain ⟨t, rfl⟩ := r
    exact ⟨_, Reads.int i t, List.not_mem_nil⟩
  | .str x, _, _, h, r => by
    cases h
    obtain ⟨t, rfl⟩ := r
    exact ⟨_, Reads.str x t, List.not_mem_nil⟩
  | .list ds, _, _, h, r => by
    cases h with
    | lst hs ne ha =>
      cases r
      obtain ⟨its, rv, ⟨o, n, ho, hc, _, hd⟩, _⟩ := I.list (SqL.of hs)
      obtain ⟨as, hr, hm⟩ := Dq.readsAll I ds _ its ha rv
      refine ⟨_, Reads.list ho hc hd hr, fun m => ?_⟩
      rcases List.mem_cons.mp m with e | e
      · rw [← e, beq_self_eq_true] at ne
        cases ne
      · exact hm e
  | .tuple ds, _, _, h, r => by
    cases h with
    | tup hs ha =>
      cases r
      obtain ⟨its, rv, ⟨o, ho, hc, n, hd⟩, _⟩ := I.tuple (SqT.of hs)
      obtain ⟨as, hr, hm⟩ := Dq.readsAll I ds _ its ha rv
      exact ⟨_, Reads.tuple ho hc hd hr, hm⟩
  | .dict _, _, _, h, r => by
    cases h with
    | dic kvs hk =>
      cases r
      obtain ⟨_, hd, vs, kv, o, es, ep, h1, h2, h3, _, h4, _⟩ := dk_of I.hok hk
      obtain ⟨q1, q2⟩ := dic_keys (h := s.heap) h4 kv
      have e1 : (kvs.map fun q => (kD q.1, PyData.int q.2)).map (·.1) = kvs.map fun q => kD q.1 := by rw [List.map_map]; rfl
      have e2 : (kvs.map fun q => (kD q.1, PyData.int q.2)).map (·.2) = kvs.map fun q => PyData.int q.2 := by rw [List.map_map]; rfl
      refine ⟨_, Reads.dict h1 h2.1 h3 (by rw [e1]; exact q1) (by rw [e2]; exact q2), fun m => ?_⟩
      rw [List.append_nil] at m
      rw [← List.mem_singleton.mp m, beq_self_eq_true] at hd
      cases hd
theorem Dq.readsAll (I : Inv X pins σ H s) : ∀ (ds : List PyData) (vs : List V) (us : List Value), DqAll X.K H vs ds → Vals vs us → ∃ as, ReadsAll s.heap us ds as ∧ sysModules ∉ as
  | [], _, _, h, r => by
    cases h
    cases r
    exact ⟨_, ReadsAll.nil, List.not_mem_nil⟩
  | d :: ds, _, _, h, r => by
    cases h with
    | cons h1 h2 =>
      cases r with
      | cons r1 r2 =>
        obtain ⟨as, q1, m1⟩ := Dq.reads I d _ _ h1 r1
        obtain ⟨bs, q2, m2⟩ := Dq.readsAll I ds _ _ h2 r2
        refine ⟨_, ReadsAll.cons q1 q2, fun m => ?_⟩
        rcases List.mem_append.mp m with e | e
        · exact m1 e
        · exact m2 e
end
/-- the built-in class of such a value -/
def tyN : PyData → String
  | .none => "NoneType"
  | .bool _ => "bool"
  | .int _ => "int"
  | .str _ => "str"
  | .list _ => "list"
  | .tuple _ => "tuple"
  | .dict _ => "dict"
theorem Dq.ty {K : PySem.W.Frag} {v : V} {d : PyData} (h : Dq K H v d) : TyX K H v (.type (tyN d)) := by
  cases h with
  | non => exact .base .non
  | bl b => exact .base (.bl b)
  | int i => exact .base (.int i)
  | str x => exact .base (.str x)
  | lst e _ _ => exact .base (.lst e)
  | tup e _ => exact .base (.tup e)
  | dic kvs e => exact .base (.dK e)
end
def isT (n m : String) : Bool := m == n || (n == "int" && m == "bool")
def isOf (n : String) (d : PyData) : Bool := isT n (tyN d)
theorem kit_q {K : PySem.W.Frag} {n : String} {d : PyData} (h : n = "int" ∨ n = "bool" ∨ n = "str" ∨ n = "tuple" ∨ n = "list") : PySem.W.kitOne K (.type (tyN d)) (.type n) = some (isOf n d) := by
  refine kit_ty ?_
  unfold isOf
  have m : tyN d = "NoneType" ∨ tyN d = "bool" ∨ tyN d = "int" ∨ tyN d = "str" ∨ tyN d = "list" ∨ tyN d = "tuple" ∨ tyN d = "dict" := by
    cases d <;> simp [tyN]
  generalize tyN d = m' at m
  rcases h with rfl | rfl | rfl | rfl | rfl <;> rcases m with rfl | rfl | rfl | rfl | rfl | rfl | rfl <;> decide +kernel
section
variable {X : Cx}
/-- isinstance(x, T), x of any kind, T built in -/
def rIsQ (K : PySem.W.Frag) : List V → Hp → VK → Prop := fun xs H Q => ∃ (x : V) (d : PyData) (n : String), xs = [x, .ty n] ∧ Dq K H x d ∧ (n = "int" ∨ n = "bool" ∨ n = "str" ∨ n = "tuple" ∨ n = "list") ∧ Q (.bl (isOf n d)) H
theorem call_isQ : CallR X (.builtin "isinstance") (rIsQ X.K) := by
  intro pins s σ H xs us Q I r h
  obtain ⟨x, d, n, rfl, hd, hn, q⟩ := h
  exact call_isi pins s σ H _ us Q I r ⟨x, .ty n, _, _, _, rfl, .ty n, hd.ty, kit_q hn, q⟩
/-- repr of a value of any kind -/
def rReprQ (K : PySem.W.Frag) : List V → Hp → VK → Prop := fun xs H Q => ∃ v d, xs = [v] ∧ Dq K H v d ∧ PyData.showable d = true ∧ d.depth ≤ 60 ∧ d.shown.length ≤ sizeLine ∧ Q (.str d.shown) H
theorem call_reprQ (gu : X.A.guards = some []) (room : ∃ k, Room k X.A) : CallR X (.builtin "repr") (rReprQ X.K) := by
  intro pins s σ H xs us Q I rel want
  obtain ⟨v, d, rfl, data, sh, dep, len, q⟩ := want
  obtain ⟨u, rfl, ru⟩ := vals1 rel
  obtain ⟨as, reads, ns⟩ := Dq.reads I d _ u data ru
  obtain ⟨k, room⟩ := room
  have un := room.un
  have done : ∀ h' (v : Value) tk, (∀ b o, s.heap.get? b = some o → h'.get? b = some o) → (∃ t, v = Value.str d.shown t) → ∃ y H2, Inv X pins σ H2 { s with heap := h', toks := tk } ∧ RelV y v ∧ Q y H2 := fun h' v tk keep e => ⟨.str d.shown, H, I.kept keep, e, q⟩
  have at_ : ∀ a, u = .ref a → _ := fun a e => repr_of_reads' (A := X.A) (s := s) (prog := X.prog) (w := X.w) (E := X.xe) (Q := fun y s' => ∃ z H2, Inv X pins σ H2 s' ∧ RelV z y ∧ Q z H2) (by rw [← e]; exact reads) sh (fun _ => ns) gu (by omega) (fun _ _ e => e) (fun h' v tk keep => ⟨.str d.shown, H, I.kept keep, ⟨_, rfl⟩, q⟩) len
  cases data with
  | non =>
    cases ru
    exact PySem.P.repr_of_none ⟨.str _, H, I.tok _, ⟨_, rfl⟩, q⟩
  | bl b =>
    cases ru
    refine PySem.P.repr_of_bool ⟨.str _, H, I.tok _, ⟨_, rfl⟩, ?_⟩
    cases b <;> exact q
  | int i =>
    obtain ⟨t, rfl⟩ := ru
    exact PySem.P.repr_of_int (of_decide_eq_true (by simpa [PyData.showable] using sh)) ⟨.str _, H, I.tok _, ⟨_, rfl⟩, q⟩
  | str x =>
    obtain ⟨t, rfl⟩ := ru
    exact PySem.P.repr_of_str ⟨.str _, H, I.tok _, ⟨_, rfl⟩, q⟩ len
  | lst e1 e2 e3 =>
    cases ru
    exact at_ _ rfl
  | tup e1 e2 =>
    cases ru
    exact at_ _ rfl
  | dic kvs e1 =>
    cases ru
    exact at_ _ rfl
/-- a list is made: it is not sys.modules -/
def tLstN (t : TA) : TE := fun σ H Q => t σ H fun xs H1 => xs.length ≤ sizeLine ∧ ∀ p, H1 p = none → (p == sysModules) = false → Q (.ref p) (upd H1 p (.lst xs))
theorem pe_lstN {es : List Expr} {pos : Pos} {t : TA} (h : PA X es t) : PE X (.List es pos) (tLstN t) := by
  refine ⟨fun pins s σ H Q I hq => ?_⟩
  refine wpAny_List_spliced (thn (h.run pos pins s σ H _ I hq) fun us s1 ⟨xs, H1, I1, r, z, q⟩ => ⟨by rw [← r.length]; exact z, ?_⟩)
  have hf : H1 s1.heap.objs.size = none := I1.hok.fresh (Nat.le_refl _)
  have hs : (s1.heap.objs.size == sysModules) = false := beq_eq_false_iff_ne.mpr (Ne.symm (Nat.ne_of_lt I1.big))
  refine ⟨.ref s1.heap.objs.size, upd H1 s1.heap.objs.size (.lst xs), I1.laid (t' := s1.toks) (fun b u e => Heap.get?_push_of_some _ e) (Nat.le_refl _) ?_, rfl, q _ hf hs⟩
  exact ⟨z, us, 0, r, Heap.get?_push_size _ rfl⟩
/-- list(t) of a tuple -/
theorem call_listN : CallR X (.type "list") (fun xs H Q => ∃ p ys, xs = [.ref p] ∧ H p = some (.tup ys) ∧ ∀ l, H l = none → (l == sysModules) = false → Q (.ref l) (upd H l (.lst ys))) := by
  intro pins s σ H xs us Q I r h
  obtain ⟨p, ys, rfl, hq, q⟩ := h
  have hs : (s.heap.objs.size == sysModules) = false := beq_eq_false_iff_ne.mpr (Ne.symm (Nat.ne_of_lt I.big))
  obtain ⟨u, rfl, rx⟩ := vals1 r
  cases rx
  obtain ⟨its, r', pl, hz⟩ := I.tuple (SqT.of hq)
  have hlen := r'.length
  obtain ⟨o, ho, hc, n, hd⟩ := pl
  exact call_list_seq p (.inr rfl) ho hc hd (fun h' c' kp e => ⟨.ref s.heap.objs.size, _, I.laid (t' := s.toks) kp (Nat.le_refl _) (show ObjOk X.prog X.w _ h' _ (.lst ys) from ⟨hz, its, c', r', e⟩), rfl, q _ (I.hok.fresh (Nat.le_refl _)) hs⟩) (by simp only [List.size_toArray] <;> omega)
end
end Sm

set_option Elab.async false
set_option linter.all false
namespace L2
open PySem PySem.Spec PyProof.Rows
/-! == and != of data without dicts, whatever the signs of its texts -/
def rEqP (K : PySem.W.Frag) : R2 := fun x y H Q => ∃ d e, Dp K H x d ∧ Dp K H y e ∧ d.plain = true ∧ e.plain = true ∧ d.depth ≤ 60 ∧ Q (.bl (PyData.eqv d e)) H
def rNeP (K : PySem.W.Frag) : R2 := fun x y H Q => ∃ d e, Dp K H x d ∧ Dp K H y e ∧ d.plain = true ∧ e.plain = true ∧ d.depth ≤ 60 ∧ Q (.bl (!PyData.eqv d e)) H
section
variable {X : Cx}
theorem op_eqP (hu : X.A.units + 64 < cLine) : OpR X (compareOp .Eq) (rEqP X.K) := by
  intro pins s σ H x y v u Q I rx ry h
  obtain ⟨d, e, hd, he, sd, se, dd, q⟩ := h
  obtain ⟨as, r1⟩ := Dp.reads I d x v hd rx
  obtain ⟨bs, r2⟩ := Dp.reads I e y u he ry
  exact SeqAt.eq_plain r1 r2 sd se (by omega) ⟨.bl _, H, I, rfl, q⟩
theorem op_neP (hu : X.A.units + 64 < cLine) : OpR X (compareOp .NotEq) (rNeP X.K) := by
  intro pins s σ H x y v u Q I rx ry h
  obtain ⟨d, e, hd, he, sd, se, dd, q⟩ := h
  obtain ⟨as, r1⟩ := Dp.reads I d x v hd rx
  obtain ⟨bs, r2⟩ := Dp.reads I e y u he ry
  exact SeqAt.ne_plain r1 r2 sd se (by omega) ⟨.bl _, H, I, rfl, q⟩
end
end L2

set_option Elab.async false
set_option linter.all false
set_option maxRecDepth 100000
set_option maxHeartbeats 4000000
namespace PySem.SeqAt
open AutoSeq1 (wpAny_loadPart')
open MeetsSeq
theorem dict_no_str (l : Addr) (es : Array DictEntry) (n : Nat) (dd : Option Addr) (sl : Array (Option Value)) (b : Str) (u : Tok) :
    Meets (Builtin.«dict.__eq__» ⟨[.ref l, .str b u], []⟩) (fun _ R s => s.heap.get? l = some { cls := .type "dict", dict := dd, data := .dict es n, slots := sl } ∧ R (.ok (.ret .notImplemented)) s) :=
  .of_wp fun prog w A R s h => by
    obtain ⟨hp, g, d, tk, os⟩ := s
    obtain ⟨hl, h⟩ := h
    have f1 := F.sub_str_dict
    wp_walk using wpAny_loadPart' hl
    exact ⟨_, rfl, h⟩
theorem str_no_dict (b : Str) (u : Tok) (l : Addr) (es : Array DictEntry) (n : Nat) (dd : Option Addr) (sl : Array (Option Value)) :
    Meets (Builtin.«str.__eq__» ⟨[.str b u, .ref l], []⟩) (fun _ R s => s.heap.get? l = some { cls := .type "dict", dict := dd, data := .dict es n, slots := sl } ∧ R (.ok (.ret .notImplemented)) s) :=
  .of_wp fun prog w A R s h => by
    obtain ⟨hp, g, d, tk, os⟩ := s
    obtain ⟨hl, h⟩ := h
    wp_walk using wpAny_loadPart' hl, wpAny_load hl
    exact ⟨_, rfl, h⟩
/-- a dict is no text -/
theorem rc_dict_str {A : Around} {s : Shared} {l : Addr} {o : Obj} {es : Array DictEntry} {n : Nat} (b : Str) (u : Tok) (ho : s.heap.get? l = some o) (hc : o.cls = .type "dict") (hd : o.data = .dict es n) (hu : A.units < cLine) : RcAt A s (.ref l) (.str b u) false := fun prog w E Q h => by
  obtain ⟨cls, dd, data, sl⟩ := o
  simp only at hc hd
  subst hc hd
  exact rc_eq_decline_or (k := false) ⟨_, ho, rfl⟩ (typeIs_str s b u) (by decide) F.sub_str_dict F.slot_dict_eq F.slot_str_eq_refl
    (fun _ hq => call_meets F.slot_dict_eq ⟨_, ho, rfl⟩ F.entry_dict_eq (F.args_dict_eq_2 _ _) (dict_no_str l es n dd sl b u) ⟨ho, hq⟩)
    (fun _ hq => call_meets F.slot_str_eq_refl (typeIs_str s b u) F.entry_str_eq (F.args_str_eq_2 _ _) (str_no_dict b u l es n dd sl) ⟨ho, hq⟩)
    (fun _ hq => wpAny_of_eq (rfl : isSame (.ref l) (.str b u) = pure false) hq) (.inr hu) h
end PySem.SeqAt
namespace Sm
open PySem PySem.Spec PyProof.Rows L2
def strD (d : PyData) (x : Str) : Bool := match d with | .str y => decide (V.str y = V.str x) | _ => false
/-- a value of any kind == a text -/
def rEqQ (K : PySem.W.Frag) : R2 := fun x y H Q => ∃ (d : PyData) (t : Str), Dq K H x d ∧ y = .str t ∧ Q (.bl (strD d t)) H
theorem op_eqQ {X : Cx} (hu : X.A.units + 64 < cLine) : OpR X (compareOp .Eq) (rEqQ X.K) := by
  intro pins s σ H x y v u Q I rx ry h
  obtain ⟨d, t, hd, rfl, q⟩ := h
  cases hd with
  | non => exact op_eq pins s σ H _ _ v u Q I rx ry ⟨rfl, q⟩
  | bl b => exact op_eq pins s σ H _ _ v u Q I rx ry ⟨rfl, q⟩
  | int i => exact op_eq pins s σ H _ _ v u Q I rx ry ⟨rfl, q⟩
  | str z => exact op_eq pins s σ H _ _ v u Q I rx ry ⟨rfl, q⟩
  | lst e1 e2 e3 =>
    cases rx
    obtain ⟨k, rfl⟩ := ry
    obtain ⟨its, rv, hl, _⟩ := I.list (SqL.of e1)
    exact SeqAt.RcAt.list_str t k hl.isList (by omega) _ _ _ _ ⟨.bl _, H, I, rfl, q⟩
  | tup e1 e2 =>
    cases rx
    obtain ⟨k, rfl⟩ := ry
    obtain ⟨its, rv, hl, _⟩ := I.tuple (SqT.of e1)
    exact SeqAt.RcAt.tuple_str t k hl (by omega) _ _ _ _ ⟨.bl _, H, I, rfl, q⟩
  | dic kvs e1 =>
    cases rx
    obtain ⟨k, rfl⟩ := ry
    obtain ⟨_, hd, vs, kv, o, es, ep, h1, h2, h3, _⟩ := dk_of I.hok e1
    exact SeqAt.rc_dict_str t k h1 h2.1 h3 (by omega) _ _ _ _ ⟨.bl _, H, I, rfl, q⟩
end Sm

set_option Elab.async false
set_option linter.all false
set_option maxRecDepth 100000
set_option maxHeartbeats 4000000
namespace Sm
open PySem PySem.Spec PyProof.Rows L2
/-! ### comprehensions whose items are told one by one, what stands stays -/
abbrev lcmQ (H : Hp) (D : Addr) (fv : Nat → V) (i : Nat) : VK := fun y H4 => ∃ acc, H4 D = some (.lst acc) ∧ acc.length < sizeLine ∧ Same H (upd H4 D (.lst (acc ++ [y]))) ∧ upd H4 D (.lst (acc ++ [y])) D = some (.lst ((List.range (i + 1)).map fv))
theorem lcm_step {H H' H4 : Hp} {D : Addr} {i n : Nat} {fv : Nat → V} (nD : H D = none) (s : Same H H') (hD : H' D = some (.lst ((List.range i).map fv))) (hi : i ≤ n) (ln : n ≤ 20000) (s4 : Same H' H4) :
    ∃ acc, H4 D = some (.lst acc) ∧ acc.length < sizeLine ∧ Same H (upd H4 D (.lst (acc ++ [fv i]))) ∧ upd H4 D (.lst (acc ++ [fv i])) D = some (.lst ((List.range (i + 1)).map fv)) := by
  refine ⟨_, s4 _ _ hD, ?_, fun b o e => ?_, ?_⟩
  · rw [List.length_map, List.length_range]
    exact Nat.lt_of_le_of_lt (show i ≤ 20000 by omega) (by decide)
  · rw [upd_ne (ne_of_none e nD)]
    exact s4 _ _ (s _ _ e)
  · rw [upd_same, List.range_succ, List.map_append]
    rfl
theorem lc_mT {K : PySem.W.Frag} {a : Addr} {xs : List V} {g : TG} {te : TE} {vs : List Nat} {σ : L2.St} {H : Hp} {D : Addr} {Qd : Hp → Prop} (fv : Nat → V) (ha : H a = some (.tup xs)) (nD : H D = none) (ln : xs.length ≤ 20000)
    (hs : ∀ i x H', xs[i]? = some x → Same H H' → ∀ R : VK, (∀ H4, Same H' H4 → R (fv i) H4) → g x (wipe σ vs) H' fun σ2 H2 => wipe σ2 vs = wipe σ vs ∧ te σ2 H2 R)
    (mono : ∀ x H' (A B : L2.St → Hp → Prop), (∀ σ2 H2, A σ2 H2 → B σ2 H2) → g x (wipe σ vs) H' A → g x (wipe σ vs) H' B)
    (hd : ∀ H', Same H H' → H' D = some (.lst ((List.range xs.length).map fv)) → Qd H') :
    ∃ W : Nat → Nat → Hp → Prop, (∃ m, W 0 m (upd H D (.lst []))) ∧ ∀ i m H, W i m H → ((Itt K a).stop i H ∧ Qd H) ∨ ((Itt K a).go i H ∧ ∃ Nx : Hp → Prop, (∀ H', Nx H' → ∃ m', m' < m ∧ W (i + 1) m' H') ∧ ∀ x H', (Itt K a).yld i H x H' → g x (wipe σ vs) H' fun σ2 H2 => wipe σ2 vs = wipe σ vs ∧ tYes σ2 H2 fun b H3 =>
        if b = true then te σ2 H3 fun y H4 => ∃ acc, H4 D = some (.lst acc) ∧ acc.length < sizeLine ∧ Nx (upd H4 D (.lst (acc ++ [y]))) else Nx H3) := by
  refine lc_tup (K := K) (a := a) (xs := xs) (fun i H' => Same H H' ∧ H' D = some (.lst ((List.range i).map fv))) ⟨same_upd nD, upd_same⟩ (fun i H' _ h => SqT.of (h.1 _ _ ha)) ?_ (fun H' h => hd H' h.1 h.2)
  rintro i x H' hx ⟨s, hD⟩
  have il : i < xs.length := (List.getElem?_eq_some_iff.mp hx).1
  refine mono x H' _ _ ?_ (hs i x H' hx s (lcmQ H D fv i) fun H4 s4 => lcm_step nD s hD (Nat.le_of_lt il) ln s4)
  rintro σ2 H2 ⟨e, h⟩
  refine ⟨e, ?_⟩
  unfold tYes
  exact iteT h
theorem lc_mL {K : PySem.W.Frag} {a : Addr} {xs : List V} {g : TG} {te : TE} {vs : List Nat} {σ : L2.St} {H : Hp} {D : Addr} {Qd : Hp → Prop} (fv : Nat → V) (ha : H a = some (.lst xs)) (nD : H D = none) (ln : xs.length ≤ 20000)
    (hs : ∀ i x H', xs[i]? = some x → Same H H' → ∀ R : VK, (∀ H4, Same H' H4 → R (fv i) H4) → g x (wipe σ vs) H' fun σ2 H2 => wipe σ2 vs = wipe σ vs ∧ te σ2 H2 R)
    (mono : ∀ x H' (A B : L2.St → Hp → Prop), (∀ σ2 H2, A σ2 H2 → B σ2 H2) → g x (wipe σ vs) H' A → g x (wipe σ vs) H' B)
    (hd : ∀ H', Same H H' → H' D = some (.lst ((List.range xs.length).map fv)) → Qd H') :
    ∃ W : Nat → Nat → Hp → Prop, (∃ m, W 0 m (upd H D (.lst []))) ∧ ∀ i m H, W i m H → ((Itl K a).stop i H ∧ Qd H) ∨ ((Itl K a).go i H ∧ ∃ Nx : Hp → Prop, (∀ H', Nx H' → ∃ m', m' < m ∧ W (i + 1) m' H') ∧ ∀ x H', (Itl K a).yld i H x H' → g x (wipe σ vs) H' fun σ2 H2 => wipe σ2 vs = wipe σ vs ∧ tYes σ2 H2 fun b H3 =>
        if b = true then te σ2 H3 fun y H4 => ∃ acc, H4 D = some (.lst acc) ∧ acc.length < sizeLine ∧ Nx (upd H4 D (.lst (acc ++ [y]))) else Nx H3) := by
  refine lc_list (K := K) (a := a) (xs := xs) (fun i H' => Same H H' ∧ H' D = some (.lst ((List.range i).map fv))) ⟨same_upd nD, upd_same⟩ (fun i H' _ h => SqL.of (h.1 _ _ ha)) ?_ (fun H' h => hd H' h.1 h.2)
  rintro i x H' hx ⟨s, hD⟩
  have il : i < xs.length := (List.getElem?_eq_some_iff.mp hx).1
  refine mono x H' _ _ ?_ (hs i x H' hx s (lcmQ H D fv i) fun H4 s4 => lcm_step nD s hD (Nat.le_of_lt il) ln s4)
  rintro σ2 H2 ⟨e, h⟩
  refine ⟨e, ?_⟩
  unfold tYes
  exact iteT h
theorem lc_mR {lo : Int} {n : Nat} {g : TG} {te : TE} {vs : List Nat} {σ : L2.St} {H : Hp} {D : Addr} {Qd : Hp → Prop} (fv : Nat → V) (nD : H D = none) (ln : n ≤ 20000)
    (hs : ∀ i H', i < n → Same H H' → ∀ R : VK, (∀ H4, Same H' H4 → R (fv i) H4) → g (.int (lo + i)) (wipe σ vs) H' fun σ2 H2 => wipe σ2 vs = wipe σ vs ∧ te σ2 H2 R)
    (mono : ∀ x H' (A B : L2.St → Hp → Prop), (∀ σ2 H2, A σ2 H2 → B σ2 H2) → g x (wipe σ vs) H' A → g x (wipe σ vs) H' B)
    (hd : ∀ H', Same H H' → H' D = some (.lst ((List.range n).map fv)) → Qd H') :
    ∃ W : Nat → Nat → Hp → Prop, (∃ m, W 0 m (upd H D (.lst []))) ∧ ∀ i m H, W i m H → ((Itr lo n).stop i H ∧ Qd H) ∨ ((Itr lo n).go i H ∧ ∃ Nx : Hp → Prop, (∀ H', Nx H' → ∃ m', m' < m ∧ W (i + 1) m' H') ∧ ∀ x H', (Itr lo n).yld i H x H' → g x (wipe σ vs) H' fun σ2 H2 => wipe σ2 vs = wipe σ vs ∧ tYes σ2 H2 fun b H3 =>
        if b = true then te σ2 H3 fun y H4 => ∃ acc, H4 D = some (.lst acc) ∧ acc.length < sizeLine ∧ Nx (upd H4 D (.lst (acc ++ [y]))) else Nx H3) := by
  refine lc_range (fun i H' => Same H H' ∧ H' D = some (.lst ((List.range i).map fv))) ⟨same_upd nD, upd_same⟩ ?_ (fun H' h => hd H' h.1 h.2)
  rintro i H' il ⟨s, hD⟩
  refine mono _ H' _ _ ?_ (hs i H' il s (lcmQ H D fv i) fun H4 s4 => lcm_step nD s hD (Nat.le_of_lt il) ln s4)
  rintro σ2 H2 ⟨e, h⟩
  refine ⟨e, ?_⟩
  unfold tYes
  exact iteT h
/-- one name -/
theorem gName_mono {j : Nat} {σ : L2.St} : ∀ (x : V) (H' : Hp) (A B : L2.St → Hp → Prop), (∀ σ2 H2, A σ2 H2 → B σ2 H2) → gName j x σ H' A → gName j x σ H' B := fun x H' A B h a => h _ _ a
end Sm

set_option maxHeartbeats 4000000
namespace Sm
/-! offers, boards, and what leads where -/
structure Of where
  a : Nat
  x : Int
  b : Nat
  y : Int
def Of.ns (o : Of) : List Int := [(o.a : Int), o.x, (o.b : Int), o.y]
structure OfOk (k : Nat) (o : Of) : Prop where
  a : o.a < k
  b : o.b < k
  ne : o.a ≠ o.b
  x0 : 1 ≤ o.x
  x1 : o.x ≤ 30
  y0 : 0 ≤ o.y
  y1 : o.y ≤ 30
def Edge (L : List Of) (a b : Nat) : Prop := ∃ o ∈ L, o.a = a ∧ o.b = b ∧ 0 < o.y
def Rn (L : List Of) (s : Nat) : Nat → Nat → Prop
  | 0, c => c = s
  | n + 1, c => Rn L s n c ∨ ∃ b, Rn L s n b ∧ Edge L b c
def Lead (L : List Of) (s c : Nat) : Prop := ∃ n, Rn L s n c
section
variable {L : List Of} {s c d k : Nat}
theorem Rn.up {n m : Nat} (h : n ≤ m) (r : Rn L s n c) : Rn L s m c := by
  induction m with
  | zero => rw [show n = 0 by omega] at r; exact r
  | succ m ih =>
    by_cases q : n = m + 1
    · rw [← q]; exact r
    · exact .inl (ih (by omega))
theorem Lead.self : Lead L s s := ⟨0, rfl⟩
theorem Lead.step (h : Lead L s c) (e : Edge L c d) : Lead L s d := by
  obtain ⟨n, r⟩ := h
  exact ⟨n + 1, .inr ⟨c, r, e⟩⟩
theorem Lead.closed {S : Nat → Prop} (h0 : S s) (hs : ∀ a b, S a → Edge L a b → S b) (h : Lead L s c) : S c := by
  obtain ⟨n, r⟩ := h
  induction n generalizing c with
  | zero => rw [show c = s from r]; exact h0
  | succ n ih =>
    rcases r with r | ⟨b, r, e⟩
    · exact ih r
    · exact hs _ _ (ih r) e
theorem Lead.trans (h1 : Lead L s c) (h2 : Lead L c d) : Lead L s d := h2.closed (S := fun x => Lead L s x) h1 fun _ _ h e => h.step e
theorem filter_less {α : Type} {p q : α → Bool} : ∀ {l : List α}, (∀ x ∈ l, p x = true → q x = true) → (∃ x ∈ l, q x = true ∧ p x = false) → (l.filter p).length + 1 ≤ (l.filter q).length
  | [], _, h => by obtain ⟨_, h, _⟩ := h; cases h
  | a :: l, h, ⟨x, hx, h1, h2⟩ => by
    have le : (l.filter p).length ≤ (l.filter q).length := by
      clear hx h1 h2
      induction l with
      | nil => exact Nat.le_refl _
      | cons b l ih =>
        have i := ih fun x hx => by
          rcases List.mem_cons.mp hx with e | e
          · exact h x (by rw [e]; exact List.mem_cons_self)
          · exact h x (List.mem_cons_of_mem _ (List.mem_cons_of_mem _ e))
        have hb := h b (List.mem_cons_of_mem _ List.mem_cons_self)
        rw [List.filter_cons, List.filter_cons]
        cases e : p b with
        | true => rw [if_pos rfl, if_pos (hb e)]; simp; exact i
        | false =>
          rw [if_neg Bool.false_ne_true]
          split
          · simp; omega
          · exact i
    rw [List.filter_cons, List.filter_cons]
    rcases List.mem_cons.mp hx with e | e
    · subst e
      rw [h1, h2, if_neg Bool.false_ne_true, if_pos rfl]
      simp
      exact le
    · have i := filter_less (fun x hx => h x (List.mem_cons_of_mem _ hx)) ⟨x, e, h1, h2⟩
      have ha := h a List.mem_cons_self
      cases e : p a with
      | true => rw [if_pos rfl, if_pos (ha e)]; simp; omega
      | false =>
        rw [if_neg Bool.false_ne_true]
        split
        · simp; omega
        · exact i
noncomputable def cnt (L : List Of) (s k n : Nat) : Nat := ((List.range k).filter fun c => @decide (Rn L s n c) (Classical.propDecidable _)).length
theorem cdec {p : Prop} : (@decide p (Classical.propDecidable _)) = true ↔ p := @decide_eq_true_iff p (Classical.propDecidable _)
theorem cdecf {p : Prop} : (@decide p (Classical.propDecidable _)) = false ↔ ¬ p := @decide_eq_false_iff_not p (Classical.propDecidable _)
theorem Rn.lt {n : Nat} (hL : ∀ o ∈ L, OfOk k o) (hs : s < k) (r : Rn L s n c) : c < k := by
  induction n generalizing c with
  | zero => rw [show c = s from r]; exact hs
  | succ n ih =>
    rcases r with r | ⟨b, r, o, ho, _, e, _⟩
    · exact ih r
    · rw [← e]; exact (hL o ho).b
theorem Lead.lt (hL : ∀ o ∈ L, OfOk k o) (hs : s < k) (h : Lead L s c) : c < k := by
  obtain ⟨n, r⟩ := h
  exact r.lt hL hs
theorem Lead.to (hL : ∀ o ∈ L, OfOk k o) (hs : s < k) (h : Lead L s c) : Rn L s k c := by
  have key : ∀ n, (∃ m, m ≤ n ∧ ∀ c, Rn L s (m + 1) c → Rn L s m c) ∨ n + 1 ≤ cnt L s k n := by
    intro n
    induction n with
    | zero =>
      right
      have : 0 < cnt L s k 0 := List.length_pos_of_mem (a := s) (List.mem_filter.mpr ⟨List.mem_range.mpr hs, cdec.mpr rfl⟩)
      omega
    | succ n ih =>
      rcases ih with ⟨m, h1, h2⟩ | ih
      · exact .inl ⟨m, by omega, h2⟩
      · rcases Classical.em (∀ c, Rn L s (n + 1) c → Rn L s n c) with q | q
        · exact .inl ⟨n, by omega, q⟩
        · right
          obtain ⟨c, hc⟩ := Classical.not_forall.mp q
          obtain ⟨h1, h2⟩ := Classical.not_imp.mp hc
          have := filter_less (l := List.range k) (p := fun c => @decide (Rn L s n c) (Classical.propDecidable _)) (q := fun c => @decide (Rn L s (n + 1) c) (Classical.propDecidable _))
            (fun x _ hx => cdec.mpr (.inl (cdec.mp hx))) ⟨c, List.mem_range.mpr (h1.lt hL hs), cdec.mpr h1, cdecf.mpr h2⟩
          unfold cnt at ih ⊢
          omega
  rcases key k with ⟨m, h1, h2⟩ | q
  · refine Rn.up h1 ?_
    exact h.closed (S := fun x => Rn L s m x) (Rn.up (Nat.zero_le _) rfl) fun a b ha e => h2 b (.inr ⟨a, ha, e⟩)
  · have : cnt L s k k ≤ k := by
      unfold cnt
      exact Nat.le_trans (List.length_filter_le ..) (by rw [List.length_range]; exact Nat.le_refl _)
    omega
end
/-! sorted lists -/
theorem srt_eq {α : Type} {lt : α → α → Prop} (irr : ∀ x, ¬ lt x x) (tr : ∀ x y z, lt x y → lt y z → lt x z) : ∀ {l m : List α}, l.Pairwise lt → m.Pairwise lt → (∀ x, x ∈ l ↔ x ∈ m) → l = m
  | [], [], _, _, _ => rfl
  | [], b :: m, _, _, h => by have := (h b).mpr List.mem_cons_self; cases this
  | a :: l, [], _, _, h => by have := (h a).mp List.mem_cons_self; cases this
  | a :: l, b :: m, h1, h2, h => by
    obtain ⟨p1, q1⟩ := List.pairwise_cons.mp h1
    obtain ⟨p2, q2⟩ := List.pairwise_cons.mp h2
    have e : a = b := by
      rcases List.mem_cons.mp ((h a).mp List.mem_cons_self) with e | e
      · exact e
      · rcases List.mem_cons.mp ((h b).mpr List.mem_cons_self) with f | f
        · exact f.symm
        · exact (irr a (tr _ _ _ (p1 b f) (p2 a e))).elim
    subst e
    rw [srt_eq irr tr q1 q2 fun x => ⟨fun hx => ?_, fun hx => ?_⟩]
    · rcases List.mem_cons.mp ((h x).mp (List.mem_cons_of_mem _ hx)) with e | e
      · subst e; exact (irr _ (p1 _ hx)).elim
      · exact e
    · rcases List.mem_cons.mp ((h x).mpr (List.mem_cons_of_mem _ hx)) with e | e
      · subst e; exact (irr _ (p2 _ hx)).elim
      · exact e
theorem range_lt (k : Nat) : (List.range k).Pairwise (· < ·) := List.pairwise_lt_range
noncomputable def leadsL (L : List Of) (k s : Nat) : List Nat := (List.range k).filter fun c => @decide (Lead L s c) (Classical.propDecidable _)
noncomputable def backs (L : List Of) (k s : Nat) : List Nat := (List.range k).filter fun c => @decide (Lead L s c ∧ Lead L c s) (Classical.propDecidable _)
theorem mem_leads {L : List Of} {k s c : Nat} : c ∈ leadsL L k s ↔ c < k ∧ Lead L s c := by
  unfold leadsL
  rw [List.mem_filter, List.mem_range, cdec]
theorem mem_backs {L : List Of} {k s c : Nat} : c ∈ backs L k s ↔ c < k ∧ Lead L s c ∧ Lead L c s := by
  unfold backs
  rw [List.mem_filter, List.mem_range, cdec]
theorem backs_same {L : List Of} {k s c : Nat} (h : c ∈ backs L k s) : backs L k c = backs L k s := by
  obtain ⟨h0, h1, h2⟩ := mem_backs.mp h
  unfold backs
  refine List.filter_congr fun x _ => ?_
  have : (Lead L c x ∧ Lead L x c) ↔ (Lead L s x ∧ Lead L x s) := ⟨fun ⟨a, b⟩ => ⟨h1.trans a, b.trans h2⟩, fun ⟨a, b⟩ => ⟨h2.trans a, b.trans h1⟩⟩
  rw [Bool.eq_iff_iff, cdec, cdec]
  exact this
theorem backs_self {L : List Of} {k s : Nat} (h : s < k) : s ∈ backs L k s := mem_backs.mpr ⟨h, .self, .self⟩
theorem leads_lt (L : List Of) (k s : Nat) : (leadsL L k s).Pairwise (· < ·) := (range_lt k).filter _
theorem backs_lt (L : List Of) (k s : Nat) : (backs L k s).Pairwise (· < ·) := (range_lt k).filter _
theorem backs_len (L : List Of) (k s : Nat) : (backs L k s).length ≤ k := Nat.le_trans (List.length_filter_le ..) (by rw [List.length_range]; exact Nat.le_refl _)
theorem leads_len (L : List Of) (k s : Nat) : (leadsL L k s).length ≤ k := Nat.le_trans (List.length_filter_le ..) (by rw [List.length_range]; exact Nat.le_refl _)
theorem backs_filter (L : List Of) (k s : Nat) : (leadsL L k s).filter (fun c => @decide (Lead L c s) (Classical.propDecidable _)) = backs L k s := by
  unfold leadsL backs
  rw [List.filter_filter]
  refine List.filter_congr fun x _ => ?_
  rw [Bool.eq_iff_iff, Bool.and_eq_true, cdec, cdec, cdec]
  exact ⟨fun ⟨a, b⟩ => ⟨b, a⟩, fun ⟨a, b⟩ => ⟨b, a⟩⟩
theorem nd_len {α : Type} [DecidableEq α] : ∀ {l m : List α}, l.Nodup → (∀ x, x ∈ l → x ∈ m) → l.length ≤ m.length
  | [], _, _, _ => Nat.zero_le _
  | a :: l, m, hn, hs => by
    have hm : a ∈ m := hs a List.mem_cons_self
    obtain ⟨n1, n2⟩ := List.nodup_cons.mp hn
    have ih := nd_len (m := m.erase a) n2 fun x hx => (List.mem_erase_of_ne (by rintro rfl; exact n1 hx)).mpr (hs x (List.mem_cons_of_mem _ hx))
    rw [List.length_erase_of_mem hm] at ih
    have := List.length_pos_of_mem hm
    simp only [List.length_cons]
    omega
/-- numbers as integers -/
abbrev ni (l : List Nat) : List Int := l.map fun (c : Nat) => (c : Int)
theorem mem_ni {l : List Nat} {c : Nat} : (c : Int) ∈ ni l ↔ c ∈ l := by
  constructor
  · intro h
    obtain ⟨d, hd, e⟩ := List.mem_map.mp h
    rw [← Int.ofNat.inj e]
    exact hd
  · intro h
    exact List.mem_map.mpr ⟨c, h, rfl⟩
theorem ni_sorted {l : List Nat} (h : l.Pairwise (· < ·)) : (ni l).Pairwise (· < ·) := by
  rw [List.pairwise_map]
  exact h.imp fun q => Int.ofNat_lt.mpr q
theorem ni_nodup {l : List Nat} (h : l.Nodup) : (ni l).Nodup := by
  unfold List.Nodup at h ⊢
  rw [List.pairwise_map]
  exact h.imp fun q e => q (Int.ofNat.inj e)
/-- a sorted arrangement of given numbers -/
theorem ni_sort {F l : List Nat} {ys : List Int} (pm : ys.Perm (ni F)) (le : ys.Pairwise (· ≤ ·)) (nd : F.Nodup) (up : l.Pairwise (· < ·)) (h : ∀ c, c ∈ F ↔ c ∈ l) : ys = ni l := by
  have ny : ys.Nodup := (pm.nodup_iff).mpr (ni_nodup nd)
  have lt : ys.Pairwise (· < ·) := by
    have both := List.Pairwise.and le ny
    exact both.imp fun ⟨a, b⟩ => by omega
  refine srt_eq (lt := fun a b : Int => a < b) (fun x => Int.lt_irrefl x) (fun x y z => Int.lt_trans) lt (ni_sorted up) fun x => ?_
  rw [pm.mem_iff]
  constructor
  · intro hx
    obtain ⟨c, hc, rfl⟩ := List.mem_map.mp hx
    exact mem_ni.mpr ((h c).mp hc)
  · intro hx
    obtain ⟨c, hc, rfl⟩ := List.mem_map.mp hx
    exact mem_ni.mpr ((h c).mpr hc)
end Sm

set_option Elab.async false
set_option linter.all false
set_option maxRecDepth 100000
set_option maxHeartbeats 4000000
namespace Sm
open PySem PySem.Spec PyProof.Rows L2
/-! ### a tuple taken once, or no times -/
theorem tuple_once (l : Addr) (items : Array Value) (n : Nat) (dd : Option Addr) (sl : Array (Option Value)) (u : Tok) :
    Meets (Builtin.«tuple.__mul__» ⟨[.ref l, .int 1 u], []⟩) (fun _ R s => s.heap.get? l = some { cls := .type "tuple", dict := dd, data := .seq items n, slots := sl } ∧ R (.ok (.ret (Value.ref l))) s) :=
  .of_wp fun prog w A R s h => by
    obtain ⟨hp, g, d, tk, os⟩ := s
    obtain ⟨hl, h⟩ := h
    have f1 := AutoSeq1.idx_int
    have c0 : (decide ((1 : Int) < -(2 ^ 63)) || decide ((1 : Int) ≥ 2 ^ 63)) = false := by decide
    wp_walk using wpAny_loadPart' hl
    exact ⟨_, rfl, h⟩
theorem tuple_zero (l : Addr) (items : Array Value) (n : Nat) (dd : Option Addr) (sl : Array (Option Value)) (u : Tok) (hi : items.isEmpty = false) :
    Meets (Builtin.«tuple.__mul__» ⟨[.ref l, .int 0 u], []⟩) (fun _ R s => s.heap.get? l = some { cls := .type "tuple", dict := dd, data := .seq items n, slots := sl } ∧ R (.ok (.ret (Value.ref s.heap.objs.size))) { s with heap := s.heap.push { cls := Value.type "tuple", data := Data.seq #[] } }) :=
  .of_wp fun prog w A R s h => by
    obtain ⟨hp, g, d, tk, os⟩ := s
    obtain ⟨hl, h⟩ := h
    have f1 := AutoSeq1.idx_int
    wp_walk using wpAny_loadPart' hl
    exact ⟨_, rfl, h⟩
section
variable {X : Cx}
/-- tuple * int, the int from 0 on -/
theorem op_rep0 : OpR X (binaryOp .Mult) (fun x y H Q => ∃ (l : Addr) (k : Int) (xs : List V), x = .ref l ∧ y = .int k ∧ H l = some (.tup xs) ∧ xs ≠ [] ∧ 0 ≤ k ∧ k ≤ 1000 ∧ xs.length ≤ 1000 ∧
    ∀ H' q, Same H H' → H' q = some (.tup (List.replicate k.toNat xs).flatten) → Q (.ref q) H') := by
  intro pins s σ H x y v u Q I rx ry want
  obtain ⟨l, k, xs, rfl, rfl, hT, hne, h0, h1, hz, q⟩ := want
  by_cases big : 2 ≤ k
  · exact op_repT pins s σ H _ _ v u Q I rx ry ⟨l, k, xs, rfl, rfl, SqT.of hT, hne, big, h1, hz, fun p np => q _ p (fun b o e => by rw [upd_ne (ne_of_none e np)]; exact e) upd_same⟩
  cases rx
  obtain ⟨t, rfl⟩ := ry
  obtain ⟨its, r, ⟨⟨cls, dd, data, sl⟩, ho, hc, n, hd⟩, hs⟩ := I.tuple (SqT.of hT)
  simp only at hc hd
  subst hc hd
  have hi : its.toArray.isEmpty = false := by
    cases its with
    | nil =>
      have := r.length
      exact absurd (List.eq_nil_of_length_eq_zero this) hne
    | cons a b => rfl
  by_cases one : k = 1
  · subst one
    refine wpAny_binaryOp_repeat_ref (T := "tuple") (U := "int") (by decide) ⟨_, ho, rfl⟩ (fun s' => typeIs_int s' 1 t) noFill_tuple_mul F.fills_int_mul F.slot_int_rmul repeat_tuple F.slot_int_index.lookup
      (call_meets F.slot_int_rmul (typeIs_int s 1 t) F.entry_int_rmul (F.args_int_rmul_2 _ _) (int_rmul_tuple 1 t l its.toArray n dd sl) ⟨ho, rfl, ⟨_, ho, rfl⟩, ?_⟩)
    refine call_meets F.slot_tuple_mul ⟨_, ho, rfl⟩ F.entry_tuple_mul (F.args_tuple_mul_2 _ _) (tuple_once l its.toArray n dd sl t) ⟨ho, ?_⟩
    refine ⟨.ref l, H, I, rfl, q H l (Same.refl H) ?_⟩
    rw [hT]
    simp
  · have zero : k = 0 := by omega
    subst zero
    refine wpAny_binaryOp_repeat_ref (T := "tuple") (U := "int") (by decide) ⟨_, ho, rfl⟩ (fun s' => typeIs_int s' 0 t) noFill_tuple_mul F.fills_int_mul F.slot_int_rmul repeat_tuple F.slot_int_index.lookup
      (call_meets F.slot_int_rmul (typeIs_int s 0 t) F.entry_int_rmul (F.args_int_rmul_2 _ _) (int_rmul_tuple 0 t l its.toArray n dd sl) ⟨ho, rfl, ⟨_, ho, rfl⟩, ?_⟩)
    refine call_meets F.slot_tuple_mul ⟨_, ho, rfl⟩ F.entry_tuple_mul (F.args_tuple_mul_2 _ _) (tuple_zero l its.toArray n dd sl t hi) ⟨ho, ?_⟩
    have fresh := I.hok.fresh (Nat.le_refl s.heap.objs.size)
    refine ⟨.ref s.heap.objs.size, upd H s.heap.objs.size (.tup []), I.laid (t' := s.toks) (fun b ob e => Heap.get?_push_of_some _ e) (Nat.le_refl _) ?_, rfl, q _ _ (fun b o e => by rw [upd_ne (ne_of_none e fresh)]; exact e) upd_same⟩
    exact ⟨Nat.zero_le _, [], .nil, IsTup.new _ _⟩
end
end Sm

set_option Elab.async false
set_option linter.all false
set_option maxRecDepth 100000
set_option maxHeartbeats 8000000
namespace Sm
open PySem PySem.Spec PyProof.Rows L2
open C8 (pss_cut)
def topS (i : Nat) : Stmt := PySem.Challenge.pw_smallchange_k50_prices_and_loops_judged.main.body.getD i (.Pass ⟨0, 0, 0, 0⟩)
structure Txt (mg : Str → Option Value) : Prop where
  n_abs : mg "abs" = none
  n_all : mg "all" = none
  n_bool : mg "bool" = none
  n_int : mg "int" = none
  n_isinstance : mg "isinstance" = none
  n_len : mg "len" = none
  n_list : mg "list" = none
  n_max : mg "max" = none
  n_range : mg "range" = none
  n_repr : mg "repr" = none
  n_set : mg "set" = none
  n_sorted : mg "sorted" = none
  n_tuple : mg "tuple" = none
theorem get_int {T : List Int} {i : Nat} (h : i < T.length) : (T.map V.int)[i]? = some (.int (T.getD i 0)) := by
  rw [List.getElem?_map, List.getElem?_eq_getElem h, List.getD_eq_getElem?_getD, List.getElem?_eq_getElem h]
  rfl
/-! ### boards in the heap -/
def OffAt (H : Hp) (q : Addr) (o : Of) : Prop := H q = some (.tup (o.ns.map V.int))
/-- the offers of a list, one after another -/
def OffsAt (H : Hp) (qs : List Addr) (L : List Of) : Prop := qs.length = L.length ∧ ∀ (i : Nat) (q : Addr), qs[i]? = some q → ∃ o, L[i]? = some o ∧ OffAt H q o
def BoardAt (H : Hp) (d : Addr) (k : Nat) (L : List Of) : Prop := ∃ (t : Addr) (qs : List Addr), H d = some (.tup [.int (k : Int), .ref t]) ∧ H t = some (.tup (qs.map V.ref)) ∧ OffsAt H qs L
theorem OffsAt.same {H H' : Hp} {qs : List Addr} {L : List Of} (h : OffsAt H qs L) (s : Same H H') : OffsAt H' qs L :=
  ⟨h.1, fun i q e => by obtain ⟨o, h1, h2⟩ := h.2 i q e; exact ⟨o, h1, s _ _ h2⟩⟩
theorem BoardAt.same {H H' : Hp} {d : Addr} {k : Nat} {L : List Of} (h : BoardAt H d k L) (s : Same H H') : BoardAt H' d k L := by
  obtain ⟨t, qs, h1, h2, h3⟩ := h
  exact ⟨t, qs, s _ _ h1, s _ _ h2, h3.same s⟩
theorem OffsAt.fr {H H' : Hp} {a l : Addr} {n : Int} {qs : List Addr} {L : List Of} (h : OffsAt H qs L) (f : Fr a l H H') (D : Deck H a l n) : OffsAt H' qs L :=
  ⟨h.1, fun i q e => by obtain ⟨o, h1, h2⟩ := h.2 i q e; exact ⟨o, h1, f.tup D h2⟩⟩
theorem BoardAt.fr {H H' : Hp} {d a l : Addr} {n : Int} {k : Nat} {L : List Of} (h : BoardAt H d k L) (f : Fr a l H H') (D : Deck H a l n) : BoardAt H' d k L := by
  obtain ⟨t, qs, h1, h2, h3⟩ := h
  exact ⟨t, qs, f.tup D h1, f.tup D h2, h3.fr f D⟩
/-- a list's place rewritten: tuples stay -/
theorem OffsAt.updL {H : Hp} {U : Addr} {xs ys : List V} {qs : List Addr} {L : List Of} (h : OffsAt H qs L) (hU : H U = some (.lst xs)) : OffsAt (upd H U (.lst ys)) qs L :=
  ⟨h.1, fun i q e => by
    obtain ⟨o, h1, h2⟩ := h.2 i q e
    refine ⟨o, h1, ?_⟩
    unfold OffAt
    rw [upd_ne (ne_of h2 hU (by intro q; cases q))]
    exact h2⟩
def sp_l_board (_ : PySem.W.Frag) : Sp := fun vs H Q _ => ∃ (p l : Addr) (n : Int) (k : Nat) (many upto : Int), vs = [.ref p, .int (k : Int), .int many, .int upto] ∧ Deck H p l n ∧ 0 ≤ n ∧ n ≤ 900000 ∧ 2 ≤ k ∧ k ≤ 4 ∧ 0 ≤ many ∧ many ≤ 40 ∧ 1 ≤ upto ∧ upto ≤ 30 ∧
  ∀ H' d L n', Fr p l H H' → Deck H' p l n' → n ≤ n' → n' ≤ n + 200 → BoardAt H' d k L → (∀ o ∈ L, OfOk k o) → (L.length : Int) ≤ many → Q (.ref d) H'
section
variable {P : Program} {w : World} {K : PySem.W.Frag} {mg : Str → Option Value} {base : Heap}
abbrev s_l_deck : Stmt := topS 10
abbrev N_l_deck : List Str := ["_law_script", "_law_cell"]
theorem sc_l_deck : FnScope N_l_deck ["_law_script"] (defScope s_l_deck) := ⟨rfl, rfl, rfl, by decide +kernel, rfl, by decide +kernel, by decide +kernel⟩
theorem ok_l_deck (T : Txt mg) (D : Df K mg "_law_deck" s_l_deck ["_law_script"]) : Cal P w K mg base "_law_deck" ["_law_script"] 1 (sp_l_deck K) := by
  refine D.cal sc_l_deck (fun vs H Q E h => ?_) (fun f cdv A outer s H vs Q E hr h => ?_)
  · obtain ⟨a, ns, rfl, _⟩ := h
    rfl
  obtain ⟨a, ns, rfl, hS, hlen, k⟩ := h
  refine ⟨_, (pss_one (ps_ret (pe_lst (pa_cons (pe_lc (own := [("_law_cell", 1)]) (g := gName 1) (tt := tYes) rfl sc_l_deck.nd (pi_list (pe_slice sl_list (pv 0) po_none (po_some pe_int))) (blkOk_by (own := [("_law_cell", 1)]) (N := N_l_deck) (sc := defScope s_l_deck) (by decide +kernel)) (fun _ _ _ _ _ => pg_name (i := 1) sc_l_deck.nd rfl (Or.inl rfl)) (fun _ _ _ _ _ => pts_nil) (fun _ _ _ _ _ => (pe_callB call_abs (by rfl) T.n_abs (by decide +kernel) (pa_cons (pv 1) pa_nil)))) (pa_cons pe_int pa_nil))))), ?_⟩
  refine ⟨_, rfl, _, rfl, a, _, rfl, hS, fun c nc => ?_⟩
  rw [cut63 hlen]
  have s1 := same_upd (o := .lst (ns.map V.int)) nc
  refine ⟨c, rfl, ⟨_, SqL.of upd_same⟩, fun D nD => ?_⟩
  have s2 := s1.trans (same_upd (o := .lst []) nD)
  have hc2 : upd (upd H c (.lst (ns.map V.int))) D (.lst []) c = some (.lst (ns.map V.int)) := same_upd nD _ _ upd_same
  refine lc_list (K := K) (a := c) (xs := ns.map V.int) (fun i H' => Same H H' ∧ H' c = some (.lst (ns.map V.int)) ∧ c ≠ D ∧ H D = none ∧ H' D = some (.lst (((ns.take i).map absI).map V.int)))
    ⟨s2, hc2, ne_of_none upd_same nD, s1.free nD, upd_same⟩ (fun i H' _ h => SqL.of h.2.1) ?_ ?_
  · rintro i x H' hx ⟨sm, hc, ncD, nD0, hD⟩
    rw [List.getElem?_map] at hx
    cases e : ns[i]? with
    | none => rw [e] at hx; cases hx
    | some y =>
      rw [e] at hx
      have ex : x = .int y := (Option.some.inj hx).symm
      subst ex
      refine ⟨rfl, ?_⟩
      unfold tYes
      refine iteT ?_
      refine ⟨_, rfl, _, rfl, _, hD, ?_, ?_⟩
      · rw [List.length_map, List.length_map, List.length_take]
        exact Nat.lt_of_le_of_lt (Nat.min_le_right _ _) (small1000 (by omega))
      · refine ⟨fun b o e => ?_, ?_, ncD, nD0, ?_⟩
        · rw [upd_ne (ne_of_none e nD0)]
          exact sm _ _ e
        · rw [upd_ne ncD]
          exact hc
        · rw [upd_same, List.take_add_one, e, List.map_append, List.map_append]
          rfl
  · rintro H' ⟨sm, hc, ncD, nD0, hD⟩
    refine ⟨(by show 2 ≤ sizeLine; decide), fun p np => ?_⟩
    have s3 := sm.trans (same_upd (o := .lst [.ref D, .int 0]) np)
    refine k _ p D s3 ⟨upd_same, _, (same_upd np) _ _ hD, fun c hc => ?_, ?_⟩
    · obtain ⟨y, _, rfl⟩ := List.mem_map.mp hc
      exact absI_pos y
    · rw [List.length_map, List.length_take]
      omega
abbrev s_l_draw : Stmt := topS 11
abbrev N_l_draw : List Str := ["_law_deck_here", "_law_many", "_law_place", "_law_cell", "_law_mixed"]
theorem sc_l_draw : FnScope N_l_draw ["_law_deck_here", "_law_many"] (defScope s_l_draw) := ⟨rfl, rfl, rfl, by decide +kernel, rfl, by decide +kernel, by decide +kernel⟩
theorem ok_l_draw (T : Txt mg) (D : Df K mg "_law_draw" s_l_draw ["_law_deck_here", "_law_many"]) : Cal P w K mg base "_law_draw" ["_law_deck_here", "_law_many"] 1 (sp_l_draw K) := by
  refine D.cal sc_l_draw (fun vs H Q E h => ?_) (fun f cdv A outer s H vs Q E hr h => ?_)
  · obtain ⟨p, l, n, m, rfl, _⟩ := h
    rfl
  obtain ⟨p, l, n, m, rfl, D, n0, n1, m0, m1, k⟩ := h
  obtain ⟨cells, hl, hc⟩ := D.hl
  have npl : p ≠ l := ne_of D.hp hl deck_ne
  refine ⟨_, (pss_cons (ps_asg (pe_op op_add (pe_ix ix_list (pv 0) pe_int (fun _ _ => rfl)) pe_int) (pg_sub (pv 0) pe_int set_list))
    (pss_cons (ps_set (i := 2) sc_l_draw.nd rfl (Or.inl rfl) (pe_op op_modN (pe_callTy call_int1 (by rfl) T.n_int (by decide +kernel) (pa_cons (pe_ix ix_list (pv 0) pe_int (fun _ _ => rfl)) pa_nil)) (pe_callB (call_max2 rfl) (by rfl) T.n_max (by decide +kernel) (pa_cons pe_int (pa_cons (pe_callB call_len_seq (by rfl) T.n_len (by decide +kernel) (pa_cons (pe_ix ix_list (pv 0) pe_int (fun _ _ => rfl)) pa_nil)) pa_nil)))))
    (pss_cons (ps_set (i := 3) sc_l_draw.nd rfl (Or.inl rfl) (pe_ix ix_list (pe_op op_cat (pe_ix ix_list (pv 0) pe_int (fun _ _ => rfl)) (pe_lst (pa_cons pe_int pa_nil))) (pv 2) (fun _ _ => rfl)))
    (pss_cons (ps_if (pt_cmpR op_ge (pv 3) (pe_op op_pow pe_int pe_int) (nomark _)) (pss_cons (ps_asg (pe_op op_fdivW (pv 3) (pv 1)) (pg_sub (pe_ix ix_list (pv 0) pe_int (fun _ _ => rfl)) (pv 2) set_list))
    (pss_one (ps_ret (pe_op op_modN (pe_callTy call_int1 (by rfl) T.n_int (by decide +kernel) (pa_cons (pv 3) pa_nil)) (pv 1))))) pss_nil)
    (pss_cons (ps_set (i := 4) sc_l_draw.nd rfl (Or.inl rfl) (pe_op op_pow (pe_op op_add (pe_op op_add (pe_op op_modN (pe_callTy call_int1 (by rfl) T.n_int (by decide +kernel) (pa_cons (pv 3) pa_nil)) pe_int) (pe_op op_mul pe_int (pe_ix ix_list (pv 0) pe_int (fun _ _ => rfl)))) pe_int) pe_int))
    (pss_one (ps_ret (pe_op op_modN (pe_callTy call_int1 (by rfl) T.n_int (by decide +kernel) (pa_cons (pe_op op_modN (pe_callTy call_int1 (by rfl) T.n_int (by decide +kernel) (pa_cons (pv 4) pa_nil)) pe_int) pa_nil)) (pv 1))))))))), ?_⟩
  refine ⟨_, rfl, _, _, _, _, rfl, rfl, SqL.of D.hp, atI_nat (j := 1) rfl, _, _, rfl, rfl, _, rfl, _, _, _, _, rfl, rfl, D.hp, rfl, ?_⟩
  generalize hH0 : upd H p (HO.lst (List.set [V.ref l, V.int n] (Int.toNat 1) ((fun i j => V.int (i + j)) n 1))) = H0
  have hH0 : upd H p (.lst [.ref l, .int (n + 1)]) = H0 := hH0
  have f0 : Fr p l H H0 := fun b o h1 _ h => by rw [← hH0, upd_ne h1]; exact h
  have hl0 : H0 l = some (.lst (cells.map V.int)) := by rw [← hH0, upd_ne npl.symm]; exact hl
  have hp0 : H0 p = some (.lst [.ref l, .int (n + 1)]) := by rw [← hH0, upd_same]
  -- place
  have big : (if ((cells.map V.int).length : Int) > 1 then ((cells.map V.int).length : Int) else 1) = max 1 (cells.length : Int) := by
    rw [List.length_map]
    split <;> omega
  have fm : (n + 1).fmod (max 1 (cells.length : Int)) = (n + 1) % (max 1 (cells.length : Int)) := fmod_pos (by omega)
  have q0 : 0 ≤ (n + 1).fmod (max 1 (cells.length : Int)) := by rw [fm]; exact Int.emod_nonneg _ (by omega)
  have q1 : (n + 1).fmod (max 1 (cells.length : Int)) < max 1 (cells.length : Int) := by rw [fm]; exact Int.emod_lt_of_pos _ (by omega)
  refine ⟨_, rfl, _, _, _, _, rfl, rfl, SqL.of hp0, atI_nat (j := 1) rfl, .inl ⟨_, rfl, _, rfl, _, _, _, _, rfl, rfl, SqL.of hp0, atI_nat (j := 0) rfl, _, _, rfl, .inl (SqL.of hl0), _, _, rfl, _, _, rfl, rfl, (by rw [big]; omega), ?_⟩⟩
  have z : ∀ B : Int → Prop, B ((n + 1).fmod (max 1 (cells.length : Int))) → B ((n + 1).fmod (if ((cells.map V.int).length : Int) > 1 then ((cells.map V.int).length : Int) else 1)) := fun B h => by rw [big]; exact h
  refine z (fun y => gName 2 (.int y) _ _ _) ?_
  clear z
  -- cell
  refine ⟨_, rfl, _, _, _, _, rfl, rfl, SqL.of hp0, atI_nat (j := 0) rfl, (by show 1 ≤ sizeLine; decide), fun t nt => ?_⟩
  have st := same_upd (o := .lst [.int 0]) nt
  have hp1 := st _ _ hp0
  have hl1 := st _ _ hl0
  have f1 := f0.trans (Same.fr (p := p) (l := l) st)
  obtain ⟨hc, h63⟩ := hc
  have ln : (cells.map V.int).length = cells.length := List.length_map ..
  refine ⟨_, _, _, _, rfl, rfl, hl1, upd_same, (by rw [ln]; exact Nat.le_trans (by omega : cells.length + 1 ≤ 64) (by decide)), fun t2 nt2 => ?_⟩
  have st2 := same_upd (o := .lst (cells.map V.int ++ [.int 0])) nt2
  have hp2 := st2 _ _ hp1
  have hl2 := st2 _ _ hl1
  have f2 := f1.trans (Same.fr (p := p) (l := l) st2)
  have ht2 : upd (upd H0 t (.lst [.int 0])) t2 (.lst (cells.map V.int ++ [.int 0])) t2 = some (.lst ((cells ++ [0]).map V.int)) := by rw [upd_same, List.map_append]; rfl
  generalize upd (upd H0 t (HO.lst [V.int 0])) t2 (HO.lst (cells.map V.int ++ [V.int 0])) = H2 at hp2 hl2 f2 ht2 ⊢
  have q2 : ((n + 1).fmod (max 1 (cells.length : Int))).toNat < (cells ++ [0]).length := by rw [List.length_append, List.length_singleton]; omega
  have q3 : (n + 1).fmod (max 1 (cells.length : Int)) = (((n + 1).fmod (max 1 (cells.length : Int))).toNat : Int) := by omega
  generalize (n + 1).fmod (max 1 (cells.length : Int)) = pl at q0 q1 q2 q3 ⊢
  have q4 : ((cells ++ [0]).map V.int)[pl.toNat]? = some (.int (cells ++ [0])[pl.toNat]) := by
    rw [List.getElem?_map, List.getElem?_eq_getElem q2]
    rfl
  have c0 : 0 ≤ (cells ++ [0])[pl.toNat] := by
    rcases List.mem_append.mp (List.getElem_mem q2) with q | q
    · exact hc _ q
    · rw [List.mem_singleton.mp q]
      decide
  have inside : 1000000000000000000 ≤ (cells ++ [0])[pl.toNat] → pl.toNat < cells.length := by
    intro q
    by_cases e : pl.toNat < cells.length
    · exact e
    · rw [List.getElem_append_right (by omega)] at q
      simp at q
  generalize (cells ++ [0])[pl.toNat] = c at q4 c0 inside ⊢
  refine ⟨_, rfl, _, _, _, _, rfl, rfl, SqL.of ht2, at_of q3 q4, ?_⟩
  refine ⟨_, rfl, _, _, rfl, rfl, ⟨by decide, by decide, by decide⟩, _, _, rfl, rfl, _, rfl, ite3 (fun e => ?_) (fun e => ?_)⟩
  · have e : 1000000000000000000 ≤ c := e
    have p1 := inside e
    have ix : ixN (cells.map V.int).length pl = some pl.toNat := by
      unfold ixN
      rw [if_pos q0, if_pos (by omega)]
    refine ⟨_, rfl, _, rfl, _, _, rfl, rfl, div_draw m0 m1, _, rfl, _, _, _, _, rfl, rfl, SqL.of hp2, atI_nat (j := 0) rfl, _, rfl, _, _, _, _, rfl, rfl, hl2, ix, ?_⟩
    refine ⟨_, rfl, .inl ⟨_, rfl, _, rfl, _, _, rfl, rfl, (by omega), ?_⟩⟩
    have fm : c.fmod m = c % m := fmod_pos m0
    refine k _ _ (by rw [fm]; exact Int.emod_nonneg _ (by omega)) (by rw [fm]; exact Int.emod_lt_of_pos _ m0) (f2.trans fun b o _ h2 h => by rw [upd_ne h2]; exact h) ⟨by rw [upd_ne npl]; exact hp2, cells.set pl.toNat (c / m), by rw [upd_same, List.map_set], fun y hy => ?_, by rw [List.length_set]; exact h63⟩
    rcases List.mem_or_eq_of_mem_set hy with q | q
    · exact hc y q
    · rw [q]; exact Int.ediv_nonneg c0 (by omega)
  · refine ⟨_, rfl, .inl ⟨_, rfl, _, _, rfl, rfl, (show (2147483587 : Int) ≠ 0 by decide), _, rfl, _, _, _, _, rfl, rfl, SqL.of hp2, atI_nat (j := 1) rfl, _, _, rfl, rfl, .inl ⟨by decide, by decide⟩, _, _, rfl, rfl, _, _, rfl, rfl, ?_⟩⟩
    have fm : c.fmod 2147483587 = c % 2147483587 := fmod_pos (by decide)
    have h0 := Int.emod_nonneg c (show (2147483587 : Int) ≠ 0 by decide)
    have h1 := Int.emod_lt_of_pos c (show (0 : Int) < 2147483587 by decide)
    refine ⟨_, _, rfl, rfl, ⟨by decide, by decide, by rw [fm]; omega⟩, ?_⟩
    refine ⟨_, rfl, .inl ⟨_, rfl, _, _, rfl, rfl, (show (2147483647 : Int) ≠ 0 by decide), .inl ⟨_, rfl, _, rfl, _, _, rfl, rfl, (by omega), ?_⟩⟩⟩
    refine k _ _ ?_ ?_ f2 ⟨hp2, cells, hl2, hc, h63⟩
    · rw [fmod_pos m0]; exact Int.emod_nonneg _ (by omega)
    · rw [fmod_pos m0]; exact Int.emod_lt_of_pos _ m0
abbrev s_l_one : Stmt := topS 12
abbrev N_l_one : List Str := ["_law_deck_here", "_law_items"]
theorem sc_l_one : FnScope N_l_one ["_law_deck_here", "_law_items"] (defScope s_l_one) := ⟨rfl, rfl, rfl, by decide +kernel, rfl, by decide +kernel, by decide +kernel⟩
theorem ok_l_one (T : Txt mg) (D : Df K mg "_law_one" s_l_one ["_law_deck_here", "_law_items"]) (C_l_draw : Cal P w K mg base "_law_draw" ["_law_deck_here", "_law_many"] 1 (sp_l_draw K)) : Cal P w K mg base "_law_one" ["_law_deck_here", "_law_items"] 2 (sp_l_one K) := by
  obtain ⟨f_l_draw, fd_l_draw, G_l_draw, m_l_draw, k_l_draw, b_l_draw⟩ := C_l_draw
  refine D.cal sc_l_one (fun vs H Q E h => ?_) (fun f cdv A outer s H vs Q E hr h => ?_)
  · obtain ⟨p, l, b, n, xs, rfl, _⟩ := h
    rfl
  obtain ⟨p, l, b, n, xs, rfl, D, n0, n1, hb, bp, bl, x0, x1, k⟩ := h
  refine ⟨_, (pss_one (ps_ret (pe_ix ix_list (pv 1) (pe_call G_l_draw (hr.mono (by decide)) (by rfl) m_l_draw k_l_draw b_l_draw .nil pass0 (pa_cons (pv 0) (pa_cons (pe_callB call_len_seq (by rfl) T.n_len (by decide +kernel) (pa_cons (pv 1) pa_nil)) pa_nil))) (fun _ _ => rfl)))), ?_⟩
  refine ⟨_, rfl, _, rfl, _, rfl, _, _, rfl, .inl (SqL.of hb), p, l, n, _, rfl, D, n0, n1, (by omega), (by omega), fun r H' r0 r1 f D' => ?_⟩
  have q : r.toNat < xs.length := by omega
  refine ⟨_, _, _, _, rfl, rfl, SqL.of (f b _ bp bl hb), at_of (j := r.toNat) (by omega) (List.getElem?_eq_getElem q), ?_⟩
  exact k _ H' (List.getElem_mem q) f D'
end
end Sm

set_option Elab.async false
set_option linter.all false
set_option maxRecDepth 100000
set_option maxHeartbeats 8000000
namespace Sm
open PySem PySem.Spec PyProof.Rows L2
open C8 (pss_cut tCut)
def ofNs : List Int → Of
  | [a, x, b, y] => ⟨a.toNat, x, b.toNat, y⟩
  | _ => ⟨0, 0, 0, 0⟩
theorem ofNs_ns (o : Of) : ofNs o.ns = o := by
  cases o
  rfl
theorem offs_of {H : Hp} (L' : List (Addr × List Int)) (h : ∀ p ∈ L', ∃ o : Of, p.2 = o.ns ∧ OffAt H p.1 o) : OffsAt H (L'.map (·.1)) (L'.map fun p => ofNs p.2) := by
  refine ⟨by rw [List.length_map, List.length_map], fun i q e => ?_⟩
  rw [List.getElem?_map] at e
  cases z : L'[i]? with
  | none => rw [z] at e; cases e
  | some p =>
    rw [z] at e
    have e : p.1 = q := Option.some.inj e
    obtain ⟨o, h1, h2⟩ := h p (List.mem_of_getElem? z)
    refine ⟨o, ?_, by rw [← e]; exact h2⟩
    rw [List.getElem?_map, z]
    show some (ofNs p.2) = some o
    rw [h1, ofNs_ns]
theorem bd_ns {k : Nat} {o : Of} (h : OfOk k o) (k4 : k ≤ 4) : o.ns.length = 4 ∧ TS.Bd 100 o.ns := by
  refine ⟨rfl, fun m hm => ?_⟩
  have h1 := h.a
  have h2 := h.b
  have h3 := h.x0
  have h4 := h.x1
  have h5 := h.y0
  have h6 := h.y1
  simp only [Of.ns, List.mem_cons, List.not_mem_nil, or_false] at hm
  rcases hm with rfl | rfl | rfl | rfl <;> omega
theorem nodup_le : ∀ (l m : List (List Int)), l.Nodup → (∀ x ∈ l, x ∈ m) → l.length ≤ m.length
  | [], m, _, _ => Nat.zero_le _
  | a :: l, m, nd, h => by
    obtain ⟨na, nd⟩ := List.nodup_cons.mp nd
    have ha := h a (List.mem_cons_self ..)
    have := nodup_le l (m.erase a) nd fun x hx => by
      refine (List.mem_erase_of_ne ?_).mpr (h x (List.mem_cons_of_mem _ hx))
      rintro rfl
      exact na hx
    rw [List.length_erase_of_mem ha] at this
    have : 0 < m.length := List.length_pos_of_mem ha
    rw [List.length_cons]
    omega
/-- tuple(sorted(set(..))) of offers, told for the list that stands at U -/
theorem set_board {K : PySem.W.Frag} {P : Program} {w : World} {H : Hp} {U : Addr} {ks : List (Addr × Of)} {k : Nat} (hU : H U = some (.lst (ks.map fun e => V.ref e.1))) (hk : ∀ e ∈ ks, OffAt H e.1 e.2 ∧ OfOk k e.2) (k4 : k ≤ 4) (h64 : ks.length < 64)
    {Q : VK} (q : ∀ H' t (qs : List Addr) (L : List Of), Same H H' → H' t = some (.tup (qs.map V.ref)) → OffsAt H' qs L → (∀ o ∈ L, OfOk k o) → L.length ≤ ks.length → Q (.ref t) H') :
    rSetOfT K P w [.ref U] H fun x H1 => rSortedT K P w [x] H1 fun y H2 => ∃ (q : Addr) (xs : List V), [y] = [V.ref q] ∧ ((SqL K H2 q xs ∧ ∀ t, H2 t = none → Q (.ref t) (upd H2 t (.tup xs))) ∨ SqT K H2 q xs ∧ Q (.ref q) H2) := by
  have lm : (ks.map fun e => (e.1, e.2.ns)).map (fun p : Addr × List Int => V.ref p.1) = ks.map fun e => V.ref e.1 := by
    rw [List.map_map]
    rfl
  refine ⟨U, ks.map fun e => (e.1, e.2.ns), rfl, ?_, fun p hp => ?_, by rw [List.length_map]; exact h64, fun a L na hL _ => ?_⟩
  · rw [lm]
    exact SqL.of hU
  · obtain ⟨e, he, rfl⟩ := List.mem_map.mp hp
    exact SqT.of (hk e he).1
  have sa := same_upd (o := SetTO P w a L) na
  have own : ∀ p ∈ L, ∃ e ∈ ks, p = (e.1, e.2.ns) := fun p hp => by
    obtain ⟨e, he, h⟩ := List.mem_map.mp (hL p hp)
    exact ⟨e, he, h.symm⟩
  refine ⟨a, L, 4, 100, rfl, upd_same, fun p hp => ?_, by decide, fun p hp => ?_, fun L' r pm nd l64 pw nr => ?_⟩
  · obtain ⟨e, he, rfl⟩ := own p hp
    exact SqT.of (sa _ _ (hk e he).1)
  · obtain ⟨e, he, rfl⟩ := own p hp
    exact bd_ns (hk e he).2 k4
  have sr := same_upd (o := .lst (L'.map fun q => V.ref q.1)) nr
  refine ⟨r, _, rfl, .inl ⟨SqL.of upd_same, fun t nt => ?_⟩⟩
  have st := same_upd (o := .tup (L'.map fun q => V.ref q.1)) nt
  have s := sa.trans (sr.trans st)
  refine q _ t (L'.map (·.1)) (L'.map fun p => ofNs p.2) s (by rw [upd_same, List.map_map]; rfl) (offs_of L' fun p hp => ?_) (fun o ho => ?_) (by
    rw [List.length_map]
    have := nodup_le (L'.map (·.2)) (ks.map fun e => e.2.ns) nd fun x hx => by
      obtain ⟨p, hp, rfl⟩ := List.mem_map.mp hx
      obtain ⟨e, he, rfl⟩ := own p (pm.mem_iff.mp hp)
      exact List.mem_map.mpr ⟨e, he, rfl⟩
    rwa [List.length_map, List.length_map] at this)
  · obtain ⟨e, he, rfl⟩ := own p (pm.mem_iff.mp hp)
    exact ⟨e.2, rfl, s _ _ (hk e he).1⟩
  · obtain ⟨p, hp, rfl⟩ := List.mem_map.mp ho
    obtain ⟨e, he, rfl⟩ := own p (pm.mem_iff.mp hp)
    show OfOk k (ofNs e.2.ns)
    rw [ofNs_ns]
    exact (hk e he).2
/-- the offers found so far -/
def BW (p l U : Addr) (k : Nat) (upto top n : Int) (H : Hp) (i : Nat) (σ : L2.St) (H' : Hp) : Prop := ∃ (n' : Int) (ks : List (Addr × Of)) (v5 v6 v7 : Option V), σ = [some (.ref p), some (.int (k : Int)), some (.int upto), some (.int top), some (.ref U), v5, v6, v7] ∧ Deck H' p l n' ∧ n ≤ n' ∧ n' ≤ n + 1 + 4 * (i : Int) ∧ Fr p l H H' ∧
      H' U = some (.lst (ks.map fun e => V.ref e.1)) ∧ ks.length = i ∧ ∀ e ∈ ks, OffAt H' e.1 e.2 ∧ OfOk k e.2
theorem BW.more {p l U t : Addr} {k i : Nat} {upto top n n' : Int} {H H7 : Hp} {ks : List (Addr × Of)} {o : Of} {v5 v6 v7 : Option V} (hn : ∀ b o, H b = some o → b ≠ U) (Up : U ≠ p) (Ul : U ≠ l) (D : Deck H7 p l n') (n0 : n ≤ n') (n1 : n' ≤ n + 5 + 4 * (i : Int)) (f : Fr p l H H7)
    (hU : H7 U = some (.lst (ks.map fun e => V.ref e.1))) (kl : ks.length = i) (old : ∀ e ∈ ks, OffAt H7 e.1 e.2 ∧ OfOk k e.2) (ht : OffAt H7 t o) (ho : OfOk k o) :
    BW p l U k upto top n H (i + 1) [some (.ref p), some (.int (k : Int)), some (.int upto), some (.int top), some (.ref U), v5, v6, v7] (upd H7 U (.lst ((ks.map fun e => V.ref e.1) ++ [.ref t]))) := by
  have neU : ∀ b xs, H7 b = some (.tup xs) → b ≠ U := fun b xs hb => ne_of hb hU (by intro q; cases q)
  refine ⟨n', ks ++ [(t, o)], v5, v6, v7, rfl, ⟨by rw [upd_ne Up.symm]; exact D.hp, ?_⟩, n0, by omega, ?_, ?_, ?_, ?_⟩
  · obtain ⟨cells, q1, q2⟩ := D.hl
    exact ⟨cells, by rw [upd_ne Ul.symm]; exact q1, q2⟩
  · intro b o h1 h2 hb
    rw [upd_ne (hn b o hb)]
    exact f b o h1 h2 hb
  · rw [upd_same, List.map_append]
    rfl
  · rw [List.length_append, List.length_singleton, kl]
  · intro e he
    rcases List.mem_append.mp he with he | he
    · refine ⟨?_, (old e he).2⟩
      unfold OffAt
      rw [upd_ne (neU _ _ (old e he).1)]
      exact (old e he).1
    · rw [List.mem_singleton.mp he]
      refine ⟨?_, ho⟩
      unfold OffAt
      rw [upd_ne (neU _ _ ht)]
      exact ht
section
variable {P : Program} {w : World} {K : PySem.W.Frag} {mg : Str → Option Value} {base : Heap}
abbrev s_l_board : Stmt := topS 13
abbrev N_l_board : List Str := ["_law_deck_here", "_law_kinds", "_law_many", "_law_upto", "_law_found", "_law_turn", "_law_a", "_law_b"]
theorem sc_l_board : FnScope N_l_board ["_law_deck_here", "_law_kinds", "_law_many", "_law_upto"] (defScope s_l_board) := ⟨rfl, rfl, rfl, by decide +kernel, rfl, by decide +kernel, by decide +kernel⟩
theorem ok_l_board (T : Txt mg) (D : Df K mg "_law_board" s_l_board ["_law_deck_here", "_law_kinds", "_law_many", "_law_upto"]) (C_l_draw : Cal P w K mg base "_law_draw" ["_law_deck_here", "_law_many"] 1 (sp_l_draw K)) : Cal P w K mg base "_law_board" ["_law_deck_here", "_law_kinds", "_law_many", "_law_upto"] 2 (sp_l_board K) := by
  obtain ⟨f_l_draw, fd_l_draw, G_l_draw, m_l_draw, k_l_draw, b_l_draw⟩ := C_l_draw
  refine D.cal sc_l_board (fun vs H Q E h => ?_) (fun f cdv A outer s H vs Q E hr h => ?_)
  · obtain ⟨p, l, n, k, upto, top, rfl, _⟩ := h
    rfl
  obtain ⟨p, l, n, k, upto, top, rfl, D0, n0, n1, k2, k4, u0, u1, t0, t1, kk⟩ := h
  refine ⟨_, (pss_cons (ps_set (i := 4) sc_l_board.nd rfl (Or.inl rfl) (pe_lst pa_nil))
    (pss_cons (ps_for PassesOwn.never rfl (pi_range1 (by rfl) T.n_range (pa_cons (pv 2) pa_nil)) (pg_name (i := 5) sc_l_board.nd rfl (Or.inl rfl))
      (pss_cons (ps_set (i := 6) sc_l_board.nd rfl (Or.inl rfl) (pe_call G_l_draw (hr.mono (by decide)) (by rfl) m_l_draw k_l_draw b_l_draw .nil pass0 (pa_cons (pv 0) (pa_cons (pv 1) pa_nil))))
    (pss_cons (ps_set (i := 7) sc_l_board.nd rfl (Or.inl rfl) (pe_op op_modN (pe_callTy call_int1 (by rfl) T.n_int (by decide +kernel) (pa_cons (pe_op op_add (pe_op op_add (pv 6) pe_int) (pe_call G_l_draw (hr.mono (by decide)) (by rfl) m_l_draw k_l_draw b_l_draw .nil pass0 (pa_cons (pv 0) (pa_cons (pe_op op_sub (pv 1) pe_int) pa_nil)))) pa_nil)) (pv 1)))
    (pss_one (ps_expr (pe_bm PySem.F.plainAttrs_list PySem.F.slot_list_append PySem.F.type_list_append mt_append (pv 4) (pa_cons (pe_tup (pa_cons (pv 6) (pa_cons (pe_op op_add pe_int (pe_call G_l_draw (hr.mono (by decide)) (by rfl) m_l_draw k_l_draw b_l_draw .nil pass0 (pa_cons (pv 0) (pa_cons (pv 3) pa_nil)))) (pa_cons (pv 7) (pa_cons (pe_call G_l_draw (hr.mono (by decide)) (by rfl) m_l_draw k_l_draw b_l_draw .nil pass0 (pa_cons (pv 0) (pa_cons (pe_op op_add (pv 3) pe_int) pa_nil))) pa_nil))))) pa_nil)))))))
    (pss_one (ps_ret (pe_tup (pa_cons (pv 1) (pa_cons (pe_callTy call_tuple_of (by rfl) T.n_tuple (by decide +kernel) (pa_cons (pe_callB (cr_sortedT rfl) (by rfl) T.n_sorted (by decide +kernel) (pa_cons (pe_callTy (cr_setOfT rfl hr.units) (by rfl) T.n_set (by decide +kernel) (pa_cons (pv 4) pa_nil)) pa_nil)) pa_nil)) pa_nil))))))), ?_⟩
  refine ⟨(by show 0 ≤ sizeLine; decide), fun U nU => ?_⟩
  obtain ⟨Up, Ul⟩ := D0.lne nU
  have sU := same_upd (o := .lst []) nU
  refine ⟨_, rfl, upto, rfl, (by omega), (by omega), ?_⟩
  have hn : ∀ b o, H b = some o → b ≠ U := fun b o hb => ne_of_none hb nU
  refine for_range (lo := 0) (n := _) (BW p l U k upto top n H)
    ⟨n, [], none, none, none, rfl, D0.same sU, by omega, by omega, Same.fr sU, upd_same, rfl, fun e he => nomatch he⟩ ?_ ?_
  · rintro i σ H2 hi ⟨n', ks, v5, v6, v7, rfl, D2, m0, m1, f2, hU, kl, hk⟩
    have hi : i < upto.toNat := hi
    have hi : i ≤ 40 := by omega
    refine ⟨_, rfl, _, rfl, p, l, n', _, rfl, D2, by omega, by omega, by omega, by omega, fun ra H3 a0 a1 f3 D3 => ?_⟩
    refine ⟨_, rfl, _, _, rfl, rfl, _, rfl, _, rfl, _, _, rfl, rfl, p, l, n' + 1, _, rfl, D3, by omega, by omega, by omega, by omega, fun rb H4 b0 b1 f4 D4 => ?_⟩
    refine ⟨_, _, rfl, rfl, .inl ⟨_, rfl, _, rfl, _, _, rfl, rfl, (show (k : Int) ≠ 0 by omega), ?_⟩⟩
    have fm : (ra + 1 + rb).fmod (k : Int) = (ra + 1 + rb) % (k : Int) := fmod_pos (by omega)
    have c0 : 0 ≤ (ra + 1 + rb).fmod (k : Int) := by rw [fm]; exact Int.emod_nonneg _ (by omega)
    have c1 : (ra + 1 + rb).fmod (k : Int) < (k : Int) := by rw [fm]; exact Int.emod_lt_of_pos _ (by omega)
    have cn : (ra + 1 + rb).fmod (k : Int) ≠ ra := by
      rw [fm]
      obtain rfl | rfl | rfl : k = 2 ∨ k = 3 ∨ k = 4 := by omega
      · show (ra + 1 + rb) % 2 ≠ ra
        have b1 : rb < 2 - 1 := b1
        have a1 : ra < 2 := a1
        omega
      · show (ra + 1 + rb) % 3 ≠ ra
        have b1 : rb < 3 - 1 := b1
        have a1 : ra < 3 := a1
        omega
      · show (ra + 1 + rb) % 4 ≠ ra
        have b1 : rb < 4 - 1 := b1
        have a1 : ra < 4 := a1
        omega
    have hU4 := f4 U _ Up Ul (f3 U _ Up Ul hU)
    refine ⟨_, rfl, .inl ⟨rfl, _, SqL.of hU4⟩, ?_⟩
    refine ⟨_, rfl, _, rfl, _, rfl, p, l, n' + 1 + 1, _, rfl, D4, by omega, by omega, by omega, by omega, fun rx H5 x0 x1 f5 D5 => ?_⟩
    refine ⟨_, _, rfl, rfl, _, rfl, _, rfl, _, rfl, _, _, rfl, rfl, p, l, n' + 1 + 1 + 1, _, rfl, D5, by omega, by omega, by omega, by omega, fun ry H6 y0 y1 f6 D6 => ?_⟩
    refine ⟨(by show 4 ≤ sizeLine; decide), fun t nt => ?_⟩
    have hU6 := f6 U _ Up Ul (f5 U _ Up Ul hU4)
    have ft := f3.trans (f4.trans (f5.trans f6))
    have st := same_upd (o := .tup [.int ra, .int (1 + rx), .int ((ra + 1 + rb).fmod (k : Int)), .int ry]) nt
    refine ⟨U, _, _, rfl, rfl, st _ _ hU6, ?_, ?_⟩
    · rw [List.length_map, kl]
      exact Nat.lt_of_le_of_lt (show i ≤ 40 by omega) (by decide)
    · refine BW.more (n' := n' + 1 + 1 + 1 + 1) (o := ⟨ra.toNat, 1 + rx, ((ra + 1 + rb).fmod (k : Int)).toNat, ry⟩) hn Up Ul (D6.same st) (by omega) (by omega) (f2.trans (ft.trans (Same.fr st))) (st _ _ hU6) kl (fun e he => ?_) ?_ ?_
      · exact ⟨st _ _ (ft.tup D2 (hk e he).1), (hk e he).2⟩
      · show upd H6 t _ t = some (.tup [.int (ra.toNat : Int), .int (1 + rx), .int (((ra + 1 + rb).fmod (k : Int)).toNat : Int), .int ry])
        rw [Int.toNat_of_nonneg a0, Int.toNat_of_nonneg c0]
        exact upd_same
      · exact ⟨by show ra.toNat < k; omega, by show Int.toNat _ < k; omega, by show ra.toNat ≠ Int.toNat _; omega, by show 1 ≤ 1 + rx; omega, by show 1 + rx ≤ 30; omega, y0, by show ry ≤ 30; omega⟩
  · rintro σ H2 ⟨n', ks, v5, v6, v7, rfl, D2, m0, m1, f2, hU, kl, hk⟩
    have ku : (ks.length : Int) ≤ 40 := by rw [kl]; show ((upto.toNat : Nat) : Int) ≤ 40; omega
    refine ⟨_, rfl, _, rfl, ?_⟩
    refine set_board (K := K) (P := P) (w := w) (Q := fun v H1 => [V.int (k : Int), v].length ≤ sizeLine ∧ ∀ p, H1 p = none → Q (.ref p) (upd H1 p (.tup [.int (k : Int), v]))) hU hk k4 (by omega) fun H3 t qs L s3 ht hL ok l64 => ⟨(by show 2 ≤ sizeLine; decide), fun d nd => ?_⟩
    have sd := same_upd (o := .tup [.int (k : Int), .ref t]) nd
    have ku2 : (ks.length : Int) = upto := by rw [kl]; show ((upto.toNat : Nat) : Int) = upto; omega
    exact kk _ d L n' (f2.trans (Same.fr (s3.trans sd))) ((D2.same s3).same sd) (by omega) (by omega) ⟨t, qs, upd_same, sd _ _ ht, hL.same sd⟩ ok (by omega)
end
end Sm

set_option Elab.async false
set_option linter.all false
set_option maxRecDepth 100000
set_option maxHeartbeats 8000000
namespace Sm
open PySem PySem.Spec PyProof.Rows L2
open C8 (pss_cut tCut)
/-- an int within bounds -/
def inI : PyData → Int → Int → Bool
  | .int i, lo, hi => decide (lo ≤ i) && decide (i ≤ hi)
  | _, _, _ => false
def isW : PyData → Bool
  | .int _ => true
  | _ => false
theorem of_int (d : PyData) : isOf "int" d = (match d with | .int _ => true | .bool _ => true | _ => false) := by
  cases d <;> simp [isOf, isT, tyN]
theorem of_bool (d : PyData) : isOf "bool" d = (match d with | .bool _ => true | _ => false) := by
  cases d <;> simp [isOf, isT, tyN]
theorem chain_in {i lo hi : Int} {σ : L2.St} {H : Hp} {Q : VK} (h0 : σ[0]? = some (some (.int i))) (h1 : σ[1]? = some (some (.int lo))) (h2 : σ[2]? = some (some (.int hi))) (h : Q (.bl (decide (lo ≤ i) && decide (i ≤ hi))) H) :
    tChain (rI0 fun i j => V.bl (decide (i ≤ j))) (rI0 fun i j => V.bl (decide (i ≤ j))) (tVar 1) (tVar 0) (tVar 2) σ H Q := by
  refine ⟨_, h1, _, h0, _, _, rfl, rfl, _, rfl, ?_⟩
  by_cases c : lo ≤ i
  · rw [decide_eq_true c] at h ⊢
    exact iteT ⟨_, h2, _, _, rfl, rfl, h⟩
  · rw [decide_eq_false c] at h ⊢
    exact iteF h
def sp_is_whole (K : PySem.W.Frag) : Sp := fun vs H Q _ => ∃ (v : V) (d : PyData), vs = [v] ∧ Dq K H v d ∧ Q (.bl (isW d)) H
def sp_is_within (K : PySem.W.Frag) : Sp := fun vs H Q _ => ∃ (v : V) (d : PyData) (lo hi : Int), vs = [v, .int lo, .int hi] ∧ Dq K H v d ∧ Q (.bl (inI d lo hi)) H
/-- data that is soon shown -/
structure Sml (k n : Nat) (d : PyData) : Prop where
  sh : PyData.showable d = true
  dep : d.depth ≤ k
  len : d.shown.length ≤ n
def t16 : PyData → Bool
  | .tuple ds => decide (ds.length ≤ 16)
  | _ => true
def w16 : PyData → Bool
  | .tuple [_, d] => t16 d
  | _ => true
/-- a value that stands on what is new since H -/
def DqN (K : PySem.W.Frag) (H H' : Hp) (x : V) (d : PyData) : Prop := ∀ H'' : Hp, (∀ b o, H b = none → H' b = some o → H'' b = some o) → Dq K H'' x d
theorem same_upd2 {H : Hp} {p : Addr} {o o' : HO} (h : H p = none) : Same H (upd (upd H p o) p o') := fun b x e => by
  rw [upd_ne (ne_of_none e h), upd_ne (ne_of_none e h)]
  exact e
def sp_l_odd (K : PySem.W.Frag) : Sp := fun vs H Q _ => ∃ (p l : Addr) (n : Int), vs = [.ref p] ∧ Deck H p l n ∧ 0 ≤ n ∧ n ≤ 900000 ∧
  ∀ H' x d, Fr p l H H' → Deck H' p l (n + 1) → DqN K H H' x d → Sml 3 300 d → w16 d = true → Q x H'
section
variable {P : Program} {w : World} {K : PySem.W.Frag} {mg : Str → Option Value} {base : Heap}
abbrev s_is_whole : Stmt := topS 1
abbrev N_is_whole : List Str := ["value"]
theorem sc_is_whole : FnScope N_is_whole ["value"] (defScope s_is_whole) := ⟨rfl, rfl, rfl, by decide +kernel, rfl, by decide +kernel, by decide +kernel⟩
theorem ok_is_whole (T : Txt mg) (D : Df K mg "is_whole" s_is_whole ["value"]) : Cal P w K mg base "is_whole" ["value"] 1 (sp_is_whole K) := by
  refine D.cal sc_is_whole (fun vs H Q E h => ?_) (fun f cdv A outer s H vs Q E hr h => ?_)
  · obtain ⟨v, d, rfl, _⟩ := h
    rfl
  obtain ⟨v, d, rfl, hd, k⟩ := h
  refine ⟨_, (pss_one (ps_ret (pe_and (pe_callB call_isQ (by rfl) T.n_isinstance (by decide +kernel) (pa_cons (pv 0) (pa_cons (pe_bltn (v := .ty "int") (by rfl) T.n_int (by decide +kernel) rfl) pa_nil))) (pe_one (pe_not (pe_callB call_isQ (by rfl) T.n_isinstance (by decide +kernel) (pa_cons (pv 0) (pa_cons (pe_bltn (v := .ty "bool") (by rfl) T.n_bool (by decide +kernel) rfl) pa_nil)))))))), ?_⟩
  refine ⟨_, rfl, v, d, "int", rfl, hd, .inl rfl, _, rfl, ?_⟩
  rw [of_int]
  cases hd with
  | non => exact iteF k
  | bl b => exact iteT ⟨_, rfl, _, .bool b, "bool", rfl, .bl b, .inr (.inl rfl), _, rfl, by rw [of_bool]; exact k⟩
  | int i => exact iteT ⟨_, rfl, _, .int i, "bool", rfl, .int i, .inr (.inl rfl), _, rfl, by rw [of_bool]; exact k⟩
  | str x => exact iteF k
  | lst e1 e2 e3 => exact iteF k
  | tup e1 e2 => exact iteF k
  | dic kvs e1 => exact iteF k
abbrev s_is_within : Stmt := topS 2
abbrev N_is_within : List Str := ["value", "low", "high"]
theorem sc_is_within : FnScope N_is_within ["value", "low", "high"] (defScope s_is_within) := ⟨rfl, rfl, rfl, by decide +kernel, rfl, by decide +kernel, by decide +kernel⟩
theorem ok_is_within (T : Txt mg) (D : Df K mg "is_within" s_is_within ["value", "low", "high"]) (C_is_whole : Cal P w K mg base "is_whole" ["value"] 1 (sp_is_whole K)) : Cal P w K mg base "is_within" ["value", "low", "high"] 2 (sp_is_within K) := by
  obtain ⟨f_is_whole, fd_is_whole, G_is_whole, m_is_whole, k_is_whole, b_is_whole⟩ := C_is_whole
  refine D.cal sc_is_within (fun vs H Q E h => ?_) (fun f cdv A outer s H vs Q E hr h => ?_)
  · obtain ⟨v, d, lo, hi, rfl, _⟩ := h
    rfl
  obtain ⟨v, d, lo, hi, rfl, hd, k⟩ := h
  refine ⟨_, (pss_one (ps_ret (pe_and (pe_call G_is_whole (hr.mono (by decide)) (by rfl) m_is_whole k_is_whole b_is_whole .nil pass0 (pa_cons (pv 0) pa_nil)) (pe_one (pe_chain op_le op_le (pv 1) (pv 0) (pv 2)))))), ?_⟩
  refine ⟨_, rfl, v, d, rfl, hd, _, rfl, ?_⟩
  cases hd with
  | int i => exact iteT (chain_in rfl rfl rfl k)
  | non => exact iteF k
  | bl b => exact iteF k
  | str x => exact iteF k
  | lst e1 e2 e3 => exact iteF k
  | tup e1 e2 => exact iteF k
  | dic kvs e1 => exact iteF k
abbrev s_l_odd : Stmt := topS 27
abbrev N_l_odd : List Str := ["_law_deck_here", "_law_some_here"]
theorem sc_l_odd : FnScope N_l_odd ["_law_deck_here"] (defScope s_l_odd) := ⟨rfl, rfl, rfl, by decide +kernel, rfl, by decide +kernel, by decide +kernel⟩
theorem ok_l_odd (T : Txt mg) (D : Df K mg "_law_odd" s_l_odd ["_law_deck_here"]) (C_l_one : Cal P w K mg base "_law_one" ["_law_deck_here", "_law_items"] 2 (sp_l_one K)) : Cal P w K mg base "_law_odd" ["_law_deck_here"] 3 (sp_l_odd K) := by
  obtain ⟨f_l_one, fd_l_one, G_l_one, m_l_one, k_l_one, b_l_one⟩ := C_l_one
  refine D.cal sc_l_odd (fun vs H Q E h => ?_) (fun f cdv A outer s H vs Q E hr h => ?_)
  · obtain ⟨p, l, n, rfl, _⟩ := h
    rfl
  obtain ⟨p, l, n, rfl, D, n0, n1, k⟩ := h
  refine ⟨_, (pss_cons (ps_set (i := 1) sc_l_odd.nd rfl (Or.inl rfl) (pe_lstN (pa_cons pe_non (pa_cons pe_bl (pa_cons pe_bl (pa_cons (pe_un un_neg pe_int) (pa_cons pe_int (pa_cons pe_str (pa_cons pe_str (pa_cons (pe_tup pa_nil) (pa_cons (pe_lstN pa_nil) (pa_cons (pe_tup (pa_cons pe_int pa_nil)) pa_nil))))))))))))
    (pss_one (ps_ret (pe_call G_l_one (hr.mono (by decide)) (by rfl) m_l_one k_l_one b_l_one .nil pass0 (pa_cons (pv 0) (pa_cons (pe_op op_cat (pv 1) (pe_lstN (pa_cons (pe_lstN (pa_cons pe_int (pa_cons pe_int pa_nil))) (pa_cons pe_dnewK (pa_cons (pe_tup (pa_cons pe_str pa_nil)) (pa_cons (pe_tup (pa_cons (pe_tup (pa_cons pe_int (pa_cons pe_int pa_nil))) pa_nil)) (pa_cons (pe_op op_pow pe_int pe_int) pa_nil))))))) pa_nil)))))), ?_⟩
  refine ⟨_, rfl, (by show 0 ≤ sizeLine; decide), fun o1 no1 => ⟨(by show 0 ≤ sizeLine; decide), fun o2 no2 eo2 => ⟨(by show 1 ≤ sizeLine; decide), fun o3 no3 => ⟨(by show 10 ≤ sizeLine; decide), fun L0 nL0 eL0 => ?_⟩⟩⟩⟩
  refine ⟨_, rfl, _, rfl, (by show 2 ≤ sizeLine; decide), fun o5 no5 eo5 => fun o6 no6 => ⟨(by show 1 ≤ sizeLine; decide), fun o7 no7 => ⟨(by show 2 ≤ sizeLine; decide), fun o8 no8 => ⟨(by show 1 ≤ sizeLine; decide), fun o9 no9 => ⟨_, _, rfl, rfl, ⟨by decide, by decide, by decide⟩, (by show 5 ≤ sizeLine; decide), fun L1 nL1 eL1 => ?_⟩⟩⟩⟩⟩
  have wo1 := same_upd (o := .tup []) no1
  have wo2 := same_upd (o := .lst []) no2
  have wo3 := same_upd (o := .tup [.int 0]) no3
  have wL0 := same_upd (o := .lst [.non, .bl true, .bl false, .int (-1), .int 60, .str "0", .str "loop", .ref o1, .ref o2, .ref o3]) nL0
  have wo5 := same_upd (o := .lst [.int 0, .int 1]) no5
  have wo6 := same_upd (o := .dK []) no6
  have wo7 := same_upd (o := .tup [.str "loop"]) no7
  have wo8 := same_upd (o := .tup [.int 0, .int 1]) no8
  have wo9 := same_upd (o := .tup [.ref o8]) no9
  have wL1 := same_upd (o := .lst [.ref o5, .ref o6, .ref o7, .ref o9, .int (10 ^ Int.toNat 40)]) nL1
  have y9 := wL1
  have y8 := wo9.trans y9
  have y7 := wo8.trans y8
  have y6 := wo7.trans y7
  have y5 := wo6.trans y6
  have y4 := wo5.trans y5
  have y3 := wL0.trans y4
  have y2 := wo3.trans y3
  have y1 := wo2.trans y2
  have y0 := wo1.trans y1
  refine ⟨L0, L1, _, _, rfl, rfl, y4 _ _ upd_same, upd_same, (by show 10 + 5 ≤ sizeLine; decide), fun C nC => ?_⟩
  have wC := same_upd (o := .lst ([.non, .bl true, .bl false, .int (-1), .int 60, .str "0", .str "loop", .ref o1, .ref o2, .ref o3] ++ [.ref o5, .ref o6, .ref o7, .ref o9, .int (10 ^ Int.toNat 40)])) nC
  have yy := y0.trans wC
  have lne := (D.same y0).lne nC
  have D1 := D.same yy
  refine ⟨p, l, C, n, _, rfl, D1, n0, by omega, upd_same, lne.1, lne.2, (by show 0 < 10 + 5; decide), (by show 10 + 5 ≤ 1000; decide), fun x H' hx f D' => ?_⟩
  have co1 := (y1.trans wC) o1 (.tup []) upd_same
  have mo1 : H o1 = none := no1
  have do1 := f _ _ (D.lne mo1).1 (D.lne mo1).2 co1
  have co2 := (y2.trans wC) o2 (.lst []) upd_same
  have mo2 : H o2 = none := Same.free wo1 no2
  have do2 := f _ _ (D.lne mo2).1 (D.lne mo2).2 co2
  have co3 := (y3.trans wC) o3 (.tup [.int 0]) upd_same
  have mo3 : H o3 = none := Same.free (wo1.trans wo2) no3
  have do3 := f _ _ (D.lne mo3).1 (D.lne mo3).2 co3
  have co5 := (y5.trans wC) o5 (.lst [.int 0, .int 1]) upd_same
  have mo5 : H o5 = none := Same.free (wo1.trans (wo2.trans (wo3.trans wL0))) no5
  have do5 := f _ _ (D.lne mo5).1 (D.lne mo5).2 co5
  have co6 := (y6.trans wC) o6 (.dK []) upd_same
  have mo6 : H o6 = none := Same.free (wo1.trans (wo2.trans (wo3.trans (wL0.trans wo5)))) no6
  have do6 := f _ _ (D.lne mo6).1 (D.lne mo6).2 co6
  have co7 := (y7.trans wC) o7 (.tup [.str "loop"]) upd_same
  have mo7 : H o7 = none := Same.free (wo1.trans (wo2.trans (wo3.trans (wL0.trans (wo5.trans wo6))))) no7
  have do7 := f _ _ (D.lne mo7).1 (D.lne mo7).2 co7
  have co8 := (y8.trans wC) o8 (.tup [.int 0, .int 1]) upd_same
  have mo8 : H o8 = none := Same.free (wo1.trans (wo2.trans (wo3.trans (wL0.trans (wo5.trans (wo6.trans wo7)))))) no8
  have do8 := f _ _ (D.lne mo8).1 (D.lne mo8).2 co8
  have co9 := (y9.trans wC) o9 (.tup [.ref o8]) upd_same
  have mo9 : H o9 = none := Same.free (wo1.trans (wo2.trans (wo3.trans (wL0.trans (wo5.trans (wo6.trans (wo7.trans wo8))))))) no9
  have do9 := f _ _ (D.lne mo9).1 (D.lne mo9).2 co9
  have k := fun x d => k H' x d ((Same.fr (p := p) (l := l) yy).trans f) D'
  clear co1 co2 co3 co5 co6 co7 co8 co9 y0 y1 y2 y3 y4 y5 y6 y7 y8 y9 yy wo1 wo2 wo3 wL0 wo5 wo6 wo7 wo8 wo9 wL1 wC f D' D1
  simp only [List.mem_append, List.mem_cons, List.not_mem_nil, or_false] at hx
  rcases hx with (rfl | rfl | rfl | rfl | rfl | rfl | rfl | rfl | rfl | rfl) | (rfl | rfl | rfl | rfl | rfl)
  · exact k _ _ (fun _ _ => .non) ⟨by decide +kernel, by decide +kernel, by decide +kernel⟩ rfl
  · exact k _ _ (fun _ _ => .bl _) ⟨by decide +kernel, by decide +kernel, by decide +kernel⟩ rfl
  · exact k _ _ (fun _ _ => .bl _) ⟨by decide +kernel, by decide +kernel, by decide +kernel⟩ rfl
  · exact k _ _ (fun _ _ => .int _) ⟨by decide +kernel, by decide +kernel, by decide +kernel⟩ rfl
  · exact k _ _ (fun _ _ => .int _) ⟨by decide +kernel, by decide +kernel, by decide +kernel⟩ rfl
  · exact k _ _ (fun _ _ => .str _) ⟨by decide +kernel, by decide +kernel, by decide +kernel⟩ rfl
  · exact k _ _ (fun _ _ => .str _) ⟨by decide +kernel, by decide +kernel, by decide +kernel⟩ rfl
  · exact k _ _ (fun H2 h => .tup (h _ _ mo1 do1) .nil) ⟨by decide +kernel, by decide +kernel, by decide +kernel⟩ rfl
  · exact k _ _ (fun H2 h => .lst (h _ _ mo2 do2) eo2 .nil) ⟨by decide +kernel, by decide +kernel, by decide +kernel⟩ rfl
  · exact k _ _ (fun H2 h => .tup (h _ _ mo3 do3) (.cons (.int _) .nil)) ⟨by decide +kernel, by decide +kernel, by decide +kernel⟩ rfl
  · exact k _ _ (fun H2 h => .lst (h _ _ mo5 do5) eo5 (.cons (.int _) (.cons (.int _) .nil))) ⟨by decide +kernel, by decide +kernel, by decide +kernel⟩ rfl
  · exact k _ _ (fun H2 h => .dic [] (h _ _ mo6 do6)) ⟨by decide +kernel, by decide +kernel, by decide +kernel⟩ rfl
  · exact k _ _ (fun H2 h => .tup (h _ _ mo7 do7) (.cons (.str _) .nil)) ⟨by decide +kernel, by decide +kernel, by decide +kernel⟩ rfl
  · exact k _ _ (fun H2 h => .tup (h _ _ mo9 do9) (.cons (.tup (h _ _ mo8 do8) (.cons (.int _) (.cons (.int _) .nil))) .nil)) ⟨by decide +kernel, by decide +kernel, by decide +kernel⟩ rfl
  · exact k _ _ (fun _ _ => .int _) ⟨by decide +kernel, by decide +kernel, by decide +kernel⟩ rfl
end
end Sm

set_option Elab.async false
set_option linter.all false
set_option maxRecDepth 100000
set_option maxHeartbeats 8000000
namespace Sm
open PySem PySem.Spec PyProof.Rows L2
open C8 (pss_cut tCut)
def sp_l_gcd (_ : PySem.W.Frag) : Sp := fun vs H Q _ => ∃ (a b : Nat), vs = [.int (a : Int), .int (b : Int)] ∧ Q (.int ((Nat.gcd a b : Nat) : Int)) H
def GcdW (a b : Nat) (H0 : Hp) : Nat → L2.St → Hp → Prop := fun m σ H => ∃ x : Nat, σ = [some (.int (x : Int)), some (.int (m : Int))] ∧ H = H0 ∧ Nat.gcd x m = Nat.gcd a b
section
variable {P : Program} {w : World} {K : PySem.W.Frag} {mg : Str → Option Value} {base : Heap}
abbrev s_l_gcd : Stmt := topS 21
abbrev N_l_gcd : List Str := ["_law_one_here", "_law_other"]
theorem sc_l_gcd : FnScope N_l_gcd ["_law_one_here", "_law_other"] (defScope s_l_gcd) := ⟨rfl, rfl, rfl, by decide +kernel, rfl, by decide +kernel, by decide +kernel⟩
theorem ok_l_gcd (T : Txt mg) (D : Df K mg "_law_gcd" s_l_gcd ["_law_one_here", "_law_other"]) : Cal P w K mg base "_law_gcd" ["_law_one_here", "_law_other"] 1 (sp_l_gcd K) := by
  refine D.cal sc_l_gcd (fun vs H Q E h => ?_) (fun f cdv A outer s H vs Q E hr h => ?_)
  · obtain ⟨a, b, rfl, _⟩ := h
    rfl
  obtain ⟨a, b, rfl, k⟩ := h
  refine ⟨_, (pss_cons (ps_par (i := 0) (j := 1) (by rfl) sc_l_gcd.nd rfl rfl (by decide) rfl rfl (pa_cons (pe_callB call_abs (by rfl) T.n_abs (by decide +kernel) (pa_cons (pv 0) pa_nil)) (pa_cons (pe_callB call_abs (by rfl) T.n_abs (by decide +kernel) (pa_cons (pv 1) pa_nil)) pa_nil)) (by rfl))
    (pss_cons (ps_while PassesOwn.never (pt_cmpR op_ne (pv 1) pe_int (nomark _))
      (pss_one (ps_par (i := 0) (j := 1) (by rfl) sc_l_gcd.nd rfl rfl (by decide) rfl rfl (pa_cons (pv 1) (pa_cons (pe_op op_modN (pe_callTy call_int1 (by rfl) T.n_int (by decide +kernel) (pa_cons (pv 0) pa_nil)) (pv 1)) pa_nil)) (by rfl))))
    (pss_one (ps_ret (pv 0))))), ?_⟩
  have nn : ∀ n : Nat, (if (n : Int) < 0 then -(n : Int) else (n : Int)) = (n : Int) := fun n => if_neg (by omega)
  refine ⟨_, rfl, _, rfl, _, rfl, _, rfl, ?_⟩
  rw [nn, nn]
  refine ⟨_, _, rfl, GcdW a b H, ⟨b, a, rfl, rfl, rfl⟩, ?_⟩
  rintro m σ H'' ⟨x, rfl, rfl, hg⟩
  refine ⟨_, rfl, rfl, _, rfl, ?_⟩
  by_cases e : m = 0
  · subst e
    refine iteNP rfl ?_
    rw [Nat.gcd_zero_right] at hg
    rw [← hg] at k
    exact ⟨_, rfl, k⟩
  · refine iteNN (fun q => e (Int.ofNat.inj (V.int.inj q))) ⟨GcdW a b H'' (x % m), fun σ' H3 hw => ⟨x % m, Nat.mod_lt _ (by omega), hw⟩, _, rfl, _, rfl, .inl ⟨_, rfl, _, rfl, _, _, rfl, rfl, (by omega), ?_⟩⟩
    have fm : ((x : Int)).fmod (m : Int) = ((x % m : Nat) : Int) := by rw [fmod_pos (by omega)]; rfl
    refine ⟨_, _, rfl, m, (by show [some (V.int (m : Int)), some (V.int ((x : Int).fmod (m : Int)))] = _; rw [fm]), rfl, ?_⟩
    exact (by rw [Nat.gcd_comm m, ← Nat.gcd_rec, Nat.gcd_comm]; exact hg)
end
end Sm

set_option Elab.async false
set_option linter.all false
namespace Sm
open PySem PySem.Spec PyProof.Rows L2
/-- x *= n for ints, one of them below 2 ^ 64 -/
theorem ip_mul {X : Cx} : PIp X .Mult fun x y H Q => ∃ i j, x = .int i ∧ y = .int j ∧ CMul i j ∧ Q (.int (i * j)) H := by
  intro pins s1 σ1 H1 a b va vb Q1 inv ra rb ⟨i, j, ea, eb, hc, q⟩
  subst ea eb
  obtain ⟨ta, rfl⟩ := ra
  obtain ⟨tb, rfl⟩ := rb
  exact imul_int ⟨.int _, H1, inv.tok _, ⟨_, rfl⟩, q⟩ hc.ok
end Sm

set_option Elab.async false
set_option linter.all false
set_option maxRecDepth 100000
set_option maxHeartbeats 8000000
namespace Sm
open PySem PySem.Spec PyProof.Rows L2
open C8 (pss_cut tCut)
/-- the offers' numbers one times another -/
def prX (L : List Of) (is : List Nat) : Int := (is.map fun i => (L.getD i ⟨0, 0, 0, 0⟩).x).foldl (· * ·) 1
def prY (L : List Of) (is : List Nat) : Int := (is.map fun i => (L.getD i ⟨0, 0, 0, 0⟩).y).foldl (· * ·) 1
theorem fold_le {B : Int} (B1 : 1 ≤ B) : ∀ (xs : List Int) (a : Int), 0 ≤ a → (∀ x ∈ xs, 0 ≤ x ∧ x ≤ B) → 0 ≤ xs.foldl (· * ·) a ∧ xs.foldl (· * ·) a ≤ a * B ^ xs.length
  | [], a, h, _ => by simp [h]
  | x :: xs, a, h, hx => by
    have hh := hx x (List.mem_cons_self ..)
    have ih := fold_le B1 xs (a * x) (Int.mul_nonneg h hh.1) fun y hy => hx y (List.mem_cons_of_mem _ hy)
    refine ⟨ih.1, Int.le_trans ih.2 ?_⟩
    rw [List.length_cons, Int.pow_succ, Int.mul_comm (B ^ xs.length) B, ← Int.mul_assoc]
    exact Int.mul_le_mul_of_nonneg_right (Int.mul_le_mul_of_nonneg_left hh.2 h) (Int.pow_nonneg (by omega))
abbrev of0 : Of := ⟨0, 0, 0, 0⟩
theorem OffsAt.at {H : Hp} {qs : List Addr} {L : List Of} {i : Nat} (h : OffsAt H qs L) (hi : i < L.length) : ∃ q, (qs.map V.ref)[i]? = some (.ref q) ∧ H q = some (.tup ((L.getD i of0).ns.map V.int)) := by
  have h1 : i < qs.length := by rw [h.1]; exact hi
  obtain ⟨o, e1, e2⟩ := h.2 i qs[i] (List.getElem?_eq_getElem h1)
  refine ⟨qs[i], by rw [List.getElem?_map, List.getElem?_eq_getElem h1]; rfl, ?_⟩
  rw [List.getD_eq_getElem?_getD, e1]
  exact e2
theorem prX_more (L : List Of) (is : List Nat) (i : Nat) : prX L (is ++ [i]) = prX L is * (L.getD i of0).x := by
  unfold prX
  rw [List.map_append, List.foldl_append]
  rfl
theorem prY_more (L : List Of) (is : List Nat) (i : Nat) : prY L (is ++ [i]) = prY L is * (L.getD i of0).y := by
  unfold prY
  rw [List.map_append, List.foldl_append]
  rfl
theorem of_ok {k : Nat} {L : List Of} (ok : ∀ o ∈ L, OfOk k o) {i : Nat} (h : i < L.length) : OfOk k (L.getD i of0) := by
  refine ok _ ?_
  rw [List.getD_eq_getElem?_getD, List.getElem?_eq_getElem h]
  exact List.getElem_mem h
def sp_gains (_ : PySem.W.Frag) : Sp := fun vs H Q _ => ∃ (d q : Addr) (k : Nat) (L : List Of) (is : List Nat), vs = [.ref d, .ref q] ∧ BoardAt H d k L ∧ (∀ o ∈ L, OfOk k o) ∧ H q = some (.tup ((is.map fun i : Nat => (i : Int)).map V.int)) ∧ (∀ i ∈ is, i < L.length) ∧ is.length ≤ 16 ∧
  Q (.bl (decide (prX L is < prY L is))) H
section
variable {P : Program} {w : World} {K : PySem.W.Frag} {mg : Str → Option Value} {base : Heap}
abbrev s_gains : Stmt := topS 8
abbrev N_gains : List Str := ["board", "indexes", "taken", "given", "index"]
theorem sc_gains : FnScope N_gains ["board", "indexes"] (defScope s_gains) := ⟨rfl, rfl, rfl, by decide +kernel, rfl, by decide +kernel, by decide +kernel⟩
theorem ok_gains (T : Txt mg) (D : Df K mg "gains" s_gains ["board", "indexes"]) : Cal P w K mg base "gains" ["board", "indexes"] 1 (sp_gains K) := by
  refine D.cal sc_gains (fun vs H Q E h => ?_) (fun f cdv A outer s H vs Q E hr h => ?_)
  · obtain ⟨d, q, k, L, is, rfl, _⟩ := h
    rfl
  obtain ⟨d, q, k, L, is, rfl, hb, ok, hq, hi, h16, kk⟩ := h
  obtain ⟨t, qs, hd, ht, hL⟩ := id hb
  refine ⟨_, (pss_cons (ps_set (i := 2) sc_gains.nd rfl (Or.inl rfl) pe_int)
    (pss_cons (ps_set (i := 3) sc_gains.nd rfl (Or.inl rfl) pe_int)
    (pss_cons (ps_for PassesOwn.never rfl (pi_tup (pv 1)) (pg_name (i := 4) sc_gains.nd rfl (Or.inl rfl))
      (pss_cons (ps_aug (i := 2) sc_gains.nd rfl (Or.inl rfl) (pe_ix ix_tup (pe_ix ix_tup (pe_ix ix_tup (pv 0) pe_int (fun _ _ => rfl)) (pv 4) (fun _ _ => rfl)) pe_int (fun _ _ => rfl)) ip_mul)
    (pss_one (ps_aug (i := 3) sc_gains.nd rfl (Or.inl rfl) (pe_ix ix_tup (pe_ix ix_tup (pe_ix ix_tup (pv 0) pe_int (fun _ _ => rfl)) (pv 4) (fun _ _ => rfl)) pe_int (fun _ _ => rfl)) ip_mul))))
    (pss_one (ps_ret (pe_cmpR op_gt (pv 3) (pv 2) (nomark _))))))), ?_⟩
  refine ⟨_, rfl, _, rfl, ?_⟩
  refine ⟨⟨_, SqT.of hq⟩, ?_⟩
  refine for_tup (K := K) (a := q) (xs := (is.map fun i : Nat => (i : Int)).map V.int) (fun j σ H' => ∃ v4 : Option V, H' = H ∧ σ = [some (.ref d), some (.ref q), some (.int (prX L (is.take j))), some (.int (prY L (is.take j))), v4])
    ⟨none, rfl, rfl⟩ (fun j σ H' _ h => by obtain ⟨_, rfl, _⟩ := h; exact SqT.of hq) ?_ ?_
  · rintro j x σ H2 hx ⟨v4, rfl, rfl⟩
    rw [List.getElem?_map, List.getElem?_map] at hx
    cases e : is[j]? with
    | none => rw [e] at hx; cases hx
    | some i =>
      rw [e] at hx
      have ex : x = .int (i : Int) := (Option.some.inj hx).symm
      subst ex
      have il := hi i (List.mem_of_getElem? e)
      obtain ⟨r, hr1, hr2⟩ := hL.at il
      have o := of_ok ok il
      have h1 := o.x0
      have h2 := o.x1
      have h3 := o.y0
      have h4 := o.y1
      have tk : is.take (j + 1) = is.take j ++ [i] := by rw [List.take_add_one, e]; rfl
      refine ⟨_, rfl, ?_⟩
      refine ⟨_, rfl, _, _, _, _, rfl, rfl, SqT.of hd, atI_nat (j := 1) rfl, _, rfl, _, _, _, _, rfl, rfl, SqT.of ht, atI_nat hr1, _, _, _, _, rfl, rfl, SqT.of hr2, atI_nat (j := 1) rfl, _, _, rfl, rfl, .inr ⟨by omega, by omega⟩, ?_⟩
      refine ⟨_, rfl, ?_⟩
      refine ⟨_, rfl, _, _, _, _, rfl, rfl, SqT.of hd, atI_nat (j := 1) rfl, _, rfl, _, _, _, _, rfl, rfl, SqT.of ht, atI_nat hr1, _, _, _, _, rfl, rfl, SqT.of hr2, atI_nat (j := 3) rfl, _, _, rfl, rfl, .inr ⟨by omega, by omega⟩, ?_⟩
      refine ⟨some (.int (i : Int)), rfl, ?_⟩
      rw [tk, prX_more, prY_more]
      rfl
  · rintro σ H2 ⟨v4, rfl, rfl⟩
    rw [List.length_map, List.length_map, List.take_length]
    exact ⟨_, rfl, _, rfl, _, _, rfl, rfl, kk⟩
end
end Sm

set_option Elab.async false
set_option linter.all false
set_option maxRecDepth 100000
set_option maxHeartbeats 8000000
namespace Sm
open PySem PySem.Spec PyProof.Rows L2
open C8 (pss_cut tCut)
def itm (c : Nat) (o : Of) : Int := if c = 1 then o.x else o.y
def prI (c : Nat) (L : List Of) (is : List Nat) : Int := (is.map fun i => itm c (L.getD i of0)).foldl (· * ·) 1
theorem prI_more (c : Nat) (L : List Of) (is : List Nat) (i : Nat) : prI c L (is ++ [i]) = prI c L is * itm c (L.getD i of0) := by
  unfold prI
  rw [List.map_append, List.foldl_append]
  rfl
def sp_l_product (_ : PySem.W.Frag) : Sp := fun vs H Q _ => ∃ (d q : Addr) (k c : Nat) (L : List Of) (is : List Nat), vs = [.ref d, .ref q, .int (c : Int)] ∧ (c = 1 ∨ c = 3) ∧ BoardAt H d k L ∧ (∀ o ∈ L, OfOk k o) ∧ H q = some (.tup ((is.map fun i : Nat => (i : Int)).map V.int)) ∧ (∀ i ∈ is, i < L.length) ∧
  Q (.int (prI c L is)) H
def sp_l_gains (_ : PySem.W.Frag) : Sp := fun vs H Q _ => ∃ (d q : Addr) (k : Nat) (L : List Of) (is : List Nat), vs = [.ref d, .ref q] ∧ BoardAt H d k L ∧ (∀ o ∈ L, OfOk k o) ∧ H q = some (.tup ((is.map fun i : Nat => (i : Int)).map V.int)) ∧ (∀ i ∈ is, i < L.length) ∧
  Q (.bl (decide (prX L is < prY L is))) H
section
variable {P : Program} {w : World} {K : PySem.W.Frag} {mg : Str → Option Value} {base : Heap}
abbrev s_l_product : Stmt := topS 18
abbrev N_l_product : List Str := ["_law_board_here", "_law_indexes", "_law_item", "_law_found", "_law_index"]
theorem sc_l_product : FnScope N_l_product ["_law_board_here", "_law_indexes", "_law_item"] (defScope s_l_product) := ⟨rfl, rfl, rfl, by decide +kernel, rfl, by decide +kernel, by decide +kernel⟩
theorem ok_l_product (T : Txt mg) (D : Df K mg "_law_product" s_l_product ["_law_board_here", "_law_indexes", "_law_item"]) : Cal P w K mg base "_law_product" ["_law_board_here", "_law_indexes", "_law_item"] 1 (sp_l_product K) := by
  refine D.cal sc_l_product (fun vs H Q E h => ?_) (fun f cdv A outer s H vs Q E hr h => ?_)
  · obtain ⟨d, q, k, c, L, is, rfl, _⟩ := h
    rfl
  obtain ⟨d, q, k, c, L, is, rfl, hc, hb, ok, hq, hi, kk⟩ := h
  obtain ⟨t, qs, hd, ht, hL⟩ := id hb
  refine ⟨_, (pss_cons (ps_set (i := 3) sc_l_product.nd rfl (Or.inl rfl) pe_int)
    (pss_cons (ps_for PassesOwn.never rfl (pi_tup (pv 1)) (pg_name (i := 4) sc_l_product.nd rfl (Or.inl rfl))
      (pss_one (ps_set (i := 3) sc_l_product.nd rfl (Or.inl rfl) (pe_op op_mul (pv 3) (pe_ix ix_tup (pe_ix ix_tup (pe_ix ix_tup (pv 0) pe_int (fun _ _ => rfl)) (pv 4) (fun _ _ => rfl)) (pv 2) (fun _ _ => rfl))))))
    (pss_one (ps_ret (pv 3))))), ?_⟩
  refine ⟨_, rfl, _, rfl, ?_⟩
  refine ⟨⟨_, SqT.of hq⟩, ?_⟩
  refine for_tup (K := K) (a := q) (xs := (is.map fun i : Nat => (i : Int)).map V.int) (fun j σ H' => ∃ v4 : Option V, H' = H ∧ σ = [some (.ref d), some (.ref q), some (.int (c : Int)), some (.int (prI c L (is.take j))), v4])
    ⟨none, rfl, rfl⟩ (fun j σ H' _ h => by obtain ⟨_, rfl, _⟩ := h; exact SqT.of hq) ?_ ?_
  · rintro j x σ H2 hx ⟨v4, rfl, rfl⟩
    rw [List.getElem?_map, List.getElem?_map] at hx
    cases e : is[j]? with
    | none => rw [e] at hx; cases hx
    | some i =>
      rw [e] at hx
      have ex : x = .int (i : Int) := (Option.some.inj hx).symm
      subst ex
      have il := hi i (List.mem_of_getElem? e)
      obtain ⟨r, hr1, hr2⟩ := hL.at il
      have o := of_ok ok il
      have h1 := o.x0
      have h2 := o.x1
      have h3 := o.y0
      have h4 := o.y1
      have tk : is.take (j + 1) = is.take j ++ [i] := by rw [List.take_add_one, e]; rfl
      have hn : ((L.getD i of0).ns.map V.int)[c]? = some (.int (itm c (L.getD i of0))) := by rcases hc with rfl | rfl <;> rfl
      have hm : 0 ≤ itm c (L.getD i of0) ∧ itm c (L.getD i of0) ≤ 30 := by rcases hc with rfl | rfl <;> first | exact ⟨by show 0 ≤ Of.x _; omega, by show Of.x _ ≤ 30; omega⟩ | exact ⟨by show 0 ≤ Of.y _; omega, by show Of.y _ ≤ 30; omega⟩
      refine ⟨_, rfl, _, rfl, _, _, _, _, rfl, rfl, SqT.of hd, atI_nat (j := 1) rfl, _, rfl, _, _, _, _, rfl, rfl, SqT.of ht, atI_nat hr1, _, rfl, _, _, _, _, rfl, rfl, SqT.of hr2, atI_nat hn, _, _, rfl, rfl, .inr ⟨by omega, by omega⟩, ?_⟩
      refine ⟨some (.int (i : Int)), rfl, ?_⟩
      rw [tk, prI_more]
      rfl
  · rintro σ H2 ⟨v4, rfl, rfl⟩
    rw [List.length_map, List.length_map, List.take_length]
    exact ⟨_, rfl, kk⟩
abbrev s_l_gains : Stmt := topS 19
abbrev N_l_gains : List Str := ["_law_board_here", "_law_indexes"]
theorem sc_l_gains : FnScope N_l_gains ["_law_board_here", "_law_indexes"] (defScope s_l_gains) := ⟨rfl, rfl, rfl, by decide +kernel, rfl, by decide +kernel, by decide +kernel⟩
theorem ok_l_gains (T : Txt mg) (D : Df K mg "_law_gains" s_l_gains ["_law_board_here", "_law_indexes"]) (C_l_product : Cal P w K mg base "_law_product" ["_law_board_here", "_law_indexes", "_law_item"] 1 (sp_l_product K)) : Cal P w K mg base "_law_gains" ["_law_board_here", "_law_indexes"] 2 (sp_l_gains K) := by
  obtain ⟨f_l_product, fd_l_product, G_l_product, m_l_product, k_l_product, b_l_product⟩ := C_l_product
  refine D.cal sc_l_gains (fun vs H Q E h => ?_) (fun f cdv A outer s H vs Q E hr h => ?_)
  · obtain ⟨d, q, k, L, is, rfl, _⟩ := h
    rfl
  obtain ⟨d, q, k, L, is, rfl, hb, ok, hq, hi, kk⟩ := h
  refine ⟨_, (pss_one (ps_ret (pe_cmpR op_gt (pe_call G_l_product (hr.mono (by decide)) (by rfl) m_l_product k_l_product b_l_product .nil pass0 (pa_cons (pv 0) (pa_cons (pv 1) (pa_cons pe_int pa_nil)))) (pe_call G_l_product (hr.mono (by decide)) (by rfl) m_l_product k_l_product b_l_product .nil pass0 (pa_cons (pv 0) (pa_cons (pv 1) (pa_cons pe_int pa_nil)))) (nomark _)))), ?_⟩
  refine ⟨_, rfl, _, rfl, d, q, k, 3, L, is, rfl, .inr rfl, hb, ok, hq, hi, ?_⟩
  exact ⟨_, rfl, _, rfl, d, q, k, 1, L, is, rfl, .inl rfl, hb, ok, hq, hi, _, _, rfl, rfl, kk⟩
end
end Sm

set_option Elab.async false
set_option linter.all false
set_option maxRecDepth 100000
set_option maxHeartbeats 8000000
namespace Sm
open PySem PySem.Spec PyProof.Rows L2
open C8 (pss_cut tCut)
section
variable {K : PySem.W.Frag} {H : Hp} {Q : VK}
theorem sl_uni {a : Addr} {xs : List V} {lo hi : Option Int} (h : H a = some (.tup xs)) (q : ∀ u H', Same H H' → H' u = some (.tup (cutV xs lo hi)) → Q (.ref u) H') : rSlA K (.ref a) lo hi H Q := by
  refine ⟨a, xs, rfl, SqT.of h, fun w => q a H (Same.refl H) ?_, fun _ u nu => q u _ (same_upd nu) upd_same⟩
  rw [h]
  unfold cutV
  rw [w.1, w.2, List.drop_zero, Nat.sub_zero, List.take_length]
theorem cat_uni {a b : Addr} {xs ys : List V} (ha : H a = some (.tup xs)) (hb : H b = some (.tup ys)) (l : xs.length + ys.length ≤ sizeLine) (q : ∀ u H', Same H H' → H' u = some (.tup (xs ++ ys)) → Q (.ref u) H') : rCatA K (.ref a) (.ref b) H Q := by
  refine ⟨a, b, xs, ys, rfl, rfl, SqT.of ha, SqT.of hb, l, fun e => q b H (Same.refl H) ?_, fun _ e => q a H (Same.refl H) ?_, fun _ _ u nu => q u _ (same_upd nu) upd_same⟩
  · rw [hb, e, List.nil_append]
  · rw [ha, e, List.append_nil]
end
theorem no_part {σ : L2.St} {H : Hp} {Q : Option Int → Hp → Prop} (h : Q none H) : tNoPart σ H Q := h
theorem cut_from {xs : List V} {n : Nat} : cutV xs (some (n : Int)) none = xs.drop n := by
  unfold cutV
  rw [HT.sIx_none, HT.sIx_nat]
  rcases Nat.le_total n xs.length with h | h
  · rw [Nat.min_eq_left h, List.take_of_length_le (by rw [List.length_drop]; exact Nat.le_refl _)]
  · rw [Nat.min_eq_right h, List.drop_length, List.drop_of_length_le h, List.take_nil]
theorem dec_nat {a b : Nat} : decide (V.int (a : Int) = V.int (b : Int)) = decide (a = b) := by
  by_cases h : a = b
  · rw [decide_eq_true h, h, decide_eq_true rfl]
  · rw [decide_eq_false h, decide_eq_false fun q => h (by have := V.int.inj q; omega)]
/-! ### values as loops -/
def nts (ds : List PyData) : List Nat := ds.map fun d => match d with | .int i => i.toNat | _ => 0
def ixs (n : Nat) (ds : List PyData) : Bool := ds.all fun d => inI d 0 ((n : Int) - 1)
def nxt (is : List Nat) (j : Nat) : Nat := (is.drop 1 ++ is.take 1).getD j 0
def linkB (L : List Of) (is : List Nat) : Bool := (List.range is.length).all fun j => decide ((L.getD (is.getD j 0) of0).b = (L.getD (nxt is j) of0).a)
def glD (L : List Of) : PyData → Bool
  | .tuple ds => ixs L.length ds && (linkB L (nts ds) && decide (prX L (nts ds) < prY L (nts ds)))
  | _ => false
theorem glD_tup (L : List Of) (ds : List PyData) : glD L (.tuple ds) = (ixs L.length ds && (linkB L (nts ds) && decide (prX L (nts ds) < prY L (nts ds)))) := rfl
theorem of_tup (d : PyData) : isOf "tuple" d = (match d with | .tuple _ => true | _ => false) := by
  cases d <;> simp [isOf, isT, tyN]
theorem DqAll.at {K : PySem.W.Frag} {H : Hp} : ∀ {xs : List V} {ds : List PyData} {j : Nat} {x : V}, DqAll K H xs ds → xs[j]? = some x → ∃ d, ds[j]? = some d ∧ Dq K H x d
  | _, _, 0, _, .cons h1 h2, e => ⟨_, rfl, by cases e; exact h1⟩
  | _, _, j + 1, _, .cons h1 h2, e => DqAll.at (j := j) h2 (by simpa using e)
theorem DqAll.len {K : PySem.W.Frag} {H : Hp} : ∀ {xs : List V} {ds : List PyData}, DqAll K H xs ds → xs.length = ds.length
  | _, _, .nil => rfl
  | _, _, .cons h1 h2 => congrArg (· + 1) h2.len
theorem DqAll.same {K : PySem.W.Frag} {H H' : Hp} {xs : List V} {ds : List PyData} (h : DqAll K H xs ds) (s : Same H H') : DqAll K H' xs ds := Dq.monoAll (fun b o => s b o) ds xs h
/-- indexes alone: ints -/
theorem ixs_ints {K : PySem.W.Frag} {H : Hp} {n : Nat} : ∀ {xs : List V} {ds : List PyData}, DqAll K H xs ds → ixs n ds = true → xs = ((nts ds).map fun i : Nat => (i : Int)).map V.int ∧ ∀ i ∈ nts ds, i < n
  | _, _, .nil, _ => ⟨rfl, fun i hi => by cases hi⟩
  | x :: xs, d :: ds, .cons h1 h2, h => by
    have h : (inI d 0 ((n : Int) - 1) && ixs n ds) = true := h
    rw [Bool.and_eq_true] at h
    obtain ⟨e1, e2⟩ := ixs_ints h2 h.2
    cases d with
    | int i =>
      have hh : (decide (0 ≤ i) && decide (i ≤ (n : Int) - 1)) = true := h.1
      rw [Bool.and_eq_true, decide_eq_true_iff, decide_eq_true_iff] at hh
      cases h1
      refine ⟨?_, fun j hj => ?_⟩
      · show V.int i :: xs = V.int ((i.toNat : Nat) : Int) :: ((nts ds).map fun i : Nat => (i : Int)).map V.int
        rw [← e1, Int.toNat_of_nonneg hh.1]
      · rcases List.mem_cons.mp hj with rfl | hj
        · show i.toNat < n
          omega
        · exact e2 j hj
    | _ => cases h.1
theorem all_bl (bs : List Bool) : (bs.all id) = bs.all (fun b => b) := rfl
theorem map_rng {α β : Type} (f : α → β) (ds : List α) (d0 : α) (g : Nat → β) (h : ∀ j d, ds[j]? = some d → g j = f d) : (List.range ds.length).map g = ds.map f := by
  refine List.ext_getElem? fun j => ?_
  rw [List.getElem?_map, List.getElem?_map]
  by_cases hj : j < ds.length
  · rw [List.getElem?_range hj, List.getElem?_eq_getElem hj]
    exact congrArg some (h j _ (List.getElem?_eq_getElem hj))
  · rw [List.getElem?_eq_none (by rw [List.length_range]; omega), List.getElem?_eq_none (by omega)]
    rfl
def sp_is_gaining_loop (K : PySem.W.Frag) : Sp := fun vs H Q _ => ∃ (d : Addr) (k : Nat) (L : List Of) (v : V) (dd : PyData), vs = [.ref d, v] ∧ BoardAt H d k L ∧ (∀ o ∈ L, OfOk k o) ∧ Dq K H v dd ∧ (∀ ds, dd = .tuple ds → ds.length ≤ 16) ∧ ∀ H', Same H H' → Q (.bl (glD L dd)) H'
section
variable {P : Program} {w : World} {K : PySem.W.Frag} {mg : Str → Option Value} {base : Heap}
abbrev s_is_gaining_loop : Stmt := topS 7
abbrev N_is_gaining_loop : List Str := ["board", "value", "offers", "after", "linked", "at", "index"]
theorem sc_is_gaining_loop : FnScope N_is_gaining_loop ["board", "value"] (defScope s_is_gaining_loop) := ⟨rfl, rfl, rfl, by decide +kernel, rfl, by decide +kernel, by decide +kernel⟩
theorem ok_is_gaining_loop (T : Txt mg) (D : Df K mg "is_gaining_loop" s_is_gaining_loop ["board", "value"]) (C_gains : Cal P w K mg base "gains" ["board", "indexes"] 1 (sp_gains K)) (C_is_within : Cal P w K mg base "is_within" ["value", "low", "high"] 2 (sp_is_within K)) : Cal P w K mg base "is_gaining_loop" ["board", "value"] 3 (sp_is_gaining_loop K) := by
  obtain ⟨f_gains, fd_gains, G_gains, m_gains, k_gains, b_gains⟩ := C_gains
  obtain ⟨f_is_within, fd_is_within, G_is_within, m_is_within, k_is_within, b_is_within⟩ := C_is_within
  refine D.cal sc_is_gaining_loop (fun vs H Q E h => ?_) (fun f cdv A outer s H vs Q E hr h => ?_)
  · obtain ⟨d, k, L, v, dd, rfl, _⟩ := h
    rfl
  obtain ⟨d, k, L, v, dd, rfl, hb, ok, hd, h16, kk⟩ := h
  obtain ⟨t, qs, hbd, ht, hL⟩ := id hb
  have lq : (qs.map V.ref).length = L.length := by rw [List.length_map, hL.1]
  refine ⟨_, (pss_cons (ps_set (i := 2) sc_is_gaining_loop.nd rfl (Or.inr rfl) (pe_ix ix_tup (pv 0) pe_int (fun _ _ => rfl)))
    (pss_cons (ps_if (PW.pt (pw_or (pt_not (pt_val (pe_callB call_isQ (by rfl) T.n_isinstance (by decide +kernel) (pa_cons (pv 1) (pa_cons (pe_bltn (v := .ty "tuple") (by rfl) T.n_tuple (by decide +kernel) rfl) pa_nil))))) (pw_or1 (pt_not (pt_val (pe_callB (cr_all rfl) (by rfl) T.n_all (by decide +kernel) (pa_cons (pe_lc (own := [("index", 6)]) (g := gName 6) (tt := tYes) rfl sc_is_gaining_loop.nd (pi_tup (pv 1)) (blkOk_by (own := [("index", 6)]) (N := N_is_gaining_loop) (sc := defScope s_is_gaining_loop) (by decide +kernel)) (fun _ _ _ _ _ => pg_name (i := 6) sc_is_gaining_loop.nd rfl (Or.inl rfl)) (fun _ _ _ _ _ => pts_nil) (fun _ _ _ _ _ => (pe_call G_is_within (hr.mono (by decide)) (by rfl) m_is_within k_is_within b_is_within .nil pass0 (pa_cons (pv 6) (pa_cons pe_int (pa_cons (pe_op op_sub (pe_callB (show CallR _ _ (fun xs H Q => ∃ p ys, xs = [.ref p] ∧ (SqL K H p ys ∨ SqT K H p ys) ∧ Q (.int ys.length) H) from call_len_seq) (by rfl) T.n_len (by decide +kernel) (pa_cons (pv 2) pa_nil)) pe_int) pa_nil)))))) pa_nil))))))) (pss_one (ps_ret pe_bl)) pss_nil)
    (pss_cons (ps_set (i := 3) sc_is_gaining_loop.nd rfl (Or.inr rfl) (pe_op op_catA (pe_slice sl_tupA (pv 1) (po_some pe_int) po_none) (pe_slice sl_tupA (pv 1) po_none (po_some pe_int))))
    (pss_cons (ps_set (i := 4) sc_is_gaining_loop.nd rfl (Or.inl rfl) (pe_callB (cr_all rfl) (by rfl) T.n_all (by decide +kernel) (pa_cons (pe_lc (own := [("at", 5)]) (g := gName 5) (tt := tYes) rfl sc_is_gaining_loop.nd (pi_range1 (by rfl) T.n_range (pa_cons (pe_callB call_len_seq (by rfl) T.n_len (by decide +kernel) (pa_cons (pv 1) pa_nil)) pa_nil)) (blkOk_by (own := [("at", 5)]) (N := N_is_gaining_loop) (sc := defScope s_is_gaining_loop) (by decide +kernel)) (fun _ _ _ _ _ => pg_name (i := 5) sc_is_gaining_loop.nd rfl (Or.inl rfl)) (fun _ _ _ _ _ => pts_nil) (fun _ _ _ _ _ => (pe_cmpR op_eq (pe_ix (show IxR _ (rIxT K) from ix_tup) (pe_ix (show IxR _ (rIxT K) from ix_tup) (pv 2) (pe_ix (show IxR _ (rIxT K) from ix_tup) (pv 1) (pv 5) (fun _ _ => rfl)) (fun _ _ => rfl)) pe_int (fun _ _ => rfl)) (pe_ix (show IxR _ (rIxT K) from ix_tup) (pe_ix (show IxR _ (rIxT K) from ix_tup) (pv 2) (pe_ix (show IxR _ (rIxT K) from ix_tup) (pv 3) (pv 5) (fun _ _ => rfl)) (fun _ _ => rfl)) pe_int (fun _ _ => rfl)) (nomark _)))) pa_nil)))
    (pss_one (ps_ret (pe_and (pv 4) (pe_one (pe_call G_gains (hr.mono (by decide)) (by rfl) m_gains k_gains b_gains .nil pass0 (pa_cons (pv 0) (pa_cons (pv 1) pa_nil))))))))))), ?_⟩
  refine ⟨_, rfl, _, _, _, _, rfl, rfl, SqT.of hbd, atI_nat (j := 1) rfl, ?_⟩
  refine ⟨_, rfl, v, dd, "tuple", rfl, hd, .inr (.inr (.inr (.inl rfl))), ?_⟩
  rw [of_tup]
  cases hd with
  | non => exact ⟨_, rfl, iteT (kk H (Same.refl _))⟩
  | bl b => exact ⟨_, rfl, iteT (kk H (Same.refl _))⟩
  | int i => exact ⟨_, rfl, iteT (kk H (Same.refl _))⟩
  | str x => exact ⟨_, rfl, iteT (kk H (Same.refl _))⟩
  | lst e1 e2 e3 => exact ⟨_, rfl, iteT (kk H (Same.refl _))⟩
  | dic kvs e1 => exact ⟨_, rfl, iteT (kk H (Same.refl _))⟩
  | @tup a xs ds e1 e2 =>
    have ld := e2.len
    have h16 := h16 ds rfl
    refine ⟨_, rfl, iteF ⟨_, rfl, a, rfl, ⟨_, SqT.of e1⟩, fun U nU => ?_⟩⟩
    refine lc_mT (fun j => .bl (inI (ds.getD j .none) 0 ((L.length : Int) - 1))) e1 nU (by omega) ?_ gName_mono ?_
    · intro j x H' hx s' R hR
      obtain ⟨dj, hj, hq⟩ := e2.at hx
      refine ⟨rfl, _, rfl, _, rfl, _, _, rfl, .inr (SqT.of (s' _ _ ht)), _, _, rfl, rfl, x, dj, 0, (((qs.map V.ref).length : Nat) : Int) - 1, rfl, hq.same s', ?_⟩
      rw [lq]
      have := hR H' (Same.refl _)
      rw [List.getD_eq_getElem?_getD, hj] at this
      exact this
    intro H1 s1 hU
    rw [ld, map_rng (fun d => V.bl (inI d 0 ((L.length : Int) - 1))) ds .none _ (fun j d e => by rw [List.getD_eq_getElem?_getD, e]; rfl)] at hU
    have hU : H1 U = some (.lst ((ds.map fun d => inI d 0 ((L.length : Int) - 1)).map V.bl)) := by rw [List.map_map]; exact hU
    refine ⟨U, _, rfl, SqL.of hU, ?_⟩
    have ea : (ds.map fun d => inI d 0 ((L.length : Int) - 1)).all id = ixs L.length ds := by rw [List.all_map]; rfl
    rw [ea]
    cases e : ixs L.length ds with
    | false =>
      refine ⟨_, rfl, iteT ?_⟩
      have := kk H1 s1
      rw [glD_tup, e] at this
      exact this
    | true =>
      obtain ⟨ex, il⟩ := ixs_ints e2 e
      have ln : (nts ds).length = ds.length := by unfold nts; rw [List.length_map]
      refine ⟨_, rfl, iteF ?_⟩
      have e1' := s1 _ _ e1
      rw [ex] at e1'
      have kk : ∀ H', Same H H' → Q (.bl (linkB L (nts ds) && decide (prX L (nts ds) < prY L (nts ds)))) H' := fun H' s' => by
        have := kk H' s'
        rw [glD_tup, e] at this
        exact this
      generalize nts ds = is at e1' il ln kk ex
      refine ⟨_, rfl, _, rfl, no_part ?_⟩
      refine sl_uni e1' fun u1 H2 s2 hu1 => ?_
      refine ⟨_, rfl, no_part ⟨_, rfl, ?_⟩⟩
      refine sl_uni (s2 _ _ e1') fun u2 H3 s3 hu2 => ?_
      refine cat_uni (s3 _ _ hu1) hu2 ?_ fun u3 H4 s4 hu3 => ?_
      · have h1 := cutV_length ((is.map fun i : Nat => (i : Int)).map V.int) (some 1) none
        have h2 := cutV_length ((is.map fun i : Nat => (i : Int)).map V.int) none (some 1)
        rw [List.length_map, List.length_map] at h1 h2
        exact Nat.le_trans (Nat.add_le_add h1 h2) (Nat.le_trans (show is.length + is.length ≤ 1000 by omega) (by decide))
      have sb := s1.trans (s2.trans (s3.trans s4))
      have ea : cutV ((is.map fun i : Nat => (i : Int)).map V.int) (some 1) none ++ cutV ((is.map fun i : Nat => (i : Int)).map V.int) none (some 1) = ((is.drop 1 ++ is.take 1).map fun i : Nat => (i : Int)).map V.int := by
        rw [show (some (1 : Int)) = some ((1 : Nat) : Int) from rfl, cut_from, cut_all, List.map_append, List.map_append, List.map_drop, List.map_drop, List.map_take, List.map_take]
      rw [ea] at hu3
      have e14 := s4 _ _ (s3 _ _ (s2 _ _ e1'))
      refine ⟨_, rfl, _, _, rfl, .inr (SqT.of e14), ?_⟩
      have li : ((is.map fun i : Nat => (i : Int)).map V.int).length = is.length := by rw [List.length_map, List.length_map]
      refine ⟨_, rfl, by rw [li]; omega, by rw [li]; omega, fun W nW => ?_⟩
      rw [show Int.toNat (((((is.map fun i : Nat => (i : Int)).map V.int).length : Nat) : Int)) = is.length by rw [li]; omega]
      have ht4 := sb _ _ ht
      have lnx : (is.drop 1 ++ is.take 1).length = is.length := by rw [List.length_append, List.length_drop, List.length_take]; omega
      refine lc_mR (fun j => .bl (decide ((L.getD (is.getD j 0) of0).b = (L.getD (nxt is j) of0).a))) nW (by omega) ?_ gName_mono ?_
      · intro j H5 hj s5 R hR
        have g1 : is.getD j 0 < L.length := by
          rw [List.getD_eq_getElem?_getD, List.getElem?_eq_getElem hj]
          exact il _ (List.getElem_mem hj)
        have hj2 : j < (is.drop 1 ++ is.take 1).length := by rw [lnx]; exact hj
        have g2 : nxt is j < L.length := by
          unfold nxt
          rw [List.getD_eq_getElem?_getD, List.getElem?_eq_getElem hj2]
          refine il _ ?_
          rcases List.mem_append.mp (List.getElem_mem hj2) with m | m
          · exact List.mem_of_mem_drop m
          · exact List.mem_of_mem_take m
        obtain ⟨q1, c1, c2⟩ := (hL.same (sb.trans s5)).at g1
        obtain ⟨q2, c3, c4⟩ := (hL.same (sb.trans s5)).at g2
        have v1 : ((is.map fun i : Nat => (i : Int)).map V.int)[j]? = some (.int ((is.getD j 0 : Nat) : Int)) := by
          rw [List.getElem?_map, List.getElem?_map, List.getD_eq_getElem?_getD, List.getElem?_eq_getElem hj]
          rfl
        have v2 : (((is.drop 1 ++ is.take 1).map fun i : Nat => (i : Int)).map V.int)[j]? = some (.int ((nxt is j : Nat) : Int)) := by
          unfold nxt
          rw [List.getElem?_map, List.getElem?_map, List.getD_eq_getElem?_getD, List.getElem?_eq_getElem hj2]
          rfl
        refine ⟨rfl, _, rfl, _, rfl, _, rfl, _, _, _, _, rfl, rfl, SqT.of (s5 _ _ e14), at_of (Int.zero_add _) v1, _, _, _, _, rfl, rfl, SqT.of (s5 _ _ ht4), atI_nat c1, _, _, _, _, rfl, rfl, SqT.of c2, atI_nat (j := 2) rfl, ?_⟩
        refine ⟨_, rfl, _, rfl, _, rfl, _, _, _, _, rfl, rfl, SqT.of (s5 _ _ hu3), at_of (Int.zero_add _) v2, _, _, _, _, rfl, rfl, SqT.of (s5 _ _ ht4), atI_nat c3, _, _, _, _, rfl, rfl, SqT.of c4, atI_nat (j := 0) rfl, rfl, ?_⟩
        have := hR H5 (Same.refl _)
        rw [dec_nat]
        exact this
      intro H5 s5 hW
      have hW : H5 W = some (.lst (((List.range is.length).map fun j => decide ((L.getD (is.getD j 0) of0).b = (L.getD (nxt is j) of0).a)).map V.bl)) := by rw [List.map_map]; exact hW
      refine ⟨W, _, rfl, SqL.of hW, ?_⟩
      have lk : ((List.range is.length).map fun j => decide ((L.getD (is.getD j 0) of0).b = (L.getD (nxt is j) of0).a)).all id = linkB L is := by rw [List.all_map]; rfl
      rw [lk]
      have sz := sb.trans s5
      cases eL : linkB L is with
      | false =>
        refine ⟨_, rfl, _, rfl, iteF ?_⟩
        have := kk H5 sz
        rw [eL] at this
        exact this
      | true =>
        refine ⟨_, rfl, _, rfl, iteT ⟨_, rfl, _, rfl, d, a, k, L, is, rfl, hb.same sz, ok, s5 _ _ e14, il, by omega, ?_⟩⟩
        have := kk H5 sz
        rw [eL] at this
        exact this
end
end Sm

set_option Elab.async false
set_option linter.all false
set_option maxRecDepth 100000
set_option maxHeartbeats 8000000
namespace Sm
open PySem PySem.Spec PyProof.Rows L2
open C8 (pss_cut tCut)
def prv (is : List Nat) (j : Nat) : Nat := is.getD (if j = 0 then is.length - 1 else j - 1) 0
def lkB (L : List Of) (is : List Nat) : Bool := (List.range is.length).all fun j => decide ((L.getD (prv is j) of0).b = (L.getD (is.getD j 0) of0).a) && decide (0 < (L.getD (is.getD j 0) of0).y)
def lpD (L : List Of) : PyData → Bool
  | .tuple ds => !ds.isEmpty && (ixs L.length ds && lkB L (nts ds))
  | _ => false
theorem nxt_lt {is : List Nat} {j : Nat} (h : j + 1 < is.length) : nxt is j = is.getD (j + 1) 0 := by
  unfold nxt
  rw [List.getD_eq_getElem?_getD, List.getD_eq_getElem?_getD, List.getElem?_append_left (by rw [List.length_drop]; omega), List.getElem?_drop, Nat.add_comm 1 j]
theorem nxt_last {is : List Nat} {j : Nat} (h : j + 1 = is.length) : nxt is j = is.getD 0 0 := by
  unfold nxt
  rw [List.getD_eq_getElem?_getD, List.getD_eq_getElem?_getD, List.getElem?_append_right (by rw [List.length_drop]; omega), List.length_drop, show j - (is.length - 1) = 0 by omega, List.getElem?_take_of_lt (by decide)]
theorem link_iff {L : List Of} {is : List Nat} : linkB L is = true ↔ ∀ j, j < is.length → (L.getD (is.getD j 0) of0).b = (L.getD (nxt is j) of0).a := by
  unfold linkB
  rw [List.all_eq_true]
  exact ⟨fun h j hj => of_decide_eq_true (h j (List.mem_range.mpr hj)), fun h j hj => decide_eq_true (h j (List.mem_range.mp hj))⟩
theorem lk_iff {L : List Of} {is : List Nat} : lkB L is = true ↔ ∀ j, j < is.length → (L.getD (prv is j) of0).b = (L.getD (is.getD j 0) of0).a ∧ 0 < (L.getD (is.getD j 0) of0).y := by
  unfold lkB
  rw [List.all_eq_true]
  constructor
  · intro h j hj
    have := h j (List.mem_range.mpr hj)
    rw [Bool.and_eq_true] at this
    exact ⟨of_decide_eq_true this.1, of_decide_eq_true this.2⟩
  · intro h j hj
    obtain ⟨a, b⟩ := h j (List.mem_range.mp hj)
    rw [decide_eq_true a, decide_eq_true b]
    rfl
theorem fold_zero : ∀ xs : List Int, xs.foldl (· * ·) 0 = 0
  | [] => rfl
  | x :: xs => by
    show xs.foldl (· * ·) (0 * x) = 0
    rw [Int.zero_mul]
    exact fold_zero xs
theorem prods {L : List Of} {k : Nat} (ok : ∀ o ∈ L, OfOk k o) : ∀ (is : List Nat), (∀ i ∈ is, i < L.length) → ∀ (a b : Int), 1 ≤ a → 0 ≤ b →
    1 ≤ (is.map fun i => (L.getD i of0).x).foldl (· * ·) a ∧ 0 ≤ (is.map fun i => (L.getD i of0).y).foldl (· * ·) b ∧ ((is.map fun i => (L.getD i of0).y).foldl (· * ·) b ≠ 0 → ∀ i ∈ is, 0 < (L.getD i of0).y)
  | [], _, a, b, ha, hb => ⟨ha, hb, fun _ i hi => by cases hi⟩
  | i :: is, h, a, b, ha, hb => by
    have o := of_ok ok (h i List.mem_cons_self)
    have x0 := o.x0
    have y0 := o.y0
    have h' : ∀ j ∈ is, j < L.length := fun j hj => h j (List.mem_cons_of_mem _ hj)
    have e1 : 1 ≤ a * (L.getD i of0).x := by
      have := Int.mul_le_mul ha x0 (by decide) (by omega)
      omega
    have e2 : 0 ≤ b * (L.getD i of0).y := Int.mul_nonneg hb y0
    obtain ⟨p1, p2, p3⟩ := prods ok is h' _ _ e1 e2
    refine ⟨p1, p2, fun ne j hj => ?_⟩
    rcases List.mem_cons.mp hj with rfl | hj
    · rcases Int.lt_or_eq_of_le y0 with y | y
      · exact y
      · exfalso
        apply ne
        show (is.map fun i => (L.getD i of0).y).foldl (· * ·) (b * (L.getD j of0).y) = 0
        rw [← y, Int.mul_zero]
        exact fold_zero _
    · exact p3 ne j hj
/-- both judge loops alike -/
theorem loops_alike {L : List Of} {k : Nat} (ok : ∀ o ∈ L, OfOk k o) (is : List Nat) (il : ∀ i ∈ is, i < L.length) : (!is.isEmpty && lkB L is && decide (prX L is < prY L is)) = (linkB L is && decide (prX L is < prY L is)) := by
  by_cases g : prX L is < prY L is
  · rw [decide_eq_true g, Bool.and_true, Bool.and_true]
    have P := prods ok is il 1 1 (by decide) (by decide)
    have ne : is ≠ [] := fun e => by rw [e] at g; exact absurd g (show ¬ (1 : Int) < 1 by decide)
    have pos := P.2.2 (by
      have a : 1 ≤ prX L is := P.1
      have : prY L is ≠ 0 := by omega
      exact this)
    have n0 : 0 < is.length := List.length_pos_iff.mpr ne
    have e : is.isEmpty = false := by cases is; exact (ne rfl).elim; rfl
    rw [e]
    show (true && lkB L is) = linkB L is
    rw [Bool.true_and, Bool.eq_iff_iff, lk_iff, link_iff]
    constructor
    · intro h j hj
      by_cases q : j + 1 < is.length
      · rw [nxt_lt q]
        have := (h (j + 1) q).1
        unfold prv at this
        rw [if_neg (by omega), Nat.add_sub_cancel] at this
        exact this
      · have q : j + 1 = is.length := by omega
        rw [nxt_last q]
        have := (h 0 n0).1
        unfold prv at this
        rw [if_pos rfl, ← q, Nat.add_sub_cancel] at this
        exact this
    · intro h j hj
      refine ⟨?_, pos _ (by rw [List.getD_eq_getElem?_getD, List.getElem?_eq_getElem hj]; exact List.getElem_mem hj)⟩
      unfold prv
      by_cases q : j = 0
      · subst q
        rw [if_pos rfl]
        have := h (is.length - 1) (by omega)
        rw [nxt_last (by omega)] at this
        exact this
      · rw [if_neg q]
        have := h (j - 1) (by omega)
        rw [nxt_lt (by omega), show j - 1 + 1 = j by omega] at this
        exact this
  · rw [decide_eq_false g, Bool.and_false, Bool.and_false]
theorem alike_D {L : List Of} {k : Nat} (ok : ∀ o ∈ L, OfOk k o) {ds : List PyData} (h : ixs L.length ds = true) (il : ∀ i ∈ nts ds, i < L.length) : (lpD L (.tuple ds) && decide (prX L (nts ds) < prY L (nts ds))) = glD L (.tuple ds) := by
  have e := loops_alike ok (nts ds) il
  rw [glD_tup, h, Bool.true_and, ← e]
  show ((!ds.isEmpty && (ixs L.length ds && lkB L (nts ds))) && _) = _
  rw [h, Bool.true_and]
  congr 2
  unfold nts
  cases ds <;> rfl
theorem ixs_no {n j : Nat} {ds : List PyData} {d : PyData} (h : ds[j]? = some d) (z : inI d 0 ((n : Int) - 1) = false) : ixs n ds = false := by
  unfold ixs
  rw [List.all_eq_false]
  exact ⟨d, List.mem_of_getElem? h, by rw [z]; exact Bool.false_ne_true⟩
theorem ixs_all {n : Nat} {ds : List PyData} (h : ∀ (j : Nat) d, ds[j]? = some d → inI d 0 ((n : Int) - 1) = true) : ixs n ds = true := by
  unfold ixs
  rw [List.all_eq_true]
  intro d hd
  obtain ⟨j, hj, e⟩ := List.getElem_of_mem hd
  exact h j d (by rw [List.getElem?_eq_getElem hj, e])
def sp_l_is_loop (K : PySem.W.Frag) : Sp := fun vs H Q _ => ∃ (d : Addr) (k : Nat) (L : List Of) (v : V) (dd : PyData), vs = [.ref d, v] ∧ BoardAt H d k L ∧ (∀ o ∈ L, OfOk k o) ∧ Dq K H v dd ∧ (∀ ds, dd = .tuple ds → ds.length ≤ 16) ∧ ∀ H', Same H H' → Q (.bl (lpD L dd)) H'
section
variable {P : Program} {w : World} {K : PySem.W.Frag} {mg : Str → Option Value} {base : Heap}
abbrev s_l_is_loop : Stmt := topS 17
abbrev N_l_is_loop : List Str := ["_law_board_here", "_law_value", "_law_index", "_law_rows", "_law_k"]
theorem sc_l_is_loop : FnScope N_l_is_loop ["_law_board_here", "_law_value"] (defScope s_l_is_loop) := ⟨rfl, rfl, rfl, by decide +kernel, rfl, by decide +kernel, by decide +kernel⟩
theorem ok_l_is_loop (T : Txt mg) (D : Df K mg "_law_is_loop" s_l_is_loop ["_law_board_here", "_law_value"]) : Cal P w K mg base "_law_is_loop" ["_law_board_here", "_law_value"] 1 (sp_l_is_loop K) := by
  refine D.cal sc_l_is_loop (fun vs H Q E h => ?_) (fun f cdv A outer s H vs Q E hr h => ?_)
  · obtain ⟨d, k, L, v, dd, rfl, _⟩ := h
    rfl
  obtain ⟨d, k, L, v, dd, rfl, hb, ok, hd, h16, kk⟩ := h
  obtain ⟨t, qs, hbd, ht, hL⟩ := id hb
  have lq : (qs.map V.ref).length = L.length := by rw [List.length_map, hL.1]
  refine ⟨_, (pss_cons (ps_if (PW.pt (pw_or (pt_not (pt_val (pe_callB call_isQ (by rfl) T.n_isinstance (by decide +kernel) (pa_cons (pv 1) (pa_cons (pe_bltn (v := .ty "tuple") (by rfl) T.n_tuple (by decide +kernel) rfl) pa_nil))))) (pw_or1 (pt_cmpR op_eq (pe_callB call_len_seq (by rfl) T.n_len (by decide +kernel) (pa_cons (pv 1) pa_nil)) pe_int (nomark _))))) (pss_one (ps_ret pe_bl)) pss_nil)
    (pss_cons (ps_for PassesOwn.never rfl (pi_tup (pv 1)) (pg_name (i := 2) sc_l_is_loop.nd rfl (Or.inl rfl))
      (pss_one (ps_if (PW.pt (pw_or (pt_not (pt_val (pe_callB call_isQ (by rfl) T.n_isinstance (by decide +kernel) (pa_cons (pv 2) (pa_cons (pe_bltn (v := .ty "int") (by rfl) T.n_int (by decide +kernel) rfl) pa_nil))))) (pw_or (pt_val (pe_callB call_isQ (by rfl) T.n_isinstance (by decide +kernel) (pa_cons (pv 2) (pa_cons (pe_bltn (v := .ty "bool") (by rfl) T.n_bool (by decide +kernel) rfl) pa_nil)))) (pw_or1 (pt_not (pt_chain op_le op_lt pe_int (pv 2) (pe_callB call_len_seq (by rfl) T.n_len (by decide +kernel) (pa_cons (pe_ix ix_tup (pv 0) pe_int (fun _ _ => rfl)) pa_nil)))))))) (pss_one (ps_ret pe_bl)) pss_nil)))
    (pss_cons (ps_set (i := 3) sc_l_is_loop.nd rfl (Or.inr rfl) (pe_lc (own := [("_law_index", 2)]) (g := gName 2) (tt := tYes) rfl sc_l_is_loop.nd (pi_tup (pv 1)) (blkOk_by (own := [("_law_index", 2)]) (N := N_l_is_loop) (sc := defScope s_l_is_loop) (by decide +kernel)) (fun _ _ _ _ _ => pg_name (i := 2) sc_l_is_loop.nd rfl (Or.inl rfl)) (fun _ _ _ _ _ => pts_nil) (fun _ _ _ _ _ => (pe_ix (show IxR _ (rIxT K) from ix_tup) (pe_ix (show IxR _ (rIxT K) from ix_tup) (pv 0) pe_int (fun _ _ => rfl)) (pv 2) (fun _ _ => rfl)))))
    (pss_one (ps_ret (pe_callB (cr_all rfl) (by rfl) T.n_all (by decide +kernel) (pa_cons (pe_lc (own := [("_law_k", 4)]) (g := gName 4) (tt := tYes) rfl sc_l_is_loop.nd (pi_range1 (by rfl) T.n_range (pa_cons (pe_callB call_len_seq (by rfl) T.n_len (by decide +kernel) (pa_cons (pv 3) pa_nil)) pa_nil)) (blkOk_by (own := [("_law_k", 4)]) (N := N_l_is_loop) (sc := defScope s_l_is_loop) (by decide +kernel)) (fun _ _ _ _ _ => pg_name (i := 4) sc_l_is_loop.nd rfl (Or.inl rfl)) (fun _ _ _ _ _ => pts_nil) (fun _ _ _ _ _ => (pe_and (pe_cmpR op_eq (pe_ix (show IxR _ (rIxT K) from ix_tup) (pe_ix (show IxR _ (rIxL K) from ix_list) (pv 3) (pe_op op_sub (pv 4) pe_int) (fun _ _ => rfl)) pe_int (fun _ _ => rfl)) (pe_ix (show IxR _ (rIxT K) from ix_tup) (pe_ix (show IxR _ (rIxL K) from ix_list) (pv 3) (pv 4) (fun _ _ => rfl)) pe_int (fun _ _ => rfl)) (nomark _)) (pe_one (pe_cmpR op_gt (pe_ix (show IxR _ (rIxT K) from ix_tup) (pe_ix (show IxR _ (rIxL K) from ix_list) (pv 3) (pv 4) (fun _ _ => rfl)) pe_int (fun _ _ => rfl)) pe_int (nomark _)))))) pa_nil))))))), ?_⟩
  refine ⟨_, rfl, v, dd, "tuple", rfl, hd, .inr (.inr (.inr (.inl rfl))), ?_⟩
  rw [of_tup]
  cases hd with
  | non => exact ⟨_, rfl, iteT (kk H (Same.refl _))⟩
  | bl b => exact ⟨_, rfl, iteT (kk H (Same.refl _))⟩
  | int i => exact ⟨_, rfl, iteT (kk H (Same.refl _))⟩
  | str x => exact ⟨_, rfl, iteT (kk H (Same.refl _))⟩
  | lst e1 e2 e3 => exact ⟨_, rfl, iteT (kk H (Same.refl _))⟩
  | dic kvs e1 => exact ⟨_, rfl, iteT (kk H (Same.refl _))⟩
  | @tup a xs ds e1 e2 =>
    have ld := e2.len
    have h16 := h16 ds rfl
    refine ⟨_, rfl, iteF ⟨_, rfl, _, _, rfl, .inr (SqT.of e1), ?_⟩⟩
    refine ⟨rfl, ?_⟩
    by_cases e0 : ds = []
    · subst e0
      have ex : xs = [] := List.length_eq_zero_iff.mp ld
      subst ex
      exact ⟨_, rfl, iteT (kk H (Same.refl _))⟩
    have n0 : xs ≠ [] := fun e => e0 (List.length_eq_zero_iff.mp (by rw [← ld, e]; rfl))
    have l0 : 0 < xs.length := List.length_pos_iff.mpr n0
    rw [show decide (V.int (xs.length : Int) = V.int 0) = false from decide_eq_false fun q => by have := V.int.inj q; omega]
    refine ⟨_, rfl, iteF ?_⟩
    have kk : ∀ H', Same H H' → Q (.bl (ixs L.length ds && lkB L (nts ds))) H' := fun H' s' => by
      have := kk H' s'
      rw [show lpD L (.tuple ds) = (!ds.isEmpty && (ixs L.length ds && lkB L (nts ds))) from rfl, show ds.isEmpty = false by cases ds; exact (e0 rfl).elim; rfl] at this
      exact this
    refine ⟨_, rfl, a, rfl, ⟨_, SqT.of e1⟩, ?_⟩
    refine for_tup (K := K) (a := a) (xs := xs) (fun j σ H' => ∃ v2 : Option V, H' = H ∧ σ = [some (.ref d), some (.ref a), v2, none, none] ∧ ∀ i, i < j → inI (ds.getD i .none) 0 ((L.length : Int) - 1) = true)
      ⟨none, rfl, rfl, fun i hi => absurd hi (Nat.not_lt_zero _)⟩ (fun j σ H' _ h => by obtain ⟨_, rfl, _⟩ := h; exact SqT.of e1) ?_ ?_
    · rintro j x σ H2 hx ⟨v2, rfl, rfl, all⟩
      obtain ⟨dj, hj, hq⟩ := e2.at hx
      have gj : ds.getD j .none = dj := by rw [List.getD_eq_getElem?_getD, hj]; rfl
      have bad : inI dj 0 ((L.length : Int) - 1) = false → Q (.bl false) H2 := fun z => by
        have := kk H2 (Same.refl _)
        rw [ixs_no hj z] at this
        exact this
      refine ⟨_, rfl, x, dj, "int", rfl, hq, .inl rfl, _, rfl, ?_⟩
      rw [of_int]
      cases hq with
      | non => exact iteT (bad rfl)
      | str z => exact iteT (bad rfl)
      | lst f1 f2 f3 => exact iteT (bad rfl)
      | tup f1 f2 => exact iteT (bad rfl)
      | dic kvs f1 => exact iteT (bad rfl)
      | bl b =>
        refine iteF ⟨_, rfl, _, .bool b, "bool", rfl, .bl b, .inr (.inl rfl), _, rfl, ?_⟩
        rw [of_bool]
        exact iteT (bad rfl)
      | int i =>
        refine iteF ⟨_, rfl, _, .int i, "bool", rfl, .int i, .inr (.inl rfl), _, rfl, ?_⟩
        rw [of_bool]
        refine iteF ⟨_, rfl, _, _, rfl, rfl, _, rfl, ?_⟩
        by_cases c : (0 : Int) ≤ i
        · rw [decide_eq_true c]
          refine iteT ⟨_, rfl, _, _, _, _, rfl, rfl, SqT.of hbd, atI_nat (j := 1) rfl, _, _, rfl, .inr (SqT.of ht), _, _, rfl, rfl, ?_⟩
          rw [lq]
          by_cases c2 : i < (L.length : Int)
          · refine ⟨decide (i < (L.length : Int)), rfl, ?_⟩
            rw [decide_eq_true c2]
            refine iteF ⟨_, rfl, rfl, fun i' hi' => ?_⟩
            rcases Nat.lt_succ_iff_lt_or_eq.mp hi' with h | h
            · exact all i' h
            · rw [h, gj]
              show (decide (0 ≤ i) && decide (i ≤ (L.length : Int) - 1)) = true
              rw [decide_eq_true c, decide_eq_true (by omega)]
              rfl
          · refine ⟨decide (i < (L.length : Int)), rfl, ?_⟩
            rw [decide_eq_false c2]
            refine iteT (bad ?_)
            show (decide (0 ≤ i) && decide (i ≤ (L.length : Int) - 1)) = false
            rw [decide_eq_false (show ¬ i ≤ (L.length : Int) - 1 by omega), Bool.and_false]
        · rw [decide_eq_false c]
          refine iteF ⟨_, rfl, iteT (bad ?_)⟩
          show (decide (0 ≤ i) && decide (i ≤ (L.length : Int) - 1)) = false
          rw [decide_eq_false c, Bool.false_and]
    · rintro σ H2 ⟨v2, rfl, rfl, all⟩
      have e : ixs L.length ds = true := ixs_all fun j d hj => by
        have hl := (List.getElem?_eq_some_iff.mp hj).1
        have := all j (by omega)
        rw [List.getD_eq_getElem?_getD, hj] at this
        exact this
      obtain ⟨ex, il⟩ := ixs_ints e2 e
      have ln : (nts ds).length = ds.length := by unfold nts; rw [List.length_map]
      rw [e] at kk
      rw [ex] at e1
      generalize nts ds = is at e1 il ln kk
      have li : ((is.map fun i : Nat => (i : Int)).map V.int).length = is.length := by rw [List.length_map, List.length_map]
      refine ⟨_, rfl, a, rfl, ⟨_, SqT.of e1⟩, fun R nR => ?_⟩
      refine lc_mT (fun j => (qs.map V.ref).getD (is.getD j 0) .non) e1 nR (by rw [li]; omega) ?_ gName_mono ?_
      · intro j x H3 hx s3 R' hR
        rw [List.getElem?_map, List.getElem?_map] at hx
        cases e : is[j]? with
        | none => rw [e] at hx; cases hx
        | some i =>
          rw [e] at hx
          have ex : x = .int (i : Int) := (Option.some.inj hx).symm
          subst ex
          obtain ⟨q, c1, _⟩ := hL.at (il i (List.mem_of_getElem? e))
          refine ⟨rfl, _, rfl, _, _, _, _, rfl, rfl, SqT.of (s3 _ _ hbd), atI_nat (j := 1) rfl, _, rfl, _, _, _, _, rfl, rfl, SqT.of (s3 _ _ ht), atI_nat c1, ?_⟩
          have := hR H3 (Same.refl _)
          rw [List.getD_eq_getElem?_getD, List.getD_eq_getElem?_getD, e] at this
          rw [show (some i).getD 0 = i from rfl, c1] at this
          exact this
      intro H3 s3 hR
      rw [li] at hR
      obtain ⟨rows, hrows⟩ : ∃ rows, rows = (List.range is.length).map fun j => (qs.map V.ref).getD (is.getD j 0) .non := ⟨_, rfl⟩
      rw [← hrows] at hR
      have lr : rows.length = is.length := by rw [hrows, List.length_map, List.length_range]
      have row : ∀ j, j < is.length → ∃ q, rows[j]? = some (.ref q) ∧ H2 q = some (.tup ((L.getD (is.getD j 0) of0).ns.map V.int)) := fun j hj => by
        have g : is.getD j 0 < L.length := by
          rw [List.getD_eq_getElem?_getD, List.getElem?_eq_getElem hj]
          exact il _ (List.getElem_mem hj)
        obtain ⟨q, c1, c2⟩ := hL.at g
        refine ⟨q, ?_, c2⟩
        rw [hrows, List.getElem?_map, List.getElem?_range hj]
        show some ((qs.map V.ref).getD (is.getD j 0) .non) = _
        rw [List.getD_eq_getElem?_getD, c1]
        rfl
      refine ⟨_, rfl, _, _, rfl, .inl (SqL.of hR), _, rfl, by rw [lr]; omega, by rw [lr]; omega, fun W nW => ?_⟩
      rw [show Int.toNat ((rows.length : Nat) : Int) = is.length by rw [lr]; omega]
      refine lc_mR (fun j => .bl (decide ((L.getD (prv is j) of0).b = (L.getD (is.getD j 0) of0).a) && decide (0 < (L.getD (is.getD j 0) of0).y))) nW (by omega) ?_ gName_mono ?_
      · intro j H4 hj s4 R' hR'
        have s14 := s3.trans s4
        obtain ⟨q1, c1, c2⟩ := row (if j = 0 then is.length - 1 else j - 1) (by split <;> omega)
        obtain ⟨q2, c3, c4⟩ := row j hj
        have c1' : atI rows ((0 : Int) + (j : Int) - 1) = some (.ref q1) := by
          unfold atI ixN
          rw [lr]
          by_cases z : j = 0
          · subst z
            rw [if_pos rfl] at c1
            rw [if_neg (by omega), if_pos (by omega)]
            show rows[((0 : Int) + ((0 : Nat) : Int) - 1 + (is.length : Int)).toNat]? = _
            rw [show ((0 : Int) + ((0 : Nat) : Int) - 1 + (is.length : Int)).toNat = is.length - 1 by omega]
            exact c1
          · rw [if_neg z] at c1
            rw [if_pos (by omega), if_pos (by omega)]
            show rows[((0 : Int) + (j : Int) - 1).toNat]? = _
            rw [show ((0 : Int) + (j : Int) - 1).toNat = j - 1 by omega]
            exact c1
        have c2 : H2 q1 = some (.tup ((L.getD (prv is j) of0).ns.map V.int)) := c2
        have hR4 := s4 _ _ hR
        refine ⟨rfl, _, rfl, _, rfl, _, _, rfl, rfl, _, _, _, _, rfl, rfl, SqL.of hR4, c1', _, _, _, _, rfl, rfl, SqT.of (s14 _ _ c2), atI_nat (j := 2) rfl, ?_⟩
        refine ⟨_, rfl, _, rfl, _, _, _, _, rfl, rfl, SqL.of hR4, at_of (Int.zero_add _) c3, _, _, _, _, rfl, rfl, SqT.of (s14 _ _ c4), atI_nat (j := 0) rfl, rfl, ?_⟩
        rw [dec_nat]
        have := hR' H4 (Same.refl _)
        by_cases g : (L.getD (prv is j) of0).b = (L.getD (is.getD j 0) of0).a
        · rw [decide_eq_true g] at this ⊢
          exact ⟨_, rfl, iteT ⟨_, rfl, _, rfl, _, _, _, _, rfl, rfl, SqL.of hR4, at_of (Int.zero_add _) c3, _, _, _, _, rfl, rfl, SqT.of (s14 _ _ c4), atI_nat (j := 3) rfl, _, _, rfl, rfl, this⟩⟩
        · rw [decide_eq_false g] at this ⊢
          exact ⟨_, rfl, iteF this⟩
      intro H4 s4 hW
      have hW : H4 W = some (.lst (((List.range is.length).map fun j => decide ((L.getD (prv is j) of0).b = (L.getD (is.getD j 0) of0).a) && decide (0 < (L.getD (is.getD j 0) of0).y)).map V.bl)) := by rw [List.map_map]; exact hW
      refine ⟨W, _, rfl, SqL.of hW, ?_⟩
      have lk : ((List.range is.length).map fun j => decide ((L.getD (prv is j) of0).b = (L.getD (is.getD j 0) of0).a) && decide (0 < (L.getD (is.getD j 0) of0).y)).all id = lkB L is := by rw [List.all_map]; rfl
      rw [lk]
      exact kk H4 (s3.trans s4)
end
end Sm

set_option Elab.async false
set_option linter.all false
set_option maxRecDepth 100000
set_option maxHeartbeats 8000000
namespace Sm
open PySem PySem.Spec PyProof.Rows L2
open C8 (pss_cut tCut)
def amB : PyData → Bool
  | .int i => decide (0 ≤ i)
  | _ => false
def posI : PyData → Bool
  | .int i => decide (0 < i)
  | _ => false
def its (ds : List PyData) : List Int := ds.map fun d => match d with | .int i => i | _ => 0
def fairB (L : List Of) (vs : List Int) : Bool := L.all fun o => decide (vs.getD o.b 0 * o.y ≤ vs.getD o.a 0 * o.x)
def prD (k : Nat) (L : List Of) : PyData → Bool
  | .tuple ds => decide (ds.length = k) && (ds.all posI && fairB L (its ds))
  | _ => false
def wD (k : Nat) (L : List Of) : PyData → Bool
  | .tuple [d0, d1] => if strD d0 "loop" = true then glD L d1 else strD d0 "prices" && prD k L d1
  | _ => false
theorem pos_ints {K : PySem.W.Frag} {H : Hp} : ∀ {xs : List V} {ds : List PyData}, DqAll K H xs ds → ds.all posI = true → xs = (its ds).map V.int
  | _, _, .nil, _ => rfl
  | x :: xs, d :: ds, .cons h1 h2, h => by
    rw [List.all_cons, Bool.and_eq_true] at h
    have e := pos_ints h2 h.2
    cases d with
    | int i =>
      cases h1
      show V.int i :: xs = V.int i :: (its ds).map V.int
      rw [← e]
    | _ => cases h.1
theorem gTup4_mono {K : PySem.W.Frag} {a b c d : Nat} {σ : L2.St} : ∀ (x : V) (H' : Hp) (A B : L2.St → Hp → Prop), (∀ σ2 H2, A σ2 H2 → B σ2 H2) → gTup K 4 (gCons (gName a) (gCons (gName b) (gCons (gName c) (gCons (gName d) gNil)))) x σ H' A → gTup K 4 (gCons (gName a) (gCons (gName b) (gCons (gName c) (gCons (gName d) gNil)))) x σ H' B := by
  rintro x H' A B h ⟨q, vs, e1, e2, e3, v1, r1, e4, v2, r2, e5, v3, r3, e6, v4, r4, e7, e8, z⟩
  exact ⟨q, vs, e1, e2, e3, v1, r1, e4, v2, r2, e5, v3, r3, e6, v4, r4, e7, e8, h _ _ z⟩
theorem getD_of {L : List Of} {j : Nat} {o : Of} (e : L[j]? = some o) : L.getD j of0 = o := by rw [List.getD_eq_getElem?_getD, e]; rfl
def sp_is_amount (K : PySem.W.Frag) : Sp := fun vs H Q _ => ∃ (v : V) (d : PyData), vs = [v] ∧ Dq K H v d ∧ Q (.bl (amB d)) H
def sp_are_prices (K : PySem.W.Frag) : Sp := fun vs H Q _ => ∃ (d : Addr) (k : Nat) (L : List Of) (v : V) (dd : PyData), vs = [.ref d, v] ∧ BoardAt H d k L ∧ (∀ o ∈ L, OfOk k o) ∧ L.length ≤ 100 ∧ k ≤ 4 ∧ Dq K H v dd ∧ ∀ H', Same H H' → Q (.bl (prD k L dd)) H'
def sp_worths_hold (K : PySem.W.Frag) : Sp := fun vs H Q _ => ∃ (d : Addr) (k : Nat) (L : List Of) (v : V) (dd : PyData), vs = [.ref d, v] ∧ BoardAt H d k L ∧ (∀ o ∈ L, OfOk k o) ∧ L.length ≤ 100 ∧ k ≤ 4 ∧ Dq K H v dd ∧ (∀ d0 ds, dd = .tuple [d0, .tuple ds] → ds.length ≤ 16) ∧ ∀ H', Same H H' → Q (.bl (wD k L dd)) H'
abbrev sp_l_is_prices := sp_are_prices
abbrev sp_l_due := sp_worths_hold
section
variable {P : Program} {w : World} {K : PySem.W.Frag} {mg : Str → Option Value} {base : Heap}
abbrev s_is_amount : Stmt := topS 3
abbrev N_is_amount : List Str := ["value"]
theorem sc_is_amount : FnScope N_is_amount ["value"] (defScope s_is_amount) := ⟨rfl, rfl, rfl, by decide +kernel, rfl, by decide +kernel, by decide +kernel⟩
theorem ok_is_amount (T : Txt mg) (D : Df K mg "is_amount" s_is_amount ["value"]) (C_is_whole : Cal P w K mg base "is_whole" ["value"] 1 (sp_is_whole K)) : Cal P w K mg base "is_amount" ["value"] 2 (sp_is_amount K) := by
  obtain ⟨f_is_whole, fd_is_whole, G_is_whole, m_is_whole, k_is_whole, b_is_whole⟩ := C_is_whole
  refine D.cal sc_is_amount (fun vs H Q E h => ?_) (fun f cdv A outer s H vs Q E hr h => ?_)
  · obtain ⟨v, d, rfl, _⟩ := h
    rfl
  obtain ⟨v, d, rfl, hd, k⟩ := h
  refine ⟨_, (pss_one (ps_ret (pe_and (pe_call G_is_whole (hr.mono (by decide)) (by rfl) m_is_whole k_is_whole b_is_whole .nil pass0 (pa_cons (pv 0) pa_nil)) (pe_one (pe_cmpR op_ge (pv 0) pe_int (nomark _)))))), ?_⟩
  refine ⟨_, rfl, v, d, rfl, hd, _, rfl, ?_⟩
  cases hd with
  | int i => exact iteT ⟨_, rfl, _, _, rfl, rfl, k⟩
  | non => exact iteF k
  | bl b => exact iteF k
  | str x => exact iteF k
  | lst e1 e2 e3 => exact iteF k
  | tup e1 e2 => exact iteF k
  | dic kvs e1 => exact iteF k
abbrev s_are_prices : Stmt := topS 6
abbrev N_are_prices : List Str := ["board", "value", "a", "x", "b", "y", "price"]
theorem sc_are_prices : FnScope N_are_prices ["board", "value"] (defScope s_are_prices) := ⟨rfl, rfl, rfl, by decide +kernel, rfl, by decide +kernel, by decide +kernel⟩
theorem ok_are_prices (T : Txt mg) (D : Df K mg "are_prices" s_are_prices ["board", "value"]) (C_is_amount : Cal P w K mg base "is_amount" ["value"] 2 (sp_is_amount K)) : Cal P w K mg base "are_prices" ["board", "value"] 3 (sp_are_prices K) := by
  obtain ⟨f_is_amount, fd_is_amount, G_is_amount, m_is_amount, k_is_amount, b_is_amount⟩ := C_is_amount
  refine D.cal sc_are_prices (fun vs H Q E h => ?_) (fun f cdv A outer s H vs Q E hr h => ?_)
  · obtain ⟨d, k, L, v, dd, rfl, _⟩ := h
    rfl
  obtain ⟨d, k, L, v, dd, rfl, hb, ok, l100, k4, hd, kk⟩ := h
  obtain ⟨t, qs, hbd, ht, hL⟩ := id hb
  have lq : (qs.map V.ref).length = L.length := by rw [List.length_map, hL.1]
  refine ⟨_, (pss_cons (ps_if (PW.pt (pw_or (pt_not (pt_val (pe_callB call_isQ (by rfl) T.n_isinstance (by decide +kernel) (pa_cons (pv 1) (pa_cons (pe_bltn (v := .ty "tuple") (by rfl) T.n_tuple (by decide +kernel) rfl) pa_nil))))) (pw_or1 (pt_cmpR op_ne (pe_callB call_len_seq (by rfl) T.n_len (by decide +kernel) (pa_cons (pv 1) pa_nil)) (pe_ix ix_tup (pv 0) pe_int (fun _ _ => rfl)) (nomark _))))) (pss_one (ps_ret pe_bl)) pss_nil)
    (pss_cons (ps_if (pt_not (pt_val (pe_callB (cr_all rfl) (by rfl) T.n_all (by decide +kernel) (pa_cons (pe_lc (own := [("price", 6)]) (g := gName 6) (tt := tYes) rfl sc_are_prices.nd (pi_tup (pv 1)) (blkOk_by (own := [("price", 6)]) (N := N_are_prices) (sc := defScope s_are_prices) (by decide +kernel)) (fun _ _ _ _ _ => pg_name (i := 6) sc_are_prices.nd rfl (Or.inl rfl)) (fun _ _ _ _ _ => pts_nil) (fun _ _ _ _ _ => (pe_and (pe_call G_is_amount (hr.mono (by decide)) (by rfl) m_is_amount k_is_amount b_is_amount .nil pass0 (pa_cons (pv 6) pa_nil)) (pe_one (pe_cmpR op_gt (pv 6) pe_int (nomark _)))))) pa_nil)))) (pss_one (ps_ret pe_bl)) pss_nil)
    (pss_one (ps_ret (pe_callB (cr_all rfl) (by rfl) T.n_all (by decide +kernel) (pa_cons (pe_lc (own := [("a", 2), ("x", 3), ("b", 4), ("y", 5)]) (g := gTup K 4 (gCons (gName 2) (gCons (gName 3) (gCons (gName 4) (gCons (gName 5) gNil))))) (tt := tYes) rfl sc_are_prices.nd (pi_tup (pe_ix ix_tup (pv 0) pe_int (fun _ _ => rfl))) (blkOk_by (own := [("a", 2), ("x", 3), ("b", 4), ("y", 5)]) (N := N_are_prices) (sc := defScope s_are_prices) (by decide +kernel)) (fun _ _ _ _ _ => pg_tup (by rfl) (pgs_cons (pg_name (i := 2) sc_are_prices.nd rfl (Or.inl rfl)) (pgs_cons (pg_name (i := 3) sc_are_prices.nd rfl (Or.inl rfl)) (pgs_cons (pg_name (i := 4) sc_are_prices.nd rfl (Or.inl rfl)) (pgs_cons (pg_name (i := 5) sc_are_prices.nd rfl (Or.inl rfl)) pgs_nil))))) (fun _ _ _ _ _ => pts_nil) (fun _ _ _ _ _ => (pe_cmpR op_ge (pe_op op_mul (pe_ix (show IxR _ (rIxT K) from ix_tup) (pv 1) (pv 2) (fun _ _ => rfl)) (pv 3)) (pe_op op_mul (pe_ix (show IxR _ (rIxT K) from ix_tup) (pv 1) (pv 4) (fun _ _ => rfl)) (pv 5)) (nomark _)))) pa_nil)))))), ?_⟩
  refine ⟨_, rfl, v, dd, "tuple", rfl, hd, .inr (.inr (.inr (.inl rfl))), ?_⟩
  rw [of_tup]
  cases hd with
  | non => exact ⟨_, rfl, iteT (kk H (Same.refl _))⟩
  | bl b => exact ⟨_, rfl, iteT (kk H (Same.refl _))⟩
  | int i => exact ⟨_, rfl, iteT (kk H (Same.refl _))⟩
  | str x => exact ⟨_, rfl, iteT (kk H (Same.refl _))⟩
  | lst e1 e2 e3 => exact ⟨_, rfl, iteT (kk H (Same.refl _))⟩
  | dic kvs e1 => exact ⟨_, rfl, iteT (kk H (Same.refl _))⟩
  | @tup a xs ds e1 e2 =>
    have ld := e2.len
    refine ⟨_, rfl, iteF ⟨_, rfl, _, _, rfl, .inr (SqT.of e1), _, rfl, _, _, _, _, rfl, rfl, SqT.of hbd, atI_nat (j := 0) rfl, rfl, ?_⟩⟩
    rw [dec_nat, ld]
    have kk : ∀ H', Same H H' → Q (.bl (decide (ds.length = k) && (ds.all posI && fairB L (its ds)))) H' := kk
    by_cases ek : ¬ ds.length = k
    · rw [decide_eq_false ek] at kk ⊢
      exact ⟨_, rfl, iteT (kk H (Same.refl _))⟩
    have ek : ds.length = k := Decidable.not_not.mp ek
    rw [decide_eq_true ek] at kk ⊢
    refine ⟨_, rfl, iteF ?_⟩
    refine ⟨_, rfl, a, rfl, ⟨_, SqT.of e1⟩, fun U nU => ?_⟩
    refine lc_mT (fun j => .bl (posI (ds.getD j .none))) e1 nU (by omega) ?_ gName_mono ?_
    · intro j x H' hx s' R hR
      obtain ⟨dj, hj, hq⟩ := e2.at hx
      have := hR H' (Same.refl _)
      rw [List.getD_eq_getElem?_getD, hj] at this
      have this : R (.bl (posI dj)) H' := this
      refine ⟨rfl, _, rfl, x, dj, rfl, hq.same s', _, rfl, ?_⟩
      cases hq with
      | int i =>
        by_cases c : 0 ≤ i
        · rw [show amB (.int i) = true from decide_eq_true c]
          exact iteT ⟨_, rfl, _, _, rfl, rfl, this⟩
        · rw [show amB (.int i) = false from decide_eq_false c]
          rw [show posI (.int i) = false from decide_eq_false (by omega)] at this
          exact iteF this
      | non => exact iteF this
      | bl b => exact iteF this
      | str x => exact iteF this
      | lst f1 f2 f3 => exact iteF this
      | tup f1 f2 => exact iteF this
      | dic kvs f1 => exact iteF this
    intro H1 s1 hU
    rw [ld, map_rng (fun d => V.bl (posI d)) ds .none _ (fun j d e => by rw [List.getD_eq_getElem?_getD, e]; rfl)] at hU
    have hU : H1 U = some (.lst ((ds.map posI).map V.bl)) := by rw [List.map_map]; exact hU
    refine ⟨U, _, rfl, SqL.of hU, ?_⟩
    have ea : (ds.map posI).all id = ds.all posI := by rw [List.all_map]; rfl
    rw [ea]
    cases e : ds.all posI with
    | false =>
      rw [e] at kk
      exact ⟨_, rfl, iteT (kk H1 s1)⟩
    | true =>
      rw [e] at kk
      refine ⟨_, rfl, iteF ?_⟩
      have ex := pos_ints e2 e
      have e1' := s1 _ _ e1
      rw [ex] at e1'
      have ln : (its ds).length = k := by unfold its; rw [List.length_map, ek]
      generalize its ds = vs at e1' ln kk
      refine ⟨_, rfl, _, _, _, _, rfl, rfl, SqT.of (s1 _ _ hbd), atI_nat (j := 1) rfl, t, rfl, ⟨_, SqT.of (s1 _ _ ht)⟩, fun W nW => ?_⟩
      refine lc_mT (fun j => .bl (decide (vs.getD (L.getD j of0).b 0 * (L.getD j of0).y ≤ vs.getD (L.getD j of0).a 0 * (L.getD j of0).x))) (s1 _ _ ht) nW (by rw [lq]; omega) ?_ gTup4_mono ?_
      · intro j x H2 hx s2 R hR
        have hjl : j < L.length := by
          have := (List.getElem?_eq_some_iff.mp hx).1
          rw [lq] at this
          exact this
        obtain ⟨q, c1, c2⟩ := (hL.same (s1.trans s2)).at hjl
        rw [c1] at hx
        have ex2 : x = .ref q := (Option.some.inj hx).symm
        subst ex2
        have o := of_ok ok hjl
        have v1 : (vs.map V.int)[(L.getD j of0).a]? = some (.int (vs.getD (L.getD j of0).a 0)) := get_int (by have := o.a; omega)
        have v2 : (vs.map V.int)[(L.getD j of0).b]? = some (.int (vs.getD (L.getD j of0).b 0)) := get_int (by have := o.b; omega)
        have h1 := o.x0
        have h2 := o.x1
        have h3 := o.y0
        have h4 := o.y1
        refine ⟨q, _, rfl, SqT.of c2, rfl, _, _, rfl, _, _, rfl, _, _, rfl, _, _, rfl, rfl, rfl, ?_⟩
        refine ⟨_, rfl, _, rfl, _, _, _, _, rfl, rfl, SqT.of (s2 _ _ e1'), atI_nat v1, _, rfl, _, _, rfl, rfl, .inr ⟨by omega, by omega⟩, ?_⟩
        refine ⟨_, rfl, _, rfl, _, _, _, _, rfl, rfl, SqT.of (s2 _ _ e1'), atI_nat v2, _, rfl, _, _, rfl, rfl, .inr ⟨by omega, by omega⟩, _, _, rfl, rfl, ?_⟩
        exact hR H2 (Same.refl _)
      intro H2 s2 hW
      rw [lq, map_rng (fun o : Of => V.bl (decide (vs.getD o.b 0 * o.y ≤ vs.getD o.a 0 * o.x))) L of0 _ (fun j o e => by rw [getD_of e])] at hW
      have hW : H2 W = some (.lst ((L.map fun o => decide (vs.getD o.b 0 * o.y ≤ vs.getD o.a 0 * o.x)).map V.bl)) := by rw [List.map_map]; exact hW
      refine ⟨W, _, rfl, SqL.of hW, ?_⟩
      have lk : (L.map fun o => decide (vs.getD o.b 0 * o.y ≤ vs.getD o.a 0 * o.x)).all id = fairB L vs := by rw [List.all_map]; rfl
      rw [lk]
      exact kk H2 (s1.trans s2)
abbrev s_l_is_prices : Stmt := topS 20
abbrev N_l_is_prices : List Str := ["_law_board_here", "_law_value", "_law_a", "_law_x", "_law_b", "_law_y", "_law_price"]
theorem sc_l_is_prices : FnScope N_l_is_prices ["_law_board_here", "_law_value"] (defScope s_l_is_prices) := ⟨rfl, rfl, rfl, by decide +kernel, rfl, by decide +kernel, by decide +kernel⟩
theorem ok_l_is_prices (T : Txt mg) (D : Df K mg "_law_is_prices" s_l_is_prices ["_law_board_here", "_law_value"]) : Cal P w K mg base "_law_is_prices" ["_law_board_here", "_law_value"] 1 (sp_l_is_prices K) := by
  refine D.cal sc_l_is_prices (fun vs H Q E h => ?_) (fun f cdv A outer s H vs Q E hr h => ?_)
  · obtain ⟨d, k, L, v, dd, rfl, _⟩ := h
    rfl
  obtain ⟨d, k, L, v, dd, rfl, hb, ok, l100, k4, hd, kk⟩ := h
  obtain ⟨t, qs, hbd, ht, hL⟩ := id hb
  have lq : (qs.map V.ref).length = L.length := by rw [List.length_map, hL.1]
  refine ⟨_, (pss_cons (ps_if (PW.pt (pw_or (pt_not (pt_val (pe_callB call_isQ (by rfl) T.n_isinstance (by decide +kernel) (pa_cons (pv 1) (pa_cons (pe_bltn (v := .ty "tuple") (by rfl) T.n_tuple (by decide +kernel) rfl) pa_nil))))) (pw_or1 (pt_cmpR op_ne (pe_callB call_len_seq (by rfl) T.n_len (by decide +kernel) (pa_cons (pv 1) pa_nil)) (pe_ix ix_tup (pv 0) pe_int (fun _ _ => rfl)) (nomark _))))) (pss_one (ps_ret pe_bl)) pss_nil)
    (pss_cons (ps_if (pt_not (pt_val (pe_callB (cr_all rfl) (by rfl) T.n_all (by decide +kernel) (pa_cons (pe_lc (own := [("_law_price", 6)]) (g := gName 6) (tt := tYes) rfl sc_l_is_prices.nd (pi_tup (pv 1)) (blkOk_by (own := [("_law_price", 6)]) (N := N_l_is_prices) (sc := defScope s_l_is_prices) (by decide +kernel)) (fun _ _ _ _ _ => pg_name (i := 6) sc_l_is_prices.nd rfl (Or.inl rfl)) (fun _ _ _ _ _ => pts_nil) (fun _ _ _ _ _ => (pe_and (pe_callB (show CallR _ (.builtin "isinstance") (rIsQ K) from call_isQ) (by rfl) T.n_isinstance (by decide +kernel) (pa_cons (pv 6) (pa_cons (pe_bltn (v := .ty "int") (by rfl) T.n_int (by decide +kernel) rfl) pa_nil))) (pe_and (pe_not (pe_callB (show CallR _ (.builtin "isinstance") (rIsQ K) from call_isQ) (by rfl) T.n_isinstance (by decide +kernel) (pa_cons (pv 6) (pa_cons (pe_bltn (v := .ty "bool") (by rfl) T.n_bool (by decide +kernel) rfl) pa_nil)))) (pe_one (pe_cmpR op_gt (pv 6) pe_int (nomark _))))))) pa_nil)))) (pss_one (ps_ret pe_bl)) pss_nil)
    (pss_one (ps_ret (pe_callB (cr_all rfl) (by rfl) T.n_all (by decide +kernel) (pa_cons (pe_lc (own := [("_law_a", 2), ("_law_x", 3), ("_law_b", 4), ("_law_y", 5)]) (g := gTup K 4 (gCons (gName 2) (gCons (gName 3) (gCons (gName 4) (gCons (gName 5) gNil))))) (tt := tYes) rfl sc_l_is_prices.nd (pi_tup (pe_ix ix_tup (pv 0) pe_int (fun _ _ => rfl))) (blkOk_by (own := [("_law_a", 2), ("_law_x", 3), ("_law_b", 4), ("_law_y", 5)]) (N := N_l_is_prices) (sc := defScope s_l_is_prices) (by decide +kernel)) (fun _ _ _ _ _ => pg_tup (by rfl) (pgs_cons (pg_name (i := 2) sc_l_is_prices.nd rfl (Or.inl rfl)) (pgs_cons (pg_name (i := 3) sc_l_is_prices.nd rfl (Or.inl rfl)) (pgs_cons (pg_name (i := 4) sc_l_is_prices.nd rfl (Or.inl rfl)) (pgs_cons (pg_name (i := 5) sc_l_is_prices.nd rfl (Or.inl rfl)) pgs_nil))))) (fun _ _ _ _ _ => pts_nil) (fun _ _ _ _ _ => (pe_cmpR op_ge (pe_op op_mul (pe_ix (show IxR _ (rIxT K) from ix_tup) (pv 1) (pv 2) (fun _ _ => rfl)) (pv 3)) (pe_op op_mul (pe_ix (show IxR _ (rIxT K) from ix_tup) (pv 1) (pv 4) (fun _ _ => rfl)) (pv 5)) (nomark _)))) pa_nil)))))), ?_⟩
  refine ⟨_, rfl, v, dd, "tuple", rfl, hd, .inr (.inr (.inr (.inl rfl))), ?_⟩
  rw [of_tup]
  cases hd with
  | non => exact ⟨_, rfl, iteT (kk H (Same.refl _))⟩
  | bl b => exact ⟨_, rfl, iteT (kk H (Same.refl _))⟩
  | int i => exact ⟨_, rfl, iteT (kk H (Same.refl _))⟩
  | str x => exact ⟨_, rfl, iteT (kk H (Same.refl _))⟩
  | lst e1 e2 e3 => exact ⟨_, rfl, iteT (kk H (Same.refl _))⟩
  | dic kvs e1 => exact ⟨_, rfl, iteT (kk H (Same.refl _))⟩
  | @tup a xs ds e1 e2 =>
    have ld := e2.len
    refine ⟨_, rfl, iteF ⟨_, rfl, _, _, rfl, .inr (SqT.of e1), _, rfl, _, _, _, _, rfl, rfl, SqT.of hbd, atI_nat (j := 0) rfl, rfl, ?_⟩⟩
    rw [dec_nat, ld]
    have kk : ∀ H', Same H H' → Q (.bl (decide (ds.length = k) && (ds.all posI && fairB L (its ds)))) H' := kk
    by_cases ek : ¬ ds.length = k
    · rw [decide_eq_false ek] at kk ⊢
      exact ⟨_, rfl, iteT (kk H (Same.refl _))⟩
    have ek : ds.length = k := Decidable.not_not.mp ek
    rw [decide_eq_true ek] at kk ⊢
    refine ⟨_, rfl, iteF ?_⟩
    refine ⟨_, rfl, a, rfl, ⟨_, SqT.of e1⟩, fun U nU => ?_⟩
    refine lc_mT (fun j => .bl (posI (ds.getD j .none))) e1 nU (by omega) ?_ gName_mono ?_
    · intro j x H' hx s' R hR
      obtain ⟨dj, hj, hq⟩ := e2.at hx
      have := hR H' (Same.refl _)
      rw [List.getD_eq_getElem?_getD, hj] at this
      have this : R (.bl (posI dj)) H' := this
      refine ⟨rfl, _, rfl, x, dj, "int", rfl, hq.same s', .inl rfl, _, rfl, ?_⟩
      rw [of_int]
      cases hq with
      | int i => exact iteT ⟨_, rfl, _, .int i, "bool", rfl, .int i, .inr (.inl rfl), _, rfl, _, rfl, by rw [of_bool]; exact iteT ⟨_, rfl, _, _, rfl, rfl, this⟩⟩
      | bl b => exact iteT ⟨_, rfl, _, .bool b, "bool", rfl, .bl b, .inr (.inl rfl), _, rfl, _, rfl, by rw [of_bool]; exact iteF this⟩
      | non => exact iteF this
      | str x => exact iteF this
      | lst f1 f2 f3 => exact iteF this
      | tup f1 f2 => exact iteF this
      | dic kvs f1 => exact iteF this
    intro H1 s1 hU
    rw [ld, map_rng (fun d => V.bl (posI d)) ds .none _ (fun j d e => by rw [List.getD_eq_getElem?_getD, e]; rfl)] at hU
    have hU : H1 U = some (.lst ((ds.map posI).map V.bl)) := by rw [List.map_map]; exact hU
    refine ⟨U, _, rfl, SqL.of hU, ?_⟩
    have ea : (ds.map posI).all id = ds.all posI := by rw [List.all_map]; rfl
    rw [ea]
    cases e : ds.all posI with
    | false =>
      rw [e] at kk
      exact ⟨_, rfl, iteT (kk H1 s1)⟩
    | true =>
      rw [e] at kk
      refine ⟨_, rfl, iteF ?_⟩
      have ex := pos_ints e2 e
      have e1' := s1 _ _ e1
      rw [ex] at e1'
      have ln : (its ds).length = k := by unfold its; rw [List.length_map, ek]
      generalize its ds = vs at e1' ln kk
      refine ⟨_, rfl, _, _, _, _, rfl, rfl, SqT.of (s1 _ _ hbd), atI_nat (j := 1) rfl, t, rfl, ⟨_, SqT.of (s1 _ _ ht)⟩, fun W nW => ?_⟩
      refine lc_mT (fun j => .bl (decide (vs.getD (L.getD j of0).b 0 * (L.getD j of0).y ≤ vs.getD (L.getD j of0).a 0 * (L.getD j of0).x))) (s1 _ _ ht) nW (by rw [lq]; omega) ?_ gTup4_mono ?_
      · intro j x H2 hx s2 R hR
        have hjl : j < L.length := by
          have := (List.getElem?_eq_some_iff.mp hx).1
          rw [lq] at this
          exact this
        obtain ⟨q, c1, c2⟩ := (hL.same (s1.trans s2)).at hjl
        rw [c1] at hx
        have ex2 : x = .ref q := (Option.some.inj hx).symm
        subst ex2
        have o := of_ok ok hjl
        have v1 : (vs.map V.int)[(L.getD j of0).a]? = some (.int (vs.getD (L.getD j of0).a 0)) := get_int (by have := o.a; omega)
        have v2 : (vs.map V.int)[(L.getD j of0).b]? = some (.int (vs.getD (L.getD j of0).b 0)) := get_int (by have := o.b; omega)
        have h1 := o.x0
        have h2 := o.x1
        have h3 := o.y0
        have h4 := o.y1
        refine ⟨q, _, rfl, SqT.of c2, rfl, _, _, rfl, _, _, rfl, _, _, rfl, _, _, rfl, rfl, rfl, ?_⟩
        refine ⟨_, rfl, _, rfl, _, _, _, _, rfl, rfl, SqT.of (s2 _ _ e1'), atI_nat v1, _, rfl, _, _, rfl, rfl, .inr ⟨by omega, by omega⟩, ?_⟩
        refine ⟨_, rfl, _, rfl, _, _, _, _, rfl, rfl, SqT.of (s2 _ _ e1'), atI_nat v2, _, rfl, _, _, rfl, rfl, .inr ⟨by omega, by omega⟩, _, _, rfl, rfl, ?_⟩
        exact hR H2 (Same.refl _)
      intro H2 s2 hW
      rw [lq, map_rng (fun o : Of => V.bl (decide (vs.getD o.b 0 * o.y ≤ vs.getD o.a 0 * o.x))) L of0 _ (fun j o e => by rw [getD_of e])] at hW
      have hW : H2 W = some (.lst ((L.map fun o => decide (vs.getD o.b 0 * o.y ≤ vs.getD o.a 0 * o.x)).map V.bl)) := by rw [List.map_map]; exact hW
      refine ⟨W, _, rfl, SqL.of hW, ?_⟩
      have lk : (L.map fun o => decide (vs.getD o.b 0 * o.y ≤ vs.getD o.a 0 * o.x)).all id = fairB L vs := by rw [List.all_map]; rfl
      rw [lk]
      exact kk H2 (s1.trans s2)
abbrev s_worths_hold : Stmt := topS 5
abbrev N_worths_hold : List Str := ["board", "value"]
theorem sc_worths_hold : FnScope N_worths_hold ["board", "value"] (defScope s_worths_hold) := ⟨rfl, rfl, rfl, by decide +kernel, rfl, by decide +kernel, by decide +kernel⟩
theorem ok_worths_hold (T : Txt mg) (D : Df K mg "worths_hold" s_worths_hold ["board", "value"]) (C_are_prices : Cal P w K mg base "are_prices" ["board", "value"] 3 (sp_are_prices K)) (C_is_gaining_loop : Cal P w K mg base "is_gaining_loop" ["board", "value"] 3 (sp_is_gaining_loop K)) : Cal P w K mg base "worths_hold" ["board", "value"] 4 (sp_worths_hold K) := by
  obtain ⟨f_are_prices, fd_are_prices, G_are_prices, m_are_prices, k_are_prices, b_are_prices⟩ := C_are_prices
  obtain ⟨f_is_gaining_loop, fd_is_gaining_loop, G_is_gaining_loop, m_is_gaining_loop, k_is_gaining_loop, b_is_gaining_loop⟩ := C_is_gaining_loop
  refine D.cal sc_worths_hold (fun vs H Q E h => ?_) (fun f cdv A outer s H vs Q E hr h => ?_)
  · obtain ⟨d, k, L, v, dd, rfl, _⟩ := h
    rfl
  obtain ⟨d, k, L, v, dd, rfl, hb, ok, l100, k4, hd, h16, kk⟩ := h
  refine ⟨_, (pss_cons (ps_if (PW.pt (pw_or (pt_not (pt_val (pe_callB call_isQ (by rfl) T.n_isinstance (by decide +kernel) (pa_cons (pv 1) (pa_cons (pe_bltn (v := .ty "tuple") (by rfl) T.n_tuple (by decide +kernel) rfl) pa_nil))))) (pw_or1 (pt_cmpR op_ne (pe_callB call_len_seq (by rfl) T.n_len (by decide +kernel) (pa_cons (pv 1) pa_nil)) pe_int (nomark _))))) (pss_one (ps_ret pe_bl)) pss_nil)
    (pss_cons (ps_if (pt_cmpR (op_eqQ hr.units) (pe_ix ix_tup (pv 1) pe_int (fun _ _ => rfl)) pe_str (nomark _)) (pss_one (ps_ret (pe_call G_is_gaining_loop (hr.mono (by decide)) (by rfl) m_is_gaining_loop k_is_gaining_loop b_is_gaining_loop .nil pass0 (pa_cons (pv 0) (pa_cons (pe_ix ix_tup (pv 1) pe_int (fun _ _ => rfl)) pa_nil))))) pss_nil)
    (pss_one (ps_ret (pe_and (pe_cmpR (op_eqQ hr.units) (pe_ix ix_tup (pv 1) pe_int (fun _ _ => rfl)) pe_str (nomark _)) (pe_one (pe_call G_are_prices (hr.mono (by decide)) (by rfl) m_are_prices k_are_prices b_are_prices .nil pass0 (pa_cons (pv 0) (pa_cons (pe_ix ix_tup (pv 1) pe_int (fun _ _ => rfl)) pa_nil))))))))), ?_⟩
  refine ⟨_, rfl, v, dd, "tuple", rfl, hd, .inr (.inr (.inr (.inl rfl))), ?_⟩
  rw [of_tup]
  cases hd with
  | non => exact ⟨_, rfl, iteT (kk H (Same.refl _))⟩
  | bl b => exact ⟨_, rfl, iteT (kk H (Same.refl _))⟩
  | int i => exact ⟨_, rfl, iteT (kk H (Same.refl _))⟩
  | str x => exact ⟨_, rfl, iteT (kk H (Same.refl _))⟩
  | lst e1 e2 e3 => exact ⟨_, rfl, iteT (kk H (Same.refl _))⟩
  | dic kvs e1 => exact ⟨_, rfl, iteT (kk H (Same.refl _))⟩
  | @tup a xs ds e1 e2 =>
    have ld := e2.len
    refine ⟨_, rfl, iteF ⟨_, rfl, _, _, rfl, .inr (SqT.of e1), rfl, ?_⟩⟩
    by_cases l2 : ¬ ds.length = 2
    · rw [show decide (V.int (xs.length : Int) = V.int 2) = false from decide_eq_false fun q => l2 (by have := V.int.inj q; omega)]
      refine ⟨_, rfl, iteT ?_⟩
      have := kk H (Same.refl _)
      rw [show wD k L (.tuple ds) = false from by
        match ds, l2 with
        | [], _ => rfl
        | [_], _ => rfl
        | _ :: _ :: _ :: _, _ => rfl
        | [_, _], h => exact (h rfl).elim] at this
      exact this
    have l2 : ds.length = 2 := Decidable.not_not.mp l2
    rw [show decide (V.int (xs.length : Int) = V.int 2) = true from decide_eq_true (by rw [ld, l2]; rfl)]
    refine ⟨_, rfl, iteF ?_⟩
    obtain ⟨d0, d1, rfl⟩ : ∃ d0 d1, ds = [d0, d1] := by
      match ds, l2 with
      | [a, b], _ => exact ⟨a, b, rfl⟩
    cases e2 with
    | @cons v0 _ _ _ q0 e3 =>
      cases e3 with
      | @cons v1 _ _ _ q1 e4 =>
        cases e4
        refine ⟨_, rfl, _, _, _, _, rfl, rfl, SqT.of e1, atI_nat (j := 0) rfl, d0, _, q0, rfl, ?_⟩
        have kk : ∀ H', Same H H' → Q (.bl (if strD d0 "loop" = true then glD L d1 else strD d0 "prices" && prD k L d1)) H' := kk
        cases e0 : strD d0 "loop" with
        | true =>
          rw [e0] at kk
          refine ⟨_, rfl, iteT ?_⟩
          exact ⟨_, rfl, _, rfl, _, _, _, _, rfl, rfl, SqT.of e1, atI_nat (j := 1) rfl, d, k, L, _, d1, rfl, hb, ok, q1, (fun ds e => h16 d0 ds (by rw [e])), kk⟩
        | false =>
          rw [e0] at kk
          refine ⟨_, rfl, iteF ⟨_, rfl, _, _, _, _, rfl, rfl, SqT.of e1, atI_nat (j := 0) rfl, d0, _, q0, rfl, _, rfl, ?_⟩⟩
          have kk : ∀ H', Same H H' → Q (.bl (strD d0 "prices" && prD k L d1)) H' := kk
          cases ep : strD d0 "prices" with
          | true =>
            rw [ep] at kk
            exact iteT ⟨_, rfl, _, rfl, _, _, _, _, rfl, rfl, SqT.of e1, atI_nat (j := 1) rfl, d, k, L, _, d1, rfl, hb, ok, l100, k4, q1, kk⟩
          | false =>
            rw [ep] at kk
            exact iteF (kk H (Same.refl _))
abbrev s_l_due : Stmt := topS 28
abbrev N_l_due : List Str := ["_law_board_here", "_law_value"]
theorem sc_l_due : FnScope N_l_due ["_law_board_here", "_law_value"] (defScope s_l_due) := ⟨rfl, rfl, rfl, by decide +kernel, rfl, by decide +kernel, by decide +kernel⟩
theorem ok_l_due (T : Txt mg) (D : Df K mg "_law_due" s_l_due ["_law_board_here", "_law_value"]) (C_l_is_prices : Cal P w K mg base "_law_is_prices" ["_law_board_here", "_law_value"] 1 (sp_l_is_prices K)) (C_l_gains : Cal P w K mg base "_law_gains" ["_law_board_here", "_law_indexes"] 2 (sp_l_gains K)) (C_l_is_loop : Cal P w K mg base "_law_is_loop" ["_law_board_here", "_law_value"] 1 (sp_l_is_loop K)) : Cal P w K mg base "_law_due" ["_law_board_here", "_law_value"] 3 (sp_l_due K) := by
  obtain ⟨f_l_is_prices, fd_l_is_prices, G_l_is_prices, m_l_is_prices, k_l_is_prices, b_l_is_prices⟩ := C_l_is_prices
  obtain ⟨f_l_gains, fd_l_gains, G_l_gains, m_l_gains, k_l_gains, b_l_gains⟩ := C_l_gains
  obtain ⟨f_l_is_loop, fd_l_is_loop, G_l_is_loop, m_l_is_loop, k_l_is_loop, b_l_is_loop⟩ := C_l_is_loop
  refine D.cal sc_l_due (fun vs H Q E h => ?_) (fun f cdv A outer s H vs Q E hr h => ?_)
  · obtain ⟨d, k, L, v, dd, rfl, _⟩ := h
    rfl
  obtain ⟨d, k, L, v, dd, rfl, hb, ok, l100, k4, hd, h16, kk⟩ := h
  refine ⟨_, (pss_cons (ps_if (PW.pt (pw_or (pt_not (pt_val (pe_callB call_isQ (by rfl) T.n_isinstance (by decide +kernel) (pa_cons (pv 1) (pa_cons (pe_bltn (v := .ty "tuple") (by rfl) T.n_tuple (by decide +kernel) rfl) pa_nil))))) (pw_or1 (pt_cmpR op_ne (pe_callB call_len_seq (by rfl) T.n_len (by decide +kernel) (pa_cons (pv 1) pa_nil)) pe_int (nomark _))))) (pss_one (ps_ret pe_bl)) pss_nil)
    (pss_cons (ps_if (pt_cmpR (op_eqQ hr.units) (pe_ix ix_tup (pv 1) pe_int (fun _ _ => rfl)) pe_str (nomark _)) (pss_one (ps_ret (pe_and (pe_call G_l_is_loop (hr.mono (by decide)) (by rfl) m_l_is_loop k_l_is_loop b_l_is_loop .nil pass0 (pa_cons (pv 0) (pa_cons (pe_ix ix_tup (pv 1) pe_int (fun _ _ => rfl)) pa_nil))) (pe_one (pe_call G_l_gains (hr.mono (by decide)) (by rfl) m_l_gains k_l_gains b_l_gains .nil pass0 (pa_cons (pv 0) (pa_cons (pe_ix ix_tup (pv 1) pe_int (fun _ _ => rfl)) pa_nil))))))) pss_nil)
    (pss_one (ps_ret (pe_and (pe_cmpR (op_eqQ hr.units) (pe_ix ix_tup (pv 1) pe_int (fun _ _ => rfl)) pe_str (nomark _)) (pe_one (pe_call G_l_is_prices (hr.mono (by decide)) (by rfl) m_l_is_prices k_l_is_prices b_l_is_prices .nil pass0 (pa_cons (pv 0) (pa_cons (pe_ix ix_tup (pv 1) pe_int (fun _ _ => rfl)) pa_nil))))))))), ?_⟩
  refine ⟨_, rfl, v, dd, "tuple", rfl, hd, .inr (.inr (.inr (.inl rfl))), ?_⟩
  rw [of_tup]
  cases hd with
  | non => exact ⟨_, rfl, iteT (kk H (Same.refl _))⟩
  | bl b => exact ⟨_, rfl, iteT (kk H (Same.refl _))⟩
  | int i => exact ⟨_, rfl, iteT (kk H (Same.refl _))⟩
  | str x => exact ⟨_, rfl, iteT (kk H (Same.refl _))⟩
  | lst e1 e2 e3 => exact ⟨_, rfl, iteT (kk H (Same.refl _))⟩
  | dic kvs e1 => exact ⟨_, rfl, iteT (kk H (Same.refl _))⟩
  | @tup a xs ds e1 e2 =>
    have ld := e2.len
    refine ⟨_, rfl, iteF ⟨_, rfl, _, _, rfl, .inr (SqT.of e1), rfl, ?_⟩⟩
    by_cases l2 : ¬ ds.length = 2
    · rw [show decide (V.int (xs.length : Int) = V.int 2) = false from decide_eq_false fun q => l2 (by have := V.int.inj q; omega)]
      refine ⟨_, rfl, iteT ?_⟩
      have := kk H (Same.refl _)
      rw [show wD k L (.tuple ds) = false from by
        match ds, l2 with
        | [], _ => rfl
        | [_], _ => rfl
        | _ :: _ :: _ :: _, _ => rfl
        | [_, _], h => exact (h rfl).elim] at this
      exact this
    have l2 : ds.length = 2 := Decidable.not_not.mp l2
    rw [show decide (V.int (xs.length : Int) = V.int 2) = true from decide_eq_true (by rw [ld, l2]; rfl)]
    refine ⟨_, rfl, iteF ?_⟩
    obtain ⟨d0, d1, rfl⟩ : ∃ d0 d1, ds = [d0, d1] := by
      match ds, l2 with
      | [a, b], _ => exact ⟨a, b, rfl⟩
    cases e2 with
    | @cons v0 _ _ _ q0 e3 =>
      cases e3 with
      | @cons v1 _ _ _ q1 e4 =>
        cases e4
        refine ⟨_, rfl, _, _, _, _, rfl, rfl, SqT.of e1, atI_nat (j := 0) rfl, d0, _, q0, rfl, ?_⟩
        have kk : ∀ H', Same H H' → Q (.bl (if strD d0 "loop" = true then glD L d1 else strD d0 "prices" && prD k L d1)) H' := kk
        cases e0 : strD d0 "loop" with
        | true =>
          rw [e0] at kk
          refine ⟨_, rfl, iteT ?_⟩
          refine ⟨_, rfl, _, rfl, _, _, _, _, rfl, rfl, SqT.of e1, atI_nat (j := 1) rfl, d, k, L, _, d1, rfl, hb, ok, q1, (fun ds e => h16 d0 ds (by rw [e])), fun H1 s1 => ⟨_, rfl, ?_⟩⟩
          cases el : lpD L d1 with
          | false =>
            refine iteF ?_
            have := kk H1 s1
            rw [show (if true = true then glD L d1 else strD d0 "prices" && prD k L d1) = glD L d1 from rfl] at this
            cases d1 with
            | tuple ds =>
              cases ex : ixs L.length ds with
              | true =>
                obtain ⟨_, il⟩ : (∀ K : PySem.W.Frag, True) ∧ ∀ i ∈ nts ds, i < L.length := ⟨fun _ => trivial, by cases q1 with | tup f1 f2 => exact (ixs_ints f2 ex).2⟩
                rw [← alike_D ok ex il, el] at this
                exact this
              | false =>
                rw [glD_tup, ex] at this
                exact this
            | _ => exact this
          | true =>
            cases d1 with
            | tuple ds =>
              have ex : ixs L.length ds = true := by
                have h : (!ds.isEmpty && (ixs L.length ds && lkB L (nts ds))) = true := el
                rw [Bool.and_eq_true, Bool.and_eq_true] at h
                exact h.2.1
              cases q1 with
              | @tup a1 _ _ f1 f2 =>
                obtain ⟨eq, il⟩ := ixs_ints f2 ex
                rw [eq] at f1
                refine iteT ⟨_, rfl, _, rfl, _, _, _, _, rfl, rfl, SqT.of (s1 _ _ e1), atI_nat (j := 1) rfl, d, a1, k, L, nts ds, rfl, hb.same s1, ok, s1 _ _ f1, il, ?_⟩
                have := kk H1 s1
                rw [show (if true = true then glD L (.tuple ds) else strD d0 "prices" && prD k L (.tuple ds)) = glD L (.tuple ds) from rfl, ← alike_D ok ex il, el, Bool.true_and] at this
                exact this
            | _ => cases el
        | false =>
          rw [e0] at kk
          refine ⟨_, rfl, iteF ⟨_, rfl, _, _, _, _, rfl, rfl, SqT.of e1, atI_nat (j := 0) rfl, d0, _, q0, rfl, _, rfl, ?_⟩⟩
          have kk : ∀ H', Same H H' → Q (.bl (strD d0 "prices" && prD k L d1)) H' := kk
          cases ep : strD d0 "prices" with
          | true =>
            rw [ep] at kk
            exact iteT ⟨_, rfl, _, rfl, _, _, _, _, rfl, rfl, SqT.of e1, atI_nat (j := 1) rfl, d, k, L, _, d1, rfl, hb, ok, l100, k4, q1, kk⟩
          | false =>
            rw [ep] at kk
            exact iteF (kk H (Same.refl _))
end
end Sm

set_option Elab.async false
set_option linter.all false
set_option maxRecDepth 100000
set_option maxHeartbeats 8000000
namespace Sm
open PySem PySem.Spec PyProof.Rows L2
open C8 (pss_cut tCut)
theorem un65 {k : Nat} {A : Around} (r : Room k A) : A.units + 65 < cLine := by have := r.un; omega
/-- a method's call within a comprehension -/
theorem pe_bmK {X : Cx} {K : PySem.W.Frag} {o e : Expr} {es : List Expr} {to : TE} {t : TA} {name : Str} {apos cpos : Pos} {T id : String} {r : V → List V → Hp → VK → Prop} (hK : X.K = K) (pa : PlainAttrs T) (slot : Slot T name id) (hty : typeOf (.builtin id) = pure (.type "method_descriptor")) (hm : MtR X id r) (ho : PE X o to) (ha : PA X (e :: es) t)
    (hbase : attributeBase o name X.env (eval o X.env) = eval o X.env := by rfl)
    (few : ((backTo cpos (starEach (e :: es) X.env)).all (fun x => !x.1) && (backToKw cpos (keywordEach [] X.env)).all (fun x => x.1.isSome) && decide ((e :: es).length + ([] : List Keyword).length + (if ([] : List Keyword).isEmpty then 0 else 1) < 30)) = true := by rfl)
    (hline : (apos.endLine == cpos.line) = true := by rfl) (hs : starEach (e :: es) X.env = (false, eval e X.env) :: starEach es X.env := by rfl) (plain : (backTo cpos (starEach es X.env)).any (·.1) = false := by rfl) : PE X (.Call (.Attribute o name apos) (e :: es) [] cpos) (tBM K T r to t) := by
  subst hK
  exact pe_bm pa slot hty hm ho ha hbase few hline hs plain
/-- sorted(set(..)) of offers, told for the list that stands at U -/
theorem set_offs {K : PySem.W.Frag} {P : Program} {w : World} {H : Hp} {U : Addr} {ks : List (Addr × Of)} {k : Nat} (hU : H U = some (.lst (ks.map fun e => V.ref e.1))) (hk : ∀ e ∈ ks, OffAt H e.1 e.2 ∧ OfOk k e.2) (k4 : k ≤ 4) (h64 : ks.length < 64)
    {Q : VK} (q : ∀ H' t (qs : List Addr) (L : List Of), Same H H' → H' t = some (.lst (qs.map V.ref)) → OffsAt H' qs L → (∀ o ∈ L, OfOk k o) → L.length < 64 → (∀ e ∈ ks, e.2 ∈ L) → Q (.ref t) H') :
    rSetOfT K P w [.ref U] H fun x H1 => rSortedT K P w [x] H1 Q := by
  have lm : (ks.map fun e => (e.1, e.2.ns)).map (fun p : Addr × List Int => V.ref p.1) = ks.map fun e => V.ref e.1 := by
    rw [List.map_map]
    rfl
  refine ⟨U, ks.map fun e => (e.1, e.2.ns), rfl, ?_, fun p hp => ?_, by rw [List.length_map]; exact h64, fun a L na hL hM => ?_⟩
  · rw [lm]
    exact SqL.of hU
  · obtain ⟨e, he, rfl⟩ := List.mem_map.mp hp
    exact SqT.of (hk e he).1
  have sa := same_upd (o := SetTO P w a L) na
  have own : ∀ p ∈ L, ∃ e ∈ ks, p = (e.1, e.2.ns) := fun p hp => by
    obtain ⟨e, he, h⟩ := List.mem_map.mp (hL p hp)
    exact ⟨e, he, h.symm⟩
  refine ⟨a, L, 4, 100, rfl, upd_same, fun p hp => ?_, by decide, fun p hp => ?_, fun L' r pm nd l64 pw nr => ?_⟩
  · obtain ⟨e, he, rfl⟩ := own p hp
    exact SqT.of (sa _ _ (hk e he).1)
  · obtain ⟨e, he, rfl⟩ := own p hp
    exact bd_ns (hk e he).2 k4
  have sr := same_upd (o := .lst (L'.map fun q => V.ref q.1)) nr
  have s := sa.trans sr
  refine q _ r (L'.map (·.1)) (L'.map fun p => ofNs p.2) s (by rw [upd_same, List.map_map]; rfl) (offs_of L' fun p hp => ?_) (fun o ho => ?_) (by rw [List.length_map]; exact l64) (fun e he => ?_)
  · obtain ⟨e, he, rfl⟩ := own p (pm.mem_iff.mp hp)
    exact ⟨e.2, rfl, s _ _ (hk e he).1⟩
  · obtain ⟨p, hp, rfl⟩ := List.mem_map.mp ho
    obtain ⟨e, he, rfl⟩ := own p (pm.mem_iff.mp hp)
    show OfOk k (ofNs e.2.ns)
    rw [ofNs_ns]
    exact (hk e he).2
  · have m := hM (e.1, e.2.ns) (List.mem_map.mpr ⟨e, he, rfl⟩)
    obtain ⟨p, hp, ep⟩ := List.mem_map.mp m
    refine List.mem_map.mpr ⟨p, pm.mem_iff.mpr hp, ?_⟩
    show ofNs p.2 = e.2
    rw [show p.2 = e.2.ns from ep, ofNs_ns]
/-- offers as data -/
def ofD (o : Of) : PyData := .tuple (o.ns.map PyData.int)
theorem DpAll.ints {K : PySem.W.Frag} {H : Hp} : ∀ xs : List Int, DpAll K H (xs.map V.int) (xs.map PyData.int)
  | [] => .nil
  | x :: xs => .cons (.int x) (DpAll.ints xs)
theorem dp_off {K : PySem.W.Frag} {H : Hp} {q : Addr} {o : Of} (h : OffAt H q o) : Dp K H (.ref q) (ofD o) := .tup (SqT.of h) (DpAll.ints o.ns)
theorem dp_offs {K : PySem.W.Frag} {H : Hp} : ∀ {qs : List Addr} {L : List Of}, OffsAt H qs L → DpAll K H (qs.map V.ref) (L.map ofD)
  | [], [], _ => .nil
  | [], _ :: _, h => nomatch h.1
  | _ :: _, [], h => nomatch h.1
  | q :: qs, o :: L, h => by
    obtain ⟨o', e1, h1⟩ := h.2 0 q rfl
    have e1 : o = o' := Option.some.inj e1
    subst e1
    exact .cons (dp_off h1) (dp_offs ⟨Nat.succ.inj h.1, fun i q e => h.2 (i + 1) q e⟩)
theorem ofD_lay (o : Of) : (ofD o).canLay0 = true := by simp [ofD, Of.ns, PyData.canLay0, PyData.canLayAll0]
theorem ofD_depth (o : Of) : (ofD o).depth ≤ 2 := by simp [ofD, Of.ns, PyData.depth, PyData.depthAll]
theorem ofDs_lay : ∀ L : List Of, PyData.canLayAll0 (L.map ofD) = true
  | [] => by simp [PyData.canLayAll0]
  | z :: zs => by simp [PyData.canLayAll0, ofD_lay z, ofDs_lay zs]
theorem ofDs_depth : ∀ L : List Of, PyData.depthAll (L.map ofD) ≤ 2
  | [] => by simp [PyData.depthAll]
  | z :: zs => by
    have h1 := ofDs_depth zs
    have h2 := ofD_depth z
    simp only [List.map_cons, PyData.depthAll]
    omega
theorem ofD_shaped (o : Of) : SeqAt.shaped (ofD o) = true := by
  have h := ofD_depth o
  show ((ofD o).canLay0 && decide ((ofD o).depth ≤ 64)) = true
  rw [Bool.and_eq_true]
  exact ⟨ofD_lay o, decide_eq_true (by omega)⟩
theorem ofDs_shaped (L : List Of) : SeqAt.shaped (.list (L.map ofD)) = true := by
  have h1 := ofDs_depth L
  have h2 : PyData.depth (.list (L.map ofD)) ≤ 64 := by
    simp only [PyData.depth]
    omega
  show (PyData.canLay0 (.list (L.map ofD)) && decide (PyData.depth (.list (L.map ofD)) ≤ 64)) = true
  rw [Bool.and_eq_true]
  exact ⟨by simp only [PyData.canLay0]; exact ofDs_lay L, decide_eq_true h2⟩
theorem ofD_self (o : Of) : PyData.eqv (ofD o) (ofD o) = true := by simp [ofD, Of.ns, PyData.eqv, PyData.eqvAll]
/-- the first place where something holds -/
theorem first_ix {α : Type} (p : α → Bool) : ∀ (ds : List α), (∃ z ∈ ds, p z = true) → ∃ (j : Nat) (z : α), j < ds.length ∧ ds[j]? = some z ∧ p z = true ∧ ∀ (m : Nat) (z' : α), m < j → ds[m]? = some z' → p z' = false
  | [], ⟨_, h, _⟩ => nomatch h
  | d :: ds, ⟨z, hz, h⟩ => by
    cases e : p d with
    | true => exact ⟨0, d, Nat.succ_pos _, rfl, e, fun m z' hm => absurd hm (Nat.not_lt_zero m)⟩
    | false =>
      have hz : z ∈ ds := by
        rcases List.mem_cons.mp hz with rfl | hz
        · rw [e] at h; cases h
        · exact hz
      obtain ⟨j, y, h0, h1, h2, h3⟩ := first_ix p ds ⟨z, hz, h⟩
      refine ⟨j + 1, y, Nat.succ_lt_succ h0, h1, h2, fun m z' hm hz' => ?_⟩
      cases m with
      | zero => cases hz'; exact e
      | succ m => exact h3 m z' (Nat.lt_of_succ_lt_succ hm) hz'
def ixOf (L : List Of) (o : Of) : Nat := (L.map ofD).findIdx fun z => PyData.eqv z (ofD o)
theorem ixOf_ok {L : List Of} {o : Of} (h : o ∈ L) : ixOf L o < L.length ∧ ∃ z, (L.map ofD)[ixOf L o]? = some z ∧ PyData.eqv z (ofD o) = true ∧ ∀ (m : Nat) (z' : PyData), m < ixOf L o → (L.map ofD)[m]? = some z' → PyData.eqv z' (ofD o) = false := by
  have h1 : ixOf L o < (L.map ofD).length := List.findIdx_lt_length_of_exists ⟨ofD o, List.mem_map.mpr ⟨o, h, rfl⟩, ofD_self o⟩
  refine ⟨by rwa [List.length_map] at h1, _, List.getElem?_eq_getElem h1, List.findIdx_getElem (p := fun z => PyData.eqv z (ofD o)) (w := h1), fun m z' hm hz => ?_⟩
  obtain ⟨hl, rfl⟩ := List.getElem?_eq_some_iff.mp hz
  have := List.not_of_lt_findIdx (p := fun z => PyData.eqv z (ofD o)) hm
  simpa using this
/-- the offers of a list in pairs with where they stand -/
theorem offs_pairs {H : Hp} : ∀ {qs : List Addr} {L : List Of}, OffsAt H qs L → ∃ ps : List (Addr × Of), (ps.map fun e => V.ref e.1) = qs.map V.ref ∧ ps.length = L.length ∧ ∀ e ∈ ps, OffAt H e.1 e.2 ∧ e.2 ∈ L
  | [], [], _ => ⟨[], rfl, rfl, fun e he => nomatch he⟩
  | [], _ :: _, h => nomatch h.1
  | _ :: _, [], h => nomatch h.1
  | q :: qs, o :: L, h => by
    obtain ⟨o', e1, h1⟩ := h.2 0 q rfl
    have e1 : o = o' := Option.some.inj e1
    subst e1
    obtain ⟨ps, p1, p2, p3⟩ := offs_pairs (H := H) (qs := qs) (L := L) ⟨Nat.succ.inj h.1, fun i q e => h.2 (i + 1) q e⟩
    refine ⟨(q, o) :: ps, by rw [List.map_cons, List.map_cons, p1], by rw [List.length_cons, List.length_cons, p2], fun e he => ?_⟩
    rcases List.mem_cons.mp he with rfl | he
    · exact ⟨h1, List.mem_cons_self ..⟩
    · exact ⟨(p3 e he).1, List.mem_cons_of_mem _ (p3 e he).2⟩
/-- the ring found so far -/
def RW (p l U : Addr) (k : Nat) (n : Int) (H : Hp) (i : Nat) (σ : L2.St) (H' : Hp) : Prop := ∃ (n' : Int) (ks : List (Addr × Of)) (v3 v4 v5 v6 : Option V), σ = [some (.ref p), some (.int (k : Int)), some (.ref U), v3, v4, v5, v6] ∧ Deck H' p l n' ∧ n ≤ n' ∧ n' ≤ n + 2 * (i : Int) ∧ Fr p l H H' ∧
      H' U = some (.lst (ks.map fun e => V.ref e.1)) ∧ ks.length = i ∧ ∀ e ∈ ks, OffAt H' e.1 e.2 ∧ OfOk k e.2
def sp_l_ring (_ : PySem.W.Frag) : Sp := fun vs H Q _ => ∃ (p l : Addr) (n : Int) (k : Nat), vs = [.ref p, .int (k : Int)] ∧ Deck H p l n ∧ 0 ≤ n ∧ n ≤ 800000 ∧ 2 ≤ k ∧ k ≤ 4 ∧
  ∀ H' b d r L (is : List Nat) n', Fr p l H H' → Deck H' p l n' → n ≤ n' → n' ≤ n + 300 → H' b = some (.tup [.ref d, .ref r]) → BoardAt H' d k L → (∀ o ∈ L, OfOk k o) → (L.length : Int) ≤ 63 → H' r = some (.tup ((is.map fun i : Nat => (i : Int)).map V.int)) → is.length = k → (∀ i ∈ is, i < L.length) → Q (.ref b) H'
section
variable {P : Program} {w : World} {K : PySem.W.Frag} {mg : Str → Option Value} {base : Heap}
abbrev s_l_ring : Stmt := topS 14
abbrev N_l_ring : List Str := ["_law_deck_here", "_law_kinds", "_law_ring_here", "_law_a", "_law_x", "_law_offers", "_law_offer"]
theorem sc_l_ring : FnScope N_l_ring ["_law_deck_here", "_law_kinds"] (defScope s_l_ring) := ⟨rfl, rfl, rfl, by decide +kernel, rfl, by decide +kernel, by decide +kernel⟩
theorem ok_l_ring (T : Txt mg) (D : Df K mg "_law_ring" s_l_ring ["_law_deck_here", "_law_kinds"]) (C_l_board : Cal P w K mg base "_law_board" ["_law_deck_here", "_law_kinds", "_law_many", "_law_upto"] 2 (sp_l_board K)) (C_l_draw : Cal P w K mg base "_law_draw" ["_law_deck_here", "_law_many"] 1 (sp_l_draw K)) : Cal P w K mg base "_law_ring" ["_law_deck_here", "_law_kinds"] 3 (sp_l_ring K) := by
  obtain ⟨f_l_board, fd_l_board, G_l_board, m_l_board, k_l_board, b_l_board⟩ := C_l_board
  obtain ⟨f_l_draw, fd_l_draw, G_l_draw, m_l_draw, k_l_draw, b_l_draw⟩ := C_l_draw
  refine D.cal sc_l_ring (fun vs H Q E h => ?_) (fun f cdv A outer s H vs Q E hr h => ?_)
  · obtain ⟨p, l, n, k, rfl, _⟩ := h
    rfl
  obtain ⟨p, l, n, k, rfl, D0, n0, n1, k2, k4, kk⟩ := h
  refine ⟨_, (pss_cons (ps_set (i := 2) sc_l_ring.nd rfl (Or.inl rfl) (pe_lst pa_nil))
    (pss_cons (ps_for PassesOwn.never rfl (pi_range1 (by rfl) T.n_range (pa_cons (pv 1) pa_nil)) (pg_name (i := 3) sc_l_ring.nd rfl (Or.inl rfl))
      (pss_cons (ps_set (i := 4) sc_l_ring.nd rfl (Or.inl rfl) (pe_op op_add pe_int (pe_call G_l_draw (hr.mono (by decide)) (by rfl) m_l_draw k_l_draw b_l_draw .nil pass0 (pa_cons (pv 0) (pa_cons pe_int pa_nil)))))
    (pss_one (ps_expr (pe_bm PySem.F.plainAttrs_list PySem.F.slot_list_append PySem.F.type_list_append mt_append (pv 2) (pa_cons (pe_tup (pa_cons (pv 3) (pa_cons (pv 4) (pa_cons (pe_op op_modN (pe_callTy call_int1 (by rfl) T.n_int (by decide +kernel) (pa_cons (pe_op op_add (pv 3) pe_int) pa_nil)) (pv 1)) (pa_cons (pe_callB (call_max2 rfl) (by rfl) T.n_max (by decide +kernel) (pa_cons pe_int (pa_cons (pe_op op_add (pe_op op_sub (pv 4) pe_int) (pe_call G_l_draw (hr.mono (by decide)) (by rfl) m_l_draw k_l_draw b_l_draw .nil pass0 (pa_cons (pv 0) (pa_cons pe_int pa_nil)))) pa_nil))) pa_nil))))) pa_nil))))))
    (pss_cons (ps_set (i := 5) sc_l_ring.nd rfl (Or.inr rfl) (pe_callB (cr_sortedT rfl) (by rfl) T.n_sorted (by decide +kernel) (pa_cons (pe_callTy (cr_setOfT rfl hr.units) (by rfl) T.n_set (by decide +kernel) (pa_cons (pe_op op_cat (pv 2) (pe_callTy call_list_of (by rfl) T.n_list (by decide +kernel) (pa_cons (pe_ix ix_tup (pe_call G_l_board (hr.mono (by decide)) (by rfl) m_l_board k_l_board b_l_board .nil pass0 (pa_cons (pv 0) (pa_cons (pv 1) (pa_cons (pe_call G_l_draw (hr.mono (by decide)) (by rfl) m_l_draw k_l_draw b_l_draw .nil pass0 (pa_cons (pv 0) (pa_cons pe_int pa_nil))) (pa_cons pe_int pa_nil))))) pe_int (fun _ _ => rfl)) pa_nil))) pa_nil)) pa_nil)))
    (pss_one (ps_ret (pe_tup (pa_cons (pe_tup (pa_cons (pv 1) (pa_cons (pe_callTy call_tuple_of (by rfl) T.n_tuple (by decide +kernel) (pa_cons (pv 5) pa_nil)) pa_nil))) (pa_cons (pe_callTy call_tuple_of (by rfl) T.n_tuple (by decide +kernel) (pa_cons (pe_lc (own := [("_law_offer", 6)]) (g := gName 6) (tt := tYes) rfl sc_l_ring.nd (pi_list (pv 2)) (blkOk_by (own := [("_law_offer", 6)]) (N := N_l_ring) (sc := defScope s_l_ring) (by decide +kernel)) (fun _ _ _ _ _ => pg_name (i := 6) sc_l_ring.nd rfl (Or.inl rfl)) (fun _ _ _ _ _ => pts_nil) (fun _ _ _ _ _ => (pe_bmK (K := K) rfl PySem.F.plainAttrs_list PySem.F.slot_list_index PySem.F.type_list_index (show MtR _ "list.index" (rIndexD K) from mt_indexD (un65 hr)) (pv 5) (pa_cons (pv 6) pa_nil)))) pa_nil)) pa_nil)))))))), ?_⟩
  refine ⟨(by show 0 ≤ sizeLine; decide), fun U nU => ?_⟩
  obtain ⟨Up, Ul⟩ := D0.lne nU
  have sU := same_upd (o := .lst []) nU
  have hn : ∀ b o, H b = some o → b ≠ U := fun b o hb => ne_of_none hb nU
  refine ⟨_, rfl, (k : Int), rfl, (by omega), (by omega), ?_⟩
  refine for_range (lo := 0) (n := _) (RW p l U k n H)
    ⟨n, [], none, none, none, none, rfl, D0.same sU, by omega, by omega, Same.fr sU, upd_same, rfl, fun e he => nomatch he⟩ ?_ ?_
  · rintro i σ H2 hi ⟨n', ks, v3, v4, v5, v6, rfl, D2, m0, m1, f2, hU, kl, hk⟩
    have hi : i < (k : Int).toNat := hi
    have hi : i < k := by omega
    refine ⟨_, rfl, p, l, n', _, rfl, D2, by omega, by omega, by omega, by omega, fun rx H3 x0 x1 f3 D3 => ?_⟩
    refine ⟨_, _, rfl, rfl, ?_⟩
    refine ⟨_, rfl, .inl ⟨rfl, _, SqL.of (f3 U _ Up Ul hU)⟩, ?_⟩
    refine ⟨_, rfl, _, rfl, _, rfl, _, _, rfl, rfl, .inl ⟨_, rfl, _, rfl, _, _, rfl, rfl, (show (k : Int) ≠ 0 by omega), ?_⟩⟩
    refine ⟨_, rfl, _, _, rfl, rfl, _, rfl, p, l, n' + 1, _, rfl, D3, by omega, by omega, by omega, by omega, fun ry H4 y0 y1 f4 D4 => ?_⟩
    refine ⟨_, _, rfl, rfl, _, _, rfl, (by show 4 ≤ sizeLine; decide), fun t nt => ?_⟩
    have hU4 := f4 U _ Up Ul (f3 U _ Up Ul hU)
    have ft := f3.trans f4
    have fm : (0 + (i : Int) + 1).fmod (k : Int) = (0 + (i : Int) + 1) % (k : Int) := fmod_pos (by omega)
    have c0 : 0 ≤ (0 + (i : Int) + 1).fmod (k : Int) := by rw [fm]; exact Int.emod_nonneg _ (by omega)
    have c1 : (0 + (i : Int) + 1).fmod (k : Int) < (k : Int) := by rw [fm]; exact Int.emod_lt_of_pos _ (by omega)
    have cn : (0 + (i : Int) + 1).fmod (k : Int) ≠ 0 + (i : Int) := by
      rw [fm]
      obtain rfl | rfl | rfl : k = 2 ∨ k = 3 ∨ k = 4 := by omega
      · show (0 + (i : Int) + 1) % 2 ≠ _
        omega
      · show (0 + (i : Int) + 1) % 3 ≠ _
        omega
      · show (0 + (i : Int) + 1) % 4 ≠ _
        omega
    have z0 : 0 ≤ (if 1 + rx - 1 + ry > 0 then 1 + rx - 1 + ry else 0) := by split <;> omega
    have z1 : (if 1 + rx - 1 + ry > 0 then 1 + rx - 1 + ry else 0) ≤ 30 := by split <;> omega
    have st := same_upd (o := .tup [.int (0 + (i : Int)), .int (1 + rx), .int ((0 + (i : Int) + 1).fmod (k : Int)), .int (if 1 + rx - 1 + ry > 0 then 1 + rx - 1 + ry else 0)]) nt
    have neU : ∀ b xs, upd H4 t (.tup [.int (0 + (i : Int)), .int (1 + rx), .int ((0 + (i : Int) + 1).fmod (k : Int)), .int (if 1 + rx - 1 + ry > 0 then 1 + rx - 1 + ry else 0)]) b = some (.tup xs) → b ≠ U := fun b xs hb => ne_of hb (st _ _ hU4) (by intro q; cases q)
    refine ⟨U, _, _, rfl, rfl, st _ _ hU4, ?_, ?_⟩
    · rw [List.length_map, kl]
      exact Nat.lt_of_le_of_lt (show i ≤ 40 by omega) (by decide)
    refine ⟨n' + 1 + 1, ks ++ [(t, ⟨i, 1 + rx, ((0 + (i : Int) + 1).fmod (k : Int)).toNat, (if 1 + rx - 1 + ry > 0 then 1 + rx - 1 + ry else 0)⟩)], _, _, _, _, rfl, ⟨by rw [upd_ne Up.symm]; exact (D4.same st).hp, ?_⟩, by omega, by omega, ?_, ?_, ?_, ?_⟩
    · obtain ⟨cells, q1, q2⟩ := (D4.same st).hl
      exact ⟨cells, by rw [upd_ne Ul.symm]; exact q1, q2⟩
    · have fq := f2.trans (ft.trans (Same.fr st))
      intro b o h1 h2 hb
      rw [upd_ne (hn b o hb)]
      exact fq b o h1 h2 hb
    · rw [upd_same, List.map_append]
      rfl
    · rw [List.length_append, List.length_singleton, kl]
    · intro e he
      rcases List.mem_append.mp he with he | he
      · have h1 := st _ _ (ft.tup D2 (hk e he).1)
        refine ⟨?_, (hk e he).2⟩
        unfold OffAt
        rw [upd_ne (neU _ _ h1)]
        exact h1
      · rw [List.mem_singleton.mp he]
        refine ⟨?_, ⟨hi, by show ((0 + (i : Int) + 1).fmod (k : Int)).toNat < k; omega, by show i ≠ ((0 + (i : Int) + 1).fmod (k : Int)).toNat; omega, by show 1 ≤ 1 + rx; omega, by show 1 + rx ≤ 30; omega, z0, z1⟩⟩
        unfold OffAt
        rw [upd_ne (neU _ _ upd_same), upd_same]
        show some (HO.tup [.int (0 + (i : Int)), .int (1 + rx), .int ((0 + (i : Int) + 1).fmod (k : Int)), .int (if 1 + rx - 1 + ry > 0 then 1 + rx - 1 + ry else 0)]) = some (.tup [.int (i : Int), .int (1 + rx), .int (((0 + (i : Int) + 1).fmod (k : Int)).toNat : Int), .int (if 1 + rx - 1 + ry > 0 then 1 + rx - 1 + ry else 0)])
        rw [Int.toNat_of_nonneg c0, Int.zero_add]
  · rintro σ H2 ⟨n', ks, v3, v4, v5, v6, rfl, D2, m0, m1, f2, hU, kl, hk⟩
    have kl : ks.length = k := by rw [kl]; show (k : Int).toNat = k; omega
    refine ⟨_, rfl, _, rfl, _, rfl, _, rfl, p, l, n', _, rfl, D2, by omega, by omega, by omega, by omega, fun rm H3 b0 b1 f3 D3 => ?_⟩
    refine ⟨p, l, n' + 1, k, rm, 8, rfl, D3, by omega, by omega, k2, k4, b0, by omega, by omega, by omega, fun H4 d LB n4 f4 D4 e0 e1 hB okB lB => ?_⟩
    obtain ⟨t, qs, hd, ht, hL⟩ := hB
    refine ⟨_, _, _, _, rfl, rfl, SqT.of hd, atI_nat (j := 1) rfl, ?_⟩
    refine ⟨t, _, rfl, .inr (SqT.of ht), fun W nW => ?_⟩
    have sW := same_upd (o := .lst (qs.map V.ref)) nW
    have hU4 := f4 U _ Up Ul (f3 U _ Up Ul hU)
    have kb : (qs.map V.ref).length = LB.length := by rw [List.length_map, hL.1]
    have hle : ks.length + LB.length ≤ 20 := by omega
    refine ⟨U, W, _, _, rfl, rfl, sW _ _ hU4, upd_same, by rw [List.length_map, kb]; exact Nat.le_trans hle (by decide), fun q nq => ?_⟩
    have sq := same_upd (o := .lst ((ks.map fun e => V.ref e.1) ++ qs.map V.ref)) nq
    have s4 := sW.trans sq
    obtain ⟨ps, p1, p2, p3⟩ := offs_pairs (hL.same s4)
    have hq : upd (upd H4 W (.lst (qs.map V.ref))) q (.lst ((ks.map fun e => V.ref e.1) ++ qs.map V.ref)) q = some (.lst ((ks ++ ps).map fun e => V.ref e.1)) := by
      rw [upd_same, List.map_append, p1]
    have ft := f3.trans (f4.trans (Same.fr s4))
    have old : ∀ e ∈ ks, OffAt (upd (upd H4 W (.lst (qs.map V.ref))) q (.lst ((ks.map fun e => V.ref e.1) ++ qs.map V.ref))) e.1 e.2 := fun e he => ft.tup D2 (hk e he).1
    have hU5 := s4 _ _ hU4
    generalize upd (upd H4 W (.lst (qs.map V.ref))) q (.lst ((ks.map fun e => V.ref e.1) ++ qs.map V.ref)) = H5 at *
    refine set_offs (K := K) (P := P) (w := w) (k := k) (Q := fun y H2 => gName 5 y _ H2 _) hq (fun e he => ?_) k4 (by rw [List.length_append]; omega) fun H6 u us L s6 hu hL6 ok l64 mem => ?_
    · rcases List.mem_append.mp he with he | he
      · exact ⟨old e he, (hk e he).2⟩
      · exact ⟨(p3 e he).1, okB _ (p3 e he).2⟩
    have fa := f2.trans (ft.trans (Same.fr s6))
    have ks6 : ∀ e ∈ ks, OffAt H6 e.1 e.2 := fun e he => s6 _ _ (old e he)
    have D6 := (D4.same s4).same s6
    have hU6 := s6 _ _ hU5
    have mem : ∀ e ∈ ks, e.2 ∈ L := fun e he => mem e (List.mem_append_left _ he)
    refine ⟨_, rfl, _, rfl, u, _, rfl, .inl ⟨SqL.of hu, fun t1 nt1 => ⟨(by show 2 ≤ sizeLine; decide), fun d1 nd1 => ?_⟩⟩⟩
    have sa := (same_upd (o := .tup (us.map V.ref)) nt1)
    have sb := sa.trans (same_upd (o := .tup [.int (k : Int), .ref t1]) nd1)
    have ht1 : upd (upd H6 t1 (.tup (us.map V.ref))) d1 (.tup [.int (k : Int), .ref t1]) t1 = some (.tup (us.map V.ref)) := same_upd (o := .tup [.int (k : Int), .ref t1]) nd1 _ _ upd_same
    have hd1 : upd (upd H6 t1 (.tup (us.map V.ref))) d1 (.tup [.int (k : Int), .ref t1]) d1 = some (.tup [.int (k : Int), .ref t1]) := upd_same
    refine ⟨_, rfl, U, rfl, ⟨_, SqL.of (sb _ _ hU6)⟩, fun R nR => ?_⟩
    refine lc_mL (fun j => .int ((ixOf L (ks.getD j (0, of0)).2 : Nat) : Int)) (sb _ _ hU6) nR (by rw [List.length_map]; omega) ?_ gName_mono ?_
    · intro j x H' hx s' R' hR
      obtain ⟨e, he, rfl⟩ : ∃ e, ks[j]? = some e ∧ V.ref e.1 = x := by
        rw [List.getElem?_map] at hx
        cases z : ks[j]? with
        | none => rw [z] at hx; cases hx
        | some e => rw [z] at hx; exact ⟨e, rfl, Option.some.inj hx⟩
      have me := List.mem_of_getElem? he
      obtain ⟨_, z, h1, h2, h3⟩ := ixOf_ok (mem e me)
      have eg : ks.getD j (0, of0) = e := by rw [List.getD_eq_getElem?_getD, he]; rfl
      have hR := hR H' (Same.refl _)
      rw [eg] at hR
      exact ⟨rfl, _, rfl, .inl ⟨rfl, _, SqL.of ((sb.trans s') _ _ hu)⟩, _, rfl, u, _, ofD e.2, L.map ofD, ixOf L e.2, z, rfl, rfl, .lst (SqL.of ((sb.trans s') _ _ hu)) (dp_offs (hL6.same (sb.trans s'))), dp_off ((sb.trans s') _ _ (ks6 e me)), ofDs_shaped L, ofD_shaped _, h1, h2, h3, hR⟩
    intro H9 s9 hR
    rw [List.length_map, map_rng (fun e => V.int ((ixOf L e.2 : Nat) : Int)) ks (0, of0) _ (fun j d e => by rw [List.getD_eq_getElem?_getD, e]; rfl)] at hR
    refine ⟨R, _, rfl, .inl ⟨SqL.of hR, fun r nr => ⟨(by show 2 ≤ sizeLine; decide), fun b nb => ?_⟩⟩⟩
    have sc := (same_upd (o := .tup (ks.map fun e => V.int ((ixOf L e.2 : Nat) : Int))) nr).trans (same_upd (o := .tup [.ref d1, .ref r]) nb)
    have sd := sb.trans (s9.trans sc)
    refine kk _ b d1 r L (ks.map fun e => ixOf L e.2) n4 (fa.trans (Same.fr sd)) (D6.same sd) (by omega) (by omega) upd_same ⟨t1, us, sc _ _ (s9 _ _ hd1), sc _ _ (s9 _ _ ht1), hL6.same sd⟩ ok (by omega) ?_ (by rw [List.length_map, kl]) fun i hi => ?_
    · rw [upd_ne (ne_of_none upd_same nb), upd_same, List.map_map, List.map_map]
      rfl
    · obtain ⟨e, he, rfl⟩ := List.mem_map.mp hi
      exact (ixOf_ok (mem e he)).1
end
end Sm

set_option Elab.async false
set_option linter.all false
set_option maxRecDepth 100000
set_option maxHeartbeats 8000000
namespace Sm
open PySem PySem.Spec PyProof.Rows L2
open C8 (pss_cut tCut)
/-- a comprehension over a range whose items are drawn whole numbers -/
theorem lc_rd {lo : Int} {n : Nat} {g : TG} {te : TE} {vs : List Nat} {σ : L2.St} {H : Hp} {D p l : Addr} {n0 c : Int} {Qd : Hp → Prop} (G : Int → Prop) (D0 : Deck H p l n0) (nD : H D = none) (ln : n ≤ 20000) (c0 : 0 ≤ c)
    (hs : ∀ i H' n', i < n → Fr p l H H' → Deck H' p l n' → n0 ≤ n' → n' ≤ n0 + c * (i : Int) → ∀ R : VK, (∀ H4 x n4, Fr p l H' H4 → Deck H4 p l n4 → n' ≤ n4 → n4 ≤ n' + c → G x → R (.int x) H4) → g (.int (lo + i)) (wipe σ vs) H' fun σ2 H2 => wipe σ2 vs = wipe σ vs ∧ te σ2 H2 R)
    (mono : ∀ x H' (A B : L2.St → Hp → Prop), (∀ σ2 H2, A σ2 H2 → B σ2 H2) → g x (wipe σ vs) H' A → g x (wipe σ vs) H' B)
    (hd : ∀ H' (n' : Int) (xs : List Int), Fr p l H H' → Deck H' p l n' → n0 ≤ n' → n' ≤ n0 + c * (n : Int) → xs.length = n → (∀ x ∈ xs, G x) → H' D = some (.lst (xs.map V.int)) → Qd H') :
    ∃ W : Nat → Nat → Hp → Prop, (∃ m, W 0 m (upd H D (.lst []))) ∧ ∀ i m H, W i m H → ((Itr lo n).stop i H ∧ Qd H) ∨ ((Itr lo n).go i H ∧ ∃ Nx : Hp → Prop, (∀ H', Nx H' → ∃ m', m' < m ∧ W (i + 1) m' H') ∧ ∀ x H', (Itr lo n).yld i H x H' → g x (wipe σ vs) H' fun σ2 H2 => wipe σ2 vs = wipe σ vs ∧ tYes σ2 H2 fun b H3 =>
        if b = true then te σ2 H3 fun y H4 => ∃ acc, H4 D = some (.lst acc) ∧ acc.length < sizeLine ∧ Nx (upd H4 D (.lst (acc ++ [y]))) else Nx H3) := by
  obtain ⟨Dp, Dl⟩ := D0.lne nD
  refine lc_range (fun i H' => ∃ (n' : Int) (xs : List Int), Fr p l H H' ∧ Deck H' p l n' ∧ n0 ≤ n' ∧ n' ≤ n0 + c * (i : Int) ∧ xs.length = i ∧ (∀ x ∈ xs, G x) ∧ H' D = some (.lst (xs.map V.int))) ?_ ?_ ?_
  · exact ⟨n0, [], Same.fr (same_upd nD), D0.same (same_upd nD), by omega, by simp, rfl, fun x hx => (nomatch hx), upd_same⟩
  · rintro i H' il ⟨n', xs, f, D1, a0, a1, xl, xg, hD⟩
    refine mono _ H' _ _ ?_ (hs i H' n' il f D1 a0 a1 (fun y H4 => ∃ acc, H4 D = some (.lst acc) ∧ acc.length < sizeLine ∧ ∃ (n' : Int) (xs : List Int), Fr p l H (upd H4 D (.lst (acc ++ [y]))) ∧ Deck (upd H4 D (.lst (acc ++ [y]))) p l n' ∧ n0 ≤ n' ∧ n' ≤ n0 + c * ((i + 1 : Nat) : Int) ∧ xs.length = i + 1 ∧ (∀ x ∈ xs, G x) ∧ upd H4 D (.lst (acc ++ [y])) D = some (.lst (xs.map V.int))) fun H4 x n4 f4 D4 b0 b1 gx => ?_)
    · rintro σ2 H2 ⟨e, h⟩
      refine ⟨e, ?_⟩
      unfold tYes
      exact iteT h
    · refine ⟨_, f4 _ _ Dp Dl hD, ?_, n4, xs ++ [x], ?_, ⟨by rw [upd_ne Dp.symm]; exact D4.hp, ?_⟩, by omega, ?_, ?_, ?_, ?_⟩
      · rw [List.length_map, xl]
        exact Nat.lt_of_le_of_lt (show i ≤ 20000 by omega) (by decide)
      · intro b o h1 h2 hb
        rw [upd_ne (ne_of_none hb nD)]
        exact f4 b o h1 h2 (f b o h1 h2 hb)
      · obtain ⟨cells, q1, q2⟩ := D4.hl
        exact ⟨cells, by rw [upd_ne Dl.symm]; exact q1, q2⟩
      · have : c * ((i + 1 : Nat) : Int) = c * (i : Int) + c := by rw [Int.natCast_add, Int.mul_add, show ((1 : Nat) : Int) = 1 from rfl, Int.mul_one]
        omega
      · rw [List.length_append, List.length_singleton, xl]
      · intro z hz
        rcases List.mem_append.mp hz with hz | hz
        · exact xg z hz
        · rw [List.mem_singleton.mp hz]
          exact gx
      · rw [upd_same, List.map_append]
        rfl
  · rintro H' ⟨n', xs, f, D1, a0, a1, xl, xg, hD⟩
    exact hd H' n' xs f D1 a0 a1 xl xg hD
theorem small_log {j : Int} (h0 : 0 < j) (h1 : j ≤ 8000) : CDivW 0 j := ⟨h0, Nat.lt_of_le_of_lt (Nat.log2_le_self _) (by omega)⟩
theorem chain_0 {y u : Int} {σ : L2.St} {H : Hp} {Q : VK} (h1 : σ[10]? = some (some (.int y))) (h2 : σ[3]? = some (some (.int u))) (h : Q (.bl (decide (0 ≤ y) && decide (y ≤ u))) H) :
    tChain (rI0 fun i j => V.bl (decide (i ≤ j))) (rI0 fun i j => V.bl (decide (i ≤ j))) (tC (.int 0)) (tVar 10) (tVar 3) σ H Q := by
  refine ⟨_, h1, _, _, rfl, rfl, _, rfl, ?_⟩
  by_cases c : 0 ≤ y
  · rw [decide_eq_true c] at h ⊢
    exact iteT ⟨_, h2, _, _, rfl, rfl, h⟩
  · rw [decide_eq_false c] at h ⊢
    exact iteF h
theorem by_two {c d : Prop} [Decidable c] [Decidable d] {p q : Prop} (h1 : c → d → p) (h2 : q) : if (decide c && decide d) = true then p else q := by
  by_cases hc : c
  · by_cases hd : d
    · rw [decide_eq_true hc, decide_eq_true hd]
      exact iteT (h1 hc hd)
    · rw [decide_eq_false hd, Bool.and_false]
      exact iteF h2
  · rw [decide_eq_false hc]
    exact iteF h2
/-- the offers found so far, prices in R -/
def FW (p l U R : Addr) (k : Nat) (many upto n : Int) (prs : List Int) (H : Hp) (i : Nat) (σ : L2.St) (H' : Hp) : Prop := ∃ (n' : Int) (ks : List (Addr × Of)) (v6 v7 v8 v9 v10 v11 : Option V), σ = [some (.ref p), some (.int (k : Int)), some (.int many), some (.int upto), some (.ref R), some (.ref U), v6, v7, v8, v9, v10, v11] ∧ Deck H' p l n' ∧ n ≤ n' ∧ n' ≤ n + 4 * (i : Int) ∧ Fr p l H H' ∧
      H' R = some (.lst (prs.map V.int)) ∧ H' U = some (.lst (ks.map fun e => V.ref e.1)) ∧ ks.length ≤ i ∧ ∀ e ∈ ks, OffAt H' e.1 e.2 ∧ OfOk k e.2
def sp_l_fair (_ : PySem.W.Frag) : Sp := fun vs H Q _ => ∃ (p l : Addr) (n : Int) (k : Nat) (many upto : Int), vs = [.ref p, .int (k : Int), .int many, .int upto] ∧ Deck H p l n ∧ 0 ≤ n ∧ n ≤ 800000 ∧ 2 ≤ k ∧ k ≤ 4 ∧ 0 ≤ many ∧ many ≤ 40 ∧ 1 ≤ upto ∧ upto ≤ 30 ∧
  ∀ H' d L n', Fr p l H H' → Deck H' p l n' → n ≤ n' → n' ≤ n + 300 → BoardAt H' d k L → (∀ o ∈ L, OfOk k o) → (L.length : Int) ≤ 63 → Q (.ref d) H'
section
variable {P : Program} {w : World} {K : PySem.W.Frag} {mg : Str → Option Value} {base : Heap}
abbrev s_l_fair : Stmt := topS 15
abbrev N_l_fair : List Str := ["_law_deck_here", "_law_kinds", "_law_many", "_law_upto", "_law_prices_here", "_law_found", "_law_turn", "_law_a", "_law_b", "_law_x", "_law_y", "_law_kind"]
theorem sc_l_fair : FnScope N_l_fair ["_law_deck_here", "_law_kinds", "_law_many", "_law_upto"] (defScope s_l_fair) := ⟨rfl, rfl, rfl, by decide +kernel, rfl, by decide +kernel, by decide +kernel⟩
theorem ok_l_fair (T : Txt mg) (D : Df K mg "_law_fair" s_l_fair ["_law_deck_here", "_law_kinds", "_law_many", "_law_upto"]) (C_l_draw : Cal P w K mg base "_law_draw" ["_law_deck_here", "_law_many"] 1 (sp_l_draw K)) : Cal P w K mg base "_law_fair" ["_law_deck_here", "_law_kinds", "_law_many", "_law_upto"] 2 (sp_l_fair K) := by
  obtain ⟨f_l_draw, fd_l_draw, G_l_draw, m_l_draw, k_l_draw, b_l_draw⟩ := C_l_draw
  refine D.cal sc_l_fair (fun vs H Q E h => ?_) (fun f cdv A outer s H vs Q E hr h => ?_)
  · obtain ⟨p, l, n, k, many, upto, rfl, _⟩ := h
    rfl
  obtain ⟨p, l, n, k, many, upto, rfl, D0, n0, n1, k2, k4, m0, m1, u0, u1, kk⟩ := h
  refine ⟨_, (pss_cons (ps_setLc (i := 4) (own := [("_law_kind", 11)]) (g := gName 11) (tt := tYes) rfl sc_l_fair.nd rfl rfl (sw_true rfl rfl rfl (by decide +kernel)) (pi_range1 (by rfl) T.n_range (pa_cons (pv 1) pa_nil)) (blkOk_by (own := [("_law_kind", 11)]) (N := N_l_fair) (sc := defScope s_l_fair) (by decide +kernel)) (fun _ _ _ _ _ => pg_name (i := 11) sc_l_fair.nd rfl (Or.inl rfl)) (fun _ _ _ _ _ => pts_nil) (fun _ _ _ _ _ => (pe_op op_add pe_int (pe_call G_l_draw (hr.mono (by decide)) (by rfl) m_l_draw k_l_draw b_l_draw .nil pass0 (pa_cons (pv 0) (pa_cons pe_int pa_nil))))))
    (pss_cons (ps_set (i := 5) sc_l_fair.nd rfl (Or.inl rfl) (pe_lst pa_nil))
    (pss_cons (ps_for PassesOwn.never rfl (pi_range1 (by rfl) T.n_range (pa_cons (pv 2) pa_nil)) (pg_name (i := 6) sc_l_fair.nd rfl (Or.inl rfl))
      (pss_cons (ps_set (i := 7) sc_l_fair.nd rfl (Or.inl rfl) (pe_call G_l_draw (hr.mono (by decide)) (by rfl) m_l_draw k_l_draw b_l_draw .nil pass0 (pa_cons (pv 0) (pa_cons (pv 1) pa_nil))))
    (pss_cons (ps_set (i := 8) sc_l_fair.nd rfl (Or.inl rfl) (pe_op op_modN (pe_callTy call_int1 (by rfl) T.n_int (by decide +kernel) (pa_cons (pe_op op_add (pe_op op_add (pv 7) pe_int) (pe_call G_l_draw (hr.mono (by decide)) (by rfl) m_l_draw k_l_draw b_l_draw .nil pass0 (pa_cons (pv 0) (pa_cons (pe_op op_sub (pv 1) pe_int) pa_nil)))) pa_nil)) (pv 1)))
    (pss_cons (ps_set (i := 9) sc_l_fair.nd rfl (Or.inl rfl) (pe_op op_add pe_int (pe_call G_l_draw (hr.mono (by decide)) (by rfl) m_l_draw k_l_draw b_l_draw .nil pass0 (pa_cons (pv 0) (pa_cons (pv 3) pa_nil)))))
    (pss_cons (ps_set (i := 10) sc_l_fair.nd rfl (Or.inl rfl) (pe_op op_sub (pe_op op_fdivW (pe_op op_mul (pe_ix ix_list (pv 4) (pv 7) (fun _ _ => rfl)) (pv 9)) (pe_ix ix_list (pv 4) (pv 8) (fun _ _ => rfl))) (pe_ix ix_list (pe_lst (pa_cons pe_int (pa_cons pe_int (pa_cons pe_int (pa_cons pe_int (pa_cons pe_int pa_nil)))))) (pe_call G_l_draw (hr.mono (by decide)) (by rfl) m_l_draw k_l_draw b_l_draw .nil pass0 (pa_cons (pv 0) (pa_cons pe_int pa_nil))) (fun _ _ => rfl))))
    (pss_one (ps_if (pt_chain op_le op_le pe_int (pv 10) (pv 3)) (pss_one (ps_expr (pe_bm PySem.F.plainAttrs_list PySem.F.slot_list_append PySem.F.type_list_append mt_append (pv 5) (pa_cons (pe_tup (pa_cons (pv 7) (pa_cons (pv 9) (pa_cons (pv 8) (pa_cons (pv 10) pa_nil))))) pa_nil)))) pss_nil)))))))
    (pss_one (ps_ret (pe_tup (pa_cons (pv 1) (pa_cons (pe_callTy call_tuple_of (by rfl) T.n_tuple (by decide +kernel) (pa_cons (pe_callB (cr_sortedT rfl) (by rfl) T.n_sorted (by decide +kernel) (pa_cons (pe_callTy (cr_setOfT rfl hr.units) (by rfl) T.n_set (by decide +kernel) (pa_cons (pv 5) pa_nil)) pa_nil)) pa_nil)) pa_nil)))))))), ?_⟩
  refine ⟨_, rfl, (k : Int), rfl, by omega, by omega, fun R nR => ?_⟩
  obtain ⟨Rp, Rl⟩ := D0.lne nR
  refine lc_rd (c := 1) (fun x => 1 ≤ x ∧ x ≤ 6) D0 nR (by omega) (by omega) ?_ gName_mono ?_
  · intro i H' n' hi f D1 a0 a1 R' hR
    have hi : i < (k : Int).toNat := hi
    refine ⟨rfl, _, rfl, p, l, n', _, rfl, D1, by omega, by omega, by omega, by omega, fun rx H3 x0 x1 f3 D3 => ?_⟩
    exact ⟨_, _, rfl, rfl, hR H3 _ (n' + 1) f3 D3 (by omega) (by omega) (by omega)⟩
  intro H1 nA prs fA DA a0 a1 pl pg hR
  have pl : prs.length = k := by rw [pl]; show (k : Int).toNat = k; omega
  have a1 : nA ≤ n + 4 := by have : ((k : Int).toNat : Int) = k := by omega
                             omega
  refine ⟨(by show 0 ≤ sizeLine; decide), fun U nU => ?_⟩
  obtain ⟨Up, Ul⟩ := DA.lne nU
  have sU := same_upd (o := .lst []) nU
  have UR : U ≠ R := (ne_of_none hR nU).symm
  have hn : ∀ b o, H1 b = some o → b ≠ U := fun b o hb => ne_of_none hb nU
  refine ⟨_, rfl, many, rfl, by omega, by omega, ?_⟩
  refine for_range (lo := 0) (n := _) (FW p l U R k many upto nA prs H1)
    ⟨nA, [], _, _, _, _, _, _, rfl, DA.same sU, by omega, by omega, Same.fr sU, sU _ _ hR, upd_same, Nat.le_refl _, fun e he => nomatch he⟩ ?_ ?_
  · rintro i σ H2 hi ⟨n', ks, v6, v7, v8, v9, v10, v11, rfl, D2, m2, m3, f2, hR, hU, kl, hk⟩
    have hi : i < many.toNat := hi
    have hi : i < 40 := by omega
    refine ⟨_, rfl, _, rfl, p, l, n', _, rfl, D2, by omega, by omega, by omega, by omega, fun ra H3 a2 a3 f3 D3 => ?_⟩
    obtain ⟨ja, rfl⟩ : ∃ ja : Nat, ra = (ja : Int) := ⟨ra.toNat, by omega⟩
    refine ⟨_, rfl, _, _, rfl, rfl, _, rfl, _, rfl, _, _, rfl, rfl, p, l, n' + 1, _, rfl, D3, by omega, by omega, by omega, by omega, fun rb H4 b0 b1 f4 D4 => ?_⟩
    refine ⟨_, _, rfl, rfl, .inl ⟨_, rfl, _, rfl, _, _, rfl, rfl, (show (k : Int) ≠ 0 by omega), ?_⟩⟩
    have fm : (((ja : Int) + 1 + rb).fmod (k : Int)) = ((ja : Int) + 1 + rb) % (k : Int) := fmod_pos (by omega)
    have c0 : 0 ≤ (((ja : Int) + 1 + rb).fmod (k : Int)) := by rw [fm]; exact Int.emod_nonneg _ (by omega)
    have c1 : (((ja : Int) + 1 + rb).fmod (k : Int)) < (k : Int) := by rw [fm]; exact Int.emod_lt_of_pos _ (by omega)
    have cn : (((ja : Int) + 1 + rb).fmod (k : Int)) ≠ (ja : Int) := by
      rw [fm]
      obtain rfl | rfl | rfl : k = 2 ∨ k = 3 ∨ k = 4 := by omega
      · show ((ja : Int) + 1 + rb) % 2 ≠ (ja : Int)
        have b1 : rb < 2 - 1 := b1
        have a3 : (ja : Int) < 2 := a3
        omega
      · show ((ja : Int) + 1 + rb) % 3 ≠ (ja : Int)
        have b1 : rb < 3 - 1 := b1
        have a3 : (ja : Int) < 3 := a3
        omega
      · show ((ja : Int) + 1 + rb) % 4 ≠ (ja : Int)
        have b1 : rb < 4 - 1 := b1
        have a3 : (ja : Int) < 4 := a3
        omega
    refine ⟨_, rfl, _, rfl, p, l, n' + 1 + 1, _, rfl, D4, by omega, by omega, by omega, by omega, fun rx H5 x0 x1 f5 D5 => ?_⟩
    have f25 := f3.trans (f4.trans f5)
    have hR5 := f25 R _ Rp Rl hR
    have hU5 := f25 U _ Up Ul hU
    have g1 : (prs.map V.int)[ja]? = some (.int (prs.getD ja 0)) := get_int (by omega)
    have g2 : (prs.map V.int)[((((ja : Int) + 1 + rb).fmod (k : Int))).toNat]? = some (.int (prs.getD ((((ja : Int) + 1 + rb).fmod (k : Int))).toNat 0)) := get_int (by omega)
    have pgD : ∀ j, j < prs.length → 1 ≤ prs.getD j 0 ∧ prs.getD j 0 ≤ 6 := fun j hj => by
      rw [List.getD_eq_getElem?_getD, List.getElem?_eq_getElem hj]
      exact pg _ (List.getElem_mem hj)
    have p1 := pgD ja (by omega)
    have p2 := pgD ((((ja : Int) + 1 + rb).fmod (k : Int))).toNat (by omega)
    refine ⟨_, _, rfl, rfl, _, rfl, _, rfl, R, _, _, _, rfl, rfl, SqL.of hR5, atI_nat g1, _, rfl, _, _, rfl, rfl, .inl ⟨by omega, by omega⟩, ?_⟩
    refine ⟨_, rfl, _, rfl, R, _, _, _, rfl, rfl, SqL.of hR5, at_of (Int.toNat_of_nonneg c0).symm g2, _, _, rfl, rfl, small_log (by omega) (by omega), ?_⟩
    refine ⟨(by show 5 ≤ sizeLine; decide), fun W nW => ?_⟩
    have sW := same_upd (o := .lst (([0, 0, 0, 1, 2] : List Int).map V.int)) nW
    obtain ⟨Wp, Wl⟩ := D5.lne nW
    refine ⟨_, rfl, p, l, n' + 1 + 1 + 1, _, rfl, D5.same sW, by omega, by omega, by omega, by omega, fun rz H6 z0 z1 f6 D6 => ?_⟩
    have hW6 := f6 W _ Wp Wl (show upd H5 W (.lst (([0, 0, 0, 1, 2] : List Int).map V.int)) W = _ from upd_same)
    have g3 : (([0, 0, 0, 1, 2] : List Int).map V.int)[rz.toNat]? = some (.int (([0, 0, 0, 1, 2] : List Int).getD rz.toNat 0)) := get_int (by show rz.toNat < 5; omega)
    refine ⟨W, _, _, _, rfl, rfl, SqL.of hW6, at_of (Int.toNat_of_nonneg z0).symm g3, _, _, rfl, rfl, ?_⟩
    have ff := f25.trans ((Same.fr sW).trans f6)
    have hR6 := ff R _ Rp Rl hR
    have hU6 := ff U _ Up Ul hU
    have nextW : ∀ (H7 : Hp) (n'' : Int) (ks' : List (Addr × Of)) (v6 v7 v8 v9 v10 v11 : Option V), Deck H7 p l n'' → n' ≤ n'' → n'' ≤ n' + 4 → Fr p l H1 H7 → H7 R = some (.lst (prs.map V.int)) → H7 U = some (.lst (ks'.map fun e => V.ref e.1)) → ks'.length ≤ i + 1 → (∀ e ∈ ks', OffAt H7 e.1 e.2 ∧ OfOk k e.2) →
        FW p l U R k many upto nA prs H1 (i + 1) [some (.ref p), some (.int (k : Int)), some (.int many), some (.int upto), some (.ref R), some (.ref U), v6, v7, v8, v9, v10, v11] H7 :=
      fun H7 n'' ks' v6 v7 v8 v9 v10 v11 D7 q0 q1 f7 hR7 hU7 kl' hk' => ⟨n'', ks', v6, v7, v8, v9, v10, v11, rfl, D7, by omega, by omega, f7, hR7, hU7, kl', hk'⟩
    refine chain_0 rfl rfl ⟨_, rfl, ?_⟩
    refine by_two (fun y0 y1 => ?_) ?_
    · refine ⟨_, rfl, .inl ⟨rfl, _, SqL.of hU6⟩, _, rfl, _, rfl, _, rfl, _, rfl, (by show 4 ≤ sizeLine; decide), fun t nt => ?_⟩
      have y0 : 0 ≤ (prs.getD ja 0 * (1 + rx) / prs.getD (((ja : Int) + 1 + rb).fmod (k : Int)).toNat 0 - ([0, 0, 0, 1, 2] : List Int).getD rz.toNat 0) := y0
      have y1 : (prs.getD ja 0 * (1 + rx) / prs.getD (((ja : Int) + 1 + rb).fmod (k : Int)).toNat 0 - ([0, 0, 0, 1, 2] : List Int).getD rz.toNat 0) ≤ upto := y1
      have st := same_upd (o := .tup [.int (ja : Int), .int (1 + rx), .int (((ja : Int) + 1 + rb).fmod (k : Int)), .int (prs.getD ja 0 * (1 + rx) / prs.getD (((ja : Int) + 1 + rb).fmod (k : Int)).toNat 0 - ([0, 0, 0, 1, 2] : List Int).getD rz.toNat 0)]) nt
      have neU : ∀ b xs, upd H6 t (.tup [.int (ja : Int), .int (1 + rx), .int (((ja : Int) + 1 + rb).fmod (k : Int)), .int (prs.getD ja 0 * (1 + rx) / prs.getD (((ja : Int) + 1 + rb).fmod (k : Int)).toNat 0 - ([0, 0, 0, 1, 2] : List Int).getD rz.toNat 0)]) b = some (.tup xs) → b ≠ U := fun b xs hb => ne_of hb (st _ _ hU6) (by intro q; cases q)
      refine ⟨U, _, _, rfl, rfl, st _ _ hU6, ?_, ?_⟩
      · rw [List.length_map]
        exact Nat.lt_of_le_of_lt (show ks.length ≤ 40 by omega) (by decide)
      refine nextW _ (n' + 1 + 1 + 1 + 1) (ks ++ [(t, ⟨ja, 1 + rx, (((ja : Int) + 1 + rb).fmod (k : Int)).toNat, (prs.getD ja 0 * (1 + rx) / prs.getD (((ja : Int) + 1 + rb).fmod (k : Int)).toNat 0 - ([0, 0, 0, 1, 2] : List Int).getD rz.toNat 0)⟩)]) _ _ _ _ _ _ ⟨by rw [upd_ne Up.symm]; exact (D6.same st).hp, ?_⟩ (by omega) (by omega) ?_ ?_ ?_ ?_ ?_
      · obtain ⟨cells, q1, q2⟩ := (D6.same st).hl
        exact ⟨cells, by rw [upd_ne Ul.symm]; exact q1, q2⟩
      · intro b o h1 h2 hb
        rw [upd_ne (hn b o hb)]
        exact st _ _ (ff b o h1 h2 (f2 b o h1 h2 hb))
      · rw [upd_ne UR.symm]
        exact st _ _ hR6
      · rw [upd_same, List.map_append]
        rfl
      · rw [List.length_append, List.length_singleton]
        omega
      · intro e he
        rcases List.mem_append.mp he with he | he
        · have h1 := st _ _ (ff.tup D2 (hk e he).1)
          refine ⟨?_, (hk e he).2⟩
          unfold OffAt
          rw [upd_ne (neU _ _ h1)]
          exact h1
        · rw [List.mem_singleton.mp he]
          refine ⟨?_, ⟨by show ja < k; omega, by show (((ja : Int) + 1 + rb).fmod (k : Int)).toNat < k; omega, by show ja ≠ (((ja : Int) + 1 + rb).fmod (k : Int)).toNat; omega, by show 1 ≤ 1 + rx; omega, by show 1 + rx ≤ 30; omega, y0, by show (prs.getD ja 0 * (1 + rx) / prs.getD (((ja : Int) + 1 + rb).fmod (k : Int)).toNat 0 - ([0, 0, 0, 1, 2] : List Int).getD rz.toNat 0) ≤ 30; omega⟩⟩
          unfold OffAt
          rw [upd_ne (neU _ _ upd_same), upd_same]
          show some (HO.tup [.int (ja : Int), .int (1 + rx), .int (((ja : Int) + 1 + rb).fmod (k : Int)), .int (prs.getD ja 0 * (1 + rx) / prs.getD (((ja : Int) + 1 + rb).fmod (k : Int)).toNat 0 - ([0, 0, 0, 1, 2] : List Int).getD rz.toNat 0)]) = some (.tup [.int (ja : Int), .int (1 + rx), .int ((((ja : Int) + 1 + rb).fmod (k : Int)).toNat : Int), .int (prs.getD ja 0 * (1 + rx) / prs.getD (((ja : Int) + 1 + rb).fmod (k : Int)).toNat 0 - ([0, 0, 0, 1, 2] : List Int).getD rz.toNat 0)])
          rw [Int.toNat_of_nonneg c0]
    · exact nextW H6 (n' + 1 + 1 + 1 + 1) ks _ _ _ _ _ _ D6 (by omega) (by omega) (f2.trans ff) hR6 hU6 (by omega) fun e he => ⟨ff.tup D2 (hk e he).1, (hk e he).2⟩
  · rintro σ H2 ⟨n', ks, v6, v7, v8, v9, v10, v11, rfl, D2, m2, m3, f2, hR, hU, kl, hk⟩
    have kl : ks.length ≤ 40 := by
      have : many.toNat ≤ 40 := by omega
      exact Nat.le_trans kl this
    refine ⟨_, rfl, _, rfl, ?_⟩
    refine set_board (K := K) (P := P) (w := w) (Q := fun v H1 => [V.int (k : Int), v].length ≤ sizeLine ∧ ∀ p, H1 p = none → Q (.ref p) (upd H1 p (.tup [.int (k : Int), v]))) hU hk k4 (by omega) fun H3 t qs L s3 ht hL ok l64 => ⟨(by show 2 ≤ sizeLine; decide), fun d nd => ?_⟩
    have sd := same_upd (o := .tup [.int (k : Int), .ref t]) nd
    have : (many.toNat : Int) ≤ 40 := by omega
    have m3 : n' ≤ nA + 4 * ((many.toNat : Nat) : Int) := m3
    exact kk _ d L n' (fA.trans (f2.trans (Same.fr (s3.trans sd)))) ((D2.same s3).same sd) (by omega) (by omega) ⟨t, qs, upd_same, sd _ _ ht, hL.same sd⟩ ok (by omega)
end
end Sm

set_option Elab.async false
set_option linter.all false
set_option maxRecDepth 100000
set_option maxHeartbeats 8000000
namespace Sm
open PySem PySem.Spec PyProof.Rows L2
open C8 (pss_cut tCut)
theorem by_one {c : Prop} [Decidable c] {p q : Prop} (h1 : c → p) (h2 : ¬c → q) : if decide c = true then p else q := by
  by_cases hc : c
  · rw [decide_eq_true hc]
    exact iteT (h1 hc)
  · rw [decide_eq_false hc]
    exact iteF (h2 hc)
def sp_l_some (_ : PySem.W.Frag) : Sp := fun vs H Q _ => ∃ (p l : Addr) (n t : Int), vs = [.ref p, .int t] ∧ Deck H p l n ∧ 0 ≤ n ∧ n ≤ 700000 ∧
  ∀ H' b d r k L (is : List Nat) n', Fr p l H H' → Deck H' p l n' → n ≤ n' → n' ≤ n + 400 → 2 ≤ k → k ≤ 4 → H' b = some (.tup [.ref d, .ref r]) → BoardAt H' d k L → (∀ o ∈ L, OfOk k o) → (L.length : Int) ≤ 63 → H' r = some (.tup ((is.map fun i : Nat => (i : Int)).map V.int)) → is.length ≤ 4 → (∀ i ∈ is, i < L.length) → Q (.ref b) H'
section
variable {P : Program} {w : World} {K : PySem.W.Frag} {mg : Str → Option Value} {base : Heap}
abbrev s_l_some : Stmt := topS 16
abbrev N_l_some : List Str := ["_law_deck_here", "_law_turn", "_law_kinds"]
theorem sc_l_some : FnScope N_l_some ["_law_deck_here", "_law_turn"] (defScope s_l_some) := ⟨rfl, rfl, rfl, by decide +kernel, rfl, by decide +kernel, by decide +kernel⟩
theorem ok_l_some (T : Txt mg) (D : Df K mg "_law_some" s_l_some ["_law_deck_here", "_law_turn"]) (C_l_fair : Cal P w K mg base "_law_fair" ["_law_deck_here", "_law_kinds", "_law_many", "_law_upto"] 2 (sp_l_fair K)) (C_l_draw : Cal P w K mg base "_law_draw" ["_law_deck_here", "_law_many"] 1 (sp_l_draw K)) (C_l_ring : Cal P w K mg base "_law_ring" ["_law_deck_here", "_law_kinds"] 3 (sp_l_ring K)) : Cal P w K mg base "_law_some" ["_law_deck_here", "_law_turn"] 4 (sp_l_some K) := by
  obtain ⟨f_l_fair, fd_l_fair, G_l_fair, m_l_fair, k_l_fair, b_l_fair⟩ := C_l_fair
  obtain ⟨f_l_draw, fd_l_draw, G_l_draw, m_l_draw, k_l_draw, b_l_draw⟩ := C_l_draw
  obtain ⟨f_l_ring, fd_l_ring, G_l_ring, m_l_ring, k_l_ring, b_l_ring⟩ := C_l_ring
  refine D.cal sc_l_some (fun vs H Q E h => ?_) (fun f cdv A outer s H vs Q E hr h => ?_)
  · obtain ⟨p, l, n, t, rfl, _⟩ := h
    rfl
  obtain ⟨p, l, n, t, rfl, D0, n0, n1, kk⟩ := h
  refine ⟨_, (pss_cons (ps_set (i := 2) sc_l_some.nd rfl (Or.inl rfl) (pe_op op_add pe_int (pe_call G_l_draw (hr.mono (by decide)) (by rfl) m_l_draw k_l_draw b_l_draw .nil pass0 (pa_cons (pv 0) (pa_cons pe_int pa_nil)))))
    (pss_cons (ps_if (pt_cmpR op_lt (pv 1) pe_int (nomark _)) (pss_one (ps_ret (pe_call G_l_ring (hr.mono (by decide)) (by rfl) m_l_ring k_l_ring b_l_ring .nil pass0 (pa_cons (pv 0) (pa_cons (pv 2) pa_nil))))) pss_nil)
    (pss_one (ps_ret (pe_tup (pa_cons (pe_call G_l_fair (hr.mono (by decide)) (by rfl) m_l_fair k_l_fair b_l_fair .nil pass0 (pa_cons (pv 0) (pa_cons (pv 2) (pa_cons (pe_op op_add pe_int (pe_call G_l_draw (hr.mono (by decide)) (by rfl) m_l_draw k_l_draw b_l_draw .nil pass0 (pa_cons (pv 0) (pa_cons pe_int pa_nil)))) (pa_cons (pe_ix ix_list (pe_lst (pa_cons pe_int (pa_cons pe_int (pa_cons pe_int pa_nil)))) (pe_call G_l_draw (hr.mono (by decide)) (by rfl) m_l_draw k_l_draw b_l_draw .nil pass0 (pa_cons (pv 0) (pa_cons pe_int pa_nil))) (fun _ _ => rfl)) pa_nil))))) (pa_cons (pe_tup pa_nil) pa_nil))))))), ?_⟩
  refine ⟨_, rfl, p, l, n, _, rfl, D0, by omega, by omega, by omega, by omega, fun rk H3 a0 a1 f3 D3 => ?_⟩
  refine ⟨_, _, rfl, rfl, ?_⟩
  obtain ⟨jk, rfl⟩ : ∃ jk : Nat, rk = (jk : Int) := ⟨rk.toNat, by omega⟩
  have ek : ∀ us : List V, V.int (2 + (jk : Int)) :: us = V.int ((2 + jk : Nat) : Int) :: us := fun us => by rw [Int.natCast_add]; rfl
  refine ⟨_, rfl, _, _, rfl, rfl, _, rfl, by_one (fun _ => ?_) (fun _ => ?_)⟩
  · refine ⟨_, rfl, _, rfl, p, l, n + 1, 2 + jk, congrArg (V.ref p :: ·) (ek []), D3, by omega, by omega, by omega, by omega, fun H4 b d r L is n4 f4 D4 e0 e1 hb hB ok lB hr il ix => ?_⟩
    exact kk H4 b d r (2 + jk) L is n4 (f3.trans f4) D4 (by omega) (by omega) (by omega) (by omega) hb hB ok lB hr (by omega) ix
  · refine ⟨_, rfl, _, rfl, _, rfl, p, l, n + 1, _, rfl, D3, by omega, by omega, by omega, by omega, fun rm H4 b0 b1 f4 D4 => ?_⟩
    refine ⟨_, _, rfl, rfl, (by show 3 ≤ sizeLine; decide), fun W nW => ?_⟩
    have sW := same_upd (o := .lst (([4, 9, 30] : List Int).map V.int)) nW
    obtain ⟨Wp, Wl⟩ := D4.lne nW
    refine ⟨_, rfl, p, l, n + 1 + 1, _, rfl, D4.same sW, by omega, by omega, by omega, by omega, fun rz H6 z0 z1 f6 D6 => ?_⟩
    have hW6 := f6 W _ Wp Wl (show upd H4 W (.lst (([4, 9, 30] : List Int).map V.int)) W = _ from upd_same)
    have z1 : rz.toNat < 3 := by omega
    have g3 : (([4, 9, 30] : List Int).map V.int)[rz.toNat]? = some (.int (([4, 9, 30] : List Int).getD rz.toNat 0)) := get_int z1
    have u01 : 1 ≤ ([4, 9, 30] : List Int).getD rz.toNat 0 ∧ ([4, 9, 30] : List Int).getD rz.toNat 0 ≤ 30 := by
      generalize rz.toNat = j at z1
      obtain rfl | rfl | rfl : j = 0 ∨ j = 1 ∨ j = 2 := by omega
      all_goals decide
    refine ⟨W, _, _, _, rfl, rfl, SqL.of hW6, at_of (Int.toNat_of_nonneg z0).symm g3, p, l, n + 1 + 1 + 1, 2 + jk, 2 + rm, _, congrArg (V.ref p :: ·) (ek _), D6, by omega, by omega, by omega, by omega, by omega, by omega, u01.1, u01.2, fun H7 d L n7 f7 D7 e0 e1 hB ok lB => ?_⟩
    refine ⟨(by show 0 ≤ sizeLine; decide), fun r nr => ⟨(by show 2 ≤ sizeLine; decide), fun b nb => ?_⟩⟩
    have sr := same_upd (o := .tup []) nr
    have sb := same_upd (o := .tup [.ref d, .ref r]) nb
    exact kk _ b d r (2 + jk) L [] n7 (f3.trans (f4.trans ((Same.fr sW).trans (f6.trans (f7.trans (Same.fr (sr.trans sb))))))) (D7.same (sr.trans sb)) (by omega) (by omega) (by omega) (by omega) upd_same (hB.same (sr.trans sb)) ok lB (sb _ _ upd_same) (by show 0 ≤ 4; decide) (fun i hi => nomatch hi)
end
end Sm

set_option Elab.async false
set_option linter.all false
set_option maxRecDepth 100000
set_option maxHeartbeats 8000000
namespace Sm
open PySem PySem.Spec PyProof.Rows L2
open C8 (pss_cut tCut)
/-- None or a fraction -/
def FrV (B : Nat) (H : Hp) (v : V) : Prop := v = .non ∨ ∃ (q : Addr) (a b : Nat), v = .ref q ∧ H q = some (.tup [.int (a : Int), .int (b : Int)]) ∧ 1 ≤ a ∧ a ≤ B ∧ 1 ≤ b ∧ b ≤ B
theorem FrV.same {B : Nat} {H H' : Hp} {v : V} (h : FrV B H v) (s : Same H H') : FrV B H' v := by
  rcases h with h | ⟨q, a, b, e, h, r⟩
  · exact .inl h
  · exact .inr ⟨q, a, b, e, s _ _ h, r⟩
theorem FrV.up {B C : Nat} {H : Hp} {v : V} (h : FrV B H v) (c : B ≤ C) : FrV C H v := by
  rcases h with h | ⟨q, a, b, e, h, h1, h2, h3, h4⟩
  · exact .inl h
  · exact .inr ⟨q, a, b, e, h, h1, Nat.le_trans h2 c, h3, Nat.le_trans h4 c⟩
theorem some_log {j : Nat} (h0 : 1 ≤ j) (h1 : j ≤ 2 ^ 64) (i : Int) : CDivW i (j : Int) := ⟨by omega, by
  have : ((j : Int).natAbs) = j := rfl
  rw [this]
  have := (Nat.log2_lt (n := j) (k := 65) (by omega)).mpr (by omega)
  omega⟩
def sp_l_frac (_ : PySem.W.Frag) : Sp := fun vs H Q _ => ∃ (a b : Nat), vs = [.int (a : Int), .int (b : Int)] ∧ 1 ≤ a ∧ 1 ≤ b ∧ a ≤ 2 ^ 64 ∧ b ≤ 2 ^ 64 ∧
  ∀ H' t (a' b' : Nat), Same H H' → H' t = some (.tup [.int (a' : Int), .int (b' : Int)]) → 1 ≤ a' → a' ≤ a → 1 ≤ b' → b' ≤ b → Q (.ref t) H'
def sp_l_more (_ : PySem.W.Frag) : Sp := fun vs H Q _ => ∃ (x y : V) (B : Nat), vs = [x, y] ∧ FrV B H x ∧ FrV B H y ∧ B ≤ 2 ^ 60 ∧ ∀ c : Bool, (c = true → x ≠ .non) → Q (.bl c) H
section
variable {P : Program} {w : World} {K : PySem.W.Frag} {mg : Str → Option Value} {base : Heap}
abbrev s_l_frac : Stmt := topS 22
abbrev N_l_frac : List Str := ["_law_num", "_law_den", "_law_by"]
theorem sc_l_frac : FnScope N_l_frac ["_law_num", "_law_den"] (defScope s_l_frac) := ⟨rfl, rfl, rfl, by decide +kernel, rfl, by decide +kernel, by decide +kernel⟩
theorem ok_l_frac (T : Txt mg) (D : Df K mg "_law_frac" s_l_frac ["_law_num", "_law_den"]) (C_l_gcd : Cal P w K mg base "_law_gcd" ["_law_one_here", "_law_other"] 1 (sp_l_gcd K)) : Cal P w K mg base "_law_frac" ["_law_num", "_law_den"] 2 (sp_l_frac K) := by
  obtain ⟨f_l_gcd, fd_l_gcd, G_l_gcd, m_l_gcd, k_l_gcd, b_l_gcd⟩ := C_l_gcd
  refine D.cal sc_l_frac (fun vs H Q E h => ?_) (fun f cdv A outer s H vs Q E hr h => ?_)
  · obtain ⟨a, b, rfl, _⟩ := h
    rfl
  obtain ⟨a, b, rfl, a0, b0, a1, b1, kk⟩ := h
  refine ⟨_, (pss_cons (ps_set (i := 2) sc_l_frac.nd rfl (Or.inl rfl) (pe_call G_l_gcd (hr.mono (by decide)) (by rfl) m_l_gcd k_l_gcd b_l_gcd .nil pass0 (pa_cons (pv 0) (pa_cons (pv 1) pa_nil))))
    (pss_one (ps_ret (pe_tup (pa_cons (pe_op op_fdivW (pv 0) (pv 2)) (pa_cons (pe_op op_fdivW (pv 1) (pv 2)) pa_nil)))))), ?_⟩
  refine ⟨_, rfl, _, rfl, a, b, rfl, ?_⟩
  have g0 : 1 ≤ Nat.gcd a b := Nat.gcd_pos_of_pos_left b a0
  have g1 : Nat.gcd a b ≤ a := Nat.le_of_dvd a0 (Nat.gcd_dvd_left a b)
  have g2 : Nat.gcd a b ≤ b := Nat.le_of_dvd b0 (Nat.gcd_dvd_right a b)
  refine ⟨_, rfl, _, rfl, _, _, rfl, rfl, some_log g0 (by omega) _, _, rfl, _, rfl, _, _, rfl, rfl, some_log g0 (by omega) _, (by show 2 ≤ sizeLine; decide), fun t nt => ?_⟩
  exact kk _ t (a / Nat.gcd a b) (b / Nat.gcd a b) (same_upd nt) upd_same (Nat.div_pos g1 g0) (Nat.div_le_self _ _) (Nat.div_pos g2 g0) (Nat.div_le_self _ _)
abbrev s_l_more : Stmt := topS 23
abbrev N_l_more : List Str := ["_law_one_here", "_law_other"]
theorem sc_l_more : FnScope N_l_more ["_law_one_here", "_law_other"] (defScope s_l_more) := ⟨rfl, rfl, rfl, by decide +kernel, rfl, by decide +kernel, by decide +kernel⟩
theorem ok_l_more (T : Txt mg) (D : Df K mg "_law_more" s_l_more ["_law_one_here", "_law_other"]) : Cal P w K mg base "_law_more" ["_law_one_here", "_law_other"] 1 (sp_l_more K) := by
  refine D.cal sc_l_more (fun vs H Q E h => ?_) (fun f cdv A outer s H vs Q E hr h => ?_)
  · obtain ⟨x, y, B, rfl, _⟩ := h
    rfl
  obtain ⟨x, y, B, rfl, hx, hy, hB, kk⟩ := h
  refine ⟨_, (pss_cons (ps_if (PW.pt (pw_or (pt_cmpR op_isN (pv 0) pe_non (nomark _)) (pw_or1 (pt_cmpR op_isN (pv 1) pe_non (nomark _))))) (pss_one (ps_ret (pe_and (pe_cmpR op_notN (pv 0) pe_non (nomark _)) (pe_one (pe_cmpR op_isN (pv 1) pe_non (nomark _)))))) pss_nil)
    (pss_one (ps_ret (pe_cmpR op_gt (pe_op op_mul (pe_ix ix_tup (pv 0) pe_int (fun _ _ => rfl)) (pe_ix ix_tup (pv 1) pe_int (fun _ _ => rfl))) (pe_op op_mul (pe_ix ix_tup (pv 1) pe_int (fun _ _ => rfl)) (pe_ix ix_tup (pv 0) pe_int (fun _ _ => rfl))) (nomark _))))), ?_⟩
  rcases hx with rfl | ⟨q, a, b, rfl, h, a0, a1, b0, b1⟩
  · refine ⟨_, rfl, rfl, _, rfl, iteT ?_⟩
    refine ⟨_, rfl, rfl, _, rfl, iteF ?_⟩
    exact kk false fun e => nomatch e
  rcases hy with rfl | ⟨q2, a2, b2, rfl, h2, a20, a21, b20, b21⟩
  · refine ⟨_, rfl, rfl, _, rfl, iteF ⟨_, rfl, rfl, _, rfl, iteT ?_⟩⟩
    refine ⟨_, rfl, rfl, _, rfl, iteT ⟨_, rfl, rfl, ?_⟩⟩
    exact kk _ fun _ e => nomatch e
  · refine ⟨_, rfl, rfl, _, rfl, iteF ⟨_, rfl, rfl, _, rfl, iteF ?_⟩⟩
    refine ⟨_, rfl, _, _, _, _, rfl, rfl, SqT.of h, atI_nat (j := 0) rfl, _, rfl, _, _, _, _, rfl, rfl, SqT.of h2, atI_nat (j := 1) rfl, _, _, rfl, rfl, .inl ⟨by omega, by omega⟩, ?_⟩
    refine ⟨_, rfl, _, _, _, _, rfl, rfl, SqT.of h2, atI_nat (j := 0) rfl, _, rfl, _, _, _, _, rfl, rfl, SqT.of h, atI_nat (j := 1) rfl, _, _, rfl, rfl, .inl ⟨by omega, by omega⟩, ?_⟩
    exact ⟨_, _, rfl, rfl, kk _ fun _ e => nomatch e⟩
end
end Sm

set_option Elab.async false
set_option linter.all false
set_option maxRecDepth 100000
set_option maxHeartbeats 8000000
namespace Sm
open PySem PySem.Spec PyProof.Rows L2
open C8 (pss_cut tCut)
theorem ixN_n {n j : Nat} (hj : j < n) : ixN n (j : Int) = some j := by
  unfold ixN
  rw [if_pos (by omega), if_pos (by omega)]
  rfl
def RowAt (H : Hp) (r : Addr) (k B : Nat) : Prop := ∃ xs : List V, H r = some (.lst xs) ∧ xs.length = k ∧ ∀ x ∈ xs, FrV B H x
def FoundAt (H : Hp) (f : Addr) (k B : Nat) : Prop := ∃ rs : List Addr, H f = some (.lst (rs.map V.ref)) ∧ rs.length = k ∧ ∀ r ∈ rs, RowAt H r k B
theorem RowAt.same {H H' : Hp} {r : Addr} {k B : Nat} (h : RowAt H r k B) (s : Same H H') : RowAt H' r k B := by
  obtain ⟨xs, e, l, a⟩ := h
  exact ⟨xs, s _ _ e, l, fun x hx => (a x hx).same s⟩
theorem FoundAt.same {H H' : Hp} {f : Addr} {k B : Nat} (h : FoundAt H f k B) (s : Same H H') : FoundAt H' f k B := by
  obtain ⟨xs, e, l, a⟩ := h
  exact ⟨xs, s _ _ e, l, fun x hx => (a x hx).same s⟩
theorem FoundAt.at {H : Hp} {f : Addr} {k B b : Nat} (h : FoundAt H f k B) (hb : b < k) : ∃ (rs : List Addr) (r : Addr), H f = some (.lst (rs.map V.ref)) ∧ (rs.map V.ref)[b]? = some (.ref r) ∧ RowAt H r k B := by
  obtain ⟨rs, e, l, a⟩ := h
  have hb : b < rs.length := by omega
  exact ⟨rs, rs[b], e, by rw [List.getElem?_map, List.getElem?_eq_getElem hb]; rfl, a _ (List.getElem_mem hb)⟩
theorem RowAt.at {H : Hp} {r : Addr} {k B b : Nat} (h : RowAt H r k B) (hb : b < k) : ∃ (xs : List V) (x : V), H r = some (.lst xs) ∧ xs.length = k ∧ xs[b]? = some x ∧ FrV B H x := by
  obtain ⟨xs, e, l, a⟩ := h
  have hb : b < xs.length := by omega
  exact ⟨xs, xs[b], e, l, List.getElem?_eq_getElem hb, a _ (List.getElem_mem hb)⟩
/-- a place of a row rewritten -/
theorem RowAt.put {H : Hp} {r : Addr} {k B j : Nat} {v : V} {xs : List V} (h : RowAt H r k B) (e : H r = some (.lst xs)) (hv : FrV B H v) : RowAt (upd H r (.lst (xs.set j v))) r k B := by
  obtain ⟨ys, e', l, a⟩ := h
  have ey : ys = xs := by
    rw [e] at e'
    injection (Option.some.inj e') with e'
    exact e'.symm
  subst ey
  have put : ∀ x, FrV B H x → FrV B (upd H r (.lst (ys.set j v))) x := fun x hx => by
    rcases hx with hx | ⟨q, a, b, e1, h1, r1⟩
    · exact .inl hx
    · exact .inr ⟨q, a, b, e1, by rw [upd_ne (ne_of h1 e (by intro q; cases q))]; exact h1, r1⟩
  refine ⟨ys.set j v, upd_same, by rw [List.length_set, l], fun x hx => ?_⟩
  rcases List.mem_or_eq_of_mem_set hx with hx | rfl
  · exact put _ (a _ hx)
  · exact put _ hv
def RV (d f R : Addr) (k u B : Nat) (H : Hp) (σ : L2.St) (H' : Hp) : Prop := ∃ v4 v5 v6 v7 v8 v9 : Option V, σ = [some (.ref d), some (.ref f), some (.int (u : Int)), some (.ref R), v4, v5, v6, v7, v8, v9] ∧ Same H H' ∧ RowAt H' R k (30 * B)
def RV2 (d f R : Addr) (k u B : Nat) (o : Of) (H : Hp) (σ : L2.St) (H' : Hp) : Prop := ∃ v8 v9 : Option V, σ = [some (.ref d), some (.ref f), some (.int (u : Int)), some (.ref R), some (.int (o.a : Int)), some (.int o.x), some (.int (o.b : Int)), some (.int o.y), v8, v9] ∧ Same H H' ∧ RowAt H' R k (30 * B)
def sp_l_row (_ : PySem.W.Frag) : Sp := fun vs H Q _ => ∃ (d f : Addr) (k u B : Nat) (L : List Of), vs = [.ref d, .ref f, .int (u : Int)] ∧ BoardAt H d k L ∧ (∀ o ∈ L, OfOk k o) ∧ FoundAt H f k B ∧ k ≤ 4 ∧ u < k ∧ L.length ≤ 63 ∧ 1 ≤ B ∧ B ≤ 100000 ∧
  ∀ H' r, Same H H' → H r = none → RowAt H' r k (30 * B) → Q (.ref r) H'
section
variable {P : Program} {w : World} {K : PySem.W.Frag} {mg : Str → Option Value} {base : Heap}
abbrev s_l_row : Stmt := topS 24
abbrev N_l_row : List Str := ["_law_board_here", "_law_found", "_law_u", "_law_row_here", "_law_a", "_law_x", "_law_b", "_law_y", "_law_v", "_law_here"]
theorem sc_l_row : FnScope N_l_row ["_law_board_here", "_law_found", "_law_u"] (defScope s_l_row) := ⟨rfl, rfl, rfl, by decide +kernel, rfl, by decide +kernel, by decide +kernel⟩
theorem ok_l_row (T : Txt mg) (D : Df K mg "_law_row" s_l_row ["_law_board_here", "_law_found", "_law_u"]) (C_l_more : Cal P w K mg base "_law_more" ["_law_one_here", "_law_other"] 1 (sp_l_more K)) (C_l_frac : Cal P w K mg base "_law_frac" ["_law_num", "_law_den"] 2 (sp_l_frac K)) : Cal P w K mg base "_law_row" ["_law_board_here", "_law_found", "_law_u"] 3 (sp_l_row K) := by
  obtain ⟨f_l_more, fd_l_more, G_l_more, m_l_more, k_l_more, b_l_more⟩ := C_l_more
  obtain ⟨f_l_frac, fd_l_frac, G_l_frac, m_l_frac, k_l_frac, b_l_frac⟩ := C_l_frac
  refine D.cal sc_l_row (fun vs H Q E h => ?_) (fun f cdv A outer s H vs Q E hr h => ?_)
  · obtain ⟨d, f, k, u, B, L, rfl, _⟩ := h
    rfl
  obtain ⟨d, f, k, u, B, L, rfl, hb, ok, hf, k4, uk, l63, B0, B1, kk⟩ := h
  obtain ⟨t, qs, hd, ht, hL⟩ := id hb
  obtain ⟨rs, hfr, rl, hrow⟩ := id hf
  refine ⟨_, (pss_cons (ps_set (i := 3) sc_l_row.nd rfl (Or.inl rfl) (pe_callTy call_list_of (by rfl) T.n_list (by decide +kernel) (pa_cons (pe_ix ix_list (pv 1) (pv 2) (fun _ _ => rfl)) pa_nil)))
    (pss_cons (ps_for PassesOwn.never rfl (pi_tup (pe_ix ix_tup (pv 0) pe_int (fun _ _ => rfl))) (pg_tup (by rfl) (pgs_cons (pg_name (i := 4) sc_l_row.nd rfl (Or.inl rfl)) (pgs_cons (pg_name (i := 5) sc_l_row.nd rfl (Or.inl rfl)) (pgs_cons (pg_name (i := 6) sc_l_row.nd rfl (Or.inl rfl)) (pgs_cons (pg_name (i := 7) sc_l_row.nd rfl (Or.inl rfl)) pgs_nil)))))
      (pss_one (ps_for PassesOwn.never rfl (pi_range1 (by rfl) T.n_range (pa_cons (pe_ix ix_tup (pv 0) pe_int (fun _ _ => rfl)) pa_nil)) (pg_name (i := 8) sc_l_row.nd rfl (Or.inl rfl))
      (pss_one (ps_if (PW.pt (pw_and (pt_cmpR op_eq (pv 4) (pv 2) (nomark _)) (pw_and (pt_cmpR op_gt (pv 7) pe_int (nomark _)) (pw_and1 (pt_cmpR op_notN (pe_ix ix_list (pe_ix ix_list (pv 1) (pv 6) (fun _ _ => rfl)) (pv 8) (fun _ _ => rfl)) pe_non (nomark _)))))) (pss_cons (ps_set (i := 9) sc_l_row.nd rfl (Or.inl rfl) (pe_call G_l_frac (hr.mono (by decide)) (by rfl) m_l_frac k_l_frac b_l_frac .nil pass0 (pa_cons (pe_op op_mul (pv 7) (pe_ix ix_tup (pe_ix ix_list (pe_ix ix_list (pv 1) (pv 6) (fun _ _ => rfl)) (pv 8) (fun _ _ => rfl)) pe_int (fun _ _ => rfl))) (pa_cons (pe_op op_mul (pv 5) (pe_ix ix_tup (pe_ix ix_list (pe_ix ix_list (pv 1) (pv 6) (fun _ _ => rfl)) (pv 8) (fun _ _ => rfl)) pe_int (fun _ _ => rfl))) pa_nil))))
    (pss_one (ps_if (pt_val (pe_call G_l_more (hr.mono (by decide)) (by rfl) m_l_more k_l_more b_l_more .nil pass0 (pa_cons (pv 9) (pa_cons (pe_ix ix_list (pv 3) (pv 8) (fun _ _ => rfl)) pa_nil)))) (pss_one (ps_asg (pv 9) (pg_sub (pv 3) (pv 8) set_list))) pss_nil))) pss_nil)))))
    (pss_one (ps_ret (pv 3))))), ?_⟩
  have e1 : (rs.map V.ref)[u]? = some (.ref (rs[u]'(by omega))) := by rw [List.getElem?_map, List.getElem?_eq_getElem (by omega)]; rfl
  obtain ⟨xs, hxs, xl, hx⟩ := hrow _ (List.getElem_mem (show u < rs.length by omega))
  refine ⟨_, rfl, _, rfl, f, _, _, _, rfl, rfl, SqL.of hfr, atI_nat e1, _, _, rfl, .inl (SqL.of hxs), fun R nR => ?_⟩
  have sR := same_upd (o := .lst xs) nR
  refine ⟨_, rfl, _, _, _, _, rfl, rfl, SqT.of (sR _ _ hd), atI_nat (j := 1) rfl, t, rfl, ⟨_, SqT.of (sR _ _ ht)⟩, ?_⟩
  have lq : (qs.map V.ref).length = L.length := by rw [List.length_map, hL.1]
  refine for_tup (K := K) (a := t) (xs := qs.map V.ref) (fun j σ H' => RV d f R k u B H σ H') ⟨none, none, none, none, none, none, rfl, sR, xs, upd_same, xl, fun x h => ((hx x h).up (by omega)).same sR⟩ (fun i σ H' _ h => by obtain ⟨_, _, _, _, _, _, _, s, _⟩ := h; exact SqT.of (s _ _ ht)) ?_ ?_
  · rintro j x σ H2 hj ⟨v4, v5, v6, v7, v8, v9, rfl, s2, hR2⟩
    have hjl : j < L.length := by
      have := (List.getElem?_eq_some_iff.mp hj).1
      rwa [lq] at this
    obtain ⟨q, c1, c2⟩ := (hL.same s2).at hjl
    rw [c1] at hj
    have ex2 : x = .ref q := (Option.some.inj hj).symm
    subst ex2
    have o := of_ok ok hjl
    generalize L.getD j of0 = oo at o c2
    refine ⟨q, _, rfl, SqT.of c2, rfl, _, _, rfl, _, _, rfl, _, _, rfl, _, _, rfl, rfl, ?_⟩
    refine ⟨_, rfl, _, _, _, _, rfl, rfl, SqT.of (s2 _ _ hd), atI_nat (j := 0) rfl, (k : Int), rfl, by omega, by omega, ?_⟩
    refine for_range (lo := 0) (n := _) (fun i σ H' => RV2 d f R k u B oo H σ H') ⟨_, _, rfl, s2, hR2⟩ ?_ ?_
    · rintro i σ H3 hi ⟨v8, v9, rfl, s3, hR3⟩
      have hi : i < (k : Int).toNat := hi
      have hi : i < k := by omega
      have oa := o.a
      have ob := o.b
      have ox0 := o.x0
      have ox1 := o.x1
      have oy0 := o.y0
      have oy1 := o.y1
      have ei : (0 : Int) + (i : Int) = (i : Int) := Int.zero_add _
      have skip : ∀ H4 v9, Same H H4 → RowAt H4 R k (30 * B) → RV2 d f R k u B oo H [some (.ref d), some (.ref f), some (.int (u : Int)), some (.ref R), some (.int (oo.a : Int)), some (.int oo.x), some (.int (oo.b : Int)), some (.int oo.y), some (.int (0 + (i : Int))), v9] H4 := fun H4 v9 s4 h4 => ⟨_, _, rfl, s4, h4⟩
      refine ⟨_, rfl, _, rfl, rfl, _, rfl, by_one (fun _ => ?_) (fun _ => iteF (skip H3 _ s3 hR3))⟩
      refine ⟨_, rfl, _, _, rfl, rfl, _, rfl, by_one (fun y0 => ?_) (fun _ => iteF (skip H3 _ s3 hR3))⟩
      obtain ⟨rs3, r3, f1, f2, f3⟩ := (hf.same s3).at ob
      obtain ⟨ys, y, g1, g2, g3, g4⟩ := f3.at hi
      refine ⟨_, rfl, _, rfl, f, _, _, _, rfl, rfl, SqL.of f1, atI_nat f2, _, rfl, r3, _, _, _, rfl, rfl, SqL.of g1, at_of ei g3, rfl, _, rfl, ?_⟩
      rcases g4 with rfl | ⟨z, a, b, rfl, hz, a0, a1, b0, b1⟩
      · exact iteF (skip H3 _ s3 hR3)
      obtain ⟨nx, hnx⟩ : ∃ nx : Nat, oo.x = nx := ⟨oo.x.toNat, by omega⟩
      obtain ⟨ny, hny⟩ : ∃ ny : Nat, oo.y = ny := ⟨oo.y.toNat, by omega⟩
      have m1 : ny * a ≤ 30 * B := Nat.mul_le_mul (by omega) a1
      have m2 : nx * b ≤ 30 * B := Nat.mul_le_mul (by omega) b1
      have m3 : 1 ≤ ny * a := Nat.mul_pos (show 0 < ny by omega) a0
      have m4 : 1 ≤ nx * b := Nat.mul_pos (show 0 < nx by omega) b0
      refine iteT ⟨_, rfl, _, rfl, _, rfl, f, _, _, _, rfl, rfl, SqL.of f1, atI_nat f2, _, rfl, r3, _, _, _, rfl, rfl, SqL.of g1, at_of ei g3, _, _, _, _, rfl, rfl, SqT.of hz, atI_nat (j := 0) rfl, _, _, rfl, rfl, .inl ⟨by omega, by omega⟩, ?_⟩
      refine ⟨_, rfl, _, rfl, _, rfl, f, _, _, _, rfl, rfl, SqL.of f1, atI_nat f2, _, rfl, r3, _, _, _, rfl, rfl, SqL.of g1, at_of ei g3, _, _, _, _, rfl, rfl, SqT.of hz, atI_nat (j := 1) rfl, _, _, rfl, rfl, .inl ⟨by omega, by omega⟩, ?_⟩
      refine ⟨ny * a, nx * b, by rw [hnx, hny, Int.natCast_mul, Int.natCast_mul]; rfl, m3, m4, by omega, by omega, fun H4 t4 a' b' s4 ht4 p1 p2 p3 p4 => ?_⟩
      have hR4 := hR3.same s4
      obtain ⟨zs, z2, k1, k2, k3, k5⟩ := hR4.at hi
      have fr : FrV (30 * B) H4 (.ref t4) := .inr ⟨t4, a', b', rfl, ht4, p1, by omega, p3, by omega⟩
      refine ⟨_, rfl, _, rfl, _, rfl, R, _, _, _, rfl, rfl, SqL.of k1, at_of ei k3, .ref t4, z2, 30 * B, rfl, fr, k5, by omega, fun c _ => ⟨_, rfl, ?_⟩⟩
      cases c with
      | false => exact iteF (skip H4 _ (s3.trans s4) hR4)
      | true =>
        refine iteT ⟨_, rfl, _, rfl, _, rfl, R, _, _, i, rfl, rfl, k1, ?_, skip _ _ ?_ (hR4.put k1 fr)⟩
        · rw [k2, ei]
          exact ixN_n hi
        · intro b o hb
          rw [upd_ne (ne_of_none hb nR)]
          exact (s3.trans s4) _ _ hb
    · rintro σ H3 ⟨v8, v9, rfl, s3, hR3⟩
      exact ⟨_, _, _, _, _, _, rfl, s3, hR3⟩
  · rintro σ H2 ⟨v4, v5, v6, v7, v8, v9, rfl, s2, hR2⟩
    exact ⟨_, rfl, kk H2 R s2 nR hR2⟩
end
end Sm

set_option Elab.async false
set_option linter.all false
set_option maxRecDepth 100000
set_option maxHeartbeats 8000000
namespace Sm
open PySem PySem.Spec PyProof.Rows L2
open C8 (pss_cut tCut)
theorem upd_self {H : Hp} {a : Addr} {o : HO} (h : H a = some o) : upd H a o = H := by
  funext b
  by_cases e : b = a
  · rw [e, upd_same, h]
  · rw [upd_ne e]
theorem upd_twice {H : Hp} {a : Addr} {o o' : HO} : upd (upd H a o) a o' = upd H a o' := by
  funext b
  by_cases e : b = a
  · rw [e, upd_same, upd_same]
  · rw [upd_ne e, upd_ne e, upd_ne e]
theorem Same.upds {H H' : Hp} {a : Addr} {o : HO} (s : Same H H') : Same (upd H a o) (upd H' a o) := fun b x h => by
  by_cases e : b = a
  · rw [e, upd_same] at h ⊢
    exact h
  · rw [upd_ne e] at h ⊢
    exact s _ _ h
/-- a comprehension over a range whose items have a property that stays -/
theorem lc_mG {lo : Int} {n : Nat} {g : TG} {te : TE} {vs : List Nat} {σ : L2.St} {H : Hp} {D : Addr} {Qd : Hp → Prop} (G : V → Hp → Prop) (Gs : ∀ v H H', G v H → Same H H' → G v H') (nD : H D = none) (ln : n ≤ 20000)
    (hs : ∀ i H', i < n → Same H H' → (∃ acc, H' D = some (.lst acc)) → ∀ R : VK, (∀ H4 y, Same H' H4 → (∀ ys, G y (upd H4 D (.lst ys))) → R y H4) → g (.int (lo + i)) (wipe σ vs) H' fun σ2 H2 => wipe σ2 vs = wipe σ vs ∧ te σ2 H2 R)
    (mono : ∀ x H' (A B : L2.St → Hp → Prop), (∀ σ2 H2, A σ2 H2 → B σ2 H2) → g x (wipe σ vs) H' A → g x (wipe σ vs) H' B)
    (hd : ∀ H' xs, Same H H' → xs.length = n → (∀ x ∈ xs, G x H') → H' D = some (.lst xs) → Qd H') :
    ∃ W : Nat → Nat → Hp → Prop, (∃ m, W 0 m (upd H D (.lst []))) ∧ ∀ i m H, W i m H → ((Itr lo n).stop i H ∧ Qd H) ∨ ((Itr lo n).go i H ∧ ∃ Nx : Hp → Prop, (∀ H', Nx H' → ∃ m', m' < m ∧ W (i + 1) m' H') ∧ ∀ x H', (Itr lo n).yld i H x H' → g x (wipe σ vs) H' fun σ2 H2 => wipe σ2 vs = wipe σ vs ∧ tYes σ2 H2 fun b H3 =>
        if b = true then te σ2 H3 fun y H4 => ∃ acc, H4 D = some (.lst acc) ∧ acc.length < sizeLine ∧ Nx (upd H4 D (.lst (acc ++ [y]))) else Nx H3) := by
  refine lc_range (fun i H' => ∃ xs : List V, Same H H' ∧ xs.length = i ∧ (∀ x ∈ xs, ∀ ys, G x (upd H' D (.lst ys))) ∧ H' D = some (.lst xs)) ⟨[], same_upd nD, rfl, fun x hx => (nomatch hx), upd_same⟩ ?_ ?_
  · rintro i H' il ⟨xs, s, xl, xg, hD⟩
    refine mono _ H' _ _ ?_ (hs i H' il s ⟨_, hD⟩ (fun y H4 => ∃ acc, H4 D = some (.lst acc) ∧ acc.length < sizeLine ∧ ∃ xs : List V, Same H (upd H4 D (.lst (acc ++ [y]))) ∧ xs.length = i + 1 ∧ (∀ x ∈ xs, ∀ ys, G x (upd (upd H4 D (.lst (acc ++ [y]))) D (.lst ys))) ∧ upd H4 D (.lst (acc ++ [y])) D = some (.lst xs)) fun H4 y s4 gy => ?_)
    · rintro σ2 H2 ⟨e, h⟩
      refine ⟨e, ?_⟩
      unfold tYes
      exact iteT h
    · refine ⟨xs, s4 _ _ hD, ?_, xs ++ [y], ?_, by rw [List.length_append, List.length_singleton, xl], fun x hx ys => ?_, upd_same⟩
      · rw [xl]
        exact Nat.lt_of_le_of_lt (show i ≤ 20000 by omega) (by decide)
      · intro b o hb
        rw [upd_ne (ne_of_none hb nD)]
        exact s4 _ _ (s _ _ hb)
      · rw [upd_twice]
        rcases List.mem_append.mp hx with hx | hx
        · exact Gs _ _ _ (xg x hx ys) (Same.upds s4)
        · rw [List.mem_singleton.mp hx]
          exact gy ys
  · rintro H' ⟨xs, s, xl, xg, hD⟩
    refine hd H' xs s xl (fun x hx => ?_) hD
    have := xg x hx xs
    rwa [upd_self hD] at this
theorem FrV.other {H : Hp} {D : Addr} {B : Nat} {x : V} {xs ys : List V} (hx : FrV B H x) (e : H D = some (.lst xs)) : FrV B (upd H D (.lst ys)) x := by
  rcases hx with hx | ⟨q, a, b, e1, h1, r1⟩
  · exact .inl hx
  · exact .inr ⟨q, a, b, e1, by rw [upd_ne (ne_of h1 e (by intro q; cases q))]; exact h1, r1⟩
theorem RowAt.other {H : Hp} {D r : Addr} {k B : Nat} {xs ys : List V} (h : RowAt H r k B) (ne : r ≠ D) (e : H D = some (.lst xs)) : RowAt (upd H D (.lst ys)) r k B := by
  obtain ⟨zs, e1, l, a⟩ := h
  exact ⟨zs, by rw [upd_ne ne]; exact e1, l, fun x hx => (a x hx).other e⟩
/-- the items of a list are rows -/
theorem rows_of {H : Hp} {k B : Nat} : ∀ {xs : List V}, (∀ x ∈ xs, ∃ r, x = .ref r ∧ RowAt H r k B) → ∃ rs : List Addr, xs = rs.map V.ref ∧ ∀ r ∈ rs, RowAt H r k B
  | [], _ => ⟨[], rfl, fun r hr => (nomatch hr)⟩
  | x :: xs, h => by
    obtain ⟨r, rfl, hr⟩ := h x (List.mem_cons_self ..)
    obtain ⟨rs, rfl, h2⟩ := rows_of (xs := xs) fun x hx => h x (List.mem_cons_of_mem _ hx)
    exact ⟨r :: rs, rfl, fun z hz => by
      rcases List.mem_cons.mp hz with rfl | hz
      · exact hr
      · exact h2 z hz⟩
def sp_l_walks (_ : PySem.W.Frag) : Sp := fun vs H Q _ => ∃ (d : Addr) (k : Nat) (L : List Of), vs = [.ref d] ∧ BoardAt H d k L ∧ (∀ o ∈ L, OfOk k o) ∧ 2 ≤ k ∧ k ≤ 4 ∧ L.length ≤ 63 ∧
  ∀ H' f, Same H H' → FoundAt H' f k 810000 → Q (.ref f) H'
section
variable {P : Program} {w : World} {K : PySem.W.Frag} {mg : Str → Option Value} {base : Heap}
abbrev s_l_walks : Stmt := topS 25
abbrev N_l_walks : List Str := ["_law_board_here", "_law_found", "_law_u", "_law_turn", "_law_v"]
theorem sc_l_walks : FnScope N_l_walks ["_law_board_here"] (defScope s_l_walks) := ⟨rfl, rfl, rfl, by decide +kernel, rfl, by decide +kernel, by decide +kernel⟩
theorem ok_l_walks (T : Txt mg) (D : Df K mg "_law_walks" s_l_walks ["_law_board_here"]) (C_l_row : Cal P w K mg base "_law_row" ["_law_board_here", "_law_found", "_law_u"] 3 (sp_l_row K)) : Cal P w K mg base "_law_walks" ["_law_board_here"] 4 (sp_l_walks K) := by
  obtain ⟨f_l_row, fd_l_row, G_l_row, m_l_row, k_l_row, b_l_row⟩ := C_l_row
  refine D.cal sc_l_walks (fun vs H Q E h => ?_) (fun f cdv A outer s H vs Q E hr h => ?_)
  · obtain ⟨d, k, L, rfl, _⟩ := h
    rfl
  obtain ⟨d, k, L, rfl, hb, ok, k2, k4, l63, kk⟩ := h
  obtain ⟨t, qs, hd, ht, hL⟩ := id hb
  refine ⟨_, (pss_cons (ps_set (i := 1) sc_l_walks.nd rfl (Or.inr rfl) (pe_lst pa_nil))
    (pss_cons (ps_for PassesOwn.never rfl (pi_range1 (by rfl) T.n_range (pa_cons (pe_ix ix_tup (pv 0) pe_int (fun _ _ => rfl)) pa_nil)) (pg_name (i := 2) sc_l_walks.nd rfl (Or.inr rfl))
      (pss_one (ps_expr (pe_bm PySem.F.plainAttrs_list PySem.F.slot_list_append PySem.F.type_list_append mt_append (pv 1) (pa_cons (pe_lc (own := [("_law_v", 4)]) (g := gName 4) (tt := tYes) rfl sc_l_walks.nd (pi_range1 (by rfl) T.n_range (pa_cons (pe_ix ix_tup (pv 0) pe_int (fun _ _ => rfl)) pa_nil)) (blkOk_by (own := [("_law_v", 4)]) (N := N_l_walks) (sc := defScope s_l_walks) (by decide +kernel)) (fun _ _ _ _ _ => pg_name (i := 4) sc_l_walks.nd rfl (Or.inl rfl)) (fun _ _ _ _ _ => pts_nil) (fun _ _ _ _ _ => (pe_ifExp (pt_cmpR op_eq (pv 2) (pv 4) (nomark _)) (pe_tup (pa_cons pe_int (pa_cons pe_int pa_nil))) pe_non))) pa_nil)))))
    (pss_cons (ps_for PassesOwn.never rfl (pi_range1 (by rfl) T.n_range (pa_cons (pe_ix ix_tup (pv 0) pe_int (fun _ _ => rfl)) pa_nil)) (pg_name (i := 3) sc_l_walks.nd rfl (Or.inl rfl))
      (pss_one (ps_set (i := 1) sc_l_walks.nd rfl (Or.inr rfl) (pe_lc (own := [("_law_u", 2)]) (g := gName 2) (tt := tYes) rfl sc_l_walks.nd (pi_range1 (by rfl) T.n_range (pa_cons (pe_ix ix_tup (pv 0) pe_int (fun _ _ => rfl)) pa_nil)) (blkOk_by (own := [("_law_u", 2)]) (N := N_l_walks) (sc := defScope s_l_walks) (by decide +kernel)) (fun _ _ _ _ _ => pg_name (i := 2) sc_l_walks.nd rfl (Or.inl rfl)) (fun _ _ _ _ _ => pts_nil) (fun _ _ _ _ _ => (pe_call G_l_row (hr.mono (by decide)) (by rfl) m_l_row k_l_row b_l_row .nil pass0 (pa_cons (pv 0) (pa_cons (pv 1) (pa_cons (pv 2) pa_nil)))))))))
    (pss_one (ps_ret (pv 1)))))), ?_⟩
  refine ⟨(by show 0 ≤ sizeLine; decide), fun U nU => ?_⟩
  have sU := same_upd (o := .lst []) nU
  refine ⟨_, rfl, _, _, _, _, rfl, rfl, SqT.of (sU _ _ hd), atI_nat (j := 0) rfl, (k : Int), rfl, by omega, by omega, ?_⟩
  have ek : (k : Int).toNat = k := by omega
  rw [ek]
  refine for_range (lo := 0) (n := k) (fun i σ H' => ∃ (rs : List Addr) (v2 v3 v4 : Option V), σ = [some (.ref d), some (.ref U), v2, v3, v4] ∧ Same H H' ∧ H' U = some (.lst (rs.map V.ref)) ∧ rs.length = i ∧ ∀ r ∈ rs, r ≠ U ∧ RowAt H' r k 1) ⟨[], _, _, _, rfl, sU, upd_same, rfl, fun r hr => nomatch hr⟩ ?_ ?_
  · rintro i σ H2 hi ⟨rs, v2, v3, v4, rfl, s2, hU, rl, hrs⟩
    refine ⟨_, rfl, .inl ⟨rfl, _, SqL.of hU⟩, ?_⟩
    refine ⟨_, rfl, _, _, _, _, rfl, rfl, SqT.of (s2 _ _ hd), atI_nat (j := 0) rfl, (k : Int), rfl, by omega, by omega, fun R nR => ?_⟩
    rw [ek]
    refine lc_mG (lo := 0) (n := k) (fun x H' => FrV 1 H' x) (fun v _ _ h s => h.same s) nR (by omega) ?_ gName_mono ?_
    · intro j H3 hj s3 hacc R' hR
      obtain ⟨acc, hacc⟩ := hacc
      refine ⟨rfl, _, rfl, _, rfl, rfl, _, rfl, by_one (fun _ => ?_) (fun _ => ?_)⟩
      · refine ⟨(by show 2 ≤ sizeLine; decide), fun q nq => hR _ _ (same_upd nq) fun ys => ?_⟩
        exact FrV.other (xs := acc) (.inr ⟨q, 1, 1, rfl, upd_same, by decide, by decide, by decide, by decide⟩) (same_upd nq _ _ hacc)
      · exact hR H3 _ (Same.refl _) fun ys => .inl rfl
    · intro H3 xs s3 xl xg hR
      have UR : R ≠ U := (ne_of_none hU nR).symm
      refine ⟨U, _, _, rfl, rfl, s3 _ _ hU, ?_, rs ++ [R], _, _, _, rfl, ?_, ?_, ?_, ?_⟩
      · rw [List.length_map, rl]
        exact Nat.lt_of_le_of_lt (show i ≤ 4 by omega) (by decide)
      · intro b o hb
        rw [upd_ne (ne_of_none hb nU)]
        exact s3 _ _ (s2 _ _ hb)
      · rw [upd_same, List.map_append]
        rfl
      · rw [List.length_append, List.length_singleton, rl]
      · intro r hr
        rcases List.mem_append.mp hr with hr | hr
        · exact ⟨(hrs r hr).1, ((hrs r hr).2.same s3).other (hrs r hr).1 (s3 _ _ hU)⟩
        · rw [List.mem_singleton.mp hr]
          exact ⟨UR, RowAt.other ⟨xs, hR, xl, xg⟩ UR (s3 _ _ hU)⟩
  rintro σ H2 ⟨rs, v2, v3, v4, rfl, s2, hU, rl, hrs⟩
  refine ⟨_, rfl, _, _, _, _, rfl, rfl, SqT.of (s2 _ _ hd), atI_nat (j := 0) rfl, (k : Int), rfl, by omega, by omega, ?_⟩
  rw [ek]
  have pw : ∀ i, i ≤ 3 → 1 ≤ 30 ^ i ∧ 30 ^ i ≤ 100000 := fun i hi => by
    obtain rfl | rfl | rfl | rfl : i = 0 ∨ i = 1 ∨ i = 2 ∨ i = 3 := by omega
    all_goals decide
  refine for_range (lo := 0) (n := k) (fun i σ H' => ∃ (f : Addr) (v2 v3 v4 : Option V), σ = [some (.ref d), some (.ref f), v2, v3, v4] ∧ Same H H' ∧ FoundAt H' f k (30 ^ i)) ⟨U, _, _, _, rfl, s2, rs, hU, rl, fun r hr => (hrs r hr).2⟩ ?_ ?_
  · rintro i σ H3 hi ⟨f, v2, v3, v4, rfl, s3, hf⟩
    have pi := pw i (by omega)
    refine ⟨_, rfl, _, _, _, _, rfl, rfl, SqT.of (s3 _ _ hd), atI_nat (j := 0) rfl, (k : Int), rfl, by omega, by omega, fun R nR => ?_⟩
    rw [ek]
    refine lc_mG (lo := 0) (n := k) (fun x H' => ∃ r, x = .ref r ∧ RowAt H' r k (30 * 30 ^ i)) (fun v _ _ h s => by obtain ⟨r, e, h⟩ := h; exact ⟨r, e, h.same s⟩) nR (by omega) ?_ gName_mono ?_
    · intro j H4 hj s4 hacc R' hR
      obtain ⟨acc, hacc⟩ := hacc
      have s34 := s3.trans s4
      refine ⟨rfl, _, rfl, _, rfl, _, rfl, d, f, k, j, 30 ^ i, L, ?_, hb.same s34, ok, hf.same s4, k4, hj, l63, pi.1, pi.2, fun H5 r s5 nr hr => ?_⟩
      · rw [Int.zero_add]
        rfl
      · exact hR H5 _ s5 fun ys => ⟨r, rfl, hr.other (ne_of_none hacc nr).symm (s5 _ _ hacc)⟩
    · intro H4 xs s4 xl xg hR
      obtain ⟨rs, rfl, hrs⟩ := rows_of xg
      exact ⟨R, _, _, _, rfl, s3.trans s4, rs, hR, by rwa [List.length_map] at xl, fun r hr => by rw [Nat.pow_succ, Nat.mul_comm]; exact hrs r hr⟩
  · rintro σ H3 ⟨f, v2, v3, v4, rfl, s3, hf⟩
    refine ⟨_, rfl, kk H3 f s3 ?_⟩
    have p4 : 30 ^ k ≤ 810000 := by
      obtain rfl | rfl | rfl : k = 2 ∨ k = 3 ∨ k = 4 := by omega
      all_goals decide
    obtain ⟨rs, e1, l1, a1⟩ := hf
    exact ⟨rs, e1, l1, fun r hr => by
      obtain ⟨xs, e2, l2, a2⟩ := a1 r hr
      exact ⟨xs, e2, l2, fun x hx => (a2 x hx).up p4⟩⟩
end
end Sm

set_option Elab.async false
set_option linter.all false
set_option maxRecDepth 100000
set_option maxHeartbeats 8000000
namespace Sm
open PySem PySem.Spec PyProof.Rows L2
open C8 (pss_cut tCut)
def FracAt (H : Hp) (q : Addr) (a b : Nat) : Prop := H q = some (.tup [.int (a : Int), .int (b : Int)]) ∧ 1 ≤ a ∧ a ≤ 810000 ∧ 1 ≤ b ∧ b ≤ 810000
theorem FracAt.same {H H' : Hp} {q : Addr} {a b : Nat} (h : FracAt H q a b) (s : Same H H') : FracAt H' q a b := ⟨s _ _ h.1, h.2⟩
theorem FracAt.other {H : Hp} {q D : Addr} {a b : Nat} {xs ys : List V} (h : FracAt H q a b) (e : H D = some (.lst xs)) : FracAt (upd H D (.lst ys)) q a b := ⟨by rw [upd_ne (ne_of h.1 e (by intro q; cases q))]; exact h.1, h.2⟩
theorem FracAt.v {H : Hp} {q : Addr} {a b : Nat} (h : FracAt H q a b) : FrV 810000 H (.ref q) := .inr ⟨q, a, b, rfl, h.1, h.2⟩
theorem gTup2_mono {K : PySem.W.Frag} {a b : Nat} {σ : L2.St} : ∀ (x : V) (H' : Hp) (A B : L2.St → Hp → Prop), (∀ σ2 H2, A σ2 H2 → B σ2 H2) → gTup K 2 (gCons (gName a) (gCons (gName b) gNil)) x σ H' A → gTup K 2 (gCons (gName a) (gCons (gName b) gNil)) x σ H' B := by
  intro x H' A B h hA
  obtain ⟨q, xs, e1, e2, e3, h1, h2, h3, h4, h5, h6, h7, h8⟩ := hA
  exact ⟨q, xs, e1, e2, e3, h1, h2, h3, h4, h5, h6, h7, h _ _ h8⟩
def sp_l_prices (_ : PySem.W.Frag) : Sp := fun vs H Q _ => ∃ (d : Addr) (k : Nat) (L : List Of), vs = [.ref d] ∧ BoardAt H d k L ∧ (∀ o ∈ L, OfOk k o) ∧ 2 ≤ k ∧ k ≤ 4 ∧ L.length ≤ 63 ∧
  ∀ H' t (xs : List Int), Same H H' → H' t = some (.tup (xs.map V.int)) → xs.length = k → (∀ x ∈ xs, 0 ≤ x ∧ x ≤ 10 ^ 31) → Q (.ref t) H'
section
variable {P : Program} {w : World} {K : PySem.W.Frag} {mg : Str → Option Value} {base : Heap}
abbrev s_l_prices : Stmt := topS 26
abbrev N_l_prices : List Str := ["_law_board_here", "_law_walks_here", "_law_found", "_law_unit", "_law_row_here", "_law_best", "_law_here", "_law_num", "_law_den"]
theorem sc_l_prices : FnScope N_l_prices ["_law_board_here"] (defScope s_l_prices) := ⟨rfl, rfl, rfl, by decide +kernel, rfl, by decide +kernel, by decide +kernel⟩
theorem ok_l_prices (T : Txt mg) (D : Df K mg "_law_prices" s_l_prices ["_law_board_here"]) (C_l_more : Cal P w K mg base "_law_more" ["_law_one_here", "_law_other"] 1 (sp_l_more K)) (C_l_walks : Cal P w K mg base "_law_walks" ["_law_board_here"] 4 (sp_l_walks K)) : Cal P w K mg base "_law_prices" ["_law_board_here"] 5 (sp_l_prices K) := by
  obtain ⟨f_l_more, fd_l_more, G_l_more, m_l_more, k_l_more, b_l_more⟩ := C_l_more
  obtain ⟨f_l_walks, fd_l_walks, G_l_walks, m_l_walks, k_l_walks, b_l_walks⟩ := C_l_walks
  refine D.cal sc_l_prices (fun vs H Q E h => ?_) (fun f cdv A outer s H vs Q E hr h => ?_)
  · obtain ⟨d, k, L, rfl, _⟩ := h
    rfl
  obtain ⟨d, k, L, rfl, hb, ok, k2, k4, l63, kk⟩ := h
  refine ⟨_, (pss_cons (ps_asg (pe_tup (pa_cons (pe_call G_l_walks (hr.mono (by decide)) (by rfl) m_l_walks k_l_walks b_l_walks .nil pass0 (pa_cons (pv 0) pa_nil)) (pa_cons (pe_lst pa_nil) (pa_cons pe_int pa_nil)))) (pg_tup (by rfl) (pgs_cons (pg_name (i := 1) sc_l_prices.nd rfl (Or.inl rfl)) (pgs_cons (pg_name (i := 2) sc_l_prices.nd rfl (Or.inl rfl)) (pgs_cons (pg_name (i := 3) sc_l_prices.nd rfl (Or.inr rfl)) pgs_nil)))))
    (pss_cons (ps_for PassesOwn.never rfl (pi_list (pv 1)) (pg_name (i := 4) sc_l_prices.nd rfl (Or.inl rfl))
      (pss_cons (ps_set (i := 5) sc_l_prices.nd rfl (Or.inl rfl) (pe_tup (pa_cons pe_int (pa_cons pe_int pa_nil))))
    (pss_cons (ps_for PassesOwn.never rfl (pi_list (pv 4)) (pg_name (i := 6) sc_l_prices.nd rfl (Or.inl rfl))
      (pss_one (ps_if (pt_val (pe_call G_l_more (hr.mono (by decide)) (by rfl) m_l_more k_l_more b_l_more .nil pass0 (pa_cons (pv 6) (pa_cons (pv 5) pa_nil)))) (pss_one (ps_set (i := 5) sc_l_prices.nd rfl (Or.inl rfl) (pv 6))) pss_nil)))
    (pss_cons (ps_expr (pe_bm PySem.F.plainAttrs_list PySem.F.slot_list_append PySem.F.type_list_append mt_append (pv 2) (pa_cons (pv 5) pa_nil)))
    (pss_one (ps_set (i := 3) sc_l_prices.nd rfl (Or.inr rfl) (pe_op op_mul (pv 3) (pe_ix ix_tup (pv 5) pe_int (fun _ _ => rfl)))))))))
    (pss_one (ps_ret (pe_callTy call_tuple_of (by rfl) T.n_tuple (by decide +kernel) (pa_cons (pe_lc (own := [("_law_num", 7), ("_law_den", 8)]) (g := gTup K 2 (gCons (gName 7) (gCons (gName 8) gNil))) (tt := tYes) rfl sc_l_prices.nd (pi_list (pv 2)) (blkOk_by (own := [("_law_num", 7), ("_law_den", 8)]) (N := N_l_prices) (sc := defScope s_l_prices) (by decide +kernel)) (fun _ _ _ _ _ => pg_tup (by rfl) (pgs_cons (pg_name (i := 7) sc_l_prices.nd rfl (Or.inl rfl)) (pgs_cons (pg_name (i := 8) sc_l_prices.nd rfl (Or.inl rfl)) pgs_nil))) (fun _ _ _ _ _ => pts_nil) (fun _ _ _ _ _ => (pe_op op_mul (pv 7) (pe_op op_fdivW (pv 3) (pv 8))))) pa_nil)))))), ?_⟩
  refine ⟨_, rfl, d, k, L, rfl, hb, ok, k2, k4, l63, fun H1 f s1 hf => ?_⟩
  refine ⟨(by show 0 ≤ sizeLine; decide), fun U nU => ?_⟩
  refine ⟨(by show 3 ≤ sizeLine; decide), fun q nq => ?_⟩
  refine ⟨q, _, rfl, SqT.of upd_same, rfl, _, _, rfl, _, _, rfl, _, _, rfl, rfl, ?_⟩
  have sU := same_upd (o := .lst []) nU
  have sq := same_upd (o := .tup [.ref f, .ref U, .int 1]) nq
  have s2 := sU.trans sq
  have hU0 : upd (upd H1 U (.lst [])) q (.tup [.ref f, .ref U, .int 1]) U = some (.lst []) := sq _ _ upd_same
  obtain ⟨rs, hfr, rl, hrow⟩ := id hf
  refine ⟨_, rfl, f, rfl, ⟨_, SqL.of (s2 _ _ hfr)⟩, ?_⟩
  refine for_list (K := K) (a := f) (xs := rs.map V.ref) (fun i σ H' => ∃ (qs : List (Addr × Nat × Nat)) (unit : Nat) (v4 v5 v6 v7 v8 : Option V), σ = [some (.ref d), some (.ref f), some (.ref U), some (.int (unit : Int)), v4, v5, v6, v7, v8] ∧ Same H1 H' ∧ H' U = some (.lst (qs.map fun e => V.ref e.1)) ∧ qs.length = i ∧ (∀ e ∈ qs, FracAt H' e.1 e.2.1 e.2.2) ∧ 1 ≤ unit ∧ unit ≤ 810000 ^ i)
    ⟨[], 1, _, _, _, _, _, rfl, s2, hU0, rfl, fun r hr => (nomatch hr), by decide, by decide⟩ (fun i σ H' _ h => by obtain ⟨_, _, _, _, _, _, _, _, s, _⟩ := h; exact SqL.of (s _ _ hfr)) ?_ ?_
  · rintro i x σ H2 hx ⟨qs, unit, v4, v5, v6, v7, v8, rfl, s2, hU, ql, hqs, u0, u1⟩
    have hi : i < rs.length := by
      have := (List.getElem?_eq_some_iff.mp hx).1
      rwa [List.length_map] at this
    rw [List.getElem?_map, List.getElem?_eq_getElem hi] at hx
    have ex : x = .ref rs[i] := (Option.some.inj hx).symm
    subst ex
    obtain ⟨xs, hxs, xl, xa⟩ := (hrow _ (List.getElem_mem hi)).same s2
    refine ⟨(by show 2 ≤ sizeLine; decide), fun b0 nb0 => ?_⟩
    have sb := same_upd (o := .tup [.int 1, .int 1]) nb0
    refine ⟨_, rfl, rs[i], rfl, ⟨_, SqL.of (sb _ _ hxs)⟩, ?_⟩
    refine for_list (K := K) (a := rs[i]) (xs := xs) (fun j σ H' => ∃ (b : Addr) (m n : Nat) (v6 : Option V), σ = [some (.ref d), some (.ref f), some (.ref U), some (.int (unit : Int)), some (.ref rs[i]), some (.ref b), v6, v7, v8] ∧ H' = upd H2 b0 (.tup [.int 1, .int 1]) ∧ FracAt H' b m n) ⟨b0, 1, 1, _, rfl, rfl, upd_same, by decide, by decide, by decide, by decide⟩ (fun j σ H' _ h => by obtain ⟨_, _, _, _, _, rfl, _⟩ := h; exact SqL.of (sb _ _ hxs)) ?_ ?_
    · rintro j y σ H3 hy ⟨b, m, n, v6, rfl, rfl, hb3⟩
      have hy2 := (xa y (List.mem_of_getElem? hy)).same sb
      refine ⟨_, rfl, _, rfl, y, .ref b, 810000, rfl, hy2, hb3.v, by decide, fun c hc => ⟨_, rfl, ?_⟩⟩
      cases c with
      | false => exact iteF ⟨b, m, n, _, rfl, rfl, hb3⟩
      | true =>
        rcases hy2 with rfl | ⟨z, m', n', rfl, hz⟩
        · exact absurd rfl (hc rfl)
        · exact iteT ⟨_, rfl, z, m', n', _, rfl, rfl, hz⟩
    · rintro σ H3 ⟨b, m, n, v6, rfl, rfl, hb3⟩
      have hU3 := sb _ _ hU
      have s3 := s2.trans sb
      refine ⟨_, rfl, .inl ⟨rfl, _, SqL.of hU3⟩, _, rfl, U, _, _, rfl, rfl, hU3, ?_, ?_⟩
      · rw [List.length_map, ql]
        exact Nat.lt_of_le_of_lt (show i ≤ 4 by omega) (by decide)
      have hb4 := hb3.other (ys := (qs.map fun e => V.ref e.1) ++ [.ref b]) hU3
      refine ⟨_, rfl, _, rfl, _, _, _, _, rfl, rfl, SqT.of hb4.1, atI_nat (j := 1) rfl, _, _, rfl, rfl, .inr ⟨by have := hb3.2; omega, by have := hb3.2; omega⟩, ?_⟩
      refine ⟨qs ++ [(b, m, n)], unit * n, _, _, _, _, _, by rw [Int.natCast_mul]; rfl, ?_, ?_, ?_, ?_, ?_, ?_⟩
      · intro b o hb
        rw [upd_ne (ne_of_none hb nU)]
        exact s3 _ _ hb
      · rw [upd_same, List.map_append]
        rfl
      · rw [List.length_append, List.length_singleton, ql]
      · intro e he
        rcases List.mem_append.mp he with he | he
        · exact ((hqs e he).same sb).other hU3
        · rw [List.mem_singleton.mp he]
          exact hb4
      · exact Nat.mul_pos u0 hb3.2.2.2.1
      · rw [Nat.pow_succ]
        exact Nat.mul_le_mul u1 hb3.2.2.2.2
  · rintro σ H2 ⟨qs, unit, v4, v5, v6, v7, v8, rfl, s2, hU, ql, hqs, u0, u1⟩
    rw [List.length_map, rl] at ql u1
    have u2 : unit ≤ 810000 ^ 4 := Nat.le_trans u1 (Nat.pow_le_pow_right (by decide) k4)
    refine ⟨_, rfl, U, rfl, ⟨_, SqL.of hU⟩, fun R nR => ?_⟩
    have at_ : ∀ {j : Nat} {x : V}, (qs.map fun e => V.ref e.1)[j]? = some x → ∃ e, qs[j]? = some e ∧ x = .ref e.1 := fun {j x} h => by
      rw [List.getElem?_map] at h
      cases z : qs[j]? with
      | none => rw [z] at h; cases h
      | some e => rw [z] at h; exact ⟨e, rfl, (Option.some.inj h).symm⟩
    refine lc_mL (fun j => .int (((qs.getD j (0, 1, 1)).2.1 : Int) * ((unit : Int) / ((qs.getD j (0, 1, 1)).2.2 : Int)))) hU nR (by rw [List.length_map]; omega) ?_ gTup2_mono ?_
    · intro j x H' hx s' R' hR
      obtain ⟨e, he, rfl⟩ := at_ hx
      have eg : qs.getD j (0, 1, 1) = e := by rw [List.getD_eq_getElem?_getD, he]; rfl
      have hR := hR H' (Same.refl _)
      rw [eg] at hR
      obtain ⟨h1, h2, h3, h4, h5⟩ := (hqs e (List.mem_of_getElem? he)).same s'
      refine ⟨e.1, _, rfl, SqT.of h1, rfl, _, _, rfl, _, _, rfl, rfl, rfl, ?_⟩
      exact ⟨_, rfl, _, rfl, _, rfl, _, _, rfl, rfl, some_log h4 (by omega) _, _, _, rfl, rfl, .inl ⟨by omega, by omega⟩, hR⟩
    intro H3 s3 hR
    rw [List.length_map, map_rng (fun e : Addr × Nat × Nat => V.int ((e.2.1 : Int) * ((unit : Int) / (e.2.2 : Int)))) qs (0, 1, 1) _ (fun j d e => by rw [List.getD_eq_getElem?_getD, e]; rfl)] at hR
    refine ⟨R, _, rfl, .inl ⟨SqL.of hR, fun t nt => ?_⟩⟩
    refine kk _ t (qs.map fun e => (e.2.1 : Int) * ((unit : Int) / (e.2.2 : Int))) (s1.trans (s2.trans (s3.trans (same_upd nt)))) (by rw [upd_same, List.map_map]; rfl) (by rw [List.length_map, ql]) fun x hx => ?_
    obtain ⟨e, he, rfl⟩ := List.mem_map.mp hx
    obtain ⟨_, h2, h3, h4, h5⟩ := hqs e he
    have c1 : (unit : Int) / (e.2.2 : Int) = ((unit / e.2.2 : Nat) : Int) := rfl
    have c2 : unit / e.2.2 ≤ 810000 ^ 4 := Nat.le_trans (Nat.div_le_self _ _) u2
    have c3 : e.2.1 * (unit / e.2.2) ≤ 810000 * 810000 ^ 4 := Nat.mul_le_mul h3 c2
    rw [c1, ← Int.natCast_mul]
    exact ⟨by omega, by
      have : (810000 * 810000 ^ 4 : Nat) ≤ 10 ^ 31 := by decide
      have := Nat.le_trans c3 this
      have : ((e.2.1 * (unit / e.2.2) : Nat) : Int) ≤ ((10 ^ 31 : Nat) : Int) := Int.ofNat_le.mpr this
      exact this⟩
end
end Sm

set_option Elab.async false
set_option linter.all false
set_option maxRecDepth 100000
set_option maxHeartbeats 8000000
namespace Sm
open PySem PySem.Spec PyProof.Rows L2
open C8 (pss_cut tCut)
/-! ### values that stay, whatever is done to some lists -/
abbrev Ag (E : Addr → Prop) (H H' : Hp) : Prop := ∀ b o, ¬E b → H b = some o → H' b = some o
theorem Ag.trans {E : Addr → Prop} {H H1 H2 : Hp} (a : Ag E H H1) (b : Ag E H1 H2) : Ag E H H2 := fun c o n h => b c o n (a c o n h)
theorem Ag.of {E : Addr → Prop} {H H' : Hp} (s : Same H H') : Ag E H H' := fun b o _ h => s b o h
def LE (E : Addr → Prop) (H : Hp) : Prop := ∀ b, E b → ∃ xs, H b = some (.lst xs)
theorem LE.same {E : Addr → Prop} {H H' : Hp} (h : LE E H) (s : Same H H') : LE E H' := fun b e => by
  obtain ⟨xs, x⟩ := h b e
  exact ⟨xs, s _ _ x⟩
theorem LE.fr {E : Addr → Prop} {H H' : Hp} {p l : Addr} {n : Int} (h : LE E H) (f : Fr p l H H') (D : Deck H' p l n) : LE E H' := fun b e => by
  by_cases b1 : b = p
  · exact ⟨_, b1 ▸ D.hp⟩
  by_cases b2 : b = l
  · obtain ⟨c, q, _⟩ := D.hl
    exact ⟨_, b2 ▸ q⟩
  obtain ⟨xs, x⟩ := h b e
  exact ⟨xs, f b _ b1 b2 x⟩
theorem LE.nt {E : Addr → Prop} {H : Hp} {u : Addr} {xs : List V} (h : LE E H) (e : H u = some (.tup xs)) : ¬E u := fun c => by
  obtain ⟨ys, y⟩ := h u c
  rw [e] at y
  cases y
theorem LE.nn {E : Addr → Prop} {H : Hp} {u : Addr} (h : LE E H) (e : H u = none) : ¬E u := fun c => by
  obtain ⟨ys, y⟩ := h u c
  rw [e] at y
  cases y
theorem LE.more {E : Addr → Prop} {H : Hp} {F : Addr} {xs : List V} (h : LE E H) (e : H F = some (.lst xs)) : LE (fun b => E b ∨ b = F) H := fun b c => by
  rcases c with c | rfl
  · exact h b c
  · exact ⟨_, e⟩
theorem Fr.ag {E : Addr → Prop} {H H' : Hp} {p l : Addr} (f : Fr p l H H') (ep : E p) (el : E l) : Ag E H H' := fun b o n h => f b o (fun c => n (c ▸ ep)) (fun c => n (c ▸ el)) h
theorem Ag.put {E : Addr → Prop} {H : Hp} {F : Addr} {o : HO} (h : E F) : Ag E H (upd H F o) := fun b x n e => by
  have ne : b ≠ F := fun c => n (by rw [c]; exact h)
  rw [upd_ne ne]
  exact e
def DX (K : PySem.W.Frag) (E : Addr → Prop) (H : Hp) (x : V) (d : PyData) : Prop := ∀ H', Ag E H H' → Dq K H' x d
theorem DX.ag {K : PySem.W.Frag} {E : Addr → Prop} {H H' : Hp} {x : V} {d : PyData} (h : DX K E H x d) (a : Ag E H H') : DX K E H' x d := fun H2 b => h H2 (Ag.trans a b)
theorem DX.dq {K : PySem.W.Frag} {E : Addr → Prop} {H : Hp} {x : V} {d : PyData} (h : DX K E H x d) : Dq K H x d := h H fun _ _ _ e => e
theorem DX.grow {K : PySem.W.Frag} {E E' : Addr → Prop} {H : Hp} {x : V} {d : PyData} (h : DX K E H x d) (g : ∀ b, E' b → E b ∨ H b = none) : DX K E' H x d := fun H2 a => h H2 fun b o n e => a b o (fun c => by
  rcases g b c with c | c
  · exact n c
  · rw [c] at e; cases e) e
def DXs (K : PySem.W.Frag) (E : Addr → Prop) (H : Hp) (xs : List V) (ds : List PyData) : Prop := ∀ H', Ag E H H' → DqAll K H' xs ds
theorem dxs_of {K : PySem.W.Frag} {E : Addr → Prop} {H : Hp} {Pd : PyData → Prop} : ∀ {xs : List V}, (∀ x ∈ xs, ∃ d, DX K E H x d ∧ Pd d) → ∃ ds, DXs K E H xs ds ∧ ds.length = xs.length ∧ ∀ d ∈ ds, Pd d
  | [], _ => ⟨[], fun _ _ => .nil, rfl, fun d h => nomatch h⟩
  | x :: xs, h => by
    obtain ⟨d, h1, h2⟩ := h x (List.mem_cons_self ..)
    obtain ⟨ds, h3, h4, h5⟩ := dxs_of (xs := xs) fun x hx => h x (List.mem_cons_of_mem _ hx)
    refine ⟨d :: ds, fun H' a => .cons (h1 H' a) (h3 H' a), by rw [List.length_cons, List.length_cons, h4], fun z hz => ?_⟩
    rcases List.mem_cons.mp hz with rfl | hz
    · exact h2
    · exact h5 z hz
theorem DX.tup {K : PySem.W.Frag} {E : Addr → Prop} {H : Hp} {u : Addr} {xs : List V} {ds : List PyData} (h : H u = some (.tup xs)) (n : ¬E u) (a : DXs K E H xs ds) : DX K E H (.ref u) (.tuple ds) := fun H' g => .tup (g _ _ n h) (a H' g)
theorem DX.lst {K : PySem.W.Frag} {E : Addr → Prop} {H : Hp} {u : Addr} {xs : List V} {ds : List PyData} (h : H u = some (.lst xs)) (n : ¬E u) (e : (u == sysModules) = false) (a : DXs K E H xs ds) : DX K E H (.ref u) (.list ds) := fun H' g => .lst (g _ _ n h) e (a H' g)
/-! ### how long a text is -/
theorem sml_all {k n : Nat} : ∀ {ds : List PyData}, (∀ d ∈ ds, Sml k n d) → PyData.showableAll ds = true ∧ PyData.depthAll ds ≤ k ∧ ((PyData.shownAll ds).map (·.length)).sum ≤ n * ds.length ∧ (PyData.shownAll ds).length = ds.length
  | [], _ => by simp [PyData.showableAll, PyData.depthAll, PyData.shownAll]
  | d :: ds, h => by
    obtain ⟨a1, a2, a3, a4⟩ := sml_all (ds := ds) fun z hz => h z (List.mem_cons_of_mem _ hz)
    obtain ⟨b1, b2, b3⟩ := h d (List.mem_cons_self ..)
    simp only [PyData.showableAll, PyData.depthAll, PyData.shownAll, List.map_cons, List.sum_cons, List.length_cons, a1, b1, Bool.and_self, true_and]
    refine ⟨by omega, ?_, by omega⟩
    rw [Nat.mul_add, Nat.mul_one]
    omega
theorem Sml.up {k n k' n' : Nat} {d : PyData} (h : Sml k n d) (a : k ≤ k') (b : n ≤ n') : Sml k' n' d := ⟨h.sh, Nat.le_trans h.dep a, Nat.le_trans h.len b⟩
theorem sml_tup {k n m : Nat} {ds : List PyData} (h : ∀ d ∈ ds, Sml k n d) (l : n * ds.length + 2 * ds.length + 3 ≤ m) : Sml (k + 1) m (.tuple ds) := by
  obtain ⟨a1, a2, a3, a4⟩ := sml_all h
  have t := PySem.tupleText_len_le (PyData.shownAll ds)
  rw [a4] at t
  refine ⟨by simp only [PyData.showable]; exact a1, by simp only [PyData.depth]; omega, ?_⟩
  simp only [PyData.shown]
  omega
theorem sml_lst {k n m : Nat} {ds : List PyData} (h : ∀ d ∈ ds, Sml k n d) (l : n * ds.length + 2 * ds.length + 3 ≤ m) : Sml (k + 1) m (.list ds) := by
  obtain ⟨a1, a2, a3, a4⟩ := sml_all h
  have t := listText_len_le (PyData.shownAll ds)
  rw [a4] at t
  refine ⟨by simp only [PyData.showable]; exact a1, by simp only [PyData.depth]; omega, ?_⟩
  simp only [PyData.shown]
  omega
theorem sml_int {i : Int} (h : i.natAbs.log2 < 1920) : Sml 1 1930 (.int i) := by
  have a := PyProof.Rows.int_text_len_1921 h
  refine ⟨?_, by simp [PyData.depth], ?_⟩
  · have : PyData.showableAll [PyData.int i] = true := showable_ints (ns := [i]) fun n hn => by rw [List.mem_singleton.mp hn]; exact h
    simpa [PyData.showableAll] using this
  · simp only [PyData.shown]
    omega
theorem sml_bl (b : Bool) : Sml 1 1930 (.bool b) := by
  cases b
  · exact ⟨by decide +kernel, by decide +kernel, by decide +kernel⟩
  · exact ⟨by decide +kernel, by decide +kernel, by decide +kernel⟩
theorem log_int {i : Int} (h0 : -(10 ^ 60) ≤ i) (h1 : i ≤ 10 ^ 60) : i.natAbs.log2 < 1920 :=
  Nat.lt_of_lt_of_le (PySem.Flt.log2_lt_of (k := 310) (by decide) (by omega)) (by decide)
/-- an item of a tuple, a value behind a name -/
def Itm (K : PySem.W.Frag) (E : Addr → Prop) (H : Hp) (x : V) : Prop := ∃ d, DX K E H x d ∧ Sml 3 1930 d
def Good (K : PySem.W.Frag) (E : Addr → Prop) (H : Hp) (x : V) : Prop := ∃ d, DX K E H x d ∧ Sml 4 40000 d ∧ t16 d = true
def Top (K : PySem.W.Frag) (E : Addr → Prop) (H : Hp) (x : V) : Prop := ∃ d, DX K E H x d ∧ Sml 6 200000 d ∧ w16 d = true
section
variable {K : PySem.W.Frag} {E E' : Addr → Prop} {H H' : Hp} {x : V}
theorem Itm.ag (h : Itm K E H x) (a : Ag E H H') : Itm K E H' x := by obtain ⟨d, h, r⟩ := h; exact ⟨d, h.ag a, r⟩
theorem Good.ag (h : Good K E H x) (a : Ag E H H') : Good K E H' x := by obtain ⟨d, h, r⟩ := h; exact ⟨d, h.ag a, r⟩
theorem Top.ag (h : Top K E H x) (a : Ag E H H') : Top K E H' x := by obtain ⟨d, h, r⟩ := h; exact ⟨d, h.ag a, r⟩
theorem Good.grow (h : Good K E H x) (g : ∀ b, E' b → E b ∨ H b = none) : Good K E' H x := by obtain ⟨d, h, r⟩ := h; exact ⟨d, h.grow g, r⟩
theorem Top.grow (h : Top K E H x) (g : ∀ b, E' b → E b ∨ H b = none) : Top K E' H x := by obtain ⟨d, h, r⟩ := h; exact ⟨d, h.grow g, r⟩
theorem Itm.int {i : Int} (h0 : -(10 ^ 60) ≤ i) (h1 : i ≤ 10 ^ 60) : Itm K E H (.int i) := ⟨.int i, fun _ _ => .int i, (sml_int (log_int h0 h1)).up (by decide) (Nat.le_refl _)⟩
theorem Itm.bl (b : Bool) : Itm K E H (.bl b) := ⟨.bool b, fun _ _ => .bl b, (sml_bl b).up (by decide) (Nat.le_refl _)⟩
theorem Good.tup {u : Addr} {xs : List V} (h : H u = some (.tup xs)) (le : LE E H) (l : xs.length ≤ 16) (a : ∀ x ∈ xs, Itm K E H x) : Good K E H (.ref u) := by
  obtain ⟨ds, h1, h2, h3⟩ := dxs_of a
  refine ⟨.tuple ds, DX.tup h (le.nt h) h1, sml_tup h3 ?_, ?_⟩
  · rw [h2]
    omega
  · show decide (ds.length ≤ 16) = true
    rw [h2]
    exact decide_eq_true l
theorem Good.lst {u : Addr} {xs : List V} (h : H u = some (.lst xs)) (n : ¬E u) (e : (u == sysModules) = false) (l : xs.length ≤ 16) (a : ∀ x ∈ xs, Itm K E H x) : Good K E H (.ref u) := by
  obtain ⟨ds, h1, h2, h3⟩ := dxs_of a
  refine ⟨.list ds, DX.lst h n e h1, sml_lst h3 ?_, rfl⟩
  rw [h2]
  omega
/-- a tuple of ints -/
theorem Good.ints {u : Addr} {ys : List Int} (h : H u = some (.tup (ys.map V.int))) (le : LE E H) (l : ys.length ≤ 16) (a : ∀ y ∈ ys, -(10 ^ 60) ≤ y ∧ y ≤ 10 ^ 60) : Good K E H (.ref u) :=
  Good.tup h le (by rw [List.length_map]; exact l) fun x hx => by
    obtain ⟨y, hy, rfl⟩ := List.mem_map.mp hx
    exact Itm.int (a y hy).1 (a y hy).2
theorem Top.pair {u : Addr} {x y : V} {d : PyData} (h : H u = some (.tup [x, y])) (le : LE E H) (h1 : DX K E H x d) (h2 : Sml 4 40000 d) (g : Good K E H y) : Top K E H (.ref u) := by
  obtain ⟨dy, g1, g2, g3⟩ := g
  refine ⟨.tuple [d, dy], DX.tup h (le.nt h) fun H' a => .cons (h1 H' a) (.cons (g1 H' a) .nil), (sml_tup (k := 4) (n := 40000) (fun z hz => ?_) (by show 40000 * 2 + 2 * 2 + 3 ≤ 200000; decide)).up (by decide) (Nat.le_refl _), g3⟩
  rcases List.mem_cons.mp hz with rfl | hz
  · exact h2
  · rw [List.mem_singleton.mp hz]
    exact g2
end
end Sm

set_option Elab.async false
set_option linter.all false
set_option maxRecDepth 100000
set_option maxHeartbeats 8000000
namespace Sm
open PySem PySem.Spec PyProof.Rows L2
open C8 (pss_cut tCut)
/-- a comprehension over a tuple whose items are drawn whole numbers -/
theorem lc_rdT {K : PySem.W.Frag} {a : Addr} {zs : List V} {g : TG} {te : TE} {vs : List Nat} {σ : L2.St} {H : Hp} {D p l : Addr} {n0 c : Int} {Qd : Hp → Prop} (G : Int → Prop) (D0 : Deck H p l n0) (ha : H a = some (.tup zs)) (nD : H D = none) (ln : zs.length ≤ 20000) (c0 : 0 ≤ c)
    (hs : ∀ (i : Nat) x H' n', zs[i]? = some x → Fr p l H H' → Deck H' p l n' → n0 ≤ n' → n' ≤ n0 + c * (i : Int) → ∀ R : VK, (∀ H4 x n4, Fr p l H' H4 → Deck H4 p l n4 → n' ≤ n4 → n4 ≤ n' + c → G x → R (.int x) H4) → g x (wipe σ vs) H' fun σ2 H2 => wipe σ2 vs = wipe σ vs ∧ te σ2 H2 R)
    (mono : ∀ x H' (A B : L2.St → Hp → Prop), (∀ σ2 H2, A σ2 H2 → B σ2 H2) → g x (wipe σ vs) H' A → g x (wipe σ vs) H' B)
    (hd : ∀ H' (n' : Int) (xs : List Int), Fr p l H H' → Deck H' p l n' → n0 ≤ n' → n' ≤ n0 + c * (zs.length : Int) → xs.length = zs.length → (∀ x ∈ xs, G x) → H' D = some (.lst (xs.map V.int)) → Qd H') :
    ∃ W : Nat → Nat → Hp → Prop, (∃ m, W 0 m (upd H D (.lst []))) ∧ ∀ i m H, W i m H → ((Itt K a).stop i H ∧ Qd H) ∨ ((Itt K a).go i H ∧ ∃ Nx : Hp → Prop, (∀ H', Nx H' → ∃ m', m' < m ∧ W (i + 1) m' H') ∧ ∀ x H', (Itt K a).yld i H x H' → g x (wipe σ vs) H' fun σ2 H2 => wipe σ2 vs = wipe σ vs ∧ tYes σ2 H2 fun b H3 =>
        if b = true then te σ2 H3 fun y H4 => ∃ acc, H4 D = some (.lst acc) ∧ acc.length < sizeLine ∧ Nx (upd H4 D (.lst (acc ++ [y]))) else Nx H3) := by
  obtain ⟨Dp, Dl⟩ := D0.lne nD
  refine lc_tup (K := K) (a := a) (xs := zs) (fun i H' => ∃ (n' : Int) (xs : List Int), Fr p l H H' ∧ Deck H' p l n' ∧ n0 ≤ n' ∧ n' ≤ n0 + c * (i : Int) ∧ xs.length = i ∧ (∀ x ∈ xs, G x) ∧ H' D = some (.lst (xs.map V.int))) ?_ (fun i H' _ h => by obtain ⟨_, _, f, _⟩ := h; exact SqT.of (f.tup D0 ha)) ?_ ?_
  · exact ⟨n0, [], Same.fr (same_upd nD), D0.same (same_upd nD), by omega, by simp, rfl, fun x hx => (nomatch hx), upd_same⟩
  · rintro i x H' hx ⟨n', xs, f, D1, a0, a1, xl, xg, hD⟩
    have il : i < zs.length := (List.getElem?_eq_some_iff.mp hx).1
    refine mono _ H' _ _ ?_ (hs i x H' n' hx f D1 a0 a1 (fun y H4 => ∃ acc, H4 D = some (.lst acc) ∧ acc.length < sizeLine ∧ ∃ (n' : Int) (xs : List Int), Fr p l H (upd H4 D (.lst (acc ++ [y]))) ∧ Deck (upd H4 D (.lst (acc ++ [y]))) p l n' ∧ n0 ≤ n' ∧ n' ≤ n0 + c * ((i + 1 : Nat) : Int) ∧ xs.length = i + 1 ∧ (∀ x ∈ xs, G x) ∧ upd H4 D (.lst (acc ++ [y])) D = some (.lst (xs.map V.int))) fun H4 x n4 f4 D4 b0 b1 gx => ?_)
    · rintro σ2 H2 ⟨e, h⟩
      refine ⟨e, ?_⟩
      unfold tYes
      exact iteT h
    · refine ⟨_, f4 _ _ Dp Dl hD, ?_, n4, xs ++ [x], ?_, ⟨by rw [upd_ne Dp.symm]; exact D4.hp, ?_⟩, by omega, ?_, ?_, ?_, ?_⟩
      · rw [List.length_map, xl]
        exact Nat.lt_of_le_of_lt (show i ≤ 20000 by omega) (by decide)
      · intro b o h1 h2 hb
        rw [upd_ne (ne_of_none hb nD)]
        exact f4 b o h1 h2 (f b o h1 h2 hb)
      · obtain ⟨cells, q1, q2⟩ := D4.hl
        exact ⟨cells, by rw [upd_ne Dl.symm]; exact q1, q2⟩
      · have : c * ((i + 1 : Nat) : Int) = c * (i : Int) + c := by rw [Int.natCast_add, Int.mul_add, show ((1 : Nat) : Int) = 1 from rfl, Int.mul_one]
        omega
      · rw [List.length_append, List.length_singleton, xl]
      · intro z hz
        rcases List.mem_append.mp hz with hz | hz
        · exact xg z hz
        · rw [List.mem_singleton.mp hz]
          exact gx
      · rw [upd_same, List.map_append]
        rfl
  · rintro H' ⟨n', xs, f, D1, a0, a1, xl, xg, hD⟩
    exact hd H' n' xs f D1 a0 a1 xl xg hD
/-- own[:at] + (own[at] ± 1,) + own[at + 1:] -/
theorem put_TE {K : PySem.W.Frag} {σ : L2.St} {H : Hp} {Q : VK} {own : List Int} {t : Addr} {ja : Nat} {f : Int → Int → Int} (h2 : σ[2]? = some (some (.ref t))) (h3 : σ[3]? = some (some (.int (ja : Int)))) (ht : H t = some (.tup (own.map V.int))) (l8 : own.length ≤ 8) (hj : ja < own.length)
    (q : ∀ u H' (ys : List Int), Same H H' → H' u = some (.tup (ys.map V.int)) → ys.length ≤ 17 → (∀ y ∈ ys, y ∈ own ∨ y = f (own.getD ja 0) 1) → ys.length = own.length → Q (.ref u) H') :
    tOp (rCatA K) (tOp (rCatA K) (tSl (rSlA K) (tVar 2) tNoPart (tPart (tVar 3))) (tTup (tCons (tOp (rI0 fun i j => V.int (f i j)) (tOp (rIxT K) (tVar 2) (tVar 3)) (tC (V.int 1))) tNil))) (tSl (rSlA K) (tVar 2) (tPart (tOp (rI0 fun i j => V.int (i + j)) (tVar 3) (tC (V.int 1)))) tNoPart) σ H Q := by
  refine ⟨_, h2, no_part ⟨_, h3, _, rfl, ?_⟩⟩
  refine sl_uni ht fun u1 H1 s1 hu1 => ?_
  rw [cut_all, ← List.map_take] at hu1
  refine ⟨_, h2, _, h3, _, _, _, _, rfl, rfl, SqT.of (s1 _ _ ht), atI_nat (get_int hj), _, _, rfl, rfl, (by show 1 ≤ sizeLine; decide), fun u2 nu2 => ?_⟩
  have s2 := same_upd (o := .tup [V.int (f (own.getD ja 0) 1)]) nu2
  refine cat_uni (s2 _ _ hu1) (show upd H1 u2 (.tup [V.int (f (own.getD ja 0) 1)]) u2 = _ from upd_same) ?_ fun u3 H3 s3 hu3 => ?_
  · rw [List.length_map, List.length_take]
    exact Nat.le_trans (show min ja own.length + 1 ≤ 9 by omega) (by decide)
  refine ⟨_, h2, _, h3, _, _, rfl, rfl, _, rfl, no_part ?_⟩
  have s13 := s1.trans (s2.trans s3)
  refine sl_uni (s13 _ _ ht) fun u4 H4 s4 hu4 => ?_
  rw [show (ja : Int) + 1 = ((ja + 1 : Nat) : Int) from rfl, cut_from, ← List.map_drop] at hu4
  refine cat_uni (s4 _ _ hu3) hu4 ?_ fun u5 H5 s5 hu5 => ?_
  · rw [List.length_append, List.length_map, List.length_take, List.length_map, List.length_drop]
    exact Nat.le_trans (show min ja own.length + 1 + (own.length - (ja + 1)) ≤ 20 by omega) (by decide)
  refine q u5 H5 (own.take ja ++ [f (own.getD ja 0) 1] ++ own.drop (ja + 1)) (s13.trans (s4.trans s5)) (by rw [hu5, List.map_append, List.map_append]; rfl) ?_ (fun y hy => ?_) ?_
  · rw [List.length_append, List.length_append, List.length_take, List.length_drop, List.length_singleton]
    omega
  · rcases List.mem_append.mp hy with hy | hy
    · rcases List.mem_append.mp hy with hy | hy
      · exact .inl (List.mem_of_mem_take hy)
      · exact .inr (List.mem_singleton.mp hy)
    · exact .inl (List.mem_of_mem_drop hy)
  · rw [List.length_append, List.length_append, List.length_take, List.length_drop, List.length_singleton]
    omega
/-- tuple([x] * board[0]) -/
theorem rep_TE {K : PySem.W.Frag} {σ : L2.St} {H : Hp} {Q : VK} {d t : Addr} {k : Nat} {x : V} (h1 : σ[1]? = some (some (.ref d))) (hd : H d = some (.tup [.int (k : Int), .ref t])) (k4 : k ≤ 4)
    (q : ∀ u H', Same H H' → H' u = some (.tup (List.replicate k x)) → Q (.ref u) H') :
    tCB (fun xs H_1 Q => ∃ p ys, xs = [V.ref p] ∧ ((SqL K H_1 p ys ∧ ∀ l : Addr, H_1 l = none → Q (V.ref l) (upd H_1 l (HO.tup ys))) ∨ SqT K H_1 p ys ∧ Q (V.ref p) H_1)) (tCons (tOp rRep (tLst (tCons (tC x) tNil)) (tOp (rIxT K) (tVar 1) (tC (V.int 0)))) tNil) σ H Q := by
  refine ⟨(by show 1 ≤ sizeLine; decide), fun w1 nw1 => ?_⟩
  have s1 := same_upd (o := .lst [x]) nw1
  refine ⟨_, h1, _, _, _, _, rfl, rfl, SqT.of (s1 _ _ hd), atI_nat (j := 0) rfl, w1, (k : Int), [x], rfl, rfl, upd_same, by omega, by omega, ?_, fun w2 nw2 => ?_⟩
  · show 1 * (k : Int).toNat ≤ sizeLine
    exact Nat.le_trans (show 1 * (k : Int).toNat ≤ 4 by omega) (by decide)
  have s2 := same_upd (o := .lst (List.replicate (k : Int).toNat [x]).flatten) nw2
  refine ⟨w2, _, rfl, .inl ⟨SqL.of upd_same, fun w3 nw3 => ?_⟩⟩
  have s3 := same_upd (o := .tup (List.replicate (k : Int).toNat [x]).flatten) nw3
  refine q w3 _ (s1.trans (s2.trans s3)) ?_
  rw [upd_same, show (k : Int).toNat = k by omega]
  have : ∀ m : Nat, (List.replicate m [x]).flatten = List.replicate m x := fun m => by
    induction m with
    | zero => rfl
    | succ m ih => rw [List.replicate_succ, List.replicate_succ, List.flatten_cons, ih]; rfl
  rw [this]
end Sm

set_option Elab.async false
set_option linter.all false
set_option maxRecDepth 100000
set_option maxHeartbeats 8000000
namespace Sm
open PySem PySem.Spec PyProof.Rows L2
open C8 (pss_cut tCut)
def sp_l_priced (K : PySem.W.Frag) : Sp := fun vs H Q _ => ∃ (p l d : Addr) (n : Int) (k : Nat) (L : List Of) (E : Addr → Prop), vs = [.ref p, .ref d] ∧ Deck H p l n ∧ 0 ≤ n ∧ n ≤ 800000 ∧ BoardAt H d k L ∧ (∀ o ∈ L, OfOk k o) ∧ 2 ≤ k ∧ k ≤ 4 ∧ L.length ≤ 63 ∧ E p ∧ E l ∧ LE E H ∧
  ∀ H' U xs n', Fr p l H H' → Deck H' p l n' → n ≤ n' → n' ≤ n + 100 → H' U = some (.lst xs) → xs.length ≤ 20 → 3 ≤ xs.length → (∀ x ∈ xs, Good K E H' x) → Q (.ref U) H'
/-- one more, or in front: lists of good values -/
theorem all_app {α : Type} {P : α → Prop} {xs ys : List α} (h : ∀ x ∈ xs, P x) (g : ∀ x ∈ ys, P x) : ∀ x ∈ xs ++ ys, P x := fun x hx => by
  rcases List.mem_append.mp hx with hx | hx
  · exact h x hx
  · exact g x hx
theorem all_cons {α : Type} {P : α → Prop} {x : α} {ys : List α} (h : P x) (g : ∀ x ∈ ys, P x) : ∀ z ∈ x :: ys, P z := fun z hz => by
  rcases List.mem_cons.mp hz with rfl | hz
  · exact h
  · exact g z hz
theorem all_nil {α : Type} {P : α → Prop} : ∀ z ∈ ([] : List α), P z := fun z hz => nomatch hz
theorem tCons_eq {te : TE} {ta : TA} {σ : L2.St} {H : Hp} {Q : List V → Hp → Prop} : tCons te ta σ H Q = te σ H fun x H1 => ta σ H1 fun xs H2 => Q (x :: xs) H2 := rfl
theorem tLst_eq {ta : TA} {σ : L2.St} {H : Hp} {Q : VK} : tLst ta σ H Q = ta σ H fun xs H1 => xs.length ≤ sizeLine ∧ ∀ p, H1 p = none → Q (.ref p) (upd H1 p (.lst xs)) := rfl
theorem tYes_eq {σ : L2.St} {H : Hp} {Q : Bool → Hp → Prop} : tYes σ H Q = Q true H := rfl
theorem rep_good {K : PySem.W.Frag} {E : Addr → Prop} {H : Hp} {u : Addr} {k : Nat} {x : V} (h : H u = some (.tup (List.replicate k x))) (le : LE E H) (k4 : k ≤ 4) (i : Itm K E H x) : Good K E H (.ref u) :=
  Good.tup h le (by rw [List.length_replicate]; omega) fun z hz => by rw [List.eq_of_mem_replicate hz]; exact i
/-- a tuple of drawn ints -/
def TI (H : Hp) (x : V) : Prop := ∃ (u : Addr) (ys : List Int), x = .ref u ∧ H u = some (.tup (ys.map V.int)) ∧ ys.length ≤ 16 ∧ ∀ y ∈ ys, -100 ≤ y ∧ y ≤ 100
theorem TI.fr {H H' : Hp} {x : V} {p l : Addr} {n : Int} (h : TI H x) (f : Fr p l H H') (D : Deck H p l n) : TI H' x := by
  obtain ⟨u, ys, e, h, r⟩ := h
  exact ⟨u, ys, e, f.tup D h, r⟩
theorem TI.put {H : Hp} {x : V} {F : Addr} {xs ys : List V} (h : TI H x) (hF : H F = some (.lst xs)) : TI (upd H F (.lst ys)) x := by
  obtain ⟨u, zs, e, h, r⟩ := h
  exact ⟨u, zs, e, by rw [upd_ne (ne_of h hF (by intro q; cases q))]; exact h, r⟩
theorem TI.same {H H' : Hp} {x : V} (h : TI H x) (s : Same H H') : TI H' x := by
  obtain ⟨u, zs, e, h, r⟩ := h
  exact ⟨u, zs, e, s _ _ h, r⟩
theorem TI.good {K : PySem.W.Frag} {E : Addr → Prop} {H : Hp} {x : V} (h : TI H x) (le : LE E H) : Good K E H x := by
  obtain ⟨u, ys, rfl, h, l, a⟩ := h
  exact Good.ints h le l fun y hy => by have := a y hy; omega
section
variable {P : Program} {w : World} {K : PySem.W.Frag} {mg : Str → Option Value} {base : Heap}
abbrev s_l_priced : Stmt := topS 29
abbrev N_l_priced : List Str := ["_law_deck_here", "_law_board_here", "_law_own", "_law_at", "_law_less", "_law_more_here", "_law_found", "_law_turn", "_law_price"]
theorem sc_l_priced : FnScope N_l_priced ["_law_deck_here", "_law_board_here"] (defScope s_l_priced) := ⟨rfl, rfl, rfl, by decide +kernel, rfl, by decide +kernel, by decide +kernel⟩
theorem ok_l_priced (T : Txt mg) (D : Df K mg "_law_priced" s_l_priced ["_law_deck_here", "_law_board_here"]) (C_l_draw : Cal P w K mg base "_law_draw" ["_law_deck_here", "_law_many"] 1 (sp_l_draw K)) (C_l_prices : Cal P w K mg base "_law_prices" ["_law_board_here"] 5 (sp_l_prices K)) : Cal P w K mg base "_law_priced" ["_law_deck_here", "_law_board_here"] 6 (sp_l_priced K) := by
  obtain ⟨f_l_draw, fd_l_draw, G_l_draw, m_l_draw, k_l_draw, b_l_draw⟩ := C_l_draw
  obtain ⟨f_l_prices, fd_l_prices, G_l_prices, m_l_prices, k_l_prices, b_l_prices⟩ := C_l_prices
  refine D.cal sc_l_priced (fun vs H Q E h => ?_) (fun f cdv A outer s H vs Q E hr h => ?_)
  · obtain ⟨p, l, d, n, k, L, E', rfl, _⟩ := h
    rfl
  obtain ⟨p, l, d, n, k, L, E0, rfl, D0, n0, n1, hb, ok, k2, k4, l63, ep, el, le, kk⟩ := h
  obtain ⟨tb, qs, hd, htb, hL⟩ := id hb
  refine ⟨_, (pss_cons (ps_set (i := 2) sc_l_priced.nd rfl (Or.inr rfl) (pe_call G_l_prices (hr.mono (by decide)) (by rfl) m_l_prices k_l_prices b_l_prices .nil pass0 (pa_cons (pv 1) pa_nil)))
    (pss_cons (ps_set (i := 3) sc_l_priced.nd rfl (Or.inl rfl) (pe_call G_l_draw (hr.mono (by decide)) (by rfl) m_l_draw k_l_draw b_l_draw .nil pass0 (pa_cons (pv 0) (pa_cons (pe_ix ix_tup (pv 1) pe_int (fun _ _ => rfl)) pa_nil))))
    (pss_cons (ps_set (i := 4) sc_l_priced.nd rfl (Or.inl rfl) (pe_op op_catA (pe_op op_catA (pe_slice sl_tupA (pv 2) po_none (po_some (pv 3))) (pe_tup (pa_cons (pe_op op_sub (pe_ix ix_tup (pv 2) (pv 3) (fun _ _ => rfl)) pe_int) pa_nil))) (pe_slice sl_tupA (pv 2) (po_some (pe_op op_add (pv 3) pe_int)) po_none)))
    (pss_cons (ps_set (i := 5) sc_l_priced.nd rfl (Or.inl rfl) (pe_op op_catA (pe_op op_catA (pe_slice sl_tupA (pv 2) po_none (po_some (pv 3))) (pe_tup (pa_cons (pe_op op_add (pe_ix ix_tup (pv 2) (pv 3) (fun _ _ => rfl)) pe_int) pa_nil))) (pe_slice sl_tupA (pv 2) (po_some (pe_op op_add (pv 3) pe_int)) po_none)))
    (pss_cons (ps_set (i := 6) sc_l_priced.nd rfl (Or.inl rfl) (pe_lst (pa_cons (pv 2) (pa_cons (pv 4) (pa_cons (pv 5) (pa_cons (pe_op op_catA (pv 2) (pe_tup (pa_cons pe_int pa_nil))) (pa_cons (pe_slice sl_tupA (pv 2) (po_some pe_int) po_none) (pa_cons (pe_callTy call_listN (by rfl) T.n_list (by decide +kernel) (pa_cons (pv 2) pa_nil)) (pa_cons (pe_callTy call_tuple_of (by rfl) T.n_tuple (by decide +kernel) (pa_cons (pe_lc (own := [("_law_price", 8)]) (g := gName 8) (tt := tYes) rfl sc_l_priced.nd (pi_tup (pv 2)) (blkOk_by (own := [("_law_price", 8)]) (N := N_l_priced) (sc := defScope s_l_priced) (by decide +kernel)) (fun _ _ _ _ _ => pg_name (i := 8) sc_l_priced.nd rfl (Or.inl rfl)) (fun _ _ _ _ _ => pts_nil) (fun _ _ _ _ _ => (pe_op op_mulW (pv 8) (pe_op op_pow pe_int pe_int)))) pa_nil)) pa_nil)))))))))
    (pss_cons (ps_expr (pe_bm PySem.F.plainAttrs_list PySem.F.slot_list_extend PySem.F.type_list_extend mt_extend (pv 6) (pa_cons (pe_lst (pa_cons (pe_callTy call_tuple_of (by rfl) T.n_tuple (by decide +kernel) (pa_cons (pe_op op_rep (pe_lst (pa_cons pe_int pa_nil)) (pe_ix ix_tup (pv 1) pe_int (fun _ _ => rfl))) pa_nil)) (pa_cons (pe_callTy call_tuple_of (by rfl) T.n_tuple (by decide +kernel) (pa_cons (pe_op op_rep (pe_lst (pa_cons pe_bl pa_nil)) (pe_ix ix_tup (pv 1) pe_int (fun _ _ => rfl))) pa_nil)) (pa_cons (pe_callTy call_tuple_of (by rfl) T.n_tuple (by decide +kernel) (pa_cons (pe_op op_rep (pe_lst (pa_cons pe_int pa_nil)) (pe_ix ix_tup (pv 1) pe_int (fun _ _ => rfl))) pa_nil)) (pa_cons (pe_tup pa_nil) pa_nil))))) pa_nil)))
    (pss_one (ps_ret (pe_op op_cat (pv 6) (pe_lc (own := [("_law_turn", 7)]) (g := gName 7) (tt := tYes) rfl sc_l_priced.nd (pi_range1 (by rfl) T.n_range (pa_cons pe_int pa_nil)) (blkOk_by (own := [("_law_turn", 7)]) (N := N_l_priced) (sc := defScope s_l_priced) (by decide +kernel)) (fun _ _ _ _ _ => pg_name (i := 7) sc_l_priced.nd rfl (by first | exact Or.inl rfl | exact Or.inr rfl)) (fun _ _ _ _ _ => pts_nil) (fun _ _ _ _ _ => (pe_callTy (show CallR _ (.type "tuple") (fun xs H Q => ∃ p ys, xs = [.ref p] ∧ ((SqL K H p ys ∧ ∀ l, H l = none → Q (.ref l) (upd H l (.tup ys))) ∨ SqT K H p ys ∧ Q (.ref p) H)) from call_tuple_of) (by rfl) T.n_tuple (by decide +kernel) (pa_cons (pe_lc (own := [("_law_price", 8)]) (g := gName 8) (tt := tYes) rfl sc_l_priced.nd (show PI _ _ _ (iTup K _) from pi_tup (pv 2)) (blkOk_by (own := [("_law_price", 8)]) (N := N_l_priced) (sc := (Scope.mk .function [(".0", .local), ("_law_turn", .local), ("tuple", .globalImplicit), ("_law_deck_here", .cell), ("_law_own", .cell)] false false [])) (by decide +kernel)) (fun _ _ _ _ _ => pg_name (i := 8) sc_l_priced.nd rfl (Or.inl rfl)) (fun _ _ _ _ _ => pts_nil) (fun _ _ _ _ _ => (pe_op op_add pe_int (pe_call G_l_draw (hr.mono (by decide)) (by rfl) m_l_draw k_l_draw b_l_draw .nil pass0 (pa_cons (pv 0) (pa_cons pe_int pa_nil)))))) pa_nil))))))))))))), ?_⟩
  refine ⟨_, rfl, d, k, L, rfl, hb, ok, k2, k4, l63, fun H1 t own s1 ht ol ob => ?_⟩
  have D1 := D0.same s1
  refine ⟨_, rfl, _, rfl, _, _, _, _, rfl, rfl, SqT.of (s1 _ _ hd), atI_nat (j := 0) rfl, p, l, n, _, rfl, D1, by omega, by omega, by omega, by omega, fun ra H2 a0 a1 f2 D2 => ?_⟩
  obtain ⟨ja, rfl⟩ : ∃ ja : Nat, ra = (ja : Int) := ⟨ra.toNat, by omega⟩
  have ht2 := f2.tup D1 ht
  have hd2 := f2.tup D1 (s1 _ _ hd)
  have le2 : LE E0 H2 := (le.same s1).fr f2 D2
  have obd : ∀ y ∈ own, -(10 ^ 60) ≤ y ∧ y ≤ 10 ^ 60 := fun y hy => by have := ob y hy; omega
  have g0 : 0 ≤ own.getD ja 0 ∧ own.getD ja 0 ≤ 10 ^ 31 := by
    rw [List.getD_eq_getElem?_getD, List.getElem?_eq_getElem (show ja < own.length by omega)]
    exact ob _ (List.getElem_mem _)
  refine put_TE (f := fun i j => i - j) (own := own) (ja := ja) rfl rfl ht2 (by omega) (by omega) fun u1 H3 ys1 s3 hu1 y1l y1m _ => ?_
  refine put_TE (f := fun i j => i + j) (own := own) (ja := ja) rfl rfl (s3 _ _ ht2) (by omega) (by omega) fun u2 H4 ys2 s4 hu2 y2l y2m _ => ?_
  have s24 := s3.trans s4
  refine ⟨_, rfl, _, rfl, _, rfl, _, rfl, (by show 1 ≤ sizeLine; decide), fun v1 nv1 => ?_⟩
  have sv := same_upd (o := .tup [V.int 1]) nv1
  refine cat_uni (sv _ _ (s24 _ _ ht2)) (show upd H4 v1 (.tup [V.int 1]) v1 = _ from upd_same) ?_ fun u3 H5 s5 hu3 => ?_
  · rw [List.length_map, ol]
    exact Nat.le_trans (show k + 1 ≤ 5 by omega) (by decide)
  have s25 := s24.trans (sv.trans s5)
  refine ⟨_, rfl, _, rfl, no_part ?_⟩
  refine sl_uni (s25 _ _ ht2) fun u4 H6 s6 hu4 => ?_
  rw [show (some (1 : Int)) = some ((1 : Nat) : Int) from rfl, cut_from, ← List.map_drop] at hu4
  have s26 := s25.trans s6
  refine ⟨_, rfl, t, _, rfl, s26 _ _ ht2, fun u5 nu5 eu5 => ?_⟩
  have sl5 := same_upd (o := .lst (own.map V.int)) nu5
  have s27 := s26.trans sl5
  refine ⟨_, rfl, t, rfl, ⟨_, SqT.of (s27 _ _ ht2)⟩, fun R nR => ?_⟩
  refine lc_mT (fun j => .int (own.getD j 0 * 10 ^ 20)) (s27 _ _ ht2) nR (by rw [List.length_map]; omega) ?_ gName_mono ?_
  · intro j x H' hx s' R' hR
    have hj : j < own.length := by
      have := (List.getElem?_eq_some_iff.mp hx).1
      rwa [List.length_map] at this
    rw [get_int hj] at hx
    have ex : x = .int (own.getD j 0) := (Option.some.inj hx).symm
    subst ex
    have gj : 0 ≤ own.getD j 0 ∧ own.getD j 0 ≤ 10 ^ 31 := by
      rw [List.getD_eq_getElem?_getD, List.getElem?_eq_getElem hj]
      exact ob _ (List.getElem_mem _)
    exact ⟨rfl, _, rfl, _, _, rfl, rfl, ⟨by decide, by decide, by decide⟩, _, _, rfl, rfl, wide_mul (a := 200) (b := 100) (by omega) (by decide) (by decide) (by decide) (by decide), hR H' (Same.refl _)⟩
  intro H8 s8 hR
  rw [List.length_map, map_rng (fun y : Int => V.int (y * 10 ^ 20)) own 0 _ (fun j d e => by rw [List.getD_eq_getElem?_getD, e]; rfl)] at hR
  refine ⟨R, _, rfl, .inl ⟨SqL.of hR, fun u6 nu6 => ⟨(by show 7 ≤ sizeLine; decide), fun F nF => ?_⟩⟩⟩
  have s9 := same_upd (o := .tup (own.map fun y : Int => V.int (y * 10 ^ 20))) nu6
  have hu6 : upd H8 u6 (.tup (own.map fun y : Int => V.int (y * 10 ^ 20))) u6 = some (.tup ((own.map fun y : Int => y * 10 ^ 20).map V.int)) := by rw [upd_same, List.map_map]; rfl
  have s29 := s27.trans (s8.trans s9)
  generalize upd H8 u6 (.tup (own.map fun y : Int => V.int (y * 10 ^ 20))) = H9 at *
  have le9 := le2.same s29
  have q0 : Good K E0 H9 (.ref t) := Good.ints (s29 _ _ ht2) le9 (by omega) obd
  have q1 : Good K E0 H9 (.ref u1) := Good.ints ((s4.trans (sv.trans (s5.trans (s6.trans (sl5.trans (s8.trans s9)))))) _ _ hu1) le9 (by omega) fun y hy => by
    rcases y1m y hy with h | rfl
    · exact obd y h
    · omega
  have q2 : Good K E0 H9 (.ref u2) := Good.ints ((sv.trans (s5.trans (s6.trans (sl5.trans (s8.trans s9))))) _ _ hu2) le9 (by omega) fun y hy => by
    rcases y2m y hy with h | rfl
    · exact obd y h
    · omega
  have q3 : Good K E0 H9 (.ref u3) := Good.ints (ys := own ++ [1]) (by rw [(s6.trans (sl5.trans (s8.trans s9))) _ _ hu3, List.map_append]; rfl) le9 (by rw [List.length_append, List.length_singleton]; omega) (all_app obd (all_cons (by omega) all_nil))
  have q4 : Good K E0 H9 (.ref u4) := Good.ints ((sl5.trans (s8.trans s9)) _ _ hu4) le9 (by rw [List.length_drop]; omega) fun y hy => obd y (List.mem_of_mem_drop hy)
  have q5 : Good K E0 H9 (.ref u5) := Good.lst ((s8.trans s9) _ _ upd_same) ((le2.same s26).nn nu5) eu5 (by rw [List.length_map]; omega) fun x hx => by
    obtain ⟨y, hy, rfl⟩ := List.mem_map.mp hx
    exact Itm.int (obd y hy).1 (obd y hy).2
  have q6 : Good K E0 H9 (.ref u6) := Good.ints hu6 le9 (by rw [List.length_map]; omega) fun z hz => by
    obtain ⟨y, hy, rfl⟩ := List.mem_map.mp hz
    have := ob y hy
    omega
  have qa : ∀ x ∈ [V.ref t, .ref u1, .ref u2, .ref u3, .ref u4, .ref u5, .ref u6], Good K (fun b => E0 b ∨ b = F) H9 x := by
    have gr : ∀ b, (E0 b ∨ b = F) → E0 b ∨ H9 b = none := fun b c => c.imp id fun c => by rw [c]; exact nF
    exact all_cons (q0.grow gr) (all_cons (q1.grow gr) (all_cons (q2.grow gr) (all_cons (q3.grow gr) (all_cons (q4.grow gr) (all_cons (q5.grow gr) (all_cons (q6.grow gr) all_nil))))))
  have D9 := D2.same s29
  have hd9 := s29 _ _ hd2
  have ht9 := s29 _ _ ht2
  clear q0 q1 q2 q3 q4 q5 q6 hu1 hu2 hu3 hu4 hu6 s9 s8 sl5 s27 s26 s6 s25 s5 sv s24 s4 s3
  obtain ⟨Fp, Fl⟩ := D9.lne nF
  have sF := same_upd (o := .lst [V.ref t, .ref u1, .ref u2, .ref u3, .ref u4, .ref u5, .ref u6]) nF
  have hF : upd H9 F (.lst [V.ref t, .ref u1, .ref u2, .ref u3, .ref u4, .ref u5, .ref u6]) F = some (.lst [V.ref t, .ref u1, .ref u2, .ref u3, .ref u4, .ref u5, .ref u6]) := upd_same
  have fl : ([V.ref t, .ref u1, .ref u2, .ref u3, .ref u4, .ref u5, .ref u6] : List V).length = 7 := rfl
  generalize [V.ref t, .ref u1, .ref u2, .ref u3, .ref u4, .ref u5, .ref u6] = fs at *
  refine ⟨_, rfl, .inl ⟨rfl, _, SqL.of hF⟩, ?_⟩
  rw [tCons_eq, tLst_eq, tCons_eq]
  refine rep_TE (k := k) rfl (sF _ _ hd9) k4 fun w1 G1 t1 hw1 => ?_
  try dsimp only
  rw [tCons_eq]
  refine rep_TE (k := k) rfl ((sF.trans t1) _ _ hd9) k4 fun w2 G2 t2 hw2 => ?_
  try dsimp only
  rw [tCons_eq]
  refine rep_TE (k := k) rfl ((sF.trans (t1.trans t2)) _ _ hd9) k4 fun w3 G3 t3 hw3 => ?_
  refine ⟨(by show 0 ≤ sizeLine; decide), fun w4 nw4 => ⟨(by show 4 ≤ sizeLine; decide), fun g ng => ?_⟩⟩
  have t4 := same_upd (o := .tup []) nw4
  have t5 := same_upd (o := .lst [V.ref w1, .ref w2, .ref w3, .ref w4]) ng
  have hg : upd (upd G3 w4 (.tup [])) g (.lst [V.ref w1, .ref w2, .ref w3, .ref w4]) g = some (.lst [V.ref w1, .ref w2, .ref w3, .ref w4]) := upd_same
  have hw4 : upd (upd G3 w4 (.tup [])) g (.lst [V.ref w1, .ref w2, .ref w3, .ref w4]) w4 = some (.tup (List.replicate 0 .non)) := t5 _ _ upd_same
  have hw3 := (t4.trans t5) _ _ hw3
  have hw2 := (t3.trans (t4.trans t5)) _ _ hw2
  have hw1 := (t2.trans (t3.trans (t4.trans t5))) _ _ hw1
  have t15 := t1.trans (t2.trans (t3.trans (t4.trans t5)))
  generalize upd (upd G3 w4 (.tup [])) g (.lst [V.ref w1, .ref w2, .ref w3, .ref w4]) = G5 at *
  have hF5 := t15 _ _ hF
  have sF5 := sF.trans t15
  have le5 : LE (fun b => E0 b ∨ b = F) G5 := (le9.same sF5).more hF5
  have qb : ∀ x ∈ fs ++ [V.ref w1, .ref w2, .ref w3, .ref w4], Good K (fun b => E0 b ∨ b = F) G5 x := all_app (fun x hx => (qa x hx).ag (Ag.of sF5))
    (all_cons (rep_good hw1 le5 k4 (Itm.int (by decide) (by decide))) (all_cons (rep_good hw2 le5 k4 (Itm.bl true)) (all_cons (rep_good hw3 le5 k4 (Itm.int (by decide) (by decide))) (all_cons (rep_good hw4 le5 (by decide) ⟨.none, fun _ _ => .non, ⟨by decide +kernel, by decide +kernel, by decide +kernel⟩⟩) all_nil))))
  refine ⟨F, g, _, _, rfl, rfl, hF5, hg, ?_, ?_⟩
  · rw [fl]
    show 7 + 4 ≤ sizeLine
    decide
  have ht10 : upd G5 F (.lst (fs ++ [V.ref w1, .ref w2, .ref w3, .ref w4])) t = some (.tup (own.map V.int)) := by
    have := sF5 _ _ ht9
    rw [upd_ne (ne_of this hF5 (by intro q; cases q))]
    exact this
  have D10 : Deck (upd G5 F (.lst (fs ++ [V.ref w1, .ref w2, .ref w3, .ref w4]))) p l (n + 1) := by
    have D := D9.same sF5
    refine ⟨by rw [upd_ne Fp.symm]; exact D.hp, ?_⟩
    obtain ⟨cells, q1, q2⟩ := D.hl
    exact ⟨cells, by rw [upd_ne Fl.symm]; exact q1, q2⟩
  have f10 : Fr p l H (upd G5 F (.lst (fs ++ [V.ref w1, .ref w2, .ref w3, .ref w4]))) := by
    intro b o h1 h2 hb'
    have := (((Same.fr s1).trans f2).trans (Same.fr s29)) b o h1 h2 hb'
    rw [upd_ne (ne_of_none this nF)]
    exact sF5 _ _ this
  have qb : ∀ x ∈ fs ++ [V.ref w1, .ref w2, .ref w3, .ref w4], Good K E0 (upd G5 F (.lst (fs ++ [V.ref w1, .ref w2, .ref w3, .ref w4]))) x := fun x hx => ((qb x hx).ag (Ag.put (E := fun b => E0 b ∨ b = F) (Or.inr rfl))).grow fun b h => .inl (.inl h)
  have hF6 : upd G5 F (.lst (fs ++ [V.ref w1, .ref w2, .ref w3, .ref w4])) F = some (.lst (fs ++ [V.ref w1, .ref w2, .ref w3, .ref w4])) := upd_same
  clear hw1 hw2 hw3 hw4 hg hF5 t15 t5 t4 t3 t2 t1 le5 hF sF ng nw4
  generalize upd G5 F (.lst (fs ++ [V.ref w1, .ref w2, .ref w3, .ref w4])) = H6 at *
  have lfs : (fs ++ [V.ref w1, .ref w2, .ref w3, .ref w4]).length = 11 := by rw [List.length_append, fl]; rfl
  generalize fs ++ [V.ref w1, .ref w2, .ref w3, .ref w4] = gs at *
  refine ⟨_, rfl, (4 : Int), rfl, by decide, by decide, fun R nR => ?_⟩
  obtain ⟨Rp, Rl⟩ := D10.lne nR
  refine lc_range (lo := 0) (n := 4) (fun i H' => ∃ (n' : Int) (xs : List V), Fr p l H6 H' ∧ Deck H' p l n' ∧ n + 1 ≤ n' ∧ n' ≤ n + 1 + 4 * (i : Int) ∧ xs.length = i ∧ (∀ x ∈ xs, TI H' x) ∧ H' R = some (.lst xs)) ⟨n + 1, [], Same.fr (same_upd nR), D10.same (same_upd nR), by omega, by omega, rfl, all_nil, upd_same⟩ ?_ ?_
  · rintro i H' hi ⟨n', xs, f, D, b0, b1, xl, xg, hR⟩
    refine ⟨rfl, ?_⟩
    rw [tYes_eq]
    refine iteT ⟨_, rfl, t, rfl, ⟨_, SqT.of (f.tup D10 ht10)⟩, fun S nS => ?_⟩
    refine lc_rdT (c := 1) (fun y => 1 ≤ y ∧ y ≤ 9) D (f.tup D10 ht10) nS (by rw [List.length_map]; omega) (by decide) ?_ gName_mono ?_
    · intro j x H7 n7 hx f7 D7 c0 c1 R' hR'
      have hj : j < own.length := by
        have := (List.getElem?_eq_some_iff.mp hx).1
        rwa [List.length_map] at this
      refine ⟨rfl, _, rfl, p, l, n7, _, rfl, D7, by omega, by omega, by omega, by omega, fun r H8 x0 x1 f8 D8 => ?_⟩
      exact ⟨_, _, rfl, rfl, hR' H8 _ (n7 + 1) f8 D8 (by omega) (by omega) (by omega)⟩
    · intro H7 n7 ys f7 D7 c0 c1 yl yg hS
      rw [List.length_map, ol] at yl c1
      refine ⟨S, _, rfl, .inl ⟨SqL.of hS, fun u nu => ?_⟩⟩
      have su := same_upd (o := .tup (ys.map V.int)) nu
      have hR7 := su _ _ (f7 R _ Rp Rl hR)
      refine ⟨_, hR7, ?_, n7, xs ++ [.ref u], ?_, ⟨by rw [upd_ne Rp.symm]; exact (D7.same su).hp, ?_⟩, by omega, by omega, ?_, ?_, ?_⟩
      · rw [xl]
        exact Nat.lt_of_le_of_lt (show i ≤ 4 by omega) (by decide)
      · intro b o h1 h2 hb'
        rw [upd_ne (ne_of_none hb' nR)]
        exact su _ _ (f7 b o h1 h2 (f b o h1 h2 hb'))
      · obtain ⟨cells, q1, q2⟩ := (D7.same su).hl
        exact ⟨cells, by rw [upd_ne Rl.symm]; exact q1, q2⟩
      · rw [List.length_append, List.length_singleton, xl]
      · exact all_app (fun x hx => (((xg x hx).fr f7 D).same su).put hR7) (all_cons (TI.put ⟨u, ys, rfl, upd_same, by omega, fun y hy => by have := yg y hy; omega⟩ hR7) all_nil)
      · rw [upd_same]
  · rintro H7 ⟨n', xs, f, D, b0, b1, xl, xg, hR⟩
    refine ⟨F, R, _, _, rfl, rfl, f F _ Fp Fl hF6, hR, ?_, fun U nU => ?_⟩
    · rw [lfs, xl]
      show 11 + 4 ≤ sizeLine
      decide
    have sU := same_upd (o := .lst (gs ++ xs)) nU
    have le7 : LE E0 H7 := (le.fr (f10.trans f) D)
    refine kk _ U (gs ++ xs) n' (f10.trans (f.trans (Same.fr sU))) (D.same sU) (by omega) (by omega) upd_same (by rw [List.length_append]; omega) (by rw [List.length_append]; omega) ?_
    exact all_app (fun x hx => ((qb x hx).ag (f.ag ep el)).ag (Ag.of sU)) fun x hx => ((xg x hx).good le7).ag (Ag.of sU)
end
end Sm

set_option Elab.async false
set_option linter.all false
set_option maxRecDepth 100000
set_option maxHeartbeats 8000000
namespace Sm
open PySem PySem.Spec PyProof.Rows L2
open C8 (pss_cut tCut)
theorem cutV_mem {xs : List V} {lo hi : Option Int} {x : V} (h : x ∈ cutV xs lo hi) : x ∈ xs := List.mem_of_mem_drop (List.mem_of_mem_take h)
def IV (x : V) : Prop := ∃ i : Int, x = .int i ∧ 0 ≤ i ∧ i ≤ 100
theorem IV.itm {K : PySem.W.Frag} {E : Addr → Prop} {H : Hp} {x : V} (h : IV x) : Itm K E H x := by
  obtain ⟨i, rfl, h0, h1⟩ := h
  exact Itm.int (by omega) (by omega)
theorem Good.iv {K : PySem.W.Frag} {E : Addr → Prop} {H : Hp} {u : Addr} {xs : List V} (h : H u = some (.tup xs)) (le : LE E H) (l : xs.length ≤ 16) (a : ∀ x ∈ xs, IV x) : Good K E H (.ref u) := Good.tup h le l fun x hx => (a x hx).itm
/-- loops found so far in F -/
def PW (K : PySem.W.Frag) (E : Addr → Prop) (p l d r F : Addr) (n : Int) (m : Nat) (H : Hp) (i : Nat) (σ : L2.St) (H' : Hp) : Prop := ∃ (n' : Int) (gs : List V) (v4 v5 v6 v7 v8 : Option V), σ = [some (.ref p), some (.ref d), some (.ref r), some (.ref F), v4, v5, v6, v7, v8] ∧ Fr p l H H' ∧ Deck H' p l n' ∧ n ≤ n' ∧ n' ≤ n + 10 * (i : Int) ∧ H' F = some (.lst gs) ∧ gs.length = m + i ∧ ∀ x ∈ gs, Good K E H' x
def sp_l_looped (K : PySem.W.Frag) : Sp := fun vs H Q _ => ∃ (p l d r : Addr) (n : Int) (k : Nat) (L : List Of) (is : List Nat) (E : Addr → Prop), vs = [.ref p, .ref d, .ref r] ∧ Deck H p l n ∧ 0 ≤ n ∧ n ≤ 800000 ∧ BoardAt H d k L ∧ L.length ≤ 63 ∧ H r = some (.tup ((is.map fun i : Nat => (i : Int)).map V.int)) ∧ is.length ≤ 4 ∧ (∀ i ∈ is, i < L.length) ∧ E p ∧ E l ∧ LE E H ∧
  ∀ H' U xs n', Fr p l H H' → Deck H' p l n' → n ≤ n' → n' ≤ n + 100 → H' U = some (.lst xs) → xs.length ≤ 20 → (∀ x ∈ xs, Good K E H' x) → Q (.ref U) H'
section
variable {P : Program} {w : World} {K : PySem.W.Frag} {mg : Str → Option Value} {base : Heap}
abbrev s_l_looped : Stmt := topS 30
abbrev N_l_looped : List Str := ["_law_deck_here", "_law_board_here", "_law_ring_here", "_law_found", "_law_turn", "_law_some_here", "_law_at", "_law_k", "_law_index"]
theorem sc_l_looped : FnScope N_l_looped ["_law_deck_here", "_law_board_here", "_law_ring_here"] (defScope s_l_looped) := ⟨rfl, rfl, rfl, by decide +kernel, rfl, by decide +kernel, by decide +kernel⟩
theorem ok_l_looped (T : Txt mg) (D : Df K mg "_law_looped" s_l_looped ["_law_deck_here", "_law_board_here", "_law_ring_here"]) (C_l_odd : Cal P w K mg base "_law_odd" ["_law_deck_here"] 3 (sp_l_odd K)) (C_l_draw : Cal P w K mg base "_law_draw" ["_law_deck_here", "_law_many"] 1 (sp_l_draw K)) : Cal P w K mg base "_law_looped" ["_law_deck_here", "_law_board_here", "_law_ring_here"] 4 (sp_l_looped K) := by
  obtain ⟨f_l_odd, fd_l_odd, G_l_odd, m_l_odd, k_l_odd, b_l_odd⟩ := C_l_odd
  obtain ⟨f_l_draw, fd_l_draw, G_l_draw, m_l_draw, k_l_draw, b_l_draw⟩ := C_l_draw
  refine D.cal sc_l_looped (fun vs H Q E h => ?_) (fun f cdv A outer s H vs Q E hr h => ?_)
  · obtain ⟨p, l, d, r, n, k, L, is, E', rfl, _⟩ := h
    rfl
  obtain ⟨p, l, d, r, n, k, L, is, E0, rfl, D0, n0, n1, hb, l63, hring, isl, il, ep, el, le, kk⟩ := h
  obtain ⟨tb, qs, hd, htb, hL⟩ := id hb
  refine ⟨_, (pss_cons (ps_set (i := 3) sc_l_looped.nd rfl (Or.inl rfl) (pe_lst (pa_cons (pv 2) (pa_cons (pe_op op_catA (pe_slice sl_tupA (pv 2) (po_some pe_int) po_none) (pe_slice sl_tupA (pv 2) po_none (po_some pe_int))) (pa_cons (pe_op op_catA (pv 2) (pv 2)) (pa_cons (pe_slice sl_tupA (pv 2) po_none (po_some (pe_un un_neg pe_int))) (pa_cons (pe_callTy call_listN (by rfl) T.n_list (by decide +kernel) (pa_cons (pv 2) pa_nil)) (pa_cons (pe_op op_catA (pv 2) (pe_slice sl_tupA (pv 2) po_none (po_some pe_int))) (pa_cons (pe_tup pa_nil) pa_nil)))))))))
    (pss_cons (ps_expr (pe_bm PySem.F.plainAttrs_list PySem.F.slot_list_append PySem.F.type_list_append mt_append (pv 3) (pa_cons (pe_callTy call_tuple_of (by rfl) T.n_tuple (by decide +kernel) (pa_cons (pe_lc (own := [("_law_index", 8)]) (g := gName 8) (tt := tYes) rfl sc_l_looped.nd (pi_tup (pv 2)) (blkOk_by (own := [("_law_index", 8)]) (N := N_l_looped) (sc := defScope s_l_looped) (by decide +kernel)) (fun _ _ _ _ _ => pg_name (i := 8) sc_l_looped.nd rfl (Or.inl rfl)) (fun _ _ _ _ _ => pts_nil) (fun _ _ _ _ _ => (pe_ifExp (pt_cmpR op_eq (pv 8) pe_int (nomark _)) pe_bl (pv 8)))) pa_nil)) pa_nil)))
    (pss_cons (ps_for PassesOwn.never rfl (pi_range1 (by rfl) T.n_range (pa_cons pe_int pa_nil)) (pg_name (i := 4) sc_l_looped.nd rfl (Or.inl rfl))
      (pss_cons (ps_setLc (i := 5) (own := [("_law_k", 7)]) (g := gName 7) (tt := tYes) rfl sc_l_looped.nd rfl rfl (sw_true rfl rfl rfl (by decide +kernel)) (pi_range1 (by rfl) T.n_range (pa_cons (pe_op op_add pe_int (pe_call G_l_draw (hr.mono (by decide)) (by rfl) m_l_draw k_l_draw b_l_draw .nil pass0 (pa_cons (pv 0) (pa_cons pe_int pa_nil)))) pa_nil)) (blkOk_by (own := [("_law_k", 7)]) (N := N_l_looped) (sc := defScope s_l_looped) (by decide +kernel)) (fun _ _ _ _ _ => pg_name (i := 7) sc_l_looped.nd rfl (Or.inl rfl)) (fun _ _ _ _ _ => pts_nil) (fun _ _ _ _ _ => (pe_call G_l_draw (hr.mono (by decide)) (by rfl) m_l_draw k_l_draw b_l_draw .nil pass0 (pa_cons (pv 0) (pa_cons (pe_op op_add (pe_callB (show CallR _ _ (fun xs H Q => ∃ p ys, xs = [.ref p] ∧ (SqL K H p ys ∨ SqT K H p ys) ∧ Q (.int ys.length) H) from call_len_seq) (by rfl) T.n_len (by decide +kernel) (pa_cons (pe_ix (show IxR _ (rIxT K) from ix_tup) (pv 1) pe_int (fun _ _ => rfl)) pa_nil)) pe_int) pa_nil)))))
    (pss_one (ps_expr (pe_bm PySem.F.plainAttrs_list PySem.F.slot_list_append PySem.F.type_list_append mt_append (pv 3) (pa_cons (pe_callTy call_tuple_of (by rfl) T.n_tuple (by decide +kernel) (pa_cons (pv 5) pa_nil)) pa_nil))))))
    (pss_cons (ps_set (i := 6) sc_l_looped.nd rfl (Or.inl rfl) (pe_call G_l_draw (hr.mono (by decide)) (by rfl) m_l_draw k_l_draw b_l_draw .nil pass0 (pa_cons (pv 0) (pa_cons (pe_op op_add pe_int (pe_callB call_len_seq (by rfl) T.n_len (by decide +kernel) (pa_cons (pv 2) pa_nil))) pa_nil))))
    (pss_one (ps_ret (pe_op op_cat (pv 3) (pe_lst (pa_cons (pe_op op_catA (pe_op op_catA (pe_slice sl_tupA (pv 2) po_none (po_some (pv 6))) (pe_tup (pa_cons (pe_call G_l_odd (hr.mono (by decide)) (by rfl) m_l_odd k_l_odd b_l_odd .nil pass0 (pa_cons (pv 0) pa_nil)) pa_nil))) (pe_slice sl_tupA (pv 2) (po_some (pe_op op_add (pv 6) pe_int)) po_none)) pa_nil))))))))), ?_⟩
  have rv : ∀ x ∈ (is.map fun i : Nat => (i : Int)).map V.int, IV x := fun x hx => by
    obtain ⟨y, hy, rfl⟩ := List.mem_map.mp hx
    obtain ⟨i, hi, rfl⟩ := List.mem_map.mp hy
    exact ⟨_, rfl, by omega, by have := il i hi; omega⟩
  have lr : ((is.map fun i : Nat => (i : Int)).map V.int).length = is.length := by rw [List.length_map, List.length_map]
  have gr : ∀ j, j < is.length → ((is.map fun i : Nat => (i : Int)).map V.int)[j]? = some (.int ((is.getD j 0 : Nat) : Int)) := fun j hj => by
    rw [List.getElem?_map, List.getElem?_map, List.getElem?_eq_getElem hj, List.getD_eq_getElem?_getD, List.getElem?_eq_getElem hj]
    rfl
  generalize (is.map fun i : Nat => (i : Int)).map V.int = rs at *
  have sz : ∀ m, m ≤ 20 → m ≤ sizeLine := fun m h => Nat.le_trans h (by decide)
  refine ⟨_, rfl, _, rfl, _, rfl, no_part ?_⟩
  refine sl_uni hring fun u1 H1 s1 hu1 => ?_
  refine ⟨_, rfl, no_part ⟨_, rfl, ?_⟩⟩
  refine sl_uni (s1 _ _ hring) fun u2 H2 s2 hu2 => ?_
  have c1 := cutV_length rs (some 1) none
  have c2 := cutV_length rs none (some 1)
  have c3 := cutV_length rs none (some (-1))
  refine cat_uni (s2 _ _ hu1) hu2 (sz _ (by omega)) fun u3 H3 s3 hu3 => ?_
  have s13 := s1.trans (s2.trans s3)
  refine ⟨_, rfl, _, rfl, ?_⟩
  refine cat_uni (s13 _ _ hring) (s13 _ _ hring) (sz _ (by omega)) fun u4 H4 s4 hu4 => ?_
  have s14 := s13.trans s4
  refine ⟨_, rfl, no_part ⟨_, rfl, _, rfl, ?_⟩⟩
  refine sl_uni (s14 _ _ hring) fun u5 H5 s5 hu5 => ?_
  have s15 := s14.trans s5
  refine ⟨_, rfl, r, _, rfl, s15 _ _ hring, fun u6 nu6 eu6 => ?_⟩
  have t6 := same_upd (o := .lst rs) nu6
  have s16 := s15.trans t6
  have hu6 : upd H5 u6 (.lst rs) u6 = some (.lst rs) := upd_same
  have le5 := le.same s15
  refine ⟨_, rfl, _, rfl, no_part ⟨_, rfl, ?_⟩⟩
  refine sl_uni (s16 _ _ hring) fun u7 H7 s7 hu7 => ?_
  refine cat_uni (s7 _ _ (s16 _ _ hring)) hu7 (sz _ (by omega)) fun u8 H8 s8 hu8 => ?_
  refine ⟨(by show 0 ≤ sizeLine; decide), fun u9 nu9 => ⟨(by show 7 ≤ sizeLine; decide), fun F nF => ?_⟩⟩
  have s9 := same_upd (o := .tup []) nu9
  have hu9 : upd H8 u9 (.tup []) u9 = some (.tup []) := upd_same
  have s19 := s16.trans (s7.trans (s8.trans s9))
  generalize upd H8 u9 (.tup []) = H9 at *
  have le9 := le.same s19
  have ring9 := s19 _ _ hring
  have q0 : Good K E0 H9 (.ref r) := Good.iv ring9 le9 (by omega) rv
  have q1 : Good K E0 H9 (.ref u3) := Good.iv ((s4.trans (s5.trans (t6.trans (s7.trans (s8.trans s9))))) _ _ hu3) le9 (by rw [List.length_append]; omega) (all_app (fun x hx => rv x (cutV_mem hx)) (fun x hx => rv x (cutV_mem hx)))
  have q2 : Good K E0 H9 (.ref u4) := Good.iv ((s5.trans (t6.trans (s7.trans (s8.trans s9)))) _ _ hu4) le9 (by rw [List.length_append]; omega) (all_app rv rv)
  have q3 : Good K E0 H9 (.ref u5) := Good.iv ((t6.trans (s7.trans (s8.trans s9))) _ _ hu5) le9 (by omega) (fun x hx => rv x (cutV_mem hx))
  have q4 : Good K E0 H9 (.ref u6) := Good.lst ((s7.trans (s8.trans s9)) _ _ hu6) (le5.nn nu6) eu6 (by omega) fun x hx => (rv x hx).itm
  have q5 : Good K E0 H9 (.ref u8) := Good.iv (s9 _ _ hu8) le9 (by rw [List.length_append]; omega) (all_app rv (fun x hx => rv x (cutV_mem hx)))
  have q6 : Good K E0 H9 (.ref u9) := Good.iv hu9 le9 (by show 0 ≤ 16; decide) all_nil
  have qa : ∀ x ∈ [V.ref r, .ref u3, .ref u4, .ref u5, .ref u6, .ref u8, .ref u9], Good K (fun b => E0 b ∨ b = F) H9 x := by
    have gr : ∀ b, (E0 b ∨ b = F) → E0 b ∨ H9 b = none := fun b c => c.imp id fun c => by rw [c]; exact nF
    exact all_cons (q0.grow gr) (all_cons (q1.grow gr) (all_cons (q2.grow gr) (all_cons (q3.grow gr) (all_cons (q4.grow gr) (all_cons (q5.grow gr) (all_cons (q6.grow gr) all_nil))))))
  have D9 := D0.same s19
  have hd9 := s19 _ _ hd
  have htb9 := s19 _ _ htb
  clear q0 q1 q2 q3 q4 q5 q6 hu1 hu2 hu3 hu4 hu5 hu6 hu7 hu8 hu9 s9 s8 s7 t6 s16 s15 s5 s14 s4 s13 s3 s2 s1 le5
  obtain ⟨Fp, Fl⟩ := D9.lne nF
  have sF := same_upd (o := .lst [V.ref r, .ref u3, .ref u4, .ref u5, .ref u6, .ref u8, .ref u9]) nF
  have hF : upd H9 F (.lst [V.ref r, .ref u3, .ref u4, .ref u5, .ref u6, .ref u8, .ref u9]) F = some (.lst [V.ref r, .ref u3, .ref u4, .ref u5, .ref u6, .ref u8, .ref u9]) := upd_same
  have fl : ([V.ref r, .ref u3, .ref u4, .ref u5, .ref u6, .ref u8, .ref u9] : List V).length = 7 := rfl
  generalize [V.ref r, .ref u3, .ref u4, .ref u5, .ref u6, .ref u8, .ref u9] = fs at *
  have nFH : H F = none := Same.free s19 nF
  have E1p : (fun b => E0 b ∨ b = F) p := Or.inl ep
  have E1l : (fun b => E0 b ∨ b = F) l := Or.inl el
  have E1F : (fun b => E0 b ∨ b = F) F := Or.inr rfl
  refine ⟨_, rfl, .inl ⟨rfl, _, SqL.of hF⟩, ?_⟩
  refine ⟨_, rfl, r, rfl, ⟨_, SqT.of (sF _ _ ring9)⟩, fun R nR => ?_⟩
  refine lc_mT (fun j => if V.int ((is.getD j 0 : Nat) : Int) = V.int 1 then V.bl true else V.int ((is.getD j 0 : Nat) : Int)) (sF _ _ ring9) nR (by omega) ?_ gName_mono ?_
  · intro j x H' hx s' R' hR
    have hj : j < is.length := by
      have := (List.getElem?_eq_some_iff.mp hx).1
      rwa [lr] at this
    rw [gr j hj] at hx
    have ex : x = .int ((is.getD j 0 : Nat) : Int) := (Option.some.inj hx).symm
    subst ex
    have hR := hR H' (Same.refl _)
    refine ⟨rfl, _, rfl, rfl, _, rfl, by_one (fun c => ?_) (fun c => ?_)⟩
    · rw [if_pos c] at hR
      exact hR
    · rw [if_neg c] at hR
      exact ⟨_, rfl, hR⟩
  intro H10 s10 hR
  refine ⟨R, _, rfl, .inl ⟨SqL.of hR, fun u10 nu10 => ?_⟩⟩
  have hF10 := s10 _ _ hF
  have s11 := same_upd (o := .tup ((List.range rs.length).map fun j => if V.int ((is.getD j 0 : Nat) : Int) = V.int 1 then V.bl true else V.int ((is.getD j 0 : Nat) : Int))) nu10
  have hu10 : upd H10 u10 (.tup ((List.range rs.length).map fun j => if V.int ((is.getD j 0 : Nat) : Int) = V.int 1 then V.bl true else V.int ((is.getD j 0 : Nat) : Int))) u10 = some (.tup ((List.range rs.length).map fun j => if V.int ((is.getD j 0 : Nat) : Int) = V.int 1 then V.bl true else V.int ((is.getD j 0 : Nat) : Int))) := upd_same
  have sF11 := sF.trans (s10.trans s11)
  have hF11 := s11 _ _ hF10
  generalize upd H10 u10 (.tup ((List.range rs.length).map fun j => if V.int ((is.getD j 0 : Nat) : Int) = V.int 1 then V.bl true else V.int ((is.getD j 0 : Nat) : Int))) = H11 at *
  have le11 : LE (fun b => E0 b ∨ b = F) H11 := (le9.same sF11).more hF11
  have qb : ∀ x ∈ fs ++ [V.ref u10], Good K (fun b => E0 b ∨ b = F) H11 x := all_app (fun x hx => (qa x hx).ag (Ag.of sF11)) (all_cons (Good.tup hu10 le11 (by rw [List.length_map, List.length_range]; omega) fun x hx => by
    obtain ⟨j, hj, rfl⟩ := List.mem_map.mp hx
    have hj : j < is.length := by have := List.mem_range.mp hj; omega
    have hi := il (is.getD j 0) (by rw [List.getD_eq_getElem?_getD, List.getElem?_eq_getElem hj]; exact List.getElem_mem hj)
    split
    · exact Itm.bl true
    · exact Itm.int (by omega) (by omega)) all_nil)
  refine ⟨F, _, _, rfl, rfl, hF11, ?_, ?_⟩
  · rw [fl]
    decide
  refine ⟨4, rfl, by decide, by decide, ?_⟩
  have f12 : Fr p l H (upd H11 F (.lst (fs ++ [V.ref u10]))) := fun b o h1 h2 hb' => by
    rw [upd_ne (ne_of_none hb' nFH)]
    exact sF11 _ _ (s19 _ _ hb')
  have D12 : Deck (upd H11 F (.lst (fs ++ [V.ref u10]))) p l n := by
    have D := D9.same sF11
    refine ⟨by rw [upd_ne Fp.symm]; exact D.hp, ?_⟩
    obtain ⟨cells, q1, q2⟩ := D.hl
    exact ⟨cells, by rw [upd_ne Fl.symm]; exact q1, q2⟩
  refine for_range (lo := 0) (n := 4) (PW K (fun b => E0 b ∨ b = F) p l d r F n 8 H) ⟨n, fs ++ [V.ref u10], _, _, _, _, _, rfl, f12, D12, by omega, by omega, upd_same, by rw [List.length_append, fl]; rfl, fun x hx => (qb x hx).ag (Ag.put (E := fun b => E0 b ∨ b = F) E1F)⟩ ?_ ?_
  · rintro i σ H2 hi ⟨n', gs, v4, v5, v6, v7, v8, rfl, f2, D2, m0, m1, hF2, gl, hgs⟩
    have hi4 : (i : Int) ≤ 4 := by omega
    have stay : ∀ {b xs}, H b = some (.tup xs) → H2 b = some (.tup xs) := fun {b xs} h => f2.tup D0 h
    have le2 : LE (fun b => E0 b ∨ b = F) H2 := (le.fr f2 D2).more hF2
    refine ⟨_, rfl, p, l, n', _, rfl, D2, by omega, by omega, by omega, by omega, fun rk H5 x0 x1 f5 D5 => ?_⟩
    refine ⟨_, _, rfl, rfl, 1 + rk, rfl, by omega, by omega, fun R nR => ?_⟩
    refine lc_rd (c := 1) (fun y => 0 ≤ y ∧ y ≤ 100) D5 nR (by omega) (by decide) ?_ gName_mono ?_
    · intro j H7 n7 hj f7 D7 c0 c1 R' hR'
      have hj : j < (1 + rk).toNat := hj
      have hd7 := f7.tup D5 (f5.tup D2 (stay hd))
      have htb7 := f7.tup D5 (f5.tup D2 (stay htb))
      have lq : (qs.map V.ref).length = L.length := by rw [List.length_map, hL.1]
      refine ⟨rfl, _, rfl, _, rfl, _, _, _, _, rfl, rfl, SqT.of hd7, atI_nat (j := 1) rfl, tb, _, rfl, .inr (SqT.of htb7), _, _, rfl, rfl, p, l, n7, _, rfl, D7, by omega, by omega, by omega, by omega, fun y H8 y0 y1 f8 D8 => ?_⟩
      exact hR' H8 y (n7 + 1) f8 D8 (by omega) (by omega) (by omega)
    · intro H7 n7 ys f7 D7 c0 c1 yl yg hR
      have f57 := f5.trans f7
      refine ⟨_, rfl, .inl ⟨rfl, _, SqL.of (f57 F _ Fp Fl hF2)⟩, _, rfl, R, _, rfl, .inl ⟨SqL.of hR, fun u nu => ?_⟩⟩
      have su := same_upd (o := .tup (ys.map V.int)) nu
      have hF8 := su _ _ (f57 F _ Fp Fl hF2)
      have hu : upd H7 u (.tup (ys.map V.int)) u = some (.tup (ys.map V.int)) := upd_same
      have D8 := D7.same su
      have f8 := f57.trans (Same.fr su)
      generalize upd H7 u (.tup (ys.map V.int)) = H8 at *
      have le8 : LE (fun b => E0 b ∨ b = F) H8 := (le.fr (f2.trans f8) D8).more hF8
      refine ⟨F, _, _, rfl, rfl, hF8, ?_, n7, gs ++ [.ref u], _, _, _, _, _, rfl, ?_, ⟨by rw [upd_ne Fp.symm]; exact D8.hp, ?_⟩, by omega, by omega, upd_same, ?_, fun x hx => Good.ag (E := fun b => E0 b ∨ b = F) ?_ (Ag.put E1F)⟩
      · rw [gl]
        exact Nat.lt_of_le_of_lt (show 8 + i ≤ 12 by omega) (by decide)
      · intro b o h1 h2 hb'
        rw [upd_ne (ne_of_none hb' nFH)]
        exact f8 b o h1 h2 (f2 b o h1 h2 hb')
      · obtain ⟨cells, q1, q2⟩ := D8.hl
        exact ⟨cells, by rw [upd_ne Fl.symm]; exact q1, q2⟩
      · rw [List.length_append, List.length_singleton, gl]
        omega
      · rcases List.mem_append.mp hx with hx | hx
        · exact (hgs x hx).ag (f8.ag E1p E1l)
        · rw [List.mem_singleton.mp hx]
          exact Good.ints hu le8 (by omega) fun y hy => by have := yg y hy; omega
  · rintro σ H2 ⟨n', gs, v4, v5, v6, v7, v8, rfl, f2, D2, m0, m1, hF2, gl, hgs⟩
    have le2 : LE (fun b => E0 b ∨ b = F) H2 := (le.fr f2 D2).more hF2
    have ring2 := f2.tup D0 hring
    refine ⟨_, rfl, _, rfl, r, _, rfl, .inr (SqT.of ring2), _, _, rfl, rfl, p, l, n', _, rfl, D2, by omega, by omega, by omega, by omega, fun ra H3 a0 a1 f3 D3 => ?_⟩
    obtain ⟨ja, rfl⟩ : ∃ ja : Nat, ra = (ja : Int) := ⟨ra.toNat, by omega⟩
    refine ⟨_, rfl, _, rfl, no_part ⟨_, rfl, _, rfl, ?_⟩⟩
    have ring3 := f3.tup D2 ring2
    refine sl_uni ring3 fun u1 H4 s4 hu1 => ?_
    have D4 := D3.same s4
    refine ⟨_, rfl, p, l, n' + 1, rfl, D4, by omega, by omega, fun H5 x dx f5 D5 hx sm _ => ?_⟩
    have ring5 := f5.tup D4 (s4 _ _ ring3)
    have hu15 := f5.tup D4 hu1
    have le4 : LE (fun b => E0 b ∨ b = F) H4 := (le2.fr f3 D3).same s4
    have le5 : LE (fun b => E0 b ∨ b = F) H5 := le4.fr f5 D5
    have hF5 := f5 F _ Fp Fl (s4 _ _ (f3 F _ Fp Fl hF2))
    have ix : Itm K (fun b => E0 b ∨ b = F) H5 x := ⟨dx, fun H' a => hx H' fun b o hn hs => a b o (le4.nn hn) hs, sm.up (by decide) (by decide)⟩
    refine ⟨(by show 1 ≤ sizeLine; decide), fun u2 nu2 => ?_⟩
    have s6 := same_upd (o := .tup [x]) nu2
    have d1 := cutV_length rs none (some (ja : Int))
    have d2 := cutV_length rs (some ((ja : Int) + 1)) none
    refine cat_uni (s6 _ _ hu15) (show upd H5 u2 (.tup [x]) u2 = _ from upd_same) (sz _ (by show _ + 1 ≤ 20; omega)) fun u3 H7 s7 hu3 => ?_
    refine ⟨_, rfl, _, rfl, _, _, rfl, rfl, _, rfl, no_part ?_⟩
    refine sl_uni ((s6.trans s7) _ _ ring5) fun u4 H8 s8 hu4 => ?_
    have l3 : (cutV rs none (some (ja : Int)) ++ [x]).length ≤ 5 := by rw [List.length_append]; show _ + 1 ≤ 5; omega
    refine cat_uni (s8 _ _ hu3) hu4 (sz _ (by omega)) fun u5 H9 s9 hu5 => ?_
    have s59 := s6.trans (s7.trans (s8.trans s9))
    refine ⟨(by show 1 ≤ sizeLine; decide), fun g ng => ?_⟩
    have tg := same_upd (o := .lst [V.ref u5]) ng
    refine ⟨F, g, _, _, rfl, rfl, (s59.trans tg) _ _ hF5, upd_same, ?_, fun U nU => ?_⟩
    · rw [gl]
      exact sz _ (by show 8 + 4 + 1 ≤ 20; decide)
    have tU := same_upd (o := .lst (gs ++ [V.ref u5])) nU
    have sA := s59.trans (tg.trans tU)
    have fA := f3.trans ((Same.fr s4).trans (f5.trans (Same.fr sA)))
    refine kk _ U (gs ++ [.ref u5]) (n' + 1 + 1) (f2.trans fA) (D5.same sA) (by omega) (by omega) upd_same (by rw [List.length_append, gl]; show 8 + 4 + 1 ≤ 20; decide) fun z hz => Good.grow (E := fun b => E0 b ∨ b = F) ?_ fun b h => .inl (.inl h)
    rcases List.mem_append.mp hz with hz | hz
    · exact (hgs z hz).ag (fA.ag E1p E1l)
    · rw [List.mem_singleton.mp hz]
      refine (Good.tup hu5 (le5.same s59) (by rw [List.length_append]; omega) (all_app (all_app (fun x hx => (rv x (cutV_mem hx)).itm) (all_cons (ix.ag (Ag.of s59)) all_nil)) fun x hx => (rv x (cutV_mem hx)).itm)).ag (Ag.of (tg.trans tU))
end
end Sm

set_option Elab.async false
set_option linter.all false
set_option maxRecDepth 100000
set_option maxHeartbeats 8000000
namespace Sm
open PySem PySem.Spec PyProof.Rows L2
open C8 (pss_cut tCut)
/-- a comprehension over a list whose items have a property that stays -/
theorem lc_mGL {K : PySem.W.Frag} {a : Addr} {zs : List V} {g : TG} {te : TE} {vs : List Nat} {σ : L2.St} {H : Hp} {D : Addr} {Qd : Hp → Prop} (G : V → Hp → Prop) (Gs : ∀ v H H', G v H → Same H H' → G v H') (ha : H a = some (.lst zs)) (nD : H D = none) (ln : zs.length ≤ 20000)
    (hs : ∀ (i : Nat) x H', zs[i]? = some x → Same H H' → (∃ acc, H' D = some (.lst acc)) → ∀ R : VK, (∀ H4 y, Same H' H4 → (∀ ys, G y (upd H4 D (.lst ys))) → R y H4) → g x (wipe σ vs) H' fun σ2 H2 => wipe σ2 vs = wipe σ vs ∧ te σ2 H2 R)
    (mono : ∀ x H' (A B : L2.St → Hp → Prop), (∀ σ2 H2, A σ2 H2 → B σ2 H2) → g x (wipe σ vs) H' A → g x (wipe σ vs) H' B)
    (hd : ∀ H' xs, Same H H' → xs.length = zs.length → (∀ x ∈ xs, G x H') → H' D = some (.lst xs) → Qd H') :
    ∃ W : Nat → Nat → Hp → Prop, (∃ m, W 0 m (upd H D (.lst []))) ∧ ∀ i m H, W i m H → ((Itl K a).stop i H ∧ Qd H) ∨ ((Itl K a).go i H ∧ ∃ Nx : Hp → Prop, (∀ H', Nx H' → ∃ m', m' < m ∧ W (i + 1) m' H') ∧ ∀ x H', (Itl K a).yld i H x H' → g x (wipe σ vs) H' fun σ2 H2 => wipe σ2 vs = wipe σ vs ∧ tYes σ2 H2 fun b H3 =>
        if b = true then te σ2 H3 fun y H4 => ∃ acc, H4 D = some (.lst acc) ∧ acc.length < sizeLine ∧ Nx (upd H4 D (.lst (acc ++ [y]))) else Nx H3) := by
  refine lc_list (K := K) (a := a) (xs := zs) (fun i H' => ∃ xs : List V, Same H H' ∧ xs.length = i ∧ (∀ x ∈ xs, ∀ ys, G x (upd H' D (.lst ys))) ∧ H' D = some (.lst xs)) ⟨[], same_upd nD, rfl, fun x hx => (nomatch hx), upd_same⟩ (fun i H' _ h => by obtain ⟨_, s, _⟩ := h; exact SqL.of (s _ _ ha)) ?_ ?_
  · rintro i x H' hx ⟨xs, s, xl, xg, hD⟩
    have il : i < zs.length := (List.getElem?_eq_some_iff.mp hx).1
    refine mono _ H' _ _ ?_ (hs i x H' hx s ⟨_, hD⟩ (fun y H4 => ∃ acc, H4 D = some (.lst acc) ∧ acc.length < sizeLine ∧ ∃ xs : List V, Same H (upd H4 D (.lst (acc ++ [y]))) ∧ xs.length = i + 1 ∧ (∀ x ∈ xs, ∀ ys, G x (upd (upd H4 D (.lst (acc ++ [y]))) D (.lst ys))) ∧ upd H4 D (.lst (acc ++ [y])) D = some (.lst xs)) fun H4 y s4 gy => ?_)
    · rintro σ2 H2 ⟨e, h⟩
      refine ⟨e, ?_⟩
      unfold tYes
      exact iteT h
    · refine ⟨xs, s4 _ _ hD, ?_, xs ++ [y], ?_, by rw [List.length_append, List.length_singleton, xl], fun x hx ys => ?_, upd_same⟩
      · rw [xl]
        exact Nat.lt_of_le_of_lt (show i ≤ 20000 by omega) (by decide)
      · intro b o hb
        rw [upd_ne (ne_of_none hb nD)]
        exact s4 _ _ (s _ _ hb)
      · rw [upd_twice]
        rcases List.mem_append.mp hx with hx | hx
        · exact Gs _ _ _ (xg x hx ys) (Same.upds s4)
        · rw [List.mem_singleton.mp hx]
          exact gy ys
  · rintro H' ⟨xs, s, xl, xg, hD⟩
    refine hd H' xs s xl (fun x hx => ?_) hD
    have := xg x hx xs
    rwa [upd_self hD] at this
/-- (text, value) -/
def Pr (K : PySem.W.Frag) (E : Addr → Prop) (u : V) (H : Hp) : Prop := ∃ (q : Addr) (s : Str) (x : V), u = .ref q ∧ H q = some (.tup [.str s, x]) ∧ ¬E q ∧ Sml 4 40000 (.str s) ∧ Good K E H x
section
variable {K : PySem.W.Frag} {E E' : Addr → Prop} {H H' : Hp} {u : V}
theorem Pr.ag (h : Pr K E u H) (a : Ag E H H') : Pr K E u H' := by
  obtain ⟨q, s, x, e, h, n, m, g⟩ := h
  exact ⟨q, s, x, e, a _ _ n h, n, m, g.ag a⟩
theorem Pr.less (h : Pr K E u H) (l : ∀ b, E' b → E b) : Pr K E' u H := by
  obtain ⟨q, s, x, e, h, n, m, g⟩ := h
  exact ⟨q, s, x, e, h, fun c => n (l _ c), m, g.grow fun b c => .inl (l b c)⟩
theorem Pr.top (h : Pr K E u H) (le : LE E H) : Top K E H u := by
  obtain ⟨q, s, x, rfl, h, n, m, g⟩ := h
  exact Top.pair h le (fun _ _ => .str s) m g
theorem Pr.grow (h : Pr K E u H) (g : ∀ b, E' b → E b ∨ H b = none) : Pr K E' u H := by
  obtain ⟨q, s, x, e, h, n, m, gd⟩ := h
  have n' : ¬E' q := fun c => by
    rcases g _ c with c | c
    · exact n c
    · rw [c] at h
      cases h
  exact ⟨q, s, x, e, h, n', m, gd.grow g⟩
end
end Sm

set_option Elab.async false
set_option linter.all false
set_option maxRecDepth 100000
set_option maxHeartbeats 8000000
namespace Sm
open PySem PySem.Spec PyProof.Rows L2
open C8 (pss_cut tCut)
theorem Top.less {K : PySem.W.Frag} {E E' : Addr → Prop} {H : Hp} {x : V} (h : Top K E H x) (l : ∀ b, E' b → E b) : Top K E' H x := h.grow fun b c => .inl (l b c)
theorem w16_le {d : PyData} (h : w16 d = true) : ∀ d0 ds, d = .tuple [d0, .tuple ds] → ds.length ≤ 16 := by
  rintro d0 ds rfl
  exact of_decide_eq_true (show decide (ds.length ≤ 16) = true from h)
theorem sml_zero : Sml 4 40000 (.int 0) := (sml_int (i := 0) (by decide)).up (by decide) (by decide)
def sp_l_right (K : PySem.W.Frag) : Sp := fun vs H Q _ => ∃ (p l d r : Addr) (n : Int) (k : Nat) (L : List Of) (is : List Nat), vs = [.ref p, .ref d, .ref r] ∧ Deck H p l n ∧ 0 ≤ n ∧ n ≤ 700000 ∧ BoardAt H d k L ∧ (∀ o ∈ L, OfOk k o) ∧ 2 ≤ k ∧ k ≤ 4 ∧ L.length ≤ 63 ∧ H r = some (.tup ((is.map fun i : Nat => (i : Int)).map V.int)) ∧ is.length ≤ 4 ∧ (∀ i ∈ is, i < L.length) ∧
  ∀ H' n', Fr p l H H' → Deck H' p l n' → n ≤ n' → n' ≤ n + 400 → Q (.bl true) H'
section
variable {P : Program} {w : World} {K : PySem.W.Frag} {mg : Str → Option Value} {base : Heap}
abbrev s_l_right : Stmt := topS 31
abbrev N_l_right : List Str := ["_law_deck_here", "_law_board_here", "_law_ring_here", "_law_values", "_law_value", "_law_before", "_law_one_here"]
theorem sc_l_right : FnScope N_l_right ["_law_deck_here", "_law_board_here", "_law_ring_here"] (defScope s_l_right) := ⟨rfl, rfl, rfl, by decide +kernel, rfl, by decide +kernel, by decide +kernel⟩
theorem ok_l_right {f : Addr} {fd : FuncData} (T : Txt mg) (F : Fun K "_law_right" "_law_right" s_l_right f fd) (C_worths_hold : Cal P w K mg base "worths_hold" ["board", "value"] 4 (sp_worths_hold K)) (C_l_due : Cal P w K mg base "_law_due" ["_law_board_here", "_law_value"] 3 (sp_l_due K)) (C_l_odd : Cal P w K mg base "_law_odd" ["_law_deck_here"] 3 (sp_l_odd K)) (C_l_prices : Cal P w K mg base "_law_prices" ["_law_board_here"] 5 (sp_l_prices K)) (C_l_looped : Cal P w K mg base "_law_looped" ["_law_deck_here", "_law_board_here", "_law_ring_here"] 4 (sp_l_looped K)) (C_l_priced : Cal P w K mg base "_law_priced" ["_law_deck_here", "_law_board_here"] 6 (sp_l_priced K)) : FnG P w K mg base 7 f fd ["_law_deck_here", "_law_board_here", "_law_ring_here"] (sp_l_right K) := by
  obtain ⟨f_worths_hold, fd_worths_hold, G_worths_hold, m_worths_hold, k_worths_hold, b_worths_hold⟩ := C_worths_hold
  obtain ⟨f_l_due, fd_l_due, G_l_due, m_l_due, k_l_due, b_l_due⟩ := C_l_due
  obtain ⟨f_l_odd, fd_l_odd, G_l_odd, m_l_odd, k_l_odd, b_l_odd⟩ := C_l_odd
  obtain ⟨f_l_prices, fd_l_prices, G_l_prices, m_l_prices, k_l_prices, b_l_prices⟩ := C_l_prices
  obtain ⟨f_l_looped, fd_l_looped, G_l_looped, m_l_looped, k_l_looped, b_l_looped⟩ := C_l_looped
  obtain ⟨f_l_priced, fd_l_priced, G_l_priced, m_l_priced, k_l_priced, b_l_priced⟩ := C_l_priced
  refine FnG.body F sc_l_right (fun vs H Q E h => ?_) (fun cdv A outer s H vs Q E gu hr h => ?_)
  · obtain ⟨p, l, d, r, n, k, L, is, rfl, _⟩ := h
    rfl
  obtain ⟨p, l, d, r, n, k, L, is, rfl, D0, n0, n1, hb, ok, k2, k4, l63, hring, isl, il, kk⟩ := h
  refine ⟨_, (pss_cons (ps_setLc (i := 3) (own := [("_law_one_here", 6)]) (g := gName 6) (tt := tYes) rfl sc_l_right.nd rfl rfl (sw_true rfl rfl rfl (by decide +kernel)) (pi_list (pe_call G_l_priced (hr.mono (by decide)) (by rfl) m_l_priced k_l_priced b_l_priced .nil pass0 (pa_cons (pv 0) (pa_cons (pv 1) pa_nil)))) (blkOk_by (own := [("_law_one_here", 6)]) (N := N_l_right) (sc := defScope s_l_right) (by decide +kernel)) (fun _ _ _ _ _ => pg_name (i := 6) sc_l_right.nd rfl (Or.inl rfl)) (fun _ _ _ _ _ => pts_nil) (fun _ _ _ _ _ => (pe_tup (pa_cons pe_str (pa_cons (pv 6) pa_nil)))))
    (pss_cons (ps_expr (pe_bm PySem.F.plainAttrs_list PySem.F.slot_list_extend PySem.F.type_list_extend mt_extend (pv 3) (pa_cons (pe_lc (own := [("_law_one_here", 6)]) (g := gName 6) (tt := tYes) rfl sc_l_right.nd (pi_list (pe_call G_l_looped (hr.mono (by decide)) (by rfl) m_l_looped k_l_looped b_l_looped .nil pass0 (pa_cons (pv 0) (pa_cons (pv 1) (pa_cons (pv 2) pa_nil))))) (blkOk_by (own := [("_law_one_here", 6)]) (N := N_l_right) (sc := defScope s_l_right) (by decide +kernel)) (fun _ _ _ _ _ => pg_name (i := 6) sc_l_right.nd rfl (Or.inl rfl)) (fun _ _ _ _ _ => pts_nil) (fun _ _ _ _ _ => (pe_tup (pa_cons pe_str (pa_cons (pv 6) pa_nil))))) pa_nil)))
    (pss_cons (ps_expr (pe_bm PySem.F.plainAttrs_list PySem.F.slot_list_extend PySem.F.type_list_extend mt_extend (pv 3) (pa_cons (pe_op op_cat (pe_lc (own := [("_law_value", 4)]) (g := gName 4) (tt := tYes) rfl sc_l_right.nd (pi_list (pe_slice sl_list (pv 3) po_none (po_some pe_int))) (blkOk_by (own := [("_law_value", 4)]) (N := N_l_right) (sc := defScope s_l_right) (by decide +kernel)) (fun _ _ _ _ _ => pg_name (i := 4) sc_l_right.nd rfl (Or.inl rfl)) (fun _ _ _ _ _ => pts_nil) (fun _ _ _ _ _ => (pe_callTy call_listN (by rfl) T.n_list (by decide +kernel) (pa_cons (pv 4) pa_nil)))) (pe_lc (own := [("_law_value", 4)]) (g := gName 4) (tt := tYes) rfl sc_l_right.nd (pi_list (pe_slice sl_list (pv 3) po_none (po_some pe_int))) (blkOk_by (own := [("_law_value", 4)]) (N := N_l_right) (sc := defScope s_l_right) (by decide +kernel)) (fun _ _ _ _ _ => pg_name (i := 4) sc_l_right.nd rfl (Or.inl rfl)) (fun _ _ _ _ _ => pts_nil) (fun _ _ _ _ _ => (pe_tup (pa_cons (pe_ix (show IxR _ (rIxT K) from ix_tup) (pv 4) pe_int (fun _ _ => rfl)) (pa_cons (pe_ix (show IxR _ (rIxT K) from ix_tup) (pv 4) pe_int (fun _ _ => rfl)) (pa_cons pe_int pa_nil))))))) pa_nil)))
    (pss_cons (ps_expr (pe_bm PySem.F.plainAttrs_list PySem.F.slot_list_extend PySem.F.type_list_extend mt_extend (pv 3) (pa_cons (pe_lstN (pa_cons (pe_tup (pa_cons (pe_lstN pa_nil) (pa_cons (pv 2) pa_nil))) (pa_cons (pe_tup (pa_cons pe_dnewK (pa_cons (pv 2) pa_nil))) (pa_cons (pe_tup (pa_cons (pe_tup (pa_cons pe_str pa_nil)) (pa_cons (pv 2) pa_nil))) pa_nil)))) pa_nil)))
    (pss_cons (ps_expr (pe_bm PySem.F.plainAttrs_list PySem.F.slot_list_extend PySem.F.type_list_extend mt_extend (pv 3) (pa_cons (pe_lstN (pa_cons (pe_tup (pa_cons pe_str (pa_cons (pv 2) pa_nil))) (pa_cons (pe_tup (pa_cons pe_str (pa_cons (pe_call G_l_prices (hr.mono (by decide)) (by rfl) m_l_prices k_l_prices b_l_prices .nil pass0 (pa_cons (pv 1) pa_nil)) pa_nil))) (pa_cons (pe_tup (pa_cons pe_str (pa_cons (pv 2) pa_nil))) (pa_cons (pe_tup (pa_cons pe_int (pa_cons (pv 2) pa_nil))) (pa_cons (pe_call G_l_odd (hr.mono (by decide)) (by rfl) m_l_odd k_l_odd b_l_odd .nil pass0 (pa_cons (pv 0) pa_nil)) pa_nil)))))) pa_nil)))
    (pss_cons (ps_for PassesOwn.never rfl (pi_list (pv 3)) (pg_name (i := 4) sc_l_right.nd rfl (Or.inl rfl))
      (pss_cons (ps_set (i := 5) sc_l_right.nd rfl (Or.inl rfl) (pe_callB (call_reprQ gu ⟨_, hr⟩) (by rfl) T.n_repr (by decide +kernel) (pa_cons (pv 4) pa_nil)))
    (pss_one (ps_if (PW.pt (pw_or (pt_cmpR op_ne (pe_callB (call_reprQ gu ⟨_, hr⟩) (by rfl) T.n_repr (by decide +kernel) (pa_cons (pe_call G_worths_hold (hr.mono (by decide)) (by rfl) m_worths_hold k_worths_hold b_worths_hold .nil pass0 (pa_cons (pv 1) (pa_cons (pv 4) pa_nil))) pa_nil)) (pe_callB (call_reprQ gu ⟨_, hr⟩) (by rfl) T.n_repr (by decide +kernel) (pa_cons (pe_call G_l_due (hr.mono (by decide)) (by rfl) m_l_due k_l_due b_l_due .nil pass0 (pa_cons (pv 1) (pa_cons (pv 4) pa_nil))) pa_nil)) (nomark _)) (pw_or1 (pt_cmpR op_ne (pe_callB (call_reprQ gu ⟨_, hr⟩) (by rfl) T.n_repr (by decide +kernel) (pa_cons (pv 4) pa_nil)) (pv 5) (nomark _))))) (pss_one (ps_ret pe_bl)) pss_nil))))
    (pss_one (ps_ret pe_bl)))))))), ?_⟩
  have le : LE (fun b => b = p ∨ b = l) H := fun b e => by
    rcases e with rfl | rfl
    · exact ⟨_, D0.hp⟩
    · obtain ⟨c, q, _⟩ := D0.hl
      exact ⟨_, q⟩
  refine ⟨_, rfl, _, rfl, p, l, d, n, k, L, fun b => b = p ∨ b = l, rfl, D0, n0, by omega, hb, ok, k2, k4, l63, .inl rfl, .inr rfl, le, fun H1 PR xs n2 f1 D1 a0 a1 hPR xl x3 xg => ?_⟩
  have le1 := le.fr f1 D1
  refine ⟨PR, rfl, ⟨_, SqL.of hPR⟩, fun V' nV => ?_⟩
  obtain ⟨Vp, Vl⟩ := D1.lne nV
  have nVH : H V' = none := by
    cases e : H V' with
    | none => rfl
    | some o => rw [f1 V' o Vp Vl e] at nV; cases nV
  have gr1 : ∀ b, ((b = p ∨ b = l) ∨ b = V') → (b = p ∨ b = l) ∨ H1 b = none := fun b c => c.imp id fun c => by rw [c]; exact nV
  refine lc_mGL (K := K) (fun u H' => Pr K (fun b => (b = p ∨ b = l) ∨ b = V') u H') (fun v _ _ h s => h.ag (Ag.of s)) hPR nV (by omega) ?_ gName_mono ?_
  · rintro i x H' hx s' ⟨acc, hacc⟩ R hR
    refine ⟨rfl, _, rfl, (by show 2 ≤ sizeLine; decide), fun q nq => hR _ _ (same_upd nq) fun ys => ?_⟩
    have sq := same_upd (o := .tup [.str (Str.ofString "prices"), x]) nq
    have le' : LE (fun b => (b = p ∨ b = l) ∨ b = V') (upd H' q (.tup [.str (Str.ofString "prices"), x])) := ((le1.same s').same sq).more (sq _ _ hacc)
    refine Pr.ag (E := fun b => (b = p ∨ b = l) ∨ b = V') ⟨q, _, x, rfl, upd_same, le'.nt upd_same, ⟨by decide +kernel, by decide +kernel, by decide +kernel⟩, (((xg x (List.mem_of_getElem? hx)).grow gr1).ag (Ag.of (s'.trans sq)))⟩ (Ag.put (Or.inr rfl))
  intro H2 us s2 ul ug hV
  have D2 := D1.same s2
  have f2 := f1.trans (Same.fr s2)
  have le2 : LE (fun b => (b = p ∨ b = l) ∨ b = V') H2 := (le1.same s2).more hV
  have lt : ∀ {H' : Hp} {n' : Int} {xs : List V}, Fr p l H H' → Deck H' p l n' → H' V' = some (.lst xs) → LE (fun b => (b = p ∨ b = l) ∨ b = V') H' := by
    intro H' n' xs f D h
    exact (le.fr f D).more h
  generalize hE : (fun b => (b = p ∨ b = l) ∨ b = V') = E1 at *
  have E1p : E1 p := by rw [← hE]; exact .inl (.inl rfl)
  have E1l : E1 l := by rw [← hE]; exact .inl (.inr rfl)
  have E1V : E1 V' := by rw [← hE]; exact .inr rfl
  refine ⟨_, rfl, .inl ⟨rfl, _, SqL.of hV⟩, ?_⟩
  refine ⟨_, rfl, _, rfl, _, rfl, p, l, d, r, n2, k, L, is, E1, rfl, D2, by omega, by omega, hb.fr f2 D0, l63, f2.tup D0 hring, isl, il, E1p, E1l, le2, fun H3 LO ys n3 f3 D3 b0 b1 hLO yl yg => ?_⟩
  have hV3 := f3 V' _ Vp Vl hV
  have f03 := f2.trans f3
  have le3 := lt f03 D3 hV3
  refine ⟨LO, rfl, ⟨_, SqL.of hLO⟩, fun W nW => ?_⟩
  refine lc_mGL (K := K) (fun u H' => Pr K (fun b => E1 b ∨ b = W) u H') (fun v _ _ h s => h.ag (Ag.of s)) hLO nW (by omega) ?_ gName_mono ?_
  · rintro i x H' hx s' ⟨acc, hacc⟩ R hR
    refine ⟨rfl, _, rfl, (by show 2 ≤ sizeLine; decide), fun q nq => hR _ _ (same_upd nq) fun ys => ?_⟩
    have sq := same_upd (o := .tup [.str (Str.ofString "loop"), x]) nq
    have le' : LE (fun b => E1 b ∨ b = W) (upd H' q (.tup [.str (Str.ofString "loop"), x])) := ((le3.same s').same sq).more (sq _ _ hacc)
    refine Pr.ag (E := fun b => E1 b ∨ b = W) ⟨q, _, x, rfl, upd_same, le'.nt upd_same, ⟨by decide +kernel, by decide +kernel, by decide +kernel⟩, (((yg x (List.mem_of_getElem? hx)).grow fun b c => c.imp id fun c => by rw [c]; exact nW).ag (Ag.of (s'.trans sq)))⟩ (Ag.put (Or.inr rfl))
  intro H4 ws s4 wl wg hW
  have hV4 := s4 _ _ hV3
  refine ⟨V', W, _, _, rfl, rfl, hV4, hW, ?_, ?_⟩
  · exact Nat.le_trans (show us.length + ws.length ≤ 40 by omega) (by decide)
  have zg : ∀ z ∈ us ++ ws, Pr K E1 z (upd H4 V' (.lst (us ++ ws))) := fun z hz => Pr.ag (E := E1) (all_app (P := fun z => Pr K E1 z H4) (fun z hz => (ug z hz).ag ((f3.ag E1p E1l).trans (Ag.of s4))) (fun z hz => (wg z hz).less fun b c => .inl c) z hz) (Ag.put E1V)
  have putF : ∀ {Hb : Hp} {n' : Int} (zs' : List V), Fr p l H Hb → Deck Hb p l n' → Fr p l H (upd Hb V' (.lst zs')) ∧ Deck (upd Hb V' (.lst zs')) p l n' := by
    intro Hb n' zs' f D
    refine ⟨fun b o h1 h2 hb' => by rw [upd_ne (ne_of_none hb' nVH)]; exact f b o h1 h2 hb', ⟨by rw [upd_ne Vp.symm]; exact D.hp, ?_⟩⟩
    obtain ⟨cells, q1, q2⟩ := D.hl
    exact ⟨cells, by rw [upd_ne Vl.symm]; exact q1, q2⟩
  obtain ⟨f5, D5⟩ := putF (us ++ ws) (f03.trans (Same.fr s4)) (D3.same s4)
  have hV5 : upd H4 V' (.lst (us ++ ws)) V' = some (.lst (us ++ ws)) := upd_same
  have zl : (us ++ ws).length ≤ 40 := by rw [List.length_append]; omega
  clear hV4 hW hLO nW le3 hV3 hV ug wg nV hPR
  generalize upd H4 V' (.lst (us ++ ws)) = H5 at *
  generalize us ++ ws = zs at *
  have le5 := lt f5 D5 hV5
  -- lists and longer tuples
  refine ⟨_, rfl, .inl ⟨rfl, _, SqL.of hV5⟩, ?_⟩
  refine ⟨_, rfl, no_part ⟨_, rfl, V', zs, rfl, SqL.of hV5, fun A nA => ⟨A, rfl, ⟨_, SqL.of upd_same⟩, fun B nB => ?_⟩⟩⟩
  have sA := same_upd (o := .lst (cutV zs none (some 3))) nA
  have hA : upd H5 A (.lst (cutV zs none (some 3))) A = some (.lst (cutV zs none (some 3))) := upd_same
  generalize upd H5 A (.lst (cutV zs none (some 3))) = H6 at *
  have cl3 := cutV_length zs none (some 3)
  have cl2 := cutV_length zs none (some 2)
  refine lc_mGL (K := K) (fun u H' => Top K (fun b => E1 b ∨ b = B) H' u) (fun v _ _ h s => h.ag (Ag.of s)) hA nB (by omega) ?_ gName_mono ?_
  · rintro i x H' hx s' ⟨acc, hacc⟩ R hR
    obtain ⟨q, st, y, rfl, hq, nq, m, g⟩ := (((zg x (cutV_mem (List.mem_of_getElem? hx))).ag (Ag.of sA)).grow (E' := fun b => E1 b ∨ b = B) fun b c => c.imp id fun c => by rw [c]; exact nB).ag (Ag.of s')
    refine ⟨rfl, _, rfl, q, _, rfl, hq, fun z nz ez => hR _ _ (same_upd nz) fun ys => ?_⟩
    have sz := same_upd (o := .lst [V.str st, y]) nz
    have le' : LE (fun b => E1 b ∨ b = B) H' := ((le5.same sA).same s').more hacc
    obtain ⟨dy, g1, g2, g3⟩ := g.ag (Ag.of sz)
    refine Top.ag (E := fun b => E1 b ∨ b = B) ⟨.list [.str st, dy], DX.lst upd_same (le'.nn nz) ez fun H'' a => .cons (.str st) (.cons (g1 H'' a) .nil), (sml_lst (k := 4) (n := 40000) (fun z hz => ?_) (by show 40000 * 2 + 2 * 2 + 3 ≤ 200000; decide)).up (by decide) (Nat.le_refl _), rfl⟩ (Ag.put (Or.inr rfl))
    rcases List.mem_cons.mp hz with rfl | hz
    · exact m
    · rw [List.mem_singleton.mp hz]
      exact g2
  intro H7 ts1 s7 tl1 tg1 hB
  have sA7 := sA.trans s7
  refine ⟨_, rfl, no_part ⟨_, rfl, V', zs, rfl, SqL.of (sA7 _ _ hV5), fun A2 nA2 => ⟨A2, rfl, ⟨_, SqL.of upd_same⟩, fun B2 nB2 => ?_⟩⟩⟩
  have sA2 := same_upd (o := .lst (cutV zs none (some 2))) nA2
  have hA2 : upd H7 A2 (.lst (cutV zs none (some 2))) A2 = some (.lst (cutV zs none (some 2))) := upd_same
  generalize upd H7 A2 (.lst (cutV zs none (some 2))) = H8 at *
  have sA8 := sA7.trans sA2
  refine lc_mGL (K := K) (fun u H' => Top K (fun b => E1 b ∨ b = B2) H' u) (fun v _ _ h s => h.ag (Ag.of s)) hA2 nB2 (by omega) ?_ gName_mono ?_
  · rintro i x H' hx s' ⟨acc, hacc⟩ R hR
    obtain ⟨q, st, y, rfl, hq, nq, m, g⟩ := (((zg x (cutV_mem (List.mem_of_getElem? hx))).ag (Ag.of sA8)).grow (E' := fun b => E1 b ∨ b = B2) fun b c => c.imp id fun c => by rw [c]; exact nB2).ag (Ag.of s')
    refine ⟨rfl, _, rfl, _, _, _, _, rfl, rfl, SqT.of hq, atI_nat (j := 0) rfl, _, rfl, _, _, _, _, rfl, rfl, SqT.of hq, atI_nat (j := 1) rfl, (by show 3 ≤ sizeLine; decide), fun z nz => hR _ _ (same_upd nz) fun ys => ?_⟩
    have sz := same_upd (o := .tup [V.str st, y, .int 0]) nz
    have le' : LE (fun b => E1 b ∨ b = B2) (upd H' z (.tup [V.str st, y, .int 0])) := (((le5.same sA8).same s').same sz).more (sz _ _ hacc)
    obtain ⟨dy, g1, g2, g3⟩ := g.ag (Ag.of sz)
    refine Top.ag (E := fun b => E1 b ∨ b = B2) ⟨.tuple [.str st, dy, .int 0], DX.tup upd_same (le'.nt upd_same) fun H'' a => .cons (.str st) (.cons (g1 H'' a) (.cons (.int 0) .nil)), (sml_tup (k := 4) (n := 40000) (fun z hz => ?_) (by show 40000 * 3 + 2 * 3 + 3 ≤ 200000; decide)).up (by decide) (Nat.le_refl _), rfl⟩ (Ag.put (Or.inr rfl))
    rcases List.mem_cons.mp hz with rfl | hz
    · exact m
    rcases List.mem_cons.mp hz with rfl | hz
    · exact g2
    · rw [List.mem_singleton.mp hz]
      exact sml_zero
  intro H9 ts2 s9 tl2 tg2 hB2
  have s89 := sA2.trans s9
  refine ⟨B, B2, _, _, rfl, rfl, s89 _ _ hB, hB2, Nat.le_trans (show ts1.length + ts2.length ≤ 80 by omega) (by decide), fun C nC => ?_⟩
  have sC := same_upd (o := .lst (ts1 ++ ts2)) nC
  have hC : upd H9 C (.lst (ts1 ++ ts2)) C = some (.lst (ts1 ++ ts2)) := upd_same
  have s5C := sA8.trans (s9.trans sC)
  have s7C := s89.trans sC
  generalize upd H9 C (.lst (ts1 ++ ts2)) = HC at *
  refine ⟨V', C, _, _, rfl, rfl, s5C _ _ hV5, hC, Nat.le_trans (show zs.length + (ts1 ++ ts2).length ≤ 120 by rw [List.length_append]; omega) (by decide), ?_⟩
  have yg : ∀ z ∈ zs ++ (ts1 ++ ts2), Top K E1 (upd HC V' (.lst (zs ++ (ts1 ++ ts2)))) z := fun z hz => Top.ag (E := E1) (all_app (P := fun z => Top K E1 HC z) (fun z hz => ((zg z hz).top le5).ag (Ag.of s5C)) (all_app (P := fun z => Top K E1 HC z) (fun z hz => ((tg1 z hz).less fun b c => .inl c).ag (Ag.of s7C)) fun z hz => ((tg2 z hz).less fun b c => .inl c).ag (Ag.of sC)) z hz) (Ag.put E1V)
  obtain ⟨f10, D10⟩ := putF (zs ++ (ts1 ++ ts2)) (f5.trans (Same.fr s5C)) (D5.same s5C)
  have hV10 : upd HC V' (.lst (zs ++ (ts1 ++ ts2))) V' = some (.lst (zs ++ (ts1 ++ ts2))) := upd_same
  have yl : (zs ++ (ts1 ++ ts2)).length ≤ 120 := by rw [List.length_append, List.length_append]; omega
  clear zg tg1 tg2 hC hB2 hB hV5 le5 nC nA2 nB2 nA nB hA hA2
  generalize upd HC V' (.lst (zs ++ (ts1 ++ ts2))) = H10 at *
  generalize zs ++ (ts1 ++ ts2) = qs at *
  have le10 := lt f10 D10 hV10
  have ring10 := f10.tup D0 hring
  have rbd : ∀ y ∈ is.map fun i : Nat => (i : Int), -(10 ^ 60) ≤ y ∧ y ≤ 10 ^ 60 := fun y hy => by
    obtain ⟨j, hj, rfl⟩ := List.mem_map.mp hy
    have := il j hj
    omega
  have rgood : ∀ {H' : Hp}, LE E1 H' → H' r = some (.tup ((is.map fun i : Nat => (i : Int)).map V.int)) → Good K E1 H' (.ref r) := fun le h => Good.ints h le (by rw [List.length_map]; omega) rbd
  -- what is no text in front
  refine ⟨_, rfl, .inl ⟨rfl, _, SqL.of hV10⟩, ?_⟩
  refine ⟨(by show 0 ≤ sizeLine; decide), fun e1 ne1 ee1 => ⟨_, rfl, (by show 2 ≤ sizeLine; decide), fun t1 nt1 => ?_⟩⟩
  refine fun e2 ne2 => ⟨_, rfl, (by show 2 ≤ sizeLine; decide), fun t2 nt2 => ?_⟩
  refine ⟨(by show 1 ≤ sizeLine; decide), fun e3 ne3 => ⟨_, rfl, (by show 2 ≤ sizeLine; decide), fun t3 nt3 => ⟨(by show 3 ≤ sizeLine; decide), fun G nG eG => ?_⟩⟩⟩
  have a1 := same_upd (o := .lst []) ne1
  have b1 := same_upd (o := .tup [.ref e1, .ref r]) nt1
  have a2 := same_upd (o := .dK []) ne2
  have b2 := same_upd (o := .tup [.ref e2, .ref r]) nt2
  have a3 := same_upd (o := .tup [.str (Str.ofString "loop")]) ne3
  have b3 := same_upd (o := .tup [.ref e3, .ref r]) nt3
  have cg := same_upd (o := .lst [.ref t1, .ref t2, .ref t3]) nG
  have sG3 := a3.trans (b3.trans cg)
  have sG2 := a2.trans (b2.trans sG3)
  have sG := a1.trans (b1.trans sG2)
  have le11 := le10.same (a1.trans b1)
  have leG := le10.same sG
  have he1 := (b1.trans sG2) _ _ upd_same
  have ht1 := sG2 _ _ upd_same
  have he2 := (b2.trans sG3) _ _ upd_same
  have ht2 := sG3 _ _ upd_same
  have he3 := (b3.trans cg) _ _ upd_same
  have ht3 := cg _ _ upd_same
  have hG : upd (upd (upd (upd (upd (upd (upd H10 e1 (.lst [])) t1 (.tup [V.ref e1, .ref r])) e2 (.dK [])) t2 (.tup [V.ref e2, .ref r])) e3 (.tup [V.str (Str.ofString "loop")])) t3 (.tup [V.ref e3, .ref r])) G (.lst [V.ref t1, .ref t2, .ref t3]) G = some (.lst [V.ref t1, .ref t2, .ref t3]) := upd_same
  have ng : ∀ b, ¬E1 b → True := fun _ _ => trivial
  have n1 : ¬E1 e1 := le10.nn ne1
  have n2' : ¬E1 e2 := le11.nn ne2
  have rg := rgood leG (sG _ _ ring10)
  have q1 := Top.pair ht1 leG (DX.lst he1 n1 ee1 (ds := []) fun _ _ => .nil) ⟨by decide +kernel, by decide +kernel, by decide +kernel⟩ rg
  have q2 := Top.pair (d := .dict []) ht2 leG (fun H' a => Dq.dic [] (a _ _ n2' he2)) ⟨by decide +kernel, by decide +kernel, by decide +kernel⟩ rg
  have q3 := Top.pair ht3 leG (DX.tup he3 (leG.nt he3) (ds := [.str (Str.ofString "loop")]) fun _ _ => .cons (.str _) .nil) ⟨by decide +kernel, by decide +kernel, by decide +kernel⟩ rg
  generalize upd (upd (upd (upd (upd (upd (upd H10 e1 (.lst [])) t1 (.tup [V.ref e1, .ref r])) e2 (.dK [])) t2 (.tup [V.ref e2, .ref r])) e3 (.tup [V.str (Str.ofString "loop")])) t3 (.tup [V.ref e3, .ref r])) G (.lst [V.ref t1, .ref t2, .ref t3]) = HG at *
  refine ⟨V', G, _, _, rfl, rfl, sG _ _ hV10, hG, Nat.le_trans (show qs.length + 3 ≤ 130 by omega) (by decide), ?_⟩
  have xg : ∀ z ∈ qs ++ [V.ref t1, .ref t2, .ref t3], Top K E1 (upd HG V' (.lst (qs ++ [V.ref t1, .ref t2, .ref t3]))) z := fun z hz => Top.ag (E := E1) (all_app (P := fun z => Top K E1 HG z) (fun z hz => (yg z hz).ag (Ag.of sG)) (all_cons q1 (all_cons q2 (all_cons q3 all_nil))) z hz) (Ag.put E1V)
  obtain ⟨f12, D12⟩ := putF (qs ++ [V.ref t1, .ref t2, .ref t3]) (f10.trans (Same.fr sG)) (D10.same sG)
  have hV12 : upd HG V' (.lst (qs ++ [V.ref t1, .ref t2, .ref t3])) V' = some (.lst (qs ++ [V.ref t1, .ref t2, .ref t3])) := upd_same
  have xl2 : (qs ++ [V.ref t1, .ref t2, .ref t3]).length ≤ 130 := by rw [List.length_append]; show qs.length + 3 ≤ 130; omega
  clear yg q1 q2 q3 rg hG ht3 he3 ht2 he2 ht1 he1 leG le11 sG sG2 sG3 cg b3 a3 b2 a2 b1 a1 nG nt3 ne3 nt2 ne2 nt1 ne1 hV10 le10 ring10
  generalize upd HG V' (.lst (qs ++ [V.ref t1, .ref t2, .ref t3])) = H12 at *
  generalize qs ++ [V.ref t1, .ref t2, .ref t3] = qs at *
  have le12 := lt f12 D12 hV12
  have ring12 := f12.tup D0 hring
  -- other texts
  refine ⟨_, rfl, .inl ⟨rfl, _, SqL.of hV12⟩, ?_⟩
  refine ⟨_, rfl, (by show 2 ≤ sizeLine; decide), fun t1 nt1 => ?_⟩
  have b1 := same_upd (o := .tup [.str (Str.ofString "loops"), .ref r]) nt1
  have ht1 : upd H12 t1 (.tup [.str (Str.ofString "loops"), .ref r]) t1 = some (.tup [.str (Str.ofString "loops"), .ref r]) := upd_same
  generalize upd H12 t1 (.tup [.str (Str.ofString "loops"), .ref r]) = J1 at *
  refine ⟨_, rfl, d, k, L, rfl, (hb.fr f12 D0).same b1, ok, k2, k4, l63, fun J2 tp own c2 htp ol ob => ⟨(by show 2 ≤ sizeLine; decide), fun t2 nt2 => ?_⟩⟩
  have b2 := same_upd (o := .tup [.str (Str.ofString "loop"), .ref tp]) nt2
  have ht2 : upd J2 t2 (.tup [.str (Str.ofString "loop"), .ref tp]) t2 = some (.tup [.str (Str.ofString "loop"), .ref tp]) := upd_same
  generalize upd J2 t2 (.tup [.str (Str.ofString "loop"), .ref tp]) = J3 at *
  refine ⟨_, rfl, (by show 2 ≤ sizeLine; decide), fun t3 nt3 => ?_⟩
  have b3 := same_upd (o := .tup [.str (Str.ofString "prices"), .ref r]) nt3
  have ht3 : upd J3 t3 (.tup [.str (Str.ofString "prices"), .ref r]) t3 = some (.tup [.str (Str.ofString "prices"), .ref r]) := upd_same
  generalize upd J3 t3 (.tup [.str (Str.ofString "prices"), .ref r]) = J4 at *
  refine ⟨_, rfl, (by show 2 ≤ sizeLine; decide), fun t4 nt4 => ?_⟩
  have b4 := same_upd (o := .tup [.int 0, .ref r]) nt4
  have ht4 : upd J4 t4 (.tup [.int 0, .ref r]) t4 = some (.tup [.int 0, .ref r]) := upd_same
  generalize upd J4 t4 (.tup [.int 0, .ref r]) = J5 at *
  have s25 := b2.trans (b3.trans b4)
  have s15 := b1.trans (c2.trans s25)
  have D15 := D12.same s15
  have le15 := le12.same s15
  refine ⟨_, rfl, p, l, n3, rfl, D15, by omega, by omega, fun J6 x dx f6 D6 hx sm wx => ⟨(by show 5 ≤ sizeLine; decide), fun G nG eG => ?_⟩⟩
  have rg := rgood le15 (s15 _ _ ring12)
  have q1 := Top.pair ((c2.trans s25) _ _ ht1) le15 (fun _ _ => .str _) ⟨by decide +kernel, by decide +kernel, by decide +kernel⟩ rg
  have q2 := Top.pair ((b3.trans b4) _ _ ht2) le15 (fun _ _ => .str _) ⟨by decide +kernel, by decide +kernel, by decide +kernel⟩ (Good.ints (K := K) (s25 _ _ htp) le15 (by omega) fun y hy => by have := ob y hy; omega)
  have q3 := Top.pair (b4 _ _ ht3) le15 (fun _ _ => .str _) ⟨by decide +kernel, by decide +kernel, by decide +kernel⟩ rg
  have q4 := Top.pair ht4 le15 (fun _ _ => .int 0) sml_zero rg
  have q5 : Top K E1 J6 x := ⟨dx, fun H' a => hx H' fun b o hn hs => a b o (le15.nn hn) hs, sm.up (by decide) (by decide), wx⟩
  have cg := same_upd (o := .lst [V.ref t1, .ref t2, .ref t3, .ref t4, x]) nG
  have hG : upd J6 G (.lst [V.ref t1, .ref t2, .ref t3, .ref t4, x]) G = some (.lst [V.ref t1, .ref t2, .ref t3, .ref t4, x]) := upd_same
  generalize upd J6 G (.lst [V.ref t1, .ref t2, .ref t3, .ref t4, x]) = HG at *
  have hVG := cg _ _ (f6 V' _ Vp Vl (s15 _ _ hV12))
  refine ⟨V', G, _, _, rfl, rfl, hVG, hG, Nat.le_trans (show qs.length + 5 ≤ 140 by omega) (by decide), ?_⟩
  have ag6 := (f6.ag E1p E1l).trans (Ag.of cg)
  have vg : ∀ z ∈ qs ++ [V.ref t1, .ref t2, .ref t3, .ref t4, x], Top K E1 (upd HG V' (.lst (qs ++ [V.ref t1, .ref t2, .ref t3, .ref t4, x]))) z := fun z hz => Top.ag (E := E1) (all_app (P := fun z => Top K E1 HG z) (fun z hz => (xg z hz).ag ((Ag.of s15).trans ag6)) (all_cons (q1.ag ag6) (all_cons (q2.ag ag6) (all_cons (q3.ag ag6) (all_cons (q4.ag ag6) (all_cons (q5.ag (Ag.of cg)) all_nil))))) z hz) (Ag.put E1V)
  obtain ⟨f20, D20⟩ := putF (qs ++ [V.ref t1, .ref t2, .ref t3, .ref t4, x]) (f12.trans ((Same.fr s15).trans (f6.trans (Same.fr cg)))) (D6.same cg)
  have hV20 : upd HG V' (.lst (qs ++ [V.ref t1, .ref t2, .ref t3, .ref t4, x])) V' = some (.lst (qs ++ [V.ref t1, .ref t2, .ref t3, .ref t4, x])) := upd_same
  clear xg q1 q2 q3 q4 q5 rg hG hVG ag6 cg
  generalize upd HG V' (.lst (qs ++ [V.ref t1, .ref t2, .ref t3, .ref t4, x])) = H20 at *
  generalize qs ++ [V.ref t1, .ref t2, .ref t3, .ref t4, x] = vs at *
  have hb20 := hb.fr f20 D0
  -- all of them
  refine ⟨_, rfl, V', rfl, ⟨_, SqL.of hV20⟩, ?_⟩
  refine for_list (K := K) (a := V') (xs := vs) (fun i σ H' => ∃ v4 v5 v6 : Option V, σ = [some (.ref p), some (.ref d), some (.ref r), some (.ref V'), v4, v5, v6] ∧ Same H20 H') ⟨_, _, _, rfl, Same.refl _⟩ (fun i σ H' _ h => by obtain ⟨_, _, _, _, s⟩ := h; exact SqL.of (s _ _ hV20)) ?_ ?_
  · rintro i x σ H' hx ⟨v4, v5, v6, rfl, s'⟩
    obtain ⟨dx, g1, g2, g3⟩ := (vg x (List.mem_of_getElem? hx)).ag (Ag.of s')
    have rp : dx.shown.length ≤ sizeLine := Nat.le_trans g2.len (by decide)
    have rd : dx.depth ≤ 60 := Nat.le_trans g2.dep (by decide)
    refine ⟨_, rfl, x, dx, rfl, g1.dq, g2.sh, rd, rp, ?_⟩
    refine ⟨_, rfl, _, rfl, d, k, L, x, dx, rfl, hb20.same s', ok, by omega, k4, g1.dq, w16_le g3, fun H2 s2 => ?_⟩
    have bd : ∀ b : Bool, (PyData.bool b).depth ≤ 60 ∧ (PyData.bool b).shown.length ≤ sizeLine := fun b => ⟨Nat.le_trans (sml_bl b).dep (by decide), Nat.le_trans (sml_bl b).len (by decide)⟩
    refine ⟨.bl _, .bool _, rfl, .bl _, (sml_bl _).sh, (bd _).1, (bd _).2, ?_⟩
    refine ⟨_, rfl, _, rfl, d, k, L, x, dx, rfl, hb20.same (s'.trans s2), ok, by omega, k4, (g1.ag (Ag.of s2)).dq, w16_le g3, fun H3 s3 => ?_⟩
    refine ⟨.bl _, .bool _, rfl, .bl _, (sml_bl _).sh, (bd _).1, (bd _).2, rfl, ?_⟩
    rw [decide_eq_true rfl]
    refine ⟨_, rfl, iteF ?_⟩
    refine ⟨_, rfl, x, dx, rfl, (g1.ag (Ag.of (s2.trans s3))).dq, g2.sh, rd, rp, _, rfl, rfl, ?_⟩
    rw [decide_eq_true rfl]
    exact ⟨_, rfl, iteF ⟨_, _, _, rfl, s'.trans (s2.trans s3)⟩⟩
  · rintro σ H' ⟨v4, v5, v6, rfl, s'⟩
    exact kk H' _ (f20.trans (Same.fr s')) (D20.same s') (by omega) (by omega)
end
end Sm

set_option Elab.async false
set_option linter.all false
set_option maxRecDepth 100000
set_option maxHeartbeats 16000000
namespace Sm
open PySem PySem.Spec PyProof.Rows L2
open C8 (pss_cut tCut)
def sp_law (K : PySem.W.Frag) : Sp := fun vs H Q _ => ∃ (a : Addr) (ns : List Int), vs = [.ref a] ∧ SqL K H a (ns.map V.int) ∧ ns.length ≤ 63 ∧ ∀ H', Q (.bl true) H'
section
variable {P : Program} {w : World} {K : PySem.W.Frag} {mg : Str → Option Value} {base : Heap}
abbrev s_law : Stmt := topS 32
abbrev N_law : List Str := ["_law_script", "_law_deck_here", "_law_turn", "_law_board_here", "_law_ring_here"]
theorem sc_law : FnScope N_law ["_law_script"] (defScope s_law) := ⟨rfl, rfl, rfl, by decide +kernel, rfl, by decide +kernel, by decide +kernel⟩
theorem ok_lawG {f : Addr} {fd : FuncData} (T : Txt mg) (F : Fun K "law" "law" s_law f fd) (C_worths_hold : Cal P w K mg base "worths_hold" ["board", "value"] 4 (sp_worths_hold K)) {f_l_right : Addr} {fd_l_right : FuncData} (G_l_right : FnG P w K mg base 7 f_l_right fd_l_right ["_law_deck_here", "_law_board_here", "_law_ring_here"] (sp_l_right K)) (m_l_right : mg "_law_right" = some (.ref f_l_right)) (k_l_right : PySem.W.keepIn K (.ref f_l_right) = true) (b_l_right : L2.Binds K fd_l_right ["_law_deck_here", "_law_board_here", "_law_ring_here"] []) (C_l_some : Cal P w K mg base "_law_some" ["_law_deck_here", "_law_turn"] 4 (sp_l_some K)) (C_l_deck : Cal P w K mg base "_law_deck" ["_law_script"] 1 (sp_l_deck K)) : FnG P w K mg base 8 f fd ["_law_script"] (sp_law K) := by
  obtain ⟨f_worths_hold, fd_worths_hold, G_worths_hold, m_worths_hold, k_worths_hold, b_worths_hold⟩ := C_worths_hold
  obtain ⟨f_l_some, fd_l_some, G_l_some, m_l_some, k_l_some, b_l_some⟩ := C_l_some
  obtain ⟨f_l_deck, fd_l_deck, G_l_deck, m_l_deck, k_l_deck, b_l_deck⟩ := C_l_deck
  refine FnG.body F sc_law (fun vs H Q E h => ?_) (fun cdv A outer s H vs Q E gu hr h => ?_)
  · obtain ⟨a, ns, rfl, _⟩ := h
    rfl
  obtain ⟨a, ns, rfl, hS, hlen, kk⟩ := h
  refine ⟨_, (pss_cons (ps_set (i := 1) sc_law.nd rfl (Or.inl rfl) (pe_call G_l_deck (hr.mono (by decide)) (by rfl) m_l_deck k_l_deck b_l_deck .nil pass0 (pa_cons (pv 0) pa_nil)))
    (pss_cons (ps_for PassesOwn.never rfl (pi_range1 (by rfl) T.n_range (pa_cons pe_int pa_nil)) (pg_name (i := 2) sc_law.nd rfl (Or.inl rfl))
      (pss_cons (ps_asg (pe_call G_l_some (hr.mono (by decide)) (by rfl) m_l_some k_l_some b_l_some .nil pass0 (pa_cons (pv 1) (pa_cons (pv 2) pa_nil))) (pg_tup (by rfl) (pgs_cons (pg_name (i := 3) sc_law.nd rfl (Or.inl rfl)) (pgs_cons (pg_name (i := 4) sc_law.nd rfl (Or.inl rfl)) pgs_nil))))
    (pss_one (ps_if (pt_not (pt_val (pe_callG G_l_right gu (hr.mono (by decide)) (by rfl) m_l_right k_l_right b_l_right (pa_cons (pv 1) (pa_cons (pv 3) (pa_cons (pv 4) pa_nil)))))) (pss_one (ps_ret pe_bl)) pss_nil))))
    (pss_one (ps_ret (pe_and (pe_cmpR op_isBl (pe_call G_worths_hold (hr.mono (by decide)) (by rfl) m_worths_hold k_worths_hold b_worths_hold .nil pass0 (pa_cons (pe_tup (pa_cons pe_int (pa_cons (pe_tup pa_nil) pa_nil))) (pa_cons (pe_tup (pa_cons pe_str (pa_cons (pe_tup (pa_cons pe_int pa_nil)) pa_nil))) pa_nil))) pe_bl (nomark _)) (pe_one (pe_cmpR op_isBl (pe_call G_worths_hold (hr.mono (by decide)) (by rfl) m_worths_hold k_worths_hold b_worths_hold .nil pass0 (pa_cons (pe_tup (pa_cons pe_int (pa_cons (pe_tup pa_nil) pa_nil))) (pa_cons (pe_tup (pa_cons pe_str (pa_cons (pe_tup (pa_cons pe_int pa_nil)) pa_nil))) pa_nil))) pe_bl (nomark _)))))))), ?_⟩
  refine ⟨_, rfl, a, ns, rfl, hS, hlen, fun H1 p l s1 D1 => ?_⟩
  refine ⟨6, rfl, (by decide), (by decide), ?_⟩
  refine for_range (lo := 0) (n := 6) (fun i σ H' => ∃ (n : Int) (v2 v3 v4 : Option V), σ = [some (.ref a), some (.ref p), v2, v3, v4] ∧ Deck H' p l n ∧ 0 ≤ n ∧ n ≤ 800 * (i : Int)) ⟨0, _, _, _, rfl, D1, by omega, by omega⟩ ?_ ?_
  · rintro i σ H2 hi ⟨n, v2, v3, v4, rfl, D2, n0, n1⟩
    refine ⟨_, rfl, _, rfl, p, l, n, _, rfl, D2, n0, by omega, fun H3 b d r k L is n3 f3 D3 a0 a1 k2 k4 hbt hB ok lB hr il ix => ?_⟩
    refine ⟨b, _, rfl, SqT.of hbt, rfl, _, _, rfl, _, _, rfl, rfl, ?_⟩
    refine ⟨_, rfl, _, rfl, _, rfl, p, l, d, r, n3, k, L, is, rfl, D3, by omega, by omega, hB, ok, k2, k4, by omega, hr, il, ix, fun H4 n4 f4 D4 b0 b1 => ⟨_, rfl, ?_⟩⟩
    exact iteF ⟨n4, _, _, _, rfl, D4, by omega, by omega⟩
  · rintro σ H2 ⟨n, v2, v3, v4, rfl, D2, n0, n1⟩
    have okN : ∀ o ∈ ([] : List Of), OfOk 1 o := fun o ho => nomatch ho
    refine ⟨(by show 0 ≤ sizeLine; decide), fun c1 nc1 => ⟨(by show 2 ≤ sizeLine; decide), fun c2 nc2 => ⟨(by show 1 ≤ sizeLine; decide), fun c3 nc3 => ⟨(by show 2 ≤ sizeLine; decide), fun c4 nc4 => ?_⟩⟩⟩⟩
    have w1 := same_upd (o := .tup []) nc1
    have w2 := same_upd (o := .tup [.int 1, .ref c1]) nc2
    have w3 := same_upd (o := .tup [.int 7]) nc3
    have w4 := same_upd (o := .tup [.str (Str.ofString "prices"), .ref c3]) nc4
    refine ⟨c2, 1, [], .ref c4, .tuple [.str (Str.ofString "prices"), .tuple [.int 7]], rfl, ⟨c1, [], (w3.trans w4) _ _ upd_same, (w2.trans (w3.trans w4)) _ _ upd_same, rfl, fun i q e => nomatch e⟩, okN, by decide, by decide, .tup upd_same (.cons (.str _) (.cons (.tup (w4 _ _ upd_same) (.cons (.int 7) .nil)) .nil)), w16_le (by decide), fun H3 s3 => ?_⟩
    refine ⟨_, _, rfl, rfl, ?_⟩
    rw [show decide (wD 1 [] (.tuple [.str (Str.ofString "prices"), .tuple [.int 7]]) = true) = true by decide +kernel]
    refine ⟨_, rfl, iteT ?_⟩
    refine ⟨(by show 0 ≤ sizeLine; decide), fun c1 nc1 => ⟨(by show 2 ≤ sizeLine; decide), fun c2 nc2 => ⟨(by show 1 ≤ sizeLine; decide), fun c3 nc3 => ⟨(by show 2 ≤ sizeLine; decide), fun c4 nc4 => ?_⟩⟩⟩⟩
    have w1 := same_upd (o := .tup []) nc1
    have w2 := same_upd (o := .tup [.int 1, .ref c1]) nc2
    have w3 := same_upd (o := .tup [.int 0]) nc3
    have w4 := same_upd (o := .tup [.str (Str.ofString "prices"), .ref c3]) nc4
    refine ⟨c2, 1, [], .ref c4, .tuple [.str (Str.ofString "prices"), .tuple [.int 0]], rfl, ⟨c1, [], (w3.trans w4) _ _ upd_same, (w2.trans (w3.trans w4)) _ _ upd_same, rfl, fun i q e => nomatch e⟩, okN, by decide, by decide, .tup upd_same (.cons (.str _) (.cons (.tup (w4 _ _ upd_same) (.cons (.int 0) .nil)) .nil)), w16_le (by decide), fun H4 s4 => ?_⟩
    refine ⟨_, _, rfl, rfl, ?_⟩
    rw [show decide (wD 1 [] (.tuple [.str (Str.ofString "prices"), .tuple [.int 0]]) = false) = true by decide +kernel]
    exact kk H4
end
end Sm

set_option Elab.async false
set_option linter.all false
set_option maxRecDepth 100000
set_option maxHeartbeats 16000000
namespace Sm
open PySem PySem.Spec PyProof.Rows L2
theorem all_mk {l : PySem.W.OpenLaw} {w : World} {K : PySem.W.Frag} {h : Heap} {mg : Str → Option Value} {fa : Addr} (X : K.In h) (G : h.Ns mainGlobals mg) (hfa : mg "law" = some (.ref fa))
    {F_is_whole : Addr} {od_is_whole an_is_whole : Option Addr} {sl_is_whole : Array (Option Value)} {oc_is_whole kV_is_whole dc_is_whole pm_is_whole cd_is_whole ct_is_whole : Value} (a_is_whole : PySem.W.nsIn K mainGlobals "is_whole" = some (some (.ref F_is_whole))) (l_is_whole : K.lookup F_is_whole = some ⟨oc_is_whole, od_is_whole, .func (PySem.W.fnOf "is_whole" "is_whole" (defArgs s_is_whole) (defBody s_is_whole) (defScope s_is_whole) .none kV_is_whole dc_is_whole pm_is_whole an_is_whole cd_is_whole ct_is_whole), sl_is_whole⟩) (c_is_whole : PySem.W.codeIn K cd_is_whole "is_whole" = true) (k_is_whole : PySem.W.keepIn K (.ref F_is_whole) = true)
    {F_is_within : Addr} {od_is_within an_is_within : Option Addr} {sl_is_within : Array (Option Value)} {oc_is_within kV_is_within dc_is_within pm_is_within cd_is_within ct_is_within : Value} (a_is_within : PySem.W.nsIn K mainGlobals "is_within" = some (some (.ref F_is_within))) (l_is_within : K.lookup F_is_within = some ⟨oc_is_within, od_is_within, .func (PySem.W.fnOf "is_within" "is_within" (defArgs s_is_within) (defBody s_is_within) (defScope s_is_within) .none kV_is_within dc_is_within pm_is_within an_is_within cd_is_within ct_is_within), sl_is_within⟩) (c_is_within : PySem.W.codeIn K cd_is_within "is_within" = true) (k_is_within : PySem.W.keepIn K (.ref F_is_within) = true)
    {F_is_amount : Addr} {od_is_amount an_is_amount : Option Addr} {sl_is_amount : Array (Option Value)} {oc_is_amount kV_is_amount dc_is_amount pm_is_amount cd_is_amount ct_is_amount : Value} (a_is_amount : PySem.W.nsIn K mainGlobals "is_amount" = some (some (.ref F_is_amount))) (l_is_amount : K.lookup F_is_amount = some ⟨oc_is_amount, od_is_amount, .func (PySem.W.fnOf "is_amount" "is_amount" (defArgs s_is_amount) (defBody s_is_amount) (defScope s_is_amount) .none kV_is_amount dc_is_amount pm_is_amount an_is_amount cd_is_amount ct_is_amount), sl_is_amount⟩) (c_is_amount : PySem.W.codeIn K cd_is_amount "is_amount" = true) (k_is_amount : PySem.W.keepIn K (.ref F_is_amount) = true)
    {F_worths_hold : Addr} {od_worths_hold an_worths_hold : Option Addr} {sl_worths_hold : Array (Option Value)} {oc_worths_hold kV_worths_hold dc_worths_hold pm_worths_hold cd_worths_hold ct_worths_hold : Value} (a_worths_hold : PySem.W.nsIn K mainGlobals "worths_hold" = some (some (.ref F_worths_hold))) (l_worths_hold : K.lookup F_worths_hold = some ⟨oc_worths_hold, od_worths_hold, .func (PySem.W.fnOf "worths_hold" "worths_hold" (defArgs s_worths_hold) (defBody s_worths_hold) (defScope s_worths_hold) .none kV_worths_hold dc_worths_hold pm_worths_hold an_worths_hold cd_worths_hold ct_worths_hold), sl_worths_hold⟩) (c_worths_hold : PySem.W.codeIn K cd_worths_hold "worths_hold" = true) (k_worths_hold : PySem.W.keepIn K (.ref F_worths_hold) = true)
    {F_are_prices : Addr} {od_are_prices an_are_prices : Option Addr} {sl_are_prices : Array (Option Value)} {oc_are_prices kV_are_prices dc_are_prices pm_are_prices cd_are_prices ct_are_prices : Value} (a_are_prices : PySem.W.nsIn K mainGlobals "are_prices" = some (some (.ref F_are_prices))) (l_are_prices : K.lookup F_are_prices = some ⟨oc_are_prices, od_are_prices, .func (PySem.W.fnOf "are_prices" "are_prices" (defArgs s_are_prices) (defBody s_are_prices) (defScope s_are_prices) .none kV_are_prices dc_are_prices pm_are_prices an_are_prices cd_are_prices ct_are_prices), sl_are_prices⟩) (c_are_prices : PySem.W.codeIn K cd_are_prices "are_prices" = true) (k_are_prices : PySem.W.keepIn K (.ref F_are_prices) = true)
    {F_is_gaining_loop : Addr} {od_is_gaining_loop an_is_gaining_loop : Option Addr} {sl_is_gaining_loop : Array (Option Value)} {oc_is_gaining_loop kV_is_gaining_loop dc_is_gaining_loop pm_is_gaining_loop cd_is_gaining_loop ct_is_gaining_loop : Value} (a_is_gaining_loop : PySem.W.nsIn K mainGlobals "is_gaining_loop" = some (some (.ref F_is_gaining_loop))) (l_is_gaining_loop : K.lookup F_is_gaining_loop = some ⟨oc_is_gaining_loop, od_is_gaining_loop, .func (PySem.W.fnOf "is_gaining_loop" "is_gaining_loop" (defArgs s_is_gaining_loop) (defBody s_is_gaining_loop) (defScope s_is_gaining_loop) .none kV_is_gaining_loop dc_is_gaining_loop pm_is_gaining_loop an_is_gaining_loop cd_is_gaining_loop ct_is_gaining_loop), sl_is_gaining_loop⟩) (c_is_gaining_loop : PySem.W.codeIn K cd_is_gaining_loop "is_gaining_loop" = true) (k_is_gaining_loop : PySem.W.keepIn K (.ref F_is_gaining_loop) = true)
    {F_gains : Addr} {od_gains an_gains : Option Addr} {sl_gains : Array (Option Value)} {oc_gains kV_gains dc_gains pm_gains cd_gains ct_gains : Value} (a_gains : PySem.W.nsIn K mainGlobals "gains" = some (some (.ref F_gains))) (l_gains : K.lookup F_gains = some ⟨oc_gains, od_gains, .func (PySem.W.fnOf "gains" "gains" (defArgs s_gains) (defBody s_gains) (defScope s_gains) .none kV_gains dc_gains pm_gains an_gains cd_gains ct_gains), sl_gains⟩) (c_gains : PySem.W.codeIn K cd_gains "gains" = true) (k_gains : PySem.W.keepIn K (.ref F_gains) = true)
    {F_l_deck : Addr} {od_l_deck an_l_deck : Option Addr} {sl_l_deck : Array (Option Value)} {oc_l_deck kV_l_deck dc_l_deck pm_l_deck cd_l_deck ct_l_deck : Value} (a_l_deck : PySem.W.nsIn K mainGlobals "_law_deck" = some (some (.ref F_l_deck))) (l_l_deck : K.lookup F_l_deck = some ⟨oc_l_deck, od_l_deck, .func (PySem.W.fnOf "_law_deck" "_law_deck" (defArgs s_l_deck) (defBody s_l_deck) (defScope s_l_deck) .none kV_l_deck dc_l_deck pm_l_deck an_l_deck cd_l_deck ct_l_deck), sl_l_deck⟩) (c_l_deck : PySem.W.codeIn K cd_l_deck "_law_deck" = true) (k_l_deck : PySem.W.keepIn K (.ref F_l_deck) = true)
    {F_l_draw : Addr} {od_l_draw an_l_draw : Option Addr} {sl_l_draw : Array (Option Value)} {oc_l_draw kV_l_draw dc_l_draw pm_l_draw cd_l_draw ct_l_draw : Value} (a_l_draw : PySem.W.nsIn K mainGlobals "_law_draw" = some (some (.ref F_l_draw))) (l_l_draw : K.lookup F_l_draw = some ⟨oc_l_draw, od_l_draw, .func (PySem.W.fnOf "_law_draw" "_law_draw" (defArgs s_l_draw) (defBody s_l_draw) (defScope s_l_draw) .none kV_l_draw dc_l_draw pm_l_draw an_l_draw cd_l_draw ct_l_draw), sl_l_draw⟩) (c_l_draw : PySem.W.codeIn K cd_l_draw "_law_draw" = true) (k_l_draw : PySem.W.keepIn K (.ref F_l_draw) = true)
    {F_l_one : Addr} {od_l_one an_l_one : Option Addr} {sl_l_one : Array (Option Value)} {oc_l_one kV_l_one dc_l_one pm_l_one cd_l_one ct_l_one : Value} (a_l_one : PySem.W.nsIn K mainGlobals "_law_one" = some (some (.ref F_l_one))) (l_l_one : K.lookup F_l_one = some ⟨oc_l_one, od_l_one, .func (PySem.W.fnOf "_law_one" "_law_one" (defArgs s_l_one) (defBody s_l_one) (defScope s_l_one) .none kV_l_one dc_l_one pm_l_one an_l_one cd_l_one ct_l_one), sl_l_one⟩) (c_l_one : PySem.W.codeIn K cd_l_one "_law_one" = true) (k_l_one : PySem.W.keepIn K (.ref F_l_one) = true)
    {F_l_board : Addr} {od_l_board an_l_board : Option Addr} {sl_l_board : Array (Option Value)} {oc_l_board kV_l_board dc_l_board pm_l_board cd_l_board ct_l_board : Value} (a_l_board : PySem.W.nsIn K mainGlobals "_law_board" = some (some (.ref F_l_board))) (l_l_board : K.lookup F_l_board = some ⟨oc_l_board, od_l_board, .func (PySem.W.fnOf "_law_board" "_law_board" (defArgs s_l_board) (defBody s_l_board) (defScope s_l_board) .none kV_l_board dc_l_board pm_l_board an_l_board cd_l_board ct_l_board), sl_l_board⟩) (c_l_board : PySem.W.codeIn K cd_l_board "_law_board" = true) (k_l_board : PySem.W.keepIn K (.ref F_l_board) = true)
    {F_l_ring : Addr} {od_l_ring an_l_ring : Option Addr} {sl_l_ring : Array (Option Value)} {oc_l_ring kV_l_ring dc_l_ring pm_l_ring cd_l_ring ct_l_ring : Value} (a_l_ring : PySem.W.nsIn K mainGlobals "_law_ring" = some (some (.ref F_l_ring))) (l_l_ring : K.lookup F_l_ring = some ⟨oc_l_ring, od_l_ring, .func (PySem.W.fnOf "_law_ring" "_law_ring" (defArgs s_l_ring) (defBody s_l_ring) (defScope s_l_ring) .none kV_l_ring dc_l_ring pm_l_ring an_l_ring cd_l_ring ct_l_ring), sl_l_ring⟩) (c_l_ring : PySem.W.codeIn K cd_l_ring "_law_ring" = true) (k_l_ring : PySem.W.keepIn K (.ref F_l_ring) = true)
    {F_l_fair : Addr} {od_l_fair an_l_fair : Option Addr} {sl_l_fair : Array (Option Value)} {oc_l_fair kV_l_fair dc_l_fair pm_l_fair cd_l_fair ct_l_fair : Value} (a_l_fair : PySem.W.nsIn K mainGlobals "_law_fair" = some (some (.ref F_l_fair))) (l_l_fair : K.lookup F_l_fair = some ⟨oc_l_fair, od_l_fair, .func (PySem.W.fnOf "_law_fair" "_law_fair" (defArgs s_l_fair) (defBody s_l_fair) (defScope s_l_fair) .none kV_l_fair dc_l_fair pm_l_fair an_l_fair cd_l_fair ct_l_fair), sl_l_fair⟩) (c_l_fair : PySem.W.codeIn K cd_l_fair "_law_fair" = true) (k_l_fair : PySem.W.keepIn K (.ref F_l_fair) = true)
    {F_l_some : Addr} {od_l_some an_l_some : Option Addr} {sl_l_some : Array (Option Value)} {oc_l_some kV_l_some dc_l_some pm_l_some cd_l_some ct_l_some : Value} (a_l_some : PySem.W.nsIn K mainGlobals "_law_some" = some (some (.ref F_l_some))) (l_l_some : K.lookup F_l_some = some ⟨oc_l_some, od_l_some, .func (PySem.W.fnOf "_law_some" "_law_some" (defArgs s_l_some) (defBody s_l_some) (defScope s_l_some) .none kV_l_some dc_l_some pm_l_some an_l_some cd_l_some ct_l_some), sl_l_some⟩) (c_l_some : PySem.W.codeIn K cd_l_some "_law_some" = true) (k_l_some : PySem.W.keepIn K (.ref F_l_some) = true)
    {F_l_is_loop : Addr} {od_l_is_loop an_l_is_loop : Option Addr} {sl_l_is_loop : Array (Option Value)} {oc_l_is_loop kV_l_is_loop dc_l_is_loop pm_l_is_loop cd_l_is_loop ct_l_is_loop : Value} (a_l_is_loop : PySem.W.nsIn K mainGlobals "_law_is_loop" = some (some (.ref F_l_is_loop))) (l_l_is_loop : K.lookup F_l_is_loop = some ⟨oc_l_is_loop, od_l_is_loop, .func (PySem.W.fnOf "_law_is_loop" "_law_is_loop" (defArgs s_l_is_loop) (defBody s_l_is_loop) (defScope s_l_is_loop) .none kV_l_is_loop dc_l_is_loop pm_l_is_loop an_l_is_loop cd_l_is_loop ct_l_is_loop), sl_l_is_loop⟩) (c_l_is_loop : PySem.W.codeIn K cd_l_is_loop "_law_is_loop" = true) (k_l_is_loop : PySem.W.keepIn K (.ref F_l_is_loop) = true)
    {F_l_product : Addr} {od_l_product an_l_product : Option Addr} {sl_l_product : Array (Option Value)} {oc_l_product kV_l_product dc_l_product pm_l_product cd_l_product ct_l_product : Value} (a_l_product : PySem.W.nsIn K mainGlobals "_law_product" = some (some (.ref F_l_product))) (l_l_product : K.lookup F_l_product = some ⟨oc_l_product, od_l_product, .func (PySem.W.fnOf "_law_product" "_law_product" (defArgs s_l_product) (defBody s_l_product) (defScope s_l_product) .none kV_l_product dc_l_product pm_l_product an_l_product cd_l_product ct_l_product), sl_l_product⟩) (c_l_product : PySem.W.codeIn K cd_l_product "_law_product" = true) (k_l_product : PySem.W.keepIn K (.ref F_l_product) = true)
    {F_l_gains : Addr} {od_l_gains an_l_gains : Option Addr} {sl_l_gains : Array (Option Value)} {oc_l_gains kV_l_gains dc_l_gains pm_l_gains cd_l_gains ct_l_gains : Value} (a_l_gains : PySem.W.nsIn K mainGlobals "_law_gains" = some (some (.ref F_l_gains))) (l_l_gains : K.lookup F_l_gains = some ⟨oc_l_gains, od_l_gains, .func (PySem.W.fnOf "_law_gains" "_law_gains" (defArgs s_l_gains) (defBody s_l_gains) (defScope s_l_gains) .none kV_l_gains dc_l_gains pm_l_gains an_l_gains cd_l_gains ct_l_gains), sl_l_gains⟩) (c_l_gains : PySem.W.codeIn K cd_l_gains "_law_gains" = true) (k_l_gains : PySem.W.keepIn K (.ref F_l_gains) = true)
    {F_l_is_prices : Addr} {od_l_is_prices an_l_is_prices : Option Addr} {sl_l_is_prices : Array (Option Value)} {oc_l_is_prices kV_l_is_prices dc_l_is_prices pm_l_is_prices cd_l_is_prices ct_l_is_prices : Value} (a_l_is_prices : PySem.W.nsIn K mainGlobals "_law_is_prices" = some (some (.ref F_l_is_prices))) (l_l_is_prices : K.lookup F_l_is_prices = some ⟨oc_l_is_prices, od_l_is_prices, .func (PySem.W.fnOf "_law_is_prices" "_law_is_prices" (defArgs s_l_is_prices) (defBody s_l_is_prices) (defScope s_l_is_prices) .none kV_l_is_prices dc_l_is_prices pm_l_is_prices an_l_is_prices cd_l_is_prices ct_l_is_prices), sl_l_is_prices⟩) (c_l_is_prices : PySem.W.codeIn K cd_l_is_prices "_law_is_prices" = true) (k_l_is_prices : PySem.W.keepIn K (.ref F_l_is_prices) = true)
    {F_l_gcd : Addr} {od_l_gcd an_l_gcd : Option Addr} {sl_l_gcd : Array (Option Value)} {oc_l_gcd kV_l_gcd dc_l_gcd pm_l_gcd cd_l_gcd ct_l_gcd : Value} (a_l_gcd : PySem.W.nsIn K mainGlobals "_law_gcd" = some (some (.ref F_l_gcd))) (l_l_gcd : K.lookup F_l_gcd = some ⟨oc_l_gcd, od_l_gcd, .func (PySem.W.fnOf "_law_gcd" "_law_gcd" (defArgs s_l_gcd) (defBody s_l_gcd) (defScope s_l_gcd) .none kV_l_gcd dc_l_gcd pm_l_gcd an_l_gcd cd_l_gcd ct_l_gcd), sl_l_gcd⟩) (c_l_gcd : PySem.W.codeIn K cd_l_gcd "_law_gcd" = true) (k_l_gcd : PySem.W.keepIn K (.ref F_l_gcd) = true)
    {F_l_frac : Addr} {od_l_frac an_l_frac : Option Addr} {sl_l_frac : Array (Option Value)} {oc_l_frac kV_l_frac dc_l_frac pm_l_frac cd_l_frac ct_l_frac : Value} (a_l_frac : PySem.W.nsIn K mainGlobals "_law_frac" = some (some (.ref F_l_frac))) (l_l_frac : K.lookup F_l_frac = some ⟨oc_l_frac, od_l_frac, .func (PySem.W.fnOf "_law_frac" "_law_frac" (defArgs s_l_frac) (defBody s_l_frac) (defScope s_l_frac) .none kV_l_frac dc_l_frac pm_l_frac an_l_frac cd_l_frac ct_l_frac), sl_l_frac⟩) (c_l_frac : PySem.W.codeIn K cd_l_frac "_law_frac" = true) (k_l_frac : PySem.W.keepIn K (.ref F_l_frac) = true)
    {F_l_more : Addr} {od_l_more an_l_more : Option Addr} {sl_l_more : Array (Option Value)} {oc_l_more kV_l_more dc_l_more pm_l_more cd_l_more ct_l_more : Value} (a_l_more : PySem.W.nsIn K mainGlobals "_law_more" = some (some (.ref F_l_more))) (l_l_more : K.lookup F_l_more = some ⟨oc_l_more, od_l_more, .func (PySem.W.fnOf "_law_more" "_law_more" (defArgs s_l_more) (defBody s_l_more) (defScope s_l_more) .none kV_l_more dc_l_more pm_l_more an_l_more cd_l_more ct_l_more), sl_l_more⟩) (c_l_more : PySem.W.codeIn K cd_l_more "_law_more" = true) (k_l_more : PySem.W.keepIn K (.ref F_l_more) = true)
    {F_l_row : Addr} {od_l_row an_l_row : Option Addr} {sl_l_row : Array (Option Value)} {oc_l_row kV_l_row dc_l_row pm_l_row cd_l_row ct_l_row : Value} (a_l_row : PySem.W.nsIn K mainGlobals "_law_row" = some (some (.ref F_l_row))) (l_l_row : K.lookup F_l_row = some ⟨oc_l_row, od_l_row, .func (PySem.W.fnOf "_law_row" "_law_row" (defArgs s_l_row) (defBody s_l_row) (defScope s_l_row) .none kV_l_row dc_l_row pm_l_row an_l_row cd_l_row ct_l_row), sl_l_row⟩) (c_l_row : PySem.W.codeIn K cd_l_row "_law_row" = true) (k_l_row : PySem.W.keepIn K (.ref F_l_row) = true)
    {F_l_walks : Addr} {od_l_walks an_l_walks : Option Addr} {sl_l_walks : Array (Option Value)} {oc_l_walks kV_l_walks dc_l_walks pm_l_walks cd_l_walks ct_l_walks : Value} (a_l_walks : PySem.W.nsIn K mainGlobals "_law_walks" = some (some (.ref F_l_walks))) (l_l_walks : K.lookup F_l_walks = some ⟨oc_l_walks, od_l_walks, .func (PySem.W.fnOf "_law_walks" "_law_walks" (defArgs s_l_walks) (defBody s_l_walks) (defScope s_l_walks) .none kV_l_walks dc_l_walks pm_l_walks an_l_walks cd_l_walks ct_l_walks), sl_l_walks⟩) (c_l_walks : PySem.W.codeIn K cd_l_walks "_law_walks" = true) (k_l_walks : PySem.W.keepIn K (.ref F_l_walks) = true)
    {F_l_prices : Addr} {od_l_prices an_l_prices : Option Addr} {sl_l_prices : Array (Option Value)} {oc_l_prices kV_l_prices dc_l_prices pm_l_prices cd_l_prices ct_l_prices : Value} (a_l_prices : PySem.W.nsIn K mainGlobals "_law_prices" = some (some (.ref F_l_prices))) (l_l_prices : K.lookup F_l_prices = some ⟨oc_l_prices, od_l_prices, .func (PySem.W.fnOf "_law_prices" "_law_prices" (defArgs s_l_prices) (defBody s_l_prices) (defScope s_l_prices) .none kV_l_prices dc_l_prices pm_l_prices an_l_prices cd_l_prices ct_l_prices), sl_l_prices⟩) (c_l_prices : PySem.W.codeIn K cd_l_prices "_law_prices" = true) (k_l_prices : PySem.W.keepIn K (.ref F_l_prices) = true)
    {F_l_odd : Addr} {od_l_odd an_l_odd : Option Addr} {sl_l_odd : Array (Option Value)} {oc_l_odd kV_l_odd dc_l_odd pm_l_odd cd_l_odd ct_l_odd : Value} (a_l_odd : PySem.W.nsIn K mainGlobals "_law_odd" = some (some (.ref F_l_odd))) (l_l_odd : K.lookup F_l_odd = some ⟨oc_l_odd, od_l_odd, .func (PySem.W.fnOf "_law_odd" "_law_odd" (defArgs s_l_odd) (defBody s_l_odd) (defScope s_l_odd) .none kV_l_odd dc_l_odd pm_l_odd an_l_odd cd_l_odd ct_l_odd), sl_l_odd⟩) (c_l_odd : PySem.W.codeIn K cd_l_odd "_law_odd" = true) (k_l_odd : PySem.W.keepIn K (.ref F_l_odd) = true)
    {F_l_due : Addr} {od_l_due an_l_due : Option Addr} {sl_l_due : Array (Option Value)} {oc_l_due kV_l_due dc_l_due pm_l_due cd_l_due ct_l_due : Value} (a_l_due : PySem.W.nsIn K mainGlobals "_law_due" = some (some (.ref F_l_due))) (l_l_due : K.lookup F_l_due = some ⟨oc_l_due, od_l_due, .func (PySem.W.fnOf "_law_due" "_law_due" (defArgs s_l_due) (defBody s_l_due) (defScope s_l_due) .none kV_l_due dc_l_due pm_l_due an_l_due cd_l_due ct_l_due), sl_l_due⟩) (c_l_due : PySem.W.codeIn K cd_l_due "_law_due" = true) (k_l_due : PySem.W.keepIn K (.ref F_l_due) = true)
    {F_l_priced : Addr} {od_l_priced an_l_priced : Option Addr} {sl_l_priced : Array (Option Value)} {oc_l_priced kV_l_priced dc_l_priced pm_l_priced cd_l_priced ct_l_priced : Value} (a_l_priced : PySem.W.nsIn K mainGlobals "_law_priced" = some (some (.ref F_l_priced))) (l_l_priced : K.lookup F_l_priced = some ⟨oc_l_priced, od_l_priced, .func (PySem.W.fnOf "_law_priced" "_law_priced" (defArgs s_l_priced) (defBody s_l_priced) (defScope s_l_priced) .none kV_l_priced dc_l_priced pm_l_priced an_l_priced cd_l_priced ct_l_priced), sl_l_priced⟩) (c_l_priced : PySem.W.codeIn K cd_l_priced "_law_priced" = true) (k_l_priced : PySem.W.keepIn K (.ref F_l_priced) = true)
    {F_l_looped : Addr} {od_l_looped an_l_looped : Option Addr} {sl_l_looped : Array (Option Value)} {oc_l_looped kV_l_looped dc_l_looped pm_l_looped cd_l_looped ct_l_looped : Value} (a_l_looped : PySem.W.nsIn K mainGlobals "_law_looped" = some (some (.ref F_l_looped))) (l_l_looped : K.lookup F_l_looped = some ⟨oc_l_looped, od_l_looped, .func (PySem.W.fnOf "_law_looped" "_law_looped" (defArgs s_l_looped) (defBody s_l_looped) (defScope s_l_looped) .none kV_l_looped dc_l_looped pm_l_looped an_l_looped cd_l_looped ct_l_looped), sl_l_looped⟩) (c_l_looped : PySem.W.codeIn K cd_l_looped "_law_looped" = true) (k_l_looped : PySem.W.keepIn K (.ref F_l_looped) = true)
    {F_l_right : Addr} {od_l_right an_l_right : Option Addr} {sl_l_right : Array (Option Value)} {oc_l_right kV_l_right dc_l_right pm_l_right cd_l_right ct_l_right : Value} (a_l_right : PySem.W.nsIn K mainGlobals "_law_right" = some (some (.ref F_l_right))) (l_l_right : K.lookup F_l_right = some ⟨oc_l_right, od_l_right, .func (PySem.W.fnOf "_law_right" "_law_right" (defArgs s_l_right) (defBody s_l_right) (defScope s_l_right) .none kV_l_right dc_l_right pm_l_right an_l_right cd_l_right ct_l_right), sl_l_right⟩) (c_l_right : PySem.W.codeIn K cd_l_right "_law_right" = true) (k_l_right : PySem.W.keepIn K (.ref F_l_right) = true)
    {F_law : Addr} {od_law an_law : Option Addr} {sl_law : Array (Option Value)} {oc_law kV_law dc_law pm_law cd_law ct_law : Value} (a_law : PySem.W.nsIn K mainGlobals "law" = some (some (.ref F_law))) (l_law : K.lookup F_law = some ⟨oc_law, od_law, .func (PySem.W.fnOf "law" "law" (defArgs s_law) (defBody s_law) (defScope s_law) .none kV_law dc_law pm_law an_law cd_law ct_law), sl_law⟩) (c_law : PySem.W.codeIn K cd_law "law" = true) (k_law : PySem.W.keepIn K (.ref F_law) = true)
    (z_abs : PySem.W.nsIn K mainGlobals "abs" = some none)
    (z_all : PySem.W.nsIn K mainGlobals "all" = some none)
    (z_bool : PySem.W.nsIn K mainGlobals "bool" = some none)
    (z_int : PySem.W.nsIn K mainGlobals "int" = some none)
    (z_isinstance : PySem.W.nsIn K mainGlobals "isinstance" = some none)
    (z_len : PySem.W.nsIn K mainGlobals "len" = some none)
    (z_list : PySem.W.nsIn K mainGlobals "list" = some none)
    (z_max : PySem.W.nsIn K mainGlobals "max" = some none)
    (z_range : PySem.W.nsIn K mainGlobals "range" = some none)
    (z_repr : PySem.W.nsIn K mainGlobals "repr" = some none)
    (z_set : PySem.W.nsIn K mainGlobals "set" = some none)
    (z_sorted : PySem.W.nsIn K mainGlobals "sorted" = some none)
    (z_tuple : PySem.W.nsIn K mainGlobals "tuple" = some none) :
    ∃ fd : FuncData, (∀ (s : Shared) (v : Value), BindsTo s fd ⟨[v], []⟩ [("_law_script", v)]) ∧ ∀ base : Heap, K.In base → base.Ns mainGlobals mg → FnG l.prog w K mg base 8 fa fd ["_law_script"] (sp_law K) := by
  have e := hfa.symm.trans (PySem.W.mg_of X G a_law)
  cases e
  have T : Txt mg := ⟨PySem.W.mg_none_of X G z_abs, PySem.W.mg_none_of X G z_all, PySem.W.mg_none_of X G z_bool, PySem.W.mg_none_of X G z_int, PySem.W.mg_none_of X G z_isinstance, PySem.W.mg_none_of X G z_len, PySem.W.mg_none_of X G z_list, PySem.W.mg_none_of X G z_max, PySem.W.mg_none_of X G z_range, PySem.W.mg_none_of X G z_repr, PySem.W.mg_none_of X G z_set, PySem.W.mg_none_of X G z_sorted, PySem.W.mg_none_of X G z_tuple⟩
  have D_is_whole : Df K mg "is_whole" s_is_whole ["value"] := ⟨_, _, fun_mk (st := s_is_whole) l_is_whole c_is_whole k_is_whole, PySem.W.mg_of X G a_is_whole, (fun_mk (st := s_is_whole) l_is_whole c_is_whole k_is_whole).binds (ps := ["value"]) fun _ _ _ _ _ _ us hl => match us, hl with | [_], _ => rfl⟩
  have D_is_within : Df K mg "is_within" s_is_within ["value", "low", "high"] := ⟨_, _, fun_mk (st := s_is_within) l_is_within c_is_within k_is_within, PySem.W.mg_of X G a_is_within, (fun_mk (st := s_is_within) l_is_within c_is_within k_is_within).binds (ps := ["value", "low", "high"]) fun _ _ _ _ _ _ us hl => match us, hl with | [_, _, _], _ => rfl⟩
  have D_is_amount : Df K mg "is_amount" s_is_amount ["value"] := ⟨_, _, fun_mk (st := s_is_amount) l_is_amount c_is_amount k_is_amount, PySem.W.mg_of X G a_is_amount, (fun_mk (st := s_is_amount) l_is_amount c_is_amount k_is_amount).binds (ps := ["value"]) fun _ _ _ _ _ _ us hl => match us, hl with | [_], _ => rfl⟩
  have D_worths_hold : Df K mg "worths_hold" s_worths_hold ["board", "value"] := ⟨_, _, fun_mk (st := s_worths_hold) l_worths_hold c_worths_hold k_worths_hold, PySem.W.mg_of X G a_worths_hold, (fun_mk (st := s_worths_hold) l_worths_hold c_worths_hold k_worths_hold).binds (ps := ["board", "value"]) fun _ _ _ _ _ _ us hl => match us, hl with | [_, _], _ => rfl⟩
  have D_are_prices : Df K mg "are_prices" s_are_prices ["board", "value"] := ⟨_, _, fun_mk (st := s_are_prices) l_are_prices c_are_prices k_are_prices, PySem.W.mg_of X G a_are_prices, (fun_mk (st := s_are_prices) l_are_prices c_are_prices k_are_prices).binds (ps := ["board", "value"]) fun _ _ _ _ _ _ us hl => match us, hl with | [_, _], _ => rfl⟩
  have D_is_gaining_loop : Df K mg "is_gaining_loop" s_is_gaining_loop ["board", "value"] := ⟨_, _, fun_mk (st := s_is_gaining_loop) l_is_gaining_loop c_is_gaining_loop k_is_gaining_loop, PySem.W.mg_of X G a_is_gaining_loop, (fun_mk (st := s_is_gaining_loop) l_is_gaining_loop c_is_gaining_loop k_is_gaining_loop).binds (ps := ["board", "value"]) fun _ _ _ _ _ _ us hl => match us, hl with | [_, _], _ => rfl⟩
  have D_gains : Df K mg "gains" s_gains ["board", "indexes"] := ⟨_, _, fun_mk (st := s_gains) l_gains c_gains k_gains, PySem.W.mg_of X G a_gains, (fun_mk (st := s_gains) l_gains c_gains k_gains).binds (ps := ["board", "indexes"]) fun _ _ _ _ _ _ us hl => match us, hl with | [_, _], _ => rfl⟩
  have D_l_deck : Df K mg "_law_deck" s_l_deck ["_law_script"] := ⟨_, _, fun_mk (st := s_l_deck) l_l_deck c_l_deck k_l_deck, PySem.W.mg_of X G a_l_deck, (fun_mk (st := s_l_deck) l_l_deck c_l_deck k_l_deck).binds (ps := ["_law_script"]) fun _ _ _ _ _ _ us hl => match us, hl with | [_], _ => rfl⟩
  have D_l_draw : Df K mg "_law_draw" s_l_draw ["_law_deck_here", "_law_many"] := ⟨_, _, fun_mk (st := s_l_draw) l_l_draw c_l_draw k_l_draw, PySem.W.mg_of X G a_l_draw, (fun_mk (st := s_l_draw) l_l_draw c_l_draw k_l_draw).binds (ps := ["_law_deck_here", "_law_many"]) fun _ _ _ _ _ _ us hl => match us, hl with | [_, _], _ => rfl⟩
  have D_l_one : Df K mg "_law_one" s_l_one ["_law_deck_here", "_law_items"] := ⟨_, _, fun_mk (st := s_l_one) l_l_one c_l_one k_l_one, PySem.W.mg_of X G a_l_one, (fun_mk (st := s_l_one) l_l_one c_l_one k_l_one).binds (ps := ["_law_deck_here", "_law_items"]) fun _ _ _ _ _ _ us hl => match us, hl with | [_, _], _ => rfl⟩
  have D_l_board : Df K mg "_law_board" s_l_board ["_law_deck_here", "_law_kinds", "_law_many", "_law_upto"] := ⟨_, _, fun_mk (st := s_l_board) l_l_board c_l_board k_l_board, PySem.W.mg_of X G a_l_board, (fun_mk (st := s_l_board) l_l_board c_l_board k_l_board).binds (ps := ["_law_deck_here", "_law_kinds", "_law_many", "_law_upto"]) fun _ _ _ _ _ _ us hl => match us, hl with | [_, _, _, _], _ => rfl⟩
  have D_l_ring : Df K mg "_law_ring" s_l_ring ["_law_deck_here", "_law_kinds"] := ⟨_, _, fun_mk (st := s_l_ring) l_l_ring c_l_ring k_l_ring, PySem.W.mg_of X G a_l_ring, (fun_mk (st := s_l_ring) l_l_ring c_l_ring k_l_ring).binds (ps := ["_law_deck_here", "_law_kinds"]) fun _ _ _ _ _ _ us hl => match us, hl with | [_, _], _ => rfl⟩
  have D_l_fair : Df K mg "_law_fair" s_l_fair ["_law_deck_here", "_law_kinds", "_law_many", "_law_upto"] := ⟨_, _, fun_mk (st := s_l_fair) l_l_fair c_l_fair k_l_fair, PySem.W.mg_of X G a_l_fair, (fun_mk (st := s_l_fair) l_l_fair c_l_fair k_l_fair).binds (ps := ["_law_deck_here", "_law_kinds", "_law_many", "_law_upto"]) fun _ _ _ _ _ _ us hl => match us, hl with | [_, _, _, _], _ => rfl⟩
  have D_l_some : Df K mg "_law_some" s_l_some ["_law_deck_here", "_law_turn"] := ⟨_, _, fun_mk (st := s_l_some) l_l_some c_l_some k_l_some, PySem.W.mg_of X G a_l_some, (fun_mk (st := s_l_some) l_l_some c_l_some k_l_some).binds (ps := ["_law_deck_here", "_law_turn"]) fun _ _ _ _ _ _ us hl => match us, hl with | [_, _], _ => rfl⟩
  have D_l_is_loop : Df K mg "_law_is_loop" s_l_is_loop ["_law_board_here", "_law_value"] := ⟨_, _, fun_mk (st := s_l_is_loop) l_l_is_loop c_l_is_loop k_l_is_loop, PySem.W.mg_of X G a_l_is_loop, (fun_mk (st := s_l_is_loop) l_l_is_loop c_l_is_loop k_l_is_loop).binds (ps := ["_law_board_here", "_law_value"]) fun _ _ _ _ _ _ us hl => match us, hl with | [_, _], _ => rfl⟩
  have D_l_product : Df K mg "_law_product" s_l_product ["_law_board_here", "_law_indexes", "_law_item"] := ⟨_, _, fun_mk (st := s_l_product) l_l_product c_l_product k_l_product, PySem.W.mg_of X G a_l_product, (fun_mk (st := s_l_product) l_l_product c_l_product k_l_product).binds (ps := ["_law_board_here", "_law_indexes", "_law_item"]) fun _ _ _ _ _ _ us hl => match us, hl with | [_, _, _], _ => rfl⟩
  have D_l_gains : Df K mg "_law_gains" s_l_gains ["_law_board_here", "_law_indexes"] := ⟨_, _, fun_mk (st := s_l_gains) l_l_gains c_l_gains k_l_gains, PySem.W.mg_of X G a_l_gains, (fun_mk (st := s_l_gains) l_l_gains c_l_gains k_l_gains).binds (ps := ["_law_board_here", "_law_indexes"]) fun _ _ _ _ _ _ us hl => match us, hl with | [_, _], _ => rfl⟩
  have D_l_is_prices : Df K mg "_law_is_prices" s_l_is_prices ["_law_board_here", "_law_value"] := ⟨_, _, fun_mk (st := s_l_is_prices) l_l_is_prices c_l_is_prices k_l_is_prices, PySem.W.mg_of X G a_l_is_prices, (fun_mk (st := s_l_is_prices) l_l_is_prices c_l_is_prices k_l_is_prices).binds (ps := ["_law_board_here", "_law_value"]) fun _ _ _ _ _ _ us hl => match us, hl with | [_, _], _ => rfl⟩
  have D_l_gcd : Df K mg "_law_gcd" s_l_gcd ["_law_one_here", "_law_other"] := ⟨_, _, fun_mk (st := s_l_gcd) l_l_gcd c_l_gcd k_l_gcd, PySem.W.mg_of X G a_l_gcd, (fun_mk (st := s_l_gcd) l_l_gcd c_l_gcd k_l_gcd).binds (ps := ["_law_one_here", "_law_other"]) fun _ _ _ _ _ _ us hl => match us, hl with | [_, _], _ => rfl⟩
  have D_l_frac : Df K mg "_law_frac" s_l_frac ["_law_num", "_law_den"] := ⟨_, _, fun_mk (st := s_l_frac) l_l_frac c_l_frac k_l_frac, PySem.W.mg_of X G a_l_frac, (fun_mk (st := s_l_frac) l_l_frac c_l_frac k_l_frac).binds (ps := ["_law_num", "_law_den"]) fun _ _ _ _ _ _ us hl => match us, hl with | [_, _], _ => rfl⟩
  have D_l_more : Df K mg "_law_more" s_l_more ["_law_one_here", "_law_other"] := ⟨_, _, fun_mk (st := s_l_more) l_l_more c_l_more k_l_more, PySem.W.mg_of X G a_l_more, (fun_mk (st := s_l_more) l_l_more c_l_more k_l_more).binds (ps := ["_law_one_here", "_law_other"]) fun _ _ _ _ _ _ us hl => match us, hl with | [_, _], _ => rfl⟩
  have D_l_row : Df K mg "_law_row" s_l_row ["_law_board_here", "_law_found", "_law_u"] := ⟨_, _, fun_mk (st := s_l_row) l_l_row c_l_row k_l_row, PySem.W.mg_of X G a_l_row, (fun_mk (st := s_l_row) l_l_row c_l_row k_l_row).binds (ps := ["_law_board_here", "_law_found", "_law_u"]) fun _ _ _ _ _ _ us hl => match us, hl with | [_, _, _], _ => rfl⟩
  have D_l_walks : Df K mg "_law_walks" s_l_walks ["_law_board_here"] := ⟨_, _, fun_mk (st := s_l_walks) l_l_walks c_l_walks k_l_walks, PySem.W.mg_of X G a_l_walks, (fun_mk (st := s_l_walks) l_l_walks c_l_walks k_l_walks).binds (ps := ["_law_board_here"]) fun _ _ _ _ _ _ us hl => match us, hl with | [_], _ => rfl⟩
  have D_l_prices : Df K mg "_law_prices" s_l_prices ["_law_board_here"] := ⟨_, _, fun_mk (st := s_l_prices) l_l_prices c_l_prices k_l_prices, PySem.W.mg_of X G a_l_prices, (fun_mk (st := s_l_prices) l_l_prices c_l_prices k_l_prices).binds (ps := ["_law_board_here"]) fun _ _ _ _ _ _ us hl => match us, hl with | [_], _ => rfl⟩
  have D_l_odd : Df K mg "_law_odd" s_l_odd ["_law_deck_here"] := ⟨_, _, fun_mk (st := s_l_odd) l_l_odd c_l_odd k_l_odd, PySem.W.mg_of X G a_l_odd, (fun_mk (st := s_l_odd) l_l_odd c_l_odd k_l_odd).binds (ps := ["_law_deck_here"]) fun _ _ _ _ _ _ us hl => match us, hl with | [_], _ => rfl⟩
  have D_l_due : Df K mg "_law_due" s_l_due ["_law_board_here", "_law_value"] := ⟨_, _, fun_mk (st := s_l_due) l_l_due c_l_due k_l_due, PySem.W.mg_of X G a_l_due, (fun_mk (st := s_l_due) l_l_due c_l_due k_l_due).binds (ps := ["_law_board_here", "_law_value"]) fun _ _ _ _ _ _ us hl => match us, hl with | [_, _], _ => rfl⟩
  have D_l_priced : Df K mg "_law_priced" s_l_priced ["_law_deck_here", "_law_board_here"] := ⟨_, _, fun_mk (st := s_l_priced) l_l_priced c_l_priced k_l_priced, PySem.W.mg_of X G a_l_priced, (fun_mk (st := s_l_priced) l_l_priced c_l_priced k_l_priced).binds (ps := ["_law_deck_here", "_law_board_here"]) fun _ _ _ _ _ _ us hl => match us, hl with | [_, _], _ => rfl⟩
  have D_l_looped : Df K mg "_law_looped" s_l_looped ["_law_deck_here", "_law_board_here", "_law_ring_here"] := ⟨_, _, fun_mk (st := s_l_looped) l_l_looped c_l_looped k_l_looped, PySem.W.mg_of X G a_l_looped, (fun_mk (st := s_l_looped) l_l_looped c_l_looped k_l_looped).binds (ps := ["_law_deck_here", "_law_board_here", "_law_ring_here"]) fun _ _ _ _ _ _ us hl => match us, hl with | [_, _, _], _ => rfl⟩
  have D_l_right : Df K mg "_law_right" s_l_right ["_law_deck_here", "_law_board_here", "_law_ring_here"] := ⟨_, _, fun_mk (st := s_l_right) l_l_right c_l_right k_l_right, PySem.W.mg_of X G a_l_right, (fun_mk (st := s_l_right) l_l_right c_l_right k_l_right).binds (ps := ["_law_deck_here", "_law_board_here", "_law_ring_here"]) fun _ _ _ _ _ _ us hl => match us, hl with | [_, _, _], _ => rfl⟩
  have D_law : Df K mg "law" s_law ["_law_script"] := ⟨_, _, fun_mk (st := s_law) l_law c_law k_law, PySem.W.mg_of X G a_law, (fun_mk (st := s_law) l_law c_law k_law).binds (ps := ["_law_script"]) fun _ _ _ _ _ _ us hl => match us, hl with | [_], _ => rfl⟩
  refine ⟨PySem.W.fnOf "law" "law" (defArgs s_law) (defBody s_law) (defScope s_law) .none kV_law dc_law pm_law an_law cd_law ct_law, fun s v => .of_eq rfl, fun base _ _ => ?_⟩
  have C_is_whole : Cal l.prog w K mg base "is_whole" ["value"] 1 (sp_is_whole K) := ok_is_whole T D_is_whole
  have C_gains : Cal l.prog w K mg base "gains" ["board", "indexes"] 1 (sp_gains K) := ok_gains T D_gains
  have C_l_deck : Cal l.prog w K mg base "_law_deck" ["_law_script"] 1 (sp_l_deck K) := ok_l_deck T D_l_deck
  have C_l_draw : Cal l.prog w K mg base "_law_draw" ["_law_deck_here", "_law_many"] 1 (sp_l_draw K) := ok_l_draw T D_l_draw
  have C_l_is_loop : Cal l.prog w K mg base "_law_is_loop" ["_law_board_here", "_law_value"] 1 (sp_l_is_loop K) := ok_l_is_loop T D_l_is_loop
  have C_l_product : Cal l.prog w K mg base "_law_product" ["_law_board_here", "_law_indexes", "_law_item"] 1 (sp_l_product K) := ok_l_product T D_l_product
  have C_l_is_prices : Cal l.prog w K mg base "_law_is_prices" ["_law_board_here", "_law_value"] 1 (sp_l_is_prices K) := ok_l_is_prices T D_l_is_prices
  have C_l_gcd : Cal l.prog w K mg base "_law_gcd" ["_law_one_here", "_law_other"] 1 (sp_l_gcd K) := ok_l_gcd T D_l_gcd
  have C_l_more : Cal l.prog w K mg base "_law_more" ["_law_one_here", "_law_other"] 1 (sp_l_more K) := ok_l_more T D_l_more
  have C_is_within : Cal l.prog w K mg base "is_within" ["value", "low", "high"] 2 (sp_is_within K) := ok_is_within T D_is_within C_is_whole
  have C_is_amount : Cal l.prog w K mg base "is_amount" ["value"] 2 (sp_is_amount K) := ok_is_amount T D_is_amount C_is_whole
  have C_l_one : Cal l.prog w K mg base "_law_one" ["_law_deck_here", "_law_items"] 2 (sp_l_one K) := ok_l_one T D_l_one C_l_draw
  have C_l_board : Cal l.prog w K mg base "_law_board" ["_law_deck_here", "_law_kinds", "_law_many", "_law_upto"] 2 (sp_l_board K) := ok_l_board T D_l_board C_l_draw
  have C_l_fair : Cal l.prog w K mg base "_law_fair" ["_law_deck_here", "_law_kinds", "_law_many", "_law_upto"] 2 (sp_l_fair K) := ok_l_fair T D_l_fair C_l_draw
  have C_l_gains : Cal l.prog w K mg base "_law_gains" ["_law_board_here", "_law_indexes"] 2 (sp_l_gains K) := ok_l_gains T D_l_gains C_l_product
  have C_l_frac : Cal l.prog w K mg base "_law_frac" ["_law_num", "_law_den"] 2 (sp_l_frac K) := ok_l_frac T D_l_frac C_l_gcd
  have C_are_prices : Cal l.prog w K mg base "are_prices" ["board", "value"] 3 (sp_are_prices K) := ok_are_prices T D_are_prices C_is_amount
  have C_is_gaining_loop : Cal l.prog w K mg base "is_gaining_loop" ["board", "value"] 3 (sp_is_gaining_loop K) := ok_is_gaining_loop T D_is_gaining_loop C_gains C_is_within
  have C_l_ring : Cal l.prog w K mg base "_law_ring" ["_law_deck_here", "_law_kinds"] 3 (sp_l_ring K) := ok_l_ring T D_l_ring C_l_board C_l_draw
  have C_l_row : Cal l.prog w K mg base "_law_row" ["_law_board_here", "_law_found", "_law_u"] 3 (sp_l_row K) := ok_l_row T D_l_row C_l_more C_l_frac
  have C_l_odd : Cal l.prog w K mg base "_law_odd" ["_law_deck_here"] 3 (sp_l_odd K) := ok_l_odd T D_l_odd C_l_one
  have C_l_due : Cal l.prog w K mg base "_law_due" ["_law_board_here", "_law_value"] 3 (sp_l_due K) := ok_l_due T D_l_due C_l_is_prices C_l_gains C_l_is_loop
  have C_worths_hold : Cal l.prog w K mg base "worths_hold" ["board", "value"] 4 (sp_worths_hold K) := ok_worths_hold T D_worths_hold C_are_prices C_is_gaining_loop
  have C_l_some : Cal l.prog w K mg base "_law_some" ["_law_deck_here", "_law_turn"] 4 (sp_l_some K) := ok_l_some T D_l_some C_l_fair C_l_draw C_l_ring
  have C_l_walks : Cal l.prog w K mg base "_law_walks" ["_law_board_here"] 4 (sp_l_walks K) := ok_l_walks T D_l_walks C_l_row
  have C_l_looped : Cal l.prog w K mg base "_law_looped" ["_law_deck_here", "_law_board_here", "_law_ring_here"] 4 (sp_l_looped K) := ok_l_looped T D_l_looped C_l_odd C_l_draw
  have C_l_prices : Cal l.prog w K mg base "_law_prices" ["_law_board_here"] 5 (sp_l_prices K) := ok_l_prices T D_l_prices C_l_more C_l_walks
  have C_l_priced : Cal l.prog w K mg base "_law_priced" ["_law_deck_here", "_law_board_here"] 6 (sp_l_priced K) := ok_l_priced T D_l_priced C_l_draw C_l_prices
  have G_l_right := ok_l_right (P := l.prog) (w := w) (base := base) T (fun_mk (st := s_l_right) l_l_right c_l_right k_l_right) C_worths_hold C_l_due C_l_odd C_l_prices C_l_looped C_l_priced
  have b_l_right := (fun_mk (st := s_l_right) l_l_right c_l_right k_l_right).binds (ps := ["_law_deck_here", "_law_board_here", "_law_ring_here"]) fun _ _ _ _ _ _ us hl => match us, hl with | [_, _, _], _ => rfl
  exact ok_lawG T (fun_mk (st := s_law) l_law c_law k_law) C_worths_hold G_l_right (PySem.W.mg_of X G a_l_right) k_l_right b_l_right C_l_some C_l_deck

end Sm
open PySem PySem.W PyProof.Rows in
set_option maxRecDepth 100000 in
set_option maxHeartbeats 0 in
theorem PySem.Challenge.cw_smallchange_k50_prices_and_loops_judged_holds : PySem.Challenge.rw_smallchange_k50_prices_and_loops_judged.Holds := by
  w_on; o_law; k_head; (case hw => w_witness2)
  k_fill
  refine Sm.walk_at_law (l := PySem.Challenge.rw_smallchange_k50_prices_and_loops_judged) (k := 8) (x := "_law_script") (sp := Sm.sp_law) rfl rfl ⟨rfl, by decide, by decide⟩ (fun w h Y => PySem.W.kIn_of Y) ?F (fun _ _ a ns hl hS => ⟨a, ns, rfl, hS, hl, fun _ => rfl⟩)
  case F =>
    intro w mg fa h KX G hmg
    refine' Sm.all_mk KX G hmg ?a_is_whole ?l_is_whole ?c_is_whole ?k_is_whole ?a_is_within ?l_is_within ?c_is_within ?k_is_within ?a_is_amount ?l_is_amount ?c_is_amount ?k_is_amount ?a_worths_hold ?l_worths_hold ?c_worths_hold ?k_worths_hold ?a_are_prices ?l_are_prices ?c_are_prices ?k_are_prices ?a_is_gaining_loop ?l_is_gaining_loop ?c_is_gaining_loop ?k_is_gaining_loop ?a_gains ?l_gains ?c_gains ?k_gains ?a_l_deck ?l_l_deck ?c_l_deck ?k_l_deck ?a_l_draw ?l_l_draw ?c_l_draw ?k_l_draw ?a_l_one ?l_l_one ?c_l_one ?k_l_one ?a_l_board ?l_l_board ?c_l_board ?k_l_board ?a_l_ring ?l_l_ring ?c_l_ring ?k_l_ring ?a_l_fair ?l_l_fair ?c_l_fair ?k_l_fair ?a_l_some ?l_l_some ?c_l_some ?k_l_some ?a_l_is_loop ?l_l_is_loop ?c_l_is_loop ?k_l_is_loop ?a_l_product ?l_l_product ?c_l_product ?k_l_product ?a_l_gains ?l_l_gains ?c_l_gains ?k_l_gains ?a_l_is_prices ?l_l_is_prices ?c_l_is_prices ?k_l_is_prices ?a_l_gcd ?l_l_gcd ?c_l_gcd ?k_l_gcd ?a_l_frac ?l_l_frac ?c_l_frac ?k_l_frac ?a_l_more ?l_l_more ?c_l_more ?k_l_more ?a_l_row ?l_l_row ?c_l_row ?k_l_row ?a_l_walks ?l_l_walks ?c_l_walks ?k_l_walks ?a_l_prices ?l_l_prices ?c_l_prices ?k_l_prices ?a_l_odd ?l_l_odd ?c_l_odd ?k_l_odd ?a_l_due ?l_l_due ?c_l_due ?k_l_due ?a_l_priced ?l_l_priced ?c_l_priced ?k_l_priced ?a_l_looped ?l_l_looped ?c_l_looped ?k_l_looped ?a_l_right ?l_l_right ?c_l_right ?k_l_right ?a_law ?l_law ?c_law ?k_law ?z_abs ?z_all ?z_bool ?z_int ?z_isinstance ?z_len ?z_list ?z_max ?z_range ?z_repr ?z_set ?z_sorted ?z_tuple
    (case a_is_whole => k_is)
    (case l_is_whole => k_is)
    (case c_is_whole => k_is)
    (case k_is_whole => k_is)
    (case a_is_within => k_is)
    (case l_is_within => k_is)
    (case c_is_within => k_is)
    (case k_is_within => k_is)
    (case a_is_amount => k_is)
    (case l_is_amount => k_is)
    (case c_is_amount => k_is)
    (case k_is_amount => k_is)
    (case a_worths_hold => k_is)
    (case l_worths_hold => k_is)
    (case c_worths_hold => k_is)
    (case k_worths_hold => k_is)
    (case a_are_prices => k_is)
    (case l_are_prices => k_is)
    (case c_are_prices => k_is)
    (case k_are_prices => k_is)
    (case a_is_gaining_loop => k_is)
    (case l_is_gaining_loop => k_is)
    (case c_is_gaining_loop => k_is)
    (case k_is_gaining_loop => k_is)
    (case a_gains => k_is)
    (case l_gains => k_is)
    (case c_gains => k_is)
    (case k_gains => k_is)
    (case a_l_deck => k_is)
    (case l_l_deck => k_is)
    (case c_l_deck => k_is)
    (case k_l_deck => k_is)
    (case a_l_draw => k_is)
    (case l_l_draw => k_is)
    (case c_l_draw => k_is)
    (case k_l_draw => k_is)
    (case a_l_one => k_is)
    (case l_l_one => k_is)
    (case c_l_one => k_is)
    (case k_l_one => k_is)
    (case a_l_board => k_is)
    (case l_l_board => k_is)
    (case c_l_board => k_is)
    (case k_l_board => k_is)
    (case a_l_ring => k_is)
    (case l_l_ring => k_is)
    (case c_l_ring => k_is)
    (case k_l_ring => k_is)
    (case a_l_fair => k_is)
    (case l_l_fair => k_is)
    (case c_l_fair => k_is)
    (case k_l_fair => k_is)
    (case a_l_some => k_is)
    (case l_l_some => k_is)
    (case c_l_some => k_is)
    (case k_l_some => k_is)
    (case a_l_is_loop => k_is)
    (case l_l_is_loop => k_is)
    (case c_l_is_loop => k_is)
    (case k_l_is_loop => k_is)
    (case a_l_product => k_is)
    (case l_l_product => k_is)
    (case c_l_product => k_is)
    (case k_l_product => k_is)
    (case a_l_gains => k_is)
    (case l_l_gains => k_is)
    (case c_l_gains => k_is)
    (case k_l_gains => k_is)
    (case a_l_is_prices => k_is)
    (case l_l_is_prices => k_is)
    (case c_l_is_prices => k_is)
    (case k_l_is_prices => k_is)
    (case a_l_gcd => k_is)
    (case l_l_gcd => k_is)
    (case c_l_gcd => k_is)
    (case k_l_gcd => k_is)
    (case a_l_frac => k_is)
    (case l_l_frac => k_is)
    (case c_l_frac => k_is)
    (case k_l_frac => k_is)
    (case a_l_more => k_is)
    (case l_l_more => k_is)
    (case c_l_more => k_is)
    (case k_l_more => k_is)
    (case a_l_row => k_is)
    (case l_l_row => k_is)
    (case c_l_row => k_is)
    (case k_l_row => k_is)
    (case a_l_walks => k_is)
    (case l_l_walks => k_is)
    (case c_l_walks => k_is)
    (case k_l_walks => k_is)
    (case a_l_prices => k_is)
    (case l_l_prices => k_is)
    (case c_l_prices => k_is)
    (case k_l_prices => k_is)
    (case a_l_odd => k_is)
    (case l_l_odd => k_is)
    (case c_l_odd => k_is)
    (case k_l_odd => k_is)
    (case a_l_due => k_is)
    (case l_l_due => k_is)
    (case c_l_due => k_is)
    (case k_l_due => k_is)
    (case a_l_priced => k_is)
    (case l_l_priced => k_is)
    (case c_l_priced => k_is)
    (case k_l_priced => k_is)
    (case a_l_looped => k_is)
    (case l_l_looped => k_is)
    (case c_l_looped => k_is)
    (case k_l_looped => k_is)
    (case a_l_right => k_is)
    (case l_l_right => k_is)
    (case c_l_right => k_is)
    (case k_l_right => k_is)
    (case a_law => k_is)
    (case l_law => k_is)
    (case c_law => k_is)
    (case k_law => k_is)
    (case z_abs => k_is)
    (case z_all => k_is)
    (case z_bool => k_is)
    (case z_int => k_is)
    (case z_isinstance => k_is)
    (case z_len => k_is)
    (case z_list => k_is)
    (case z_max => k_is)
    (case z_range => k_is)
    (case z_repr => k_is)
    (case z_set => k_is)
    (case z_sorted => k_is)
    (case z_tuple => k_is)

