import PyProof.Rows.All
import Wide.All
import OpenK.AllK
import Wide.FinOn
import HandS.ForMost
import HandS.Wide
import HandS.Codes
import PyProof.ReprRoads
import PyProof.LongRange
import PyProof.SumWalkG
import PyProof.WalksMore
import HandS.Conv
import HandS.IsInst
import HandS.Style
import HandS.TupAny
import PySem.Challenge.RW_smallchange_k03_sums_of_ranges
set_option Elab.async false
set_option linter.all false
set_option maxRecDepth 100000
set_option maxHeartbeats 4000000
namespace Sm
open PySem PySem.Spec PyProof.Rows L2
/-! ### promises of defs where no repr is under way: as FnOk, with A's guards empty -/
structure FnG (P : Program) (w : World) (K : PySem.W.Frag) (mg : Str → Option Value) (base : Heap) (k : Nat) (f : Addr) (fd : FuncData) (ps : List Str) (sp : Sp) : Prop where
  len : ∀ vs H Q E, sp vs H Q E → vs.length = ps.length
  run : ∀ (A : Around) (outer : List Env) (s : Shared) (H : Hp) (args : Args) (us : List Value) (vs : List V) (Q : VK) (E : XK), A.guards = some [] → Room k A →
    Env0 P w K mg base A outer s H → BindsTo s fd args (ps.zip us) → Vals vs us → sp vs H Q E → codeAny (model P w) A (.call (.ref f) args) (CR CX0 outer P w H s Q E) s
section
variable {P : Program} {w : World} {K : PySem.W.Frag} {mg : Str → Option Value} {base : Heap} {k : Nat} {f : Addr} {fd : FuncData} {ps : List Str} {sp : Sp}
theorem FnG.of (F : FnOk P w K mg base CX0 k f fd ps sp) : FnG P w K mg base k f fd ps sp :=
  ⟨F.len, fun A outer s H args us vs Q E _ hr e b v h => F.run A outer s H args us vs Q E hr e b v h⟩
theorem FnG.body {x : Str} {st : Stmt} {N : List Str} (F : Fun K x x st f fd) (S : FnScope N ps (defScope st)) (len : ∀ vs H Q E, sp vs H Q E → vs.length = ps.length)
    (hb : ∀ (cdv : Value) (A : Around) (outer : List Env) (s : Shared) (H : Hp) (vs : List V) (Q : VK) (E : XK), A.guards = some [] → Room k (A.deeper (envOfC x (defScope st) s.heap.objs.size f cdv)) → sp vs H Q E →
      ∃ t, PSs (cxOf CX0 P w K mg base N x (defScope st) f cdv A outer s H E).nox (defBody st) t ∧ t { nx := fun _ H' => Q .non H', rt := Q } (start N vs) H) : FnG P w K mg base (k + 1) f fd ps sp := by
  obtain ⟨oc, od, kV, doc, pm, an, cdv, ct, osl, efd, look, code⟩ := F.ex
  subst efd
  constructor
  · exact len
  intro A outer s H args us vs Q E guard room e0 bind rel want
  have inn : K.In s.heap := e0.mod.kin.keeps fun b o e => (e0.bs b o e).1
  have nolim : s.heap.NoLimit := e0.mod.nolimit.keeps fun b o e => (e0.bs b o e).1
  refine codeAny_call_function room.depth (inn _ _ look) rfl S.co S.gen rfl (PySem.W.codeRec_of inn code) (bind _ _ _ _ ?_)
  refine wpAny_newFunctionEnv_cells S.kind ?_ ?_
  · rintro ⟨n, v⟩ there
    have := S.par n (List.of_mem_zip there).1
    cases this with
    | inl q => exact .inl q
    | inr q => exact .inr ⟨q, PySem.W.cellsFrom_some _ _ _ (.inl q)⟩
  · intro env eenv s1 laid
    subst eenv
    refine ⟨nolim.keeps laid.toInCall.keep, codeAny_func ?_⟩
    obtain ⟨t, der, goal⟩ := hb cdv A outer s H vs Q E guard (room.deeper _) want
    have I := inv_start (CX := CX0) (E := E) S room.hd e0 (len _ _ _ _ want) rel laid
    refine wpAny_mono (der.nox.run [] s1 (start N vs) H _ I goal) (fun out s' got => ?_) fun e s' got => got
    match out, got with
    | .ret u, ⟨v, σ', H', J, rv, q⟩ => exact ⟨v, H', J.os, J.bare, J.base, J.hok, rv, q⟩
    | .next, ⟨σ', H', J, q⟩ => exact ⟨V.non, H', J.os, J.bare, J.base, J.hok, rfl, q⟩
    | .brk, ⟨_, _, _, q⟩ => exact q.elim
    | .cont, ⟨_, _, _, q⟩ => exact q.elim
end
section
variable {X : Cx} {k : Nat} {f : Addr} {fd : FuncData} {ps : List Str} {sp : Sp} {x : Str} {p pos : Pos} {e : Expr} {es : List Expr} {t : TA}
theorem pe_callG (F : FnG X.prog X.w X.K X.mg X.base k f fd ps sp) (gu : X.A.guards = some []) (hr : Room k X.A) (hg : Gl X x) (hm : X.mg x = some (.ref f)) (hk : PySem.W.keepIn X.K (.ref f) = true) (hb : Binds X.K fd ps [])
    (ha : PA X (e :: es) t) (hdb : (x == ("__debug__" : Str)) = false := by decide) (he : starEach (e :: es) X.env = (false, eval e X.env) :: starEach es X.env := by rfl) (hpl : (backTo pos (starEach es X.env)).any (·.1) = false := by rfl) :
    PE X (.Call (.Name x p) (e :: es) [] pos) (tCall sp [] E0 t) := by
  constructor
  intro pins s σ H Q I want
  refine wpAny_Call_Name_kw (ld_glob I hg hm ?_ hdb)
  refine PySem.W.callWith_K (h₀ := X.base) I.ok.mod.kin hk (thn (ha.run pos pins s σ H _ I want) ?_) he hpl
  rintro us s1 ⟨vs, H1, I1, rel, q⟩
  refine ⟨I1.kIn, ?_⟩
  have q : sp vs H1 Q E0 := by
    have q : sp (vs ++ []) H1 Q E0 := q
    rw [List.append_nil] at q
    exact q
  have b := hb s1 us I1.kIn (by rw [List.append_nil, ← rel.length]; exact F.len _ _ _ _ q)
  rw [List.append_nil] at b
  refine wpAny_call (codeAny_mono (F.run X.A X.stack s1 H1 ⟨us, []⟩ us vs Q E0 gu hr I1.env0 b rel q) ?_)
  rintro (e | out) s' got
  · exact got.elim
  · match out, got with
    | .ret u, got => exact I1.after got
    | .next, got => exact got.elim
    | .brk, got => exact got.elim
    | .cont, got => exact got.elim
/-- repr of data at any depth -/
theorem call_repr_data (gu : X.A.guards = some []) (room : ∃ k, Room k X.A) : CallR X (.builtin "repr") (fun xs H Q => ∃ a d, xs = [.ref a] ∧ Dp X.K H (.ref a) d ∧ PyData.showable d = true ∧ PyData.hasDict d = false ∧ d.depth ≤ 60 ∧ d.shown.length ≤ sizeLine ∧ Q (.str d.shown) H) := by
  intro pins s σ H xs us Q I rel want
  obtain ⟨a, d, rfl, data, sh, nd, dep, len, q⟩ := want
  obtain ⟨u, rfl, ru⟩ := vals1 rel
  obtain ⟨as, reads⟩ := Dp.reads I d _ u data ru
  cases ru
  obtain ⟨k, room⟩ := room
  have un := room.un
  exact repr_of_reads' reads sh (PyData.noDict_hsm nd) gu (by omega) (fun _ _ e => e) (fun h' v tk keep => ⟨.str d.shown, H, I.kept keep, ⟨_, rfl⟩, q⟩) len
end
/-! ### the law's own call, at the caller's place -/
theorem law_at {P : Program} {w : World} {K : PySem.W.Frag} {mg mb : Str → Option Value} {k : Nat} {fa a : Addr} {fd : FuncData} {x : Str} {sp : Sp} {s₁ : Shared} {vs : List Value} {ns : List Int}
    (KX : K.In s₁.heap) (hns : s₁.heap.Ns mainGlobals mg) (hb : s₁.heap.Ns builtinsNs mb) (hbb : ∀ x : Str, x ≠ "__name__" → mb x = bootBuiltins x) (hlim : s₁.heap.NoLimit) (hg : s₁.gens = #[])
    (ha : s₁.heap.get? a = some { cls := .type "list", data := .seq vs.toArray }) (hi : IntsAre vs ns) (hl : ns.length ≤ sizeLine) (hr : Room k callerA)
    (F : ∀ base : Heap, K.In base → base.Ns mainGlobals mg → FnG P w K mg base k fa fd [x] sp) (hbind : ∀ (s : Shared) (u : Value), BindsTo s fd ⟨[u], []⟩ [(x, u)])
    (hsp : ∀ H : Hp, SqL K H a (ns.map V.int) → sp [.ref a] H (fun v _ => v = .bl true) E0) :
    codeAny (model P w) callerA (.call (.ref fa) ⟨[.ref a], []⟩) (fun r s' => r = .ok (.ret (.bool true)) ∧ OldK s₁.heap s'.heap ∧ s'.os = s₁.os ∧ AllBare s'.gens) s₁ := by
  have ivs := vals_ints hi
  -- what is tracked: the script, if the module does not hold it itself
  obtain ⟨H, seq, ok, only, free⟩ : ∃ H : Hp, SqL K H a (ns.map V.int) ∧ HOk P w H s₁.heap ∧ (∀ b u, H b = some u → b = a ∧ u = .frz { cls := .type "list", data := .seq vs.toArray } (.lst (ns.map V.int))) ∧ ∀ b u, H b = some u → K.lookup b = none := by
    cases look : K.lookup a with
    | some o =>
      have same := KX a o look
      rw [ha] at same
      injection same with same
      subst same
      have empty : ∀ {u : HO}, (none : Option HO) = some u → False := fun z => nomatch z
      refine ⟨fun _ => none, .inr ⟨_, vs.toArray, _, look, rfl, rfl, rfl, ?_, ?_⟩, fun b u z => (empty z).elim, fun b u z => (empty z).elim, fun b u z => (empty z).elim⟩
      · rw [List.size_toArray, hi.length]
        exact hl
      · simpa using ivs
    | none =>
      have at_a : ∀ b u, (fun b => if b = a then some (HO.frz { cls := .type "list", data := .seq vs.toArray } (.lst (ns.map V.int))) else none : Hp) b = some u → b = a ∧ u = .frz { cls := .type "list", data := .seq vs.toArray } (.lst (ns.map V.int)) := by
        intro b u z
        by_cases e : b = a
        · have z := (if_pos e).symm.trans z
          exact ⟨e, (Option.some.inj z).symm⟩
        · exact nomatch (if_neg e).symm.trans z
      refine ⟨_, .inl (.inr ⟨_, if_pos rfl⟩), fun b u z => ?_, at_a, fun b u z => ?_⟩
      · obtain ⟨rfl, rfl⟩ := at_a b u z
        exact ⟨ha, by rw [List.length_map]; exact hl, vs, _, ivs, ha⟩
      · rw [(at_a b u z).1]
        exact look
  have stays : ∀ {b : Addr} {o : Obj}, s₁.heap.get? b = some o → (∀ u, H b ≠ some u) → (hidT s₁.heap H).get? b = some o := fun {b o} e no => hidT_get e (by
    cases z : H b with
    | none => rfl
    | some u => exact (no u z).elim)
  have spaces : ∀ {b : Addr} {m : Str → Option Value}, s₁.heap.Ns b m → (hidT s₁.heap H).Ns b m := by
    rintro b m ⟨o, es, ep, there, data, rest⟩
    refine ⟨o, es, ep, stays there fun u z => ?_, data, rest⟩
    rw [(only b u z).1, ha] at there
    injection there with there
    subst there
    exact nomatch data
  have inn : K.In (hidT s₁.heap H) := fun b o e => stays (KX b o e) fun u z => by
    rw [free b u z] at e
    exact nomatch e
  have mod : Mod K mg (hidT s₁.heap H) := by
    obtain ⟨mc, c1, c2⟩ := hlim
    exact ⟨inn, spaces hns, ⟨mb, spaces hb, hbb⟩, mc, spaces c1, c2⟩
  have e0 : Env0 P w K mg (hidT s₁.heap H) callerA [] s₁ H := by
    refine ⟨rfl, mod, fun b o e => of_hidT e, Nat.le_of_eq (hidT_size _ _), trivial, ?_, ok, .of_eq hg⟩
    intro b q
    exact absurd q (List.not_mem_nil (a := b))
  refine codeAny_mono ((F _ inn (spaces hns)).run callerA [] s₁ H ⟨[.ref a], []⟩ [.ref a] [.ref a] _ _ rfl hr e0 (hbind s₁ (.ref a)) (.cons rfl .nil) (hsp H seq)) ?_
  rintro (e | out) s' got
  · exact got.elim
  · match out, got with
    | .next, got => exact got.elim
    | .brk, got => exact got.elim
    | .cont, got => exact got.elim
    | .ret u, ⟨v, H', os, bare, un, ok', rel, q⟩ =>
      have q : v = V.bl true := q
      subst q
      have rel : u = Value.bool true := rel
      subst rel
      refine ⟨rfl, .of_keep fun b o e => ?_, os, bare⟩
      cases z : H b with
      | none => exact un.keep b o e z (List.not_mem_nil (a := b)) (List.not_mem_nil (a := b))
      | some u =>
        obtain ⟨rfl, rfl⟩ := only b u z
        have now := (ok' _ _ (un.frzs _ _ _ z)).1
        rw [ha] at e
        injection e with e
        rw [← e]
        exact now
theorem walk_at_law {l : PySem.W.OpenLaw} {k : Nat} {q : Program} {loose : List Str} {XP : (Str → Option Value) → Heap → Prop} {YP : World → Heap → Prop} {d : DefRec} {K : Params → PySem.W.Frag} {sp : PySem.W.Frag → Sp} {x : Str}
    (hn : l.most = some 63) (hdf : d.params.defaults = []) (hr : Room k callerA) (hY : ∀ (w : World) (h : Heap), YP w h → (K w.params).In h)
    (F : ∀ (w : World) (mg : Str → Option Value) (fa : Addr) (h : Heap), (K w.params).In h → h.Ns mainGlobals mg → mg d.name = some (.ref fa) →
      ∃ fd : FuncData, (∀ (s : Shared) (u : Value), BindsTo s fd ⟨[u], []⟩ [(x, u)]) ∧ ∀ base : Heap, (K w.params).In base → base.Ns mainGlobals mg → FnG l.prog w (K w.params) mg base k fa fd [x] (sp (K w.params)))
    (hsp : ∀ (K : PySem.W.Frag) (H : Hp) (a : Addr) (ns : List Int), ns.length ≤ 63 → SqL K H a (ns.map V.int) → sp K [.ref a] H (fun v _ => v = .bl true) E0) :
    PySem.W.WalkO q loose XP YP l.row.toRowW d [] (fun f vs => PySem.call f vs) := by
  refine Att.attach_call hn hdf ?_
  intro w s₀ s₁ mg mb fa o pm cd doc a vs ns G Y ho hd hcd hmg hobj hints hlen hg
  obtain ⟨fd, bind, each⟩ := F w mg fa _ (hY w _ Y) G.T.g hmg
  exact law_at (hY w _ Y) G.T.g G.T.b G.T.builtins G.T.nolimit hg hobj hints (Nat.le_trans hlen (by decide)) hr each bind fun H sq => hsp (K w.params) H a ns hlen sq
end Sm

set_option Elab.async false
set_option linter.all false
set_option maxRecDepth 100000
set_option maxHeartbeats 4000000
namespace Sm
open PySem PySem.Spec PyProof.Rows L2
section
variable {P : Program} {w : World} {K : PySem.W.Frag} {mg : Str → Option Value} {base : Heap}
def Df (K : PySem.W.Frag) (mg : Str → Option Value) (x : Str) (st : Stmt) (ps : List Str) : Prop :=
  ∃ (f : Addr) (fd : FuncData), Fun K x x st f fd ∧ mg x = some (.ref f) ∧ Binds K fd ps []
def Cal (P : Program) (w : World) (K : PySem.W.Frag) (mg : Str → Option Value) (base : Heap) (x : Str) (ps : List Str) (k : Nat) (sp : Sp) : Prop :=
  ∃ (f : Addr) (fd : FuncData), FnOk P w K mg base CX0 k f fd ps sp ∧ mg x = some (.ref f) ∧ PySem.W.keepIn K (.ref f) = true ∧ Binds K fd ps []
theorem Df.cal {x : Str} {st : Stmt} {N ps : List Str} {k : Nat} {sp : Sp} (D : Df K mg x st ps) (S : FnScope N ps (defScope st)) (len : ∀ vs H Q E, sp vs H Q E → vs.length = ps.length)
    (hbody : ∀ (f : Addr) (cdv : Value) (A : Around) (outer : List Env) (s : Shared) (H : Hp) (vs : List V) (Q : VK) (E : XK), Room k (A.deeper (envOfC x (defScope st) s.heap.objs.size f cdv)) → sp vs H Q E →
      ∃ t, PSs (cxOf CX0 P w K mg base N x (defScope st) f cdv A outer s H E).nox (defBody st) t ∧ t { nx := fun _ H' => Q .non H', rt := Q } (start N vs) H) : Cal P w K mg base x ps (k + 1) sp := by
  obtain ⟨f, fd, F, m, b⟩ := D
  exact ⟨f, fd, F.ok S len (fun cdv A outer s H vs Q E hr h => hbody f cdv A outer s H vs Q E hr h), m, F.kp, b⟩
theorem same_upd {H : Hp} {p : Addr} {o : HO} (h : H p = none) : Same H (upd H p o) := fun b x e => by
  rw [upd_ne (ne_of_none e h)]
  exact e
theorem iteP {p A B : Prop} [Decidable p] (h : p) (a : A) : if decide p = true then A else B := by
  rw [decide_eq_true h]
  exact iteT a
theorem iteN {p A B : Prop} [Decidable p] (h : ¬ p) (b : B) : if decide p = true then A else B := by
  rw [decide_eq_false h]
  exact iteF b
theorem iteNP {p A B : Prop} [Decidable p] (h : p) (b : B) : if (!decide p) = true then A else B := by
  rw [decide_eq_true h]
  exact iteF b
theorem iteNN {p A B : Prop} [Decidable p] (h : ¬ p) (a : A) : if (!decide p) = true then A else B := by
  rw [decide_eq_false h]
  exact iteT a
theorem ite3 {p A B : Prop} [Decidable p] (h1 : p → A) (h2 : ¬ p → B) : if decide p = true then A else B := by
  by_cases h : p
  · exact iteP h (h1 h)
  · exact iteN h (h2 h)
theorem fmod_pos {a b : Int} (h : 0 < b) : a.fmod b = a % b := Int.fmod_eq_emod_of_nonneg a (by omega)
end
/-! ### the deck -/
structure Deck (H : Hp) (p l : Addr) (n : Int) : Prop where
  hp : H p = some (.lst [.ref l, .int n])
  hl : ∃ cells : List Int, H l = some (.lst (cells.map V.int)) ∧ (∀ c ∈ cells, 0 ≤ c) ∧ cells.length ≤ 63
theorem deck_ne {l : Addr} {n : Int} {cells : List Int} : HO.lst [.ref l, .int n] ≠ HO.lst (cells.map V.int) := by
  intro q
  injection q with q
  cases cells with
  | nil => cases q
  | cons c r => cases (List.cons.inj q).1
/-- all but the deck is as it was -/
def Fr (p l : Addr) (H H' : Hp) : Prop := ∀ b o, b ≠ p → b ≠ l → H b = some o → H' b = some o
theorem Fr.trans {p l : Addr} {H H1 H2 : Hp} (a : Fr p l H H1) (b : Fr p l H1 H2) : Fr p l H H2 := fun c o h1 h2 h => b c o h1 h2 (a c o h1 h2 h)
theorem Same.fr {p l : Addr} {H H' : Hp} (s : Same H H') : Fr p l H H' := fun b o _ _ h => s b o h
theorem Deck.same {H H' : Hp} {p l : Addr} {n : Int} (D : Deck H p l n) (s : Same H H') : Deck H' p l n := by
  obtain ⟨cells, hl, hc⟩ := D.hl
  exact ⟨s _ _ D.hp, cells, s _ _ hl, hc⟩
theorem Fr.tup {H H' : Hp} {p l b : Addr} {n : Int} {xs : List V} (f : Fr p l H H') (D : Deck H p l n) (h : H b = some (.tup xs)) : H' b = some (.tup xs) := by
  obtain ⟨cells, hl, hc⟩ := D.hl
  exact f b _ (ne_of h D.hp (by intro q; cases q)) (ne_of h hl (by intro q; cases q)) h
def sp_l_deck (K : PySem.W.Frag) : Sp := fun vs H Q _ => ∃ (a : Addr) (ns : List Int), vs = [.ref a] ∧ SqL K H a (ns.map V.int) ∧ ns.length ≤ 63 ∧ ∀ H' p l, Same H H' → Deck H' p l 0 → Q (.ref p) H'
def sp_l_draw (K : PySem.W.Frag) : Sp := fun vs H Q _ => ∃ (p l : Addr) (n m : Int), vs = [.ref p, .int m] ∧ Deck H p l n ∧ 0 ≤ n ∧ n ≤ 1000000 ∧ 0 < m ∧ m ≤ 1000000000000000000000000000000000000000000000000000000000000 ∧
  ∀ r H', 0 ≤ r → r < m → Fr p l H H' → Deck H' p l (n + 1) → Q (.int r) H'
def sp_l_one (K : PySem.W.Frag) : Sp := fun vs H Q _ => ∃ (p l b : Addr) (n : Int) (xs : List V), vs = [.ref p, .ref b] ∧ Deck H p l n ∧ 0 ≤ n ∧ n ≤ 1000000 ∧ H b = some (.lst xs) ∧ b ≠ p ∧ b ≠ l ∧ 0 < xs.length ∧ xs.length ≤ 1000 ∧
  ∀ x H', x ∈ xs → Fr p l H H' → Deck H' p l (n + 1) → Q x H'
theorem cut63 {ns : List Int} (h : ns.length ≤ 63) : cutV (ns.map V.int) none (some 63) = ns.map V.int := by
  unfold cutV
  rw [HT.sIx_none, show HT.sIx (ns.map V.int).length (ns.map V.int).length (some 63) = min 63 (ns.map V.int).length from HT.sIx_nat _ _ 63]
  rw [List.length_map, Nat.min_eq_right h, List.drop_zero]
  exact List.take_of_length_le (by rw [List.length_map]; omega)
def absI (n : Int) : Int := if n < 0 then -n else n
theorem absI_pos (n : Int) : 0 ≤ absI n := by
  unfold absI
  split <;> omega
theorem div_draw {c m : Int} (h0 : 0 < m) (h : m ≤ 1000000000000000000000000000000000000000000000000000000000000) : CDivW c m :=
  wide_div (b := 300) h0 (by omega) (by decide) (by decide)
theorem cut_all {xs : List V} {n : Nat} : cutV xs none (some (n : Int)) = xs.take n := by
  unfold cutV
  rw [HT.sIx_none, HT.sIx_nat, List.drop_zero, Nat.sub_zero]
  rcases Nat.le_total n xs.length with h | h
  · rw [Nat.min_eq_left h]
  · rw [Nat.min_eq_right h, List.take_length, List.take_of_length_le h]
theorem ne_new {H : Hp} {p b : Addr} {o : HO} (h : H p = some o) (n : H b = none) : b ≠ p := (ne_of_none h n).symm
/-- what the deck's second list is not -/
theorem Deck.lne {H : Hp} {p l b : Addr} {n : Int} (D : Deck H p l n) (h : H b = none) : b ≠ p ∧ b ≠ l := by
  obtain ⟨cells, hl, hc⟩ := D.hl
  exact ⟨ne_new D.hp h, ne_new hl h⟩
section
variable {X : Cx}
/-- repr of an int or None -/
theorem call_repr_some : CallR X (.builtin "repr") (fun xs H Q => (∃ i, xs = [.int i] ∧ i.natAbs.log2 < 1920 ∧ Q (.str (toString i)) H) ∨ (xs = [.non] ∧ Q (.str "None") H)) := by
  intro pins s σ H xs us Q I r h
  rcases h with ⟨i, rfl, hz, q⟩ | ⟨rfl, q⟩
  · obtain ⟨u, rfl, t, rfl⟩ := vals1 r
    exact PySem.P.repr_of_int hz ⟨.str _, H, I.tok _, ⟨_, rfl⟩, q⟩
  · obtain ⟨u, rfl, rfl⟩ := vals1 r
    exact PySem.P.repr_of_none ⟨.str _, H, I.tok _, ⟨_, rfl⟩, q⟩
def dataI (ns : List Int) : PyData := .list (ns.map PyData.int)
theorem dp_ints {K : PySem.W.Frag} {H : Hp} : ∀ ns : List Int, DpAll K H (ns.map V.int) (ns.map PyData.int)
  | [] => .nil
  | n :: ns => .cons (.int n) (dp_ints ns)
theorem showable_ints : ∀ {ns : List Int}, (∀ n ∈ ns, n.natAbs.log2 < 1920) → PyData.showableAll (ns.map PyData.int) = true
  | [], _ => rfl
  | n :: ns, h => by
    have a := h n (List.mem_cons_self ..)
    have b := showable_ints (ns := ns) fun m hm => h m (List.mem_cons_of_mem _ hm)
    simp only [List.map_cons, PyData.showableAll, PyData.showable, decide_eq_true a, b, Bool.and_self]
theorem hasDict_ints : ∀ ns : List Int, PyData.hasDictAll (ns.map PyData.int) = false
  | [] => rfl
  | n :: ns => by
    simp only [List.map_cons, PyData.hasDictAll, PyData.hasDict, hasDict_ints ns, Bool.or_self]
theorem depth_ints : ∀ ns : List Int, PyData.depthAll (ns.map PyData.int) ≤ 1
  | [] => by simp [PyData.depthAll]
  | n :: ns => by
    have := depth_ints ns
    simp only [List.map_cons, PyData.depthAll, PyData.depth]
    omega
theorem shown_ints : ∀ {ns : List Int}, (∀ n ∈ ns, n.natAbs.log2 < 1920) → ((PyData.shownAll (ns.map PyData.int)).map (·.length)).sum ≤ 1921 * ns.length ∧ (PyData.shownAll (ns.map PyData.int)).length = ns.length
  | [], _ => by simp [PyData.shownAll]
  | n :: ns, h => by
    have a := PyProof.Rows.int_text_len_1921 (h n (List.mem_cons_self ..))
    obtain ⟨b, c⟩ := shown_ints (ns := ns) fun m hm => h m (List.mem_cons_of_mem _ hm)
    simp only [List.map_cons, PyData.shownAll, PyData.shown, List.sum_cons, List.length_cons]
    omega
/-- repr of a list of ints -/
theorem call_repr_ints (gu : X.A.guards = some []) (room : ∃ k, Room k X.A) : CallR X (.builtin "repr") (fun xs H Q => ∃ a ns, xs = [.ref a] ∧ SqL X.K H a (ns.map V.int) ∧ ns.length ≤ 5000 ∧ (∀ n ∈ ns, n.natAbs.log2 < 1920) ∧ Q (.str (dataI ns).shown) H) := by
  intro pins s σ H xs us Q I r h
  obtain ⟨a, ns, rfl, hS, len, small, q⟩ := h
  refine call_repr_data gu room pins s σ H _ us Q I r ⟨a, dataI ns, rfl, .lst hS (dp_ints ns), ?_, ?_, ?_, ?_, q⟩
  · unfold dataI
    simp only [PyData.showable, showable_ints small]
  · unfold dataI
    simp only [PyData.hasDict, hasDict_ints]
  · have := depth_ints ns
    unfold dataI
    simp only [PyData.depth]
    omega
  · obtain ⟨s1, s2⟩ := shown_ints small
    have := listText_len_le (PyData.shownAll (ns.map PyData.int))
    unfold dataI
    simp only [PyData.shown]
    rw [sizeLine_eq]
    omega
end
end Sm

set_option maxHeartbeats 4000000
namespace Sm
/-! rules: a table that repeats -/
def vl (T : List Int) (p : Nat) (r : Int) (x : Nat) : Int :=
  if x < T.length then T.getD x 0 else T.getD (x - ((x - T.length) / p + 1) * p) 0 + (((x - T.length) / p + 1 : Nat) : Int) * r
structure RuleOk (T : List Int) (p : Nat) (r : Int) : Prop where
  p0 : 0 < p
  p1 : p ≤ T.length
  r0 : 0 ≤ r
  nn : ∀ i, i < T.length → 0 ≤ T.getD i 0
  mono : ∀ i, i + 1 < T.length → T.getD i 0 ≤ T.getD (i + 1) 0
  wrap : T.getD (T.length - 1) 0 ≤ T.getD (T.length - p) 0 + r
theorem place {n p x : Nat} (hp : 0 < p) (hpn : p ≤ n) (h : n ≤ x) : ((x - n) / p + 1) * p ≤ x ∧ n - p ≤ x - ((x - n) / p + 1) * p ∧ x - ((x - n) / p + 1) * p < n := by
  have a := Nat.div_add_mod (x - n) p
  have b := Nat.mod_lt (x - n) hp
  have c : ((x - n) / p + 1) * p = p * ((x - n) / p) + p := by rw [Nat.add_mul, Nat.one_mul, Nat.mul_comm]
  omega
theorem vl_lt {T : List Int} {p : Nat} {r : Int} {x : Nat} (h : x < T.length) : vl T p r x = T.getD x 0 := if_pos h
theorem vl_step {T : List Int} {p : Nat} {r : Int} {x : Nat} (hp : 0 < p) (hpn : p ≤ T.length) (h : T.length ≤ x) : vl T p r x = vl T p r (x - p) + r := by
  by_cases q : x - p < T.length
  · have e : (x - T.length) / p = 0 := Nat.div_eq_of_lt (by omega)
    rw [vl_lt q]
    unfold vl
    rw [if_neg (by omega), e]
    simp
  · have e : (x - T.length) / p = (x - p - T.length) / p + 1 := by
      rw [Nat.div_eq_sub_div hp (by omega), show x - T.length - p = x - p - T.length by omega]
    unfold vl
    rw [if_neg (by omega), if_neg q, e]
    have i : x - ((x - p - T.length) / p + 1 + 1) * p = x - p - ((x - p - T.length) / p + 1) * p := by
      rw [Nat.add_mul ((x - p - T.length) / p + 1) 1 p, Nat.one_mul]
      omega
    rw [i]
    have k : (((x - p - T.length) / p + 1 + 1 : Nat) : Int) * r = (((x - p - T.length) / p + 1 : Nat) : Int) * r + r := by
      rw [Int.natCast_add ((x - p - T.length) / p + 1) 1, Int.add_mul]
      simp
    rw [k, Int.add_assoc]
theorem vl_add {T : List Int} {p : Nat} {r : Int} {x : Nat} (hp : 0 < p) (hpn : p ≤ T.length) (h : T.length - p ≤ x) : vl T p r (x + p) = vl T p r x + r := by
  rw [vl_step hp hpn (by omega), Nat.add_sub_cancel]
theorem vl_addk {T : List Int} {p : Nat} {r : Int} {x : Nat} (hp : 0 < p) (hpn : p ≤ T.length) (h : T.length - p ≤ x) : ∀ k : Nat, vl T p r (x + k * p) = vl T p r x + (k : Int) * r
  | 0 => by simp
  | k + 1 => by
    have ih := vl_addk (r := r) hp hpn h k
    rw [show x + (k + 1) * p = x + k * p + p by rw [Nat.add_mul, Nat.one_mul, Nat.add_assoc], vl_add hp hpn (by omega), ih]
    rw [Int.natCast_add, Int.add_mul]
    simp
    omega
section
variable {T : List Int} {p : Nat} {r : Int}
theorem RuleOk.up (o : RuleOk T p r) : ∀ x, vl T p r x ≤ vl T p r (x + 1) := by
  intro x
  induction x using Nat.strongRecOn with
  | _ x ih =>
    have p0 := o.p0
    have p1 := o.p1
    by_cases a : x + 1 < T.length
    · rw [vl_lt a, vl_lt (by omega)]
      exact o.mono x a
    · by_cases b : x < T.length
      · rw [vl_lt b, vl_step p0 p1 (by omega), vl_lt (by omega)]
        have w := o.wrap
        rw [show x = T.length - 1 by omega]
        rw [show T.length - 1 + 1 - p = T.length - p by omega]
        exact w
      · rw [vl_step p0 p1 (by omega), vl_step (x := x + 1) p0 p1 (by omega)]
        have := ih (x - p) (by omega)
        rw [show x - p + 1 = x + 1 - p by omega] at this
        omega
theorem RuleOk.le (o : RuleOk T p r) {x y : Nat} (h : x ≤ y) : vl T p r x ≤ vl T p r y := by
  obtain ⟨k, rfl⟩ := Nat.le.dest h
  induction k with
  | zero => exact Int.le_refl _
  | succ k ih => exact Int.le_trans (ih (by omega)) (o.up _)
theorem RuleOk.pos (o : RuleOk T p r) (x : Nat) : 0 ≤ vl T p r x := by
  have a := o.le (Nat.zero_le x)
  have p0 := o.p0
  have p1 := o.p1
  rw [vl_lt (x := 0) (by omega)] at a
  have := o.nn 0 (by omega)
  omega
theorem RuleOk.row (o : RuleOk T p r) {i j : Nat} (h : i ≤ j) (hj : j < T.length) : T.getD i 0 ≤ T.getD j 0 := by
  have a := o.le h
  rw [vl_lt hj, vl_lt (by omega)] at a
  exact a
/-- the values of the last period repeat by s, increased by c -/
def Rep (T : List Int) (p : Nat) (r : Int) (s : Nat) (c : Int) : Prop := ∀ i, T.length - p ≤ i → i < T.length → vl T p r (i + s) = T.getD i 0 + c
theorem rep_all {s : Nat} {c : Int} (o : RuleOk T p r) (h : Rep T p r s c) : ∀ y, T.length - p ≤ y → vl T p r (y + s) = vl T p r y + c := by
  intro y
  induction y using Nat.strongRecOn with
  | _ y ih =>
    intro hy
    have p0 := o.p0
    have p1 := o.p1
    by_cases a : y < T.length
    · rw [vl_lt a]
      exact h y hy a
    · have e := ih (y - p) (by omega) (by omega)
      rw [vl_step (x := y) p0 p1 (by omega), vl_step (x := y + s) p0 p1 (by omega), show y + s - p = y - p + s by omega, e]
      omega
theorem rep_self (o : RuleOk T p r) : Rep T p r p r := fun i h1 h2 => by
  rw [vl_add o.p0 o.p1 h1, vl_lt h2]
theorem getD_take {n i : Nat} (h : i < n) : (T.take n).getD i 0 = T.getD i 0 := by
  rw [List.getD_eq_getElem?_getD, List.getD_eq_getElem?_getD, List.getElem?_take_of_lt h]
/-- the table cut: still a rule, with the same values -/
theorem cut_ok {a s : Nat} {c : Int} (o : RuleOk T p r) (hs : 0 < s) (ha : a + s ≤ T.length) (c0 : 0 ≤ c) (h : ∀ y, a ≤ y → vl T p r (y + s) = vl T p r y + c) : RuleOk (T.take (a + s)) s c := by
  have len : (T.take (a + s)).length = a + s := by rw [List.length_take]; omega
  refine ⟨hs, by omega, c0, fun i hi => ?_, fun i hi => ?_, ?_⟩
  · rw [getD_take (by omega)]
    exact o.nn i (by omega)
  · rw [getD_take (by omega), getD_take (by omega)]
    exact o.mono i (by omega)
  · rw [len, getD_take (by omega), getD_take (by omega), show a + s - s = a by omega]
    have e := h a (Nat.le_refl _)
    have u := o.up (a + s - 1)
    rw [show a + s - 1 + 1 = a + s by omega, e, vl_lt (by omega), vl_lt (by omega)] at u
    exact u
theorem cut_vl {a s : Nat} {c : Int} (hs : 0 < s) (ha : a + s ≤ T.length) (h : ∀ y, a ≤ y → vl T p r (y + s) = vl T p r y + c) : ∀ x, vl (T.take (a + s)) s c x = vl T p r x := by
  have len : (T.take (a + s)).length = a + s := by rw [List.length_take]; omega
  intro x
  induction x using Nat.strongRecOn with
  | _ x ih =>
    by_cases q : x < a + s
    · rw [vl_lt (by omega), vl_lt (by omega), getD_take q]
    · rw [vl_step hs (by omega) (by omega), ih (x - s) (by omega), ← h (x - s) (by omega), show x - s + s = x by omega]
/-- the least amount, or none -/
def IsLf (T : List Int) (p : Nat) (r : Int) (y : Int) : Option Nat → Prop
  | none => r = 0 ∧ T.getD (T.length - 1) 0 < y
  | some x => y ≤ vl T p r x ∧ ∀ z, z < x → vl T p r z < y
theorem lf_near {y : Int} {i : Nat} (hi : i < T.length) (h1 : y ≤ T.getD i 0) (h2 : ∀ j, j < i → T.getD j 0 < y) : IsLf T p r y (some i) :=
  ⟨by rw [vl_lt hi]; exact h1, fun z hz => by rw [vl_lt (by omega)]; exact h2 z hz⟩
theorem lf_far {y : Int} {i k : Nat} (o : RuleOk T p r) (k0 : 0 < k) (hk : T.getD (T.length - 1) 0 + ((k : Int) - 1) * r < y) (h0 : T.length - p ≤ i) (hi : i < T.length) (h1 : y - (k : Int) * r ≤ T.getD i 0)
    (h2 : ∀ j, T.length - p ≤ j → j < i → T.getD j 0 < y - (k : Int) * r) : IsLf T p r y (some (i + k * p)) := by
  have p0 := o.p0
  have p1 := o.p1
  refine ⟨?_, fun z hz => ?_⟩
  · rw [vl_addk p0 p1 h0, vl_lt hi]
    omega
  · have kp : p ≤ k * p := Nat.le_mul_of_pos_left p k0
    refine Int.lt_of_le_of_lt (o.le (show z ≤ i + k * p - 1 by omega)) ?_
    by_cases q : i = T.length - p
    · obtain ⟨k, rfl⟩ : ∃ j, k = j + 1 := ⟨k - 1, by omega⟩
      have e : i + (k + 1) * p - 1 = T.length - 1 + k * p := by
        rw [Nat.add_mul, Nat.one_mul] at kp ⊢
        omega
      rw [e, vl_addk p0 p1 (by omega), vl_lt (by omega)]
      have c : ((k + 1 : Nat) : Int) - 1 = (k : Int) := by omega
      rw [c] at hk
      exact hk
    · rw [show i + k * p - 1 = i - 1 + k * p by omega, vl_addk p0 p1 (by omega), vl_lt (by omega)]
      have := h2 (i - 1) (by omega) (by omega)
      omega
theorem lf_one {y : Int} {a b : Option Nat} (o : RuleOk T p r) (ha : IsLf T p r y a) (hb : IsLf T p r y b) : a = b := by
  have no : ∀ {x : Nat}, IsLf T p r y none → IsLf T p r y (some x) → False := by
    rintro x ⟨h1, h2⟩ ⟨h3, _⟩
    have p0 := o.p0
    have p1 := o.p1
    have all : ∀ x, vl T p r x ≤ T.getD (T.length - 1) 0 := by
      intro x
      induction x using Nat.strongRecOn with
      | _ x ih =>
        by_cases q : x < T.length
        · rw [vl_lt q]
          exact o.row (by omega) (by omega)
        · rw [vl_step p0 p1 (by omega)]
          have := ih (x - p) (by omega)
          omega
    have := all x
    omega
  match a, b, ha, hb with
  | none, none, _, _ => rfl
  | none, some x, ha, hb => exact (no ha hb).elim
  | some x, none, ha, hb => exact (no hb ha).elim
  | some x, some z, ⟨h1, h2⟩, ⟨h3, h4⟩ =>
    rcases Nat.lt_trichotomy x z with q | q | q
    · have := h4 x q
      omega
    · rw [q]
    · have := h2 z q
      omega
end
theorem div_cast {x n p : Nat} (h : n ≤ x) : ((x : Int) - (n : Int)) / (p : Int) + 1 = (((x - n) / p + 1 : Nat) : Int) := by
  rw [← Int.natCast_sub h]
  rfl
theorem ceil_lo {a r : Int} (hr : 0 < r) : a ≤ (a + r - 1) / r * r ∧ ((a + r - 1) / r - 1) * r < a := by
  have h1 := Int.mul_ediv_add_emod (a + r - 1) r
  have h2 := Int.emod_nonneg (a + r - 1) (show r ≠ 0 by omega)
  have h3 := Int.emod_lt_of_pos (a + r - 1) hr
  have e : (a + r - 1) / r * r = r * ((a + r - 1) / r) := Int.mul_comm _ _
  have e2 : ((a + r - 1) / r - 1) * r = r * ((a + r - 1) / r) - r := by rw [Int.sub_mul, Int.mul_comm]; omega
  omega
end Sm

set_option maxHeartbeats 4000000
namespace Sm
/-- the sum of the values at all amounts below -/
def sm (T : List Int) (p : Nat) (r : Int) : Nat → Int
  | 0 => 0
  | n + 1 => sm T p r n + vl T p r n
theorem take_more : ∀ (l : List Int) (k : Nat), k < l.length → (l.take (k + 1)).sum = (l.take k).sum + l.getD k 0
  | [], k, h => absurd h (Nat.not_lt_zero _)
  | a :: l, 0, h => by simp
  | a :: l, k + 1, h => by
    have ih := take_more l k (by simpa using h)
    simp only [List.take_succ_cons, List.sum_cons, List.getD_cons_succ]
    rw [ih]
    omega
theorem sm_take {T : List Int} {p : Nat} {r : Int} : ∀ n, n ≤ T.length → sm T p r n = (T.take n).sum
  | 0, _ => by simp [sm]
  | n + 1, h => by
    rw [take_more T n (by omega), ← sm_take n (by omega), sm, vl_lt (by omega)]
def tri (t : Int) : Int := t * (t + 1) / 2
theorem tri_step (t : Int) : tri (t + 1) = tri t + (t + 1) := by
  unfold tri
  have e : (t + 1) * (t + 1 + 1) = t * (t + 1) + (t + 1) * 2 := by
    rw [Int.mul_comm (t + 1) (t + 1 + 1), Int.add_mul (t + 1) 1 (t + 1), Int.add_mul t 1 (t + 1)]
    omega
  rw [e, Int.add_mul_ediv_right _ _ (by decide)]
/-- .. behind the table -/
def far (T : List Int) (p : Nat) (r : Int) (t j : Nat) : Int :=
  T.sum + ((t : Int) * (T.drop (T.length - p)).sum + r * (p : Int) * tri (t : Int)) + ((T.drop (T.length - p)).take j).sum + (j : Int) * ((t : Int) + 1) * r
theorem getD_drop' {T : List Int} {a j : Nat} : (T.drop a).getD j 0 = T.getD (a + j) 0 := by
  rw [List.getD_eq_getElem?_getD, List.getD_eq_getElem?_getD, List.getElem?_drop]
theorem far_step {T : List Int} {p : Nat} {r : Int} (p1 : p ≤ T.length) {t j : Nat} (hj : j < p) : far T p r t (j + 1) = far T p r t j + (T.getD (T.length - p + j) 0 + ((t : Int) + 1) * r) := by
  unfold far
  rw [take_more _ j (by rw [List.length_drop]; omega), getD_drop']
  have e : ((j + 1 : Nat) : Int) * ((t : Int) + 1) * r = (j : Int) * ((t : Int) + 1) * r + ((t : Int) + 1) * r := by
    rw [Int.natCast_add, Int.add_mul, Int.add_mul]
    simp
  rw [e]
  omega
theorem far_turn {T : List Int} {p : Nat} {r : Int} (p1 : p ≤ T.length) (t : Nat) : far T p r t p = far T p r (t + 1) 0 := by
  unfold far
  have l : (T.drop (T.length - p)).length = p := by rw [List.length_drop]; omega
  rw [List.take_of_length_le (by omega), Int.natCast_add]
  have e1 : ((t : Int) + ((1 : Nat) : Int)) = (t : Int) + 1 := rfl
  rw [e1, tri_step, Int.mul_add (r * (p : Int)), Int.add_mul (t : Int) 1]
  have e2 : (p : Int) * ((t : Int) + 1) * r = r * (p : Int) * ((t : Int) + 1) := by ac_rfl
  rw [e2]
  simp
  omega
theorem sm_far {T : List Int} {p : Nat} {r : Int} (o : RuleOk T p r) : ∀ t j : Nat, j ≤ p → sm T p r (T.length + t * p + j) = far T p r t j := by
  have p0 := o.p0
  have p1 := o.p1
  intro t
  induction t with
  | zero =>
    intro j
    induction j with
    | zero =>
      intro _
      rw [Nat.zero_mul, Nat.add_zero, sm_take _ (Nat.le_refl _), List.take_length]
      unfold far tri
      simp
    | succ j ih =>
      intro hj
      rw [far_step p1 (by omega), ← ih (by omega), ← Nat.add_assoc, sm]
      have e := vl_addk (r := r) (x := T.length - p + j) p0 p1 (by omega) 1
      rw [show T.length - p + j + 1 * p = T.length + 0 * p + j by omega, vl_lt (x := T.length - p + j) (by omega)] at e
      rw [e]
      simp
  | succ t iht =>
    intro j
    induction j with
    | zero =>
      intro _
      rw [← far_turn p1 t, ← iht p (Nat.le_refl _)]
      congr 1
      rw [Nat.add_mul]
      omega
    | succ j ih =>
      intro hj
      rw [far_step p1 (by omega), ← ih (by omega), ← Nat.add_assoc, sm]
      have e := vl_addk (r := r) (x := T.length - p + j) p0 p1 (by omega) (t + 1 + 1)
      rw [show T.length - p + j + (t + 1 + 1) * p = T.length + (t + 1) * p + j by rw [Nat.add_mul (t + 1) 1 p]; omega, vl_lt (x := T.length - p + j) (by omega)] at e
      rw [e]
      rfl
theorem sm_eq {T : List Int} {p : Nat} {r : Int} (o : RuleOk T p r) {x : Nat} (h : T.length ≤ x) : sm T p r x = far T p r ((x - T.length) / p) ((x - T.length) % p) := by
  have a := Nat.div_add_mod (x - T.length) p
  have b := Nat.mod_lt (x - T.length) o.p0
  rw [← sm_far o _ _ (by omega)]
  congr 1
  rw [Nat.mul_comm]
  omega
/-- a part's sum -/
theorem sm_part {T : List Int} {p : Nat} {r : Int} (a : Nat) : ∀ k : Nat, ((List.range k).map fun i => vl T p r (a + i)).sum = sm T p r (a + k) - sm T p r a
  | 0 => by simp
  | k + 1 => by
    rw [List.range_succ, List.map_append, List.sum_append, sm_part a k, ← Nat.add_assoc, sm]
    simp
    omega
theorem sm_up {T : List Int} {p : Nat} {r C : Int} (o : RuleOk T p r) (a : Nat) : ∀ k : Nat, (∀ x, x < a + k → vl T p r x ≤ C) → 0 ≤ sm T p r (a + k) - sm T p r a ∧ sm T p r (a + k) - sm T p r a ≤ C * (k : Int)
  | 0, _ => by simp
  | k + 1, h => by
    have ih := sm_up o a k fun x hx => h x (by omega)
    have c := h (a + k) (by omega)
    have z := o.pos (a + k)
    rw [← Nat.add_assoc, sm]
    have e : C * ((k + 1 : Nat) : Int) = C * (k : Int) + C := by rw [Int.natCast_add, Int.mul_add]; simp
    rw [e]
    omega
theorem sum_box {B : Int} : ∀ {l : List Int}, (∀ v ∈ l, 0 ≤ v ∧ v ≤ B) → 0 ≤ l.sum ∧ l.sum ≤ (l.length : Int) * B
  | [], _ => by simp
  | a :: l, h => by
    have ih := sum_box (l := l) fun v hv => h v (List.mem_cons_of_mem _ hv)
    have ha := h a (List.mem_cons_self ..)
    rw [List.sum_cons, List.length_cons, Int.natCast_add, Int.add_mul]
    simp
    omega
end Sm

set_option Elab.async false
set_option linter.all false
set_option maxRecDepth 100000
set_option maxHeartbeats 4000000
namespace Sm
open PySem PySem.Spec PyProof.Rows L2
/-! ### ranges of great ints; the sum of a tuple -/
theorem turn_long {P : Program} {w : World} {K : PySem.W.Frag} {tg : Expr} (it : Addr) (lo : Int) (n : Nat) : Turn P w K tg (Itr lo n) [it] it (fun i h => IsLongIter h it (lo + (i : Nat) * 1) ((n : Int) - (i : Nat)) 1) where
  mem := List.mem_singleton.mpr rfl
  obj := by
    intro i h st b hb
    rw [List.mem_singleton.mp hb]
    exact ⟨_, st, fun v z => nomatch z⟩
  keep := fun i h h' st k => k it (List.mem_singleton.mpr rfl) _ st
  item := by
    rintro X rfl rfl rfl hc i pins s σ H E I hf st hg
    obtain ⟨g0, g1, g2, g3, g4, g5⟩ := hf it (List.mem_singleton.mpr rfl)
    refine (Walks.longrange (prog := X.prog) (w := X.w) (I.ok.hd hc) it lo 1 n).item i s _ _ hg st ?_
    rintro v h' tk ⟨t, rfl⟩ st' same
    have J : Inv X pins σ H { s with heap := h', toks := tk } := I.turned (fun b o hb e => same b o (by simpa using hb) e) g0 g1 g3 g4 g5
    refine ⟨_, rfl, go_of (s := { s with heap := h', toks := tk }) (n := "longrange_iterator") st' rfl rfl (by decide) ⟨.int (lo + i), H, J, ⟨t, ?_⟩, ⟨rfl, rfl⟩, st', fun b hb => (hf b hb).1⟩⟩
    rw [Int.mul_one]
  done := by
    rintro X rfl rfl rfl hc i pins s σ H E I hf st hg
    obtain ⟨g0, g1, g2, g3, g4, g5⟩ := hf it (List.mem_singleton.mpr rfl)
    refine wpAny_pyNext_long_end (I.ok.hd hc) st (by have : n ≤ i := hg; omega) ?_
    intro h' eb
    exact ⟨rfl, I.turned (t' := s.toks) (fun b o hb e => eb b o hb e) g0 g1 g3 g4 g5⟩
  self := fun _ _ _ _ _ st h => wpAny_pyIter_longiter st h
section
variable {X : Cx} {tg : Expr}
def iRngW (ta : TA) : TI := fun σ H R => ta σ H fun vs H1 => ∃ i j : Int, vs = [.int i, .int j] ∧ R (Itr i (j - i).toNat) H1
theorem range_any {pins : List (Addr × Obj)} {σ : L2.St} {H : Hp} {s : Shared} {R : It → Hp → Prop} {E : Value → Shared → Prop} {lo hi : Int} {t u v : Tok} {tk : Nat} (I : Inv X pins σ H s)
    (q : R (Itr lo (hi - lo).toNat) H) : wpAny (model X.prog X.w) X.A (pyIter (.ref s.heap.objs.size)) (PIE X pins σ tg R) E { s with heap := s.heap.push { cls := .type "range", data := .fields #[.int lo t, .int hi u, .int 1 v] }, toks := tk } := by
  have J : Inv X pins σ H { s with heap := s.heap.push { cls := .type "range", data := .fields #[.int lo t, .int hi u, .int 1 v] }, toks := tk } := I.kept fun b o e => Heap.get?_push_of_some _ e
  have size : (((hi - lo).toNat : Nat) : Int) - ((0 : Nat) : Int) = Builtin.Range.rangeSize lo hi 1 := by
    rw [rangeSize_one]
    split <;> omega
  have first : lo + ((0 : Nat) : Int) * 1 = lo := by omega
  have fresh : ∀ b ∈ [(s.heap.push { cls := .type "range", data := .fields #[.int lo t, .int hi u, .int 1 v] }).objs.size], FpOk X pins H b := by
    intro b hb
    rw [List.mem_singleton.mp hb]
    exact J.fpOk (Nat.le_refl _) (J.hok.fresh (Nat.le_refl _))
  cases sm : Builtin.Range.small lo hi 1 with
  | true =>
    refine wpAny_pyIter_range (IsRange.new ..) sm ⟨_, [_], _, _, H, rfl, J.kept (t' := tk) fun b o e => Heap.get?_push_of_some _ e, turn_range _ lo (hi - lo).toNat, ?_, fresh, q⟩
    show IsRangeIter _ _ (lo + ((0 : Nat) : Int) * 1) ((((hi - lo).toNat : Nat) : Int) - ((0 : Nat) : Int)) 1
    rw [first, size]
    exact Heap.get?_push_size _ rfl
  | false =>
    refine wpAny_pyIter_longrange (IsRange.new ..) sm ⟨_, [_], _, _, H, rfl, J.kept (t' := tk) fun b o e => Heap.get?_push_of_some _ e, turn_long _ lo (hi - lo).toNat, ?_, fresh, q⟩
    show IsLongIter _ _ (lo + ((0 : Nat) : Int) * 1) ((((hi - lo).toNat : Nat) : Int) - ((0 : Nat) : Int)) 1
    rw [first, size]
    exact Heap.get?_push_size _ rfl
theorem pi_range2W {a b : Expr} {ta : TA} {p pos : Pos} (hg : Gl X "range") (hm : X.mg "range" = none) (ha : PA X [a, b] ta) (hs : starEach [a, b] X.env = [(false, eval a X.env), (false, eval b X.env)] := by rfl) (hs2 : starEach [b] X.env = [(false, eval b X.env)] := by rfl) :
    PI X tg (.Call (.Name "range" p) [a, b] [] pos) (iRngW ta) := by
  constructor
  intro pins s σ H R I want
  refine Call_ (ld_blt I hg hm boot_range (PyProof.Rows.callWith_type1 (thn (ha.run pos pins s σ H _ I want) ?_) (by rw [hs, hs2]) (by rw [hs2]; rfl)))
  rintro us s1 ⟨vs, H1, I1, rel, i, j, rfl, q⟩
  obtain ⟨u1, u2, rfl, ⟨t, rfl⟩, ⟨t', rfl⟩⟩ := vals2 rel
  exact call_range_2 (range_any I1 q)
theorem preSum_list (ns : List Int) : ∀ n, n ≤ ns.length → preSum (fun i => ns.getD i 0) n = (ns.take n).sum
  | 0, _ => by simp [preSum]
  | n + 1, h => by
    have ih := preSum_list ns n (by omega)
    rw [take_sum_succ ns n (by omega), ← ih]
    rfl
theorem cr_sumT (hc : X.calm = true) : CallR X (.builtin "sum") (fun vs H Q => ∃ (a : Addr) (ns : List Int), vs = [.ref a] ∧ SqT X.K H a (ns.map V.int) ∧ Q (.int ns.sum) H) := by
  intro pins s σ H vs us Q I rel want
  obtain ⟨a, ns, rfl, hs, q⟩ := want
  obtain ⟨its, rv, tup, _⟩ := I.tuple hs
  rw [Vals.ref1 rel]
  have tup : s.heap.IsTuple a its.toArray := tup
  have len : ns.length = its.length := by rw [← rv.length, List.length_map]
  have ne : a ≠ s.heap.objs.size := Nat.ne_of_lt (Heap.lt_size tup.choose_spec.1)
  refine call_sum_walkG (wpAny_pyIter_tuple tup ?_)
  refine ⟨s.heap.objs.size, _, _, _, _, _, fun i => ns.getD i 0, rfl, Walks.tuple (A := X.A.in1) (I.ok.hd hc) _ a ne its.toArray, ⟨?_, ?_⟩, ?_, ?_, ?_⟩
  · exact ⟨_, Heap.get?_push_size _ rfl, rfl, rfl⟩
  · exact tup.at fun o e => Heap.get?_push_of_some _ e
  · intro b hb
    show b < (s.heap.push _).objs.size
    rw [Heap.size_push]
    rcases List.mem_cons.mp hb with rfl | hb
    · exact Nat.lt_succ_self _
    · rw [List.mem_singleton.mp hb]
      exact Nat.lt_succ_of_lt (Heap.lt_size tup.choose_spec.1)
  · intro i v hv
    have hv : its[i]? = some v := by simpa using hv
    have hi : i < its.length := (List.getElem?_eq_some_iff.mp hv).1
    have g : (ns.map V.int)[i]? = some (.int (ns.getD i 0)) := by
      rw [List.getElem?_map, List.getElem?_eq_getElem (by omega), List.getD_eq_getElem?_getD, List.getElem?_eq_getElem (by omega)]
      rfl
    obtain ⟨u, hu, ru⟩ := rv.get g
    rw [hv] at hu
    injection hu with hu
    subst hu
    exact ru
  · intro h' tk t' keep
    have e : preSum (fun i => ns.getD i 0) its.toArray.size = ns.sum := by
      rw [List.size_toArray, ← len, preSum_list ns _ (Nat.le_refl _), List.take_length]
    rw [e]
    refine ⟨.int _, H, ?_, ⟨_, rfl⟩, q⟩
    refine I.kept fun b o z => keep b o (fun hb => ?_) (Heap.get?_push_of_some _ z)
    have := Heap.lt_size z
    rw [List.mem_singleton.mp hb] at this
    exact absurd this (Nat.lt_irrefl _)
end
end Sm

set_option Elab.async false
set_option linter.all false
set_option maxRecDepth 100000
set_option maxHeartbeats 8000000
namespace Sm
open PySem PySem.Spec PyProof.Rows L2
open C8 (pss_cut)
def topS (i : Nat) : Stmt := PySem.Challenge.pw_smallchange_k03_sums_of_ranges.main.body.getD i (.Pass ⟨0, 0, 0, 0⟩)
structure Txt (mg : Str → Option Value) : Prop where
  n_abs : mg "abs" = none
  n_divmod : mg "divmod" = none
  n_int : mg "int" = none
  n_len : mg "len" = none
  n_max : mg "max" = none
  n_range : mg "range" = none
  n_repr : mg "repr" = none
  n_sum : mg "sum" = none
  n_tuple : mg "tuple" = none
/-! ### rules in the heap -/
def RuleAt (H : Hp) (d : Addr) (T : List Int) (p : Nat) (r : Int) : Prop := ∃ t, H d = some (.tup [.ref t, .int (p : Int), .int r]) ∧ H t = some (.tup (T.map V.int))
theorem RuleAt.same {H H' : Hp} {d : Addr} {T : List Int} {p : Nat} {r : Int} (R : RuleAt H d T p r) (s : Same H H') : RuleAt H' d T p r := by
  obtain ⟨t, h1, h2⟩ := R
  exact ⟨t, s _ _ h1, s _ _ h2⟩
theorem RuleAt.fr {H H' : Hp} {d a l : Addr} {n : Int} {T : List Int} {p : Nat} {r : Int} (R : RuleAt H d T p r) (f : Fr a l H H') (D : Deck H a l n) : RuleAt H' d T p r := by
  obtain ⟨t, h1, h2⟩ := R
  exact ⟨t, f.tup D h1, f.tup D h2⟩
structure RB (T : List Int) (p : Nat) (r : Int) : Prop where
  len : T.length ≤ 300
  r1 : r ≤ 10000000000000
  top : ∀ i, i < T.length → T.getD i 0 ≤ 10000000000000
theorem get_int {T : List Int} {i : Nat} (h : i < T.length) : (T.map V.int)[i]? = some (.int (T.getD i 0)) := by
  rw [List.getElem?_map, List.getElem?_eq_getElem h, List.getD_eq_getElem?_getD, List.getElem?_eq_getElem h]
  rfl
theorem atI_neg1 {xs : List V} {v : V} (h0 : 0 < xs.length) (h : xs[xs.length - 1]? = some v) : atI xs (-1) = some v := by
  unfold atI ixN
  rw [if_neg (by decide), if_pos (by omega), show ((-1 : Int) + (xs.length : Int)).toNat = xs.length - 1 by omega]
  exact h
theorem last_int {T : List Int} (h : 0 < T.length) : atI (T.map V.int) (-1) = some (.int (T.getD (T.length - 1) 0)) :=
  atI_neg1 (by rw [List.length_map]; exact h) (by rw [List.length_map]; exact get_int (by omega))
theorem pick4 {a b c d r : Int} (h0 : 0 ≤ r) (h1 : r < 4) : ∃ z, [V.int a, V.int b, V.int c, V.int d][r.toNat]? = some (.int z) ∧ (z = a ∨ z = b ∨ z = c ∨ z = d) := by
  obtain rfl | rfl | rfl | rfl : r = 0 ∨ r = 1 ∨ r = 2 ∨ r = 3 := by omega
  · exact ⟨a, rfl, .inl rfl⟩
  · exact ⟨b, rfl, .inr (.inl rfl)⟩
  · exact ⟨c, rfl, .inr (.inr (.inl rfl))⟩
  · exact ⟨d, rfl, .inr (.inr (.inr rfl))⟩
/-- a table while it grows -/
structure Tb (T : List Int) : Prop where
  ne : 0 < T.length
  nn : ∀ i, i < T.length → 0 ≤ T.getD i 0
  mono : ∀ i, i + 1 < T.length → T.getD i 0 ≤ T.getD (i + 1) 0
  top : ∀ i, i < T.length → T.getD i 0 ≤ 10000000000 * ((i : Int) + 1)
theorem getD_app {T : List Int} {x : Int} {i : Nat} : (T ++ [x]).getD i 0 = if i < T.length then T.getD i 0 else if i = T.length then x else 0 := by
  rw [List.getD_eq_getElem?_getD, List.getD_eq_getElem?_getD, List.getElem?_append]
  by_cases h : i < T.length
  · rw [if_pos h, if_pos h]
  · rw [if_neg h, if_neg h]
    by_cases e : i = T.length
    · rw [if_pos e, e, Nat.sub_self]
      rfl
    · rw [if_neg e, List.getElem?_eq_none (by rw [List.length_singleton]; omega)]
      rfl
theorem Tb.more {T : List Int} (t : Tb T) {c : Int} (c0 : 0 ≤ c) (c1 : c ≤ 1000000000) : Tb (T ++ [T.getD (T.length - 1) 0 + c]) := by
  have n := t.ne
  have l := t.nn (T.length - 1) (by omega)
  have u := t.top (T.length - 1) (by omega)
  refine ⟨by rw [List.length_append]; omega, fun i hi => ?_, fun i hi => ?_, fun i hi => ?_⟩
  · rw [List.length_append, List.length_singleton] at hi
    rw [getD_app]
    split
    · exact t.nn i (by assumption)
    · rw [if_pos (by omega)]
      omega
  · rw [List.length_append, List.length_singleton] at hi
    rw [getD_app, getD_app, if_pos (by omega)]
    split
    · exact t.mono i (by assumption)
    · rw [if_pos (by omega), show i = T.length - 1 by omega]
      omega
  · rw [List.length_append, List.length_singleton] at hi
    rw [getD_app]
    split
    · exact t.top i (by assumption)
    · rw [if_pos (by omega), show i = T.length by omega]
      omega
theorem Tb.rb {T : List Int} (t : Tb T) (h : T.length ≤ 300) {p : Nat} {r : Int} (h1 : r ≤ 10000000000000) : RB T p r :=
  ⟨h, h1, fun i hi => by have := t.top i hi; omega⟩
theorem Tb.level {T : List Int} (t : Tb T) : RuleOk T 1 0 := ⟨by decide, t.ne, by decide, t.nn, t.mono, by omega⟩
theorem Tb.rising {T : List Int} (t : Tb T) {p : Nat} {c : Int} (p0 : 0 < p) (p1 : p ≤ T.length) (c0 : 0 ≤ c) : RuleOk T p (T.getD (T.length - 1) 0 - T.getD (T.length - p) 0 + c) := by
  have up : T.getD (T.length - p) 0 ≤ T.getD (T.length - 1) 0 := by
    have z : RuleOk T 1 0 := t.level
    exact z.row (by omega) (by omega)
  exact ⟨p0, p1, by omega, t.nn, t.mono, by omega⟩
def sp_val (_ : PySem.W.Frag) : Sp := fun vs H Q _ => ∃ (d : Addr) (T : List Int) (p : Nat) (r : Int) (x : Nat), vs = [.ref d, .int (x : Int)] ∧ RuleAt H d T p r ∧ RuleOk T p r ∧ RB T p r ∧ Q (.int (vl T p r x)) H
abbrev sp_value_of := sp_val
abbrev sp_l_value := sp_val
def sp_l_repeats (_ : PySem.W.Frag) : Sp := fun vs H Q _ => ∃ (d : Addr) (T : List Int) (p : Nat) (r : Int) (s : Nat) (c : Int), vs = [.ref d, .int (s : Int), .int c] ∧ RuleAt H d T p r ∧ RuleOk T p r ∧ RB T p r ∧
  ∀ b, (b = true → Rep T p r s c) → Q (.bl b) H
def sp_l_least (_ : PySem.W.Frag) : Sp := fun vs H Q _ => ∃ (d : Addr) (T : List Int) (p : Nat) (r : Int), vs = [.ref d] ∧ RuleAt H d T p r ∧ RuleOk T p r ∧ RB T p r ∧
  ∀ H' d' T' p' r', Same H H' → RuleAt H' d' T' p' r' → RuleOk T' p' r' → RB T' p' r' → (∀ x, vl T' p' r' x = vl T p r x) → Q (.ref d') H'
def sp_l_rule (_ : PySem.W.Frag) : Sp := fun vs H Q _ => ∃ (p l : Addr) (n long wide tall : Int), vs = [.ref p, .int long, .int wide, .int tall] ∧ Deck H p l n ∧ 0 ≤ n ∧ n ≤ 900000 ∧ 0 ≤ long ∧ long ≤ 200 ∧ 1 ≤ wide ∧ wide ≤ 40 ∧ 0 ≤ tall ∧ tall ≤ 1000000000 ∧
  ∀ H' d T pp r n', Fr p l H H' → Deck H' p l n' → n ≤ n' → n' ≤ n + 1000 → RuleAt H' d T pp r → RuleOk T pp r → RB T pp r → Q (.ref d) H'
section
variable {P : Program} {w : World} {K : PySem.W.Frag} {mg : Str → Option Value} {base : Heap}
abbrev s_l_deck : Stmt := topS 4
abbrev N_l_deck : List Str := ["_law_script", "_law_cell"]
theorem sc_l_deck : FnScope N_l_deck ["_law_script"] (defScope s_l_deck) := ⟨rfl, rfl, rfl, by decide +kernel, rfl, by decide +kernel, by decide +kernel⟩
theorem ok_l_deck (T : Txt mg) (D : Df K mg "_law_deck" s_l_deck ["_law_script"]) : Cal P w K mg base "_law_deck" ["_law_script"] 1 (sp_l_deck K) := by
  refine D.cal sc_l_deck (fun vs H Q E h => ?_) (fun f cdv A outer s H vs Q E hr h => ?_)
  · obtain ⟨a, ns, rfl, _⟩ := h
    rfl
  obtain ⟨a, ns, rfl, hS, hlen, k⟩ := h
  refine ⟨_, (pss_one (ps_ret (pe_lst (pa_cons (pe_lc (own := [("_law_cell", 1)]) (g := gName 1) (tt := tYes) rfl sc_l_deck.nd (pi_list (pe_slice sl_list (pv 0) po_none (po_some pe_int))) (blkOk_by (own := [("_law_cell", 1)]) (N := N_l_deck) (sc := defScope s_l_deck) (by decide +kernel)) (fun _ _ _ _ _ => pg_name (i := 1) sc_l_deck.nd rfl (Or.inl rfl)) (fun _ _ _ _ _ => pts_nil) (fun _ _ _ _ _ => (pe_callB call_abs (by rfl) T.n_abs (by decide +kernel) (pa_cons (pv 1) pa_nil)))) (pa_cons pe_int pa_nil))))), ?_⟩
  refine ⟨_, rfl, _, rfl, a, _, rfl, hS, fun c nc => ?_⟩
  rw [cut63 hlen]
  have s1 := same_upd (o := .lst (ns.map V.int)) nc
  refine ⟨c, rfl, ⟨_, SqL.of upd_same⟩, fun D nD => ?_⟩
  have s2 := s1.trans (same_upd (o := .lst []) nD)
  have hc2 : upd (upd H c (.lst (ns.map V.int))) D (.lst []) c = some (.lst (ns.map V.int)) := same_upd nD _ _ upd_same
  refine lc_list (K := K) (a := c) (xs := ns.map V.int) (fun i H' => Same H H' ∧ H' c = some (.lst (ns.map V.int)) ∧ c ≠ D ∧ H D = none ∧ H' D = some (.lst (((ns.take i).map absI).map V.int)))
    ⟨s2, hc2, ne_of_none upd_same nD, s1.free nD, upd_same⟩ (fun i H' _ h => SqL.of h.2.1) ?_ ?_
  · rintro i x H' hx ⟨sm, hc, ncD, nD0, hD⟩
    rw [List.getElem?_map] at hx
    cases e : ns[i]? with
    | none => rw [e] at hx; cases hx
    | some y =>
      rw [e] at hx
      have ex : x = .int y := (Option.some.inj hx).symm
      subst ex
      refine ⟨rfl, ?_⟩
      unfold tYes
      refine iteT ?_
      refine ⟨_, rfl, _, rfl, _, hD, ?_, ?_⟩
      · rw [List.length_map, List.length_map, List.length_take]
        exact Nat.lt_of_le_of_lt (Nat.min_le_right _ _) (small1000 (by omega))
      · refine ⟨fun b o e => ?_, ?_, ncD, nD0, ?_⟩
        · rw [upd_ne (ne_of_none e nD0)]
          exact sm _ _ e
        · rw [upd_ne ncD]
          exact hc
        · rw [upd_same, List.take_add_one, e, List.map_append, List.map_append]
          rfl
  · rintro H' ⟨sm, hc, ncD, nD0, hD⟩
    refine ⟨(by show 2 ≤ sizeLine; decide), fun p np => ?_⟩
    have s3 := sm.trans (same_upd (o := .lst [.ref D, .int 0]) np)
    refine k _ p D s3 ⟨upd_same, _, (same_upd np) _ _ hD, fun c hc => ?_, ?_⟩
    · obtain ⟨y, _, rfl⟩ := List.mem_map.mp hc
      exact absI_pos y
    · rw [List.length_map, List.length_take]
      omega
abbrev s_l_draw : Stmt := topS 5
abbrev N_l_draw : List Str := ["_law_deck_here", "_law_many", "_law_place", "_law_cell", "_law_mixed"]
theorem sc_l_draw : FnScope N_l_draw ["_law_deck_here", "_law_many"] (defScope s_l_draw) := ⟨rfl, rfl, rfl, by decide +kernel, rfl, by decide +kernel, by decide +kernel⟩
theorem ok_l_draw (T : Txt mg) (D : Df K mg "_law_draw" s_l_draw ["_law_deck_here", "_law_many"]) : Cal P w K mg base "_law_draw" ["_law_deck_here", "_law_many"] 1 (sp_l_draw K) := by
  refine D.cal sc_l_draw (fun vs H Q E h => ?_) (fun f cdv A outer s H vs Q E hr h => ?_)
  · obtain ⟨p, l, n, m, rfl, _⟩ := h
    rfl
  obtain ⟨p, l, n, m, rfl, D, n0, n1, m0, m1, k⟩ := h
  obtain ⟨cells, hl, hc⟩ := D.hl
  have npl : p ≠ l := ne_of D.hp hl deck_ne
  refine ⟨_, (pss_cons (ps_asg (pe_op op_add (pe_ix ix_list (pv 0) pe_int (fun _ _ => rfl)) pe_int) (pg_sub (pv 0) pe_int set_list))
    (pss_cons (ps_set (i := 2) sc_l_draw.nd rfl (Or.inl rfl) (pe_op op_modN (pe_callTy call_int1 (by rfl) T.n_int (by decide +kernel) (pa_cons (pe_ix ix_list (pv 0) pe_int (fun _ _ => rfl)) pa_nil)) (pe_callB (call_max2 rfl) (by rfl) T.n_max (by decide +kernel) (pa_cons pe_int (pa_cons (pe_callB call_len_seq (by rfl) T.n_len (by decide +kernel) (pa_cons (pe_ix ix_list (pv 0) pe_int (fun _ _ => rfl)) pa_nil)) pa_nil)))))
    (pss_cons (ps_set (i := 3) sc_l_draw.nd rfl (Or.inl rfl) (pe_ix ix_list (pe_op op_cat (pe_ix ix_list (pv 0) pe_int (fun _ _ => rfl)) (pe_lst (pa_cons pe_int pa_nil))) (pv 2) (fun _ _ => rfl)))
    (pss_cons (ps_if (pt_cmpR op_ge (pv 3) (pe_op op_pow pe_int pe_int) (nomark _)) (pss_cons (ps_asg (pe_op op_fdivW (pv 3) (pv 1)) (pg_sub (pe_ix ix_list (pv 0) pe_int (fun _ _ => rfl)) (pv 2) set_list))
    (pss_one (ps_ret (pe_op op_modN (pe_callTy call_int1 (by rfl) T.n_int (by decide +kernel) (pa_cons (pv 3) pa_nil)) (pv 1))))) pss_nil)
    (pss_cons (ps_set (i := 4) sc_l_draw.nd rfl (Or.inl rfl) (pe_op op_pow (pe_op op_add (pe_op op_add (pe_op op_modN (pe_callTy call_int1 (by rfl) T.n_int (by decide +kernel) (pa_cons (pv 3) pa_nil)) pe_int) (pe_op op_mul pe_int (pe_ix ix_list (pv 0) pe_int (fun _ _ => rfl)))) pe_int) pe_int))
    (pss_one (ps_ret (pe_op op_modN (pe_callTy call_int1 (by rfl) T.n_int (by decide +kernel) (pa_cons (pe_op op_modN (pe_callTy call_int1 (by rfl) T.n_int (by decide +kernel) (pa_cons (pv 4) pa_nil)) pe_int) pa_nil)) (pv 1))))))))), ?_⟩
  refine ⟨_, rfl, _, _, _, _, rfl, rfl, SqL.of D.hp, atI_nat (j := 1) rfl, _, _, rfl, rfl, _, rfl, _, _, _, _, rfl, rfl, D.hp, rfl, ?_⟩
  generalize hH0 : upd H p (HO.lst (List.set [V.ref l, V.int n] (Int.toNat 1) ((fun i j => V.int (i + j)) n 1))) = H0
  have hH0 : upd H p (.lst [.ref l, .int (n + 1)]) = H0 := hH0
  have f0 : Fr p l H H0 := fun b o h1 _ h => by rw [← hH0, upd_ne h1]; exact h
  have hl0 : H0 l = some (.lst (cells.map V.int)) := by rw [← hH0, upd_ne npl.symm]; exact hl
  have hp0 : H0 p = some (.lst [.ref l, .int (n + 1)]) := by rw [← hH0, upd_same]
  -- place
  have big : (if ((cells.map V.int).length : Int) > 1 then ((cells.map V.int).length : Int) else 1) = max 1 (cells.length : Int) := by
    rw [List.length_map]
    split <;> omega
  have fm : (n + 1).fmod (max 1 (cells.length : Int)) = (n + 1) % (max 1 (cells.length : Int)) := fmod_pos (by omega)
  have q0 : 0 ≤ (n + 1).fmod (max 1 (cells.length : Int)) := by rw [fm]; exact Int.emod_nonneg _ (by omega)
  have q1 : (n + 1).fmod (max 1 (cells.length : Int)) < max 1 (cells.length : Int) := by rw [fm]; exact Int.emod_lt_of_pos _ (by omega)
  refine ⟨_, rfl, _, _, _, _, rfl, rfl, SqL.of hp0, atI_nat (j := 1) rfl, .inl ⟨_, rfl, _, rfl, _, _, _, _, rfl, rfl, SqL.of hp0, atI_nat (j := 0) rfl, _, _, rfl, .inl (SqL.of hl0), _, _, rfl, _, _, rfl, rfl, (by rw [big]; omega), ?_⟩⟩
  have z : ∀ B : Int → Prop, B ((n + 1).fmod (max 1 (cells.length : Int))) → B ((n + 1).fmod (if ((cells.map V.int).length : Int) > 1 then ((cells.map V.int).length : Int) else 1)) := fun B h => by rw [big]; exact h
  refine z (fun y => gName 2 (.int y) _ _ _) ?_
  clear z
  -- cell
  refine ⟨_, rfl, _, _, _, _, rfl, rfl, SqL.of hp0, atI_nat (j := 0) rfl, (by show 1 ≤ sizeLine; decide), fun t nt => ?_⟩
  have st := same_upd (o := .lst [.int 0]) nt
  have hp1 := st _ _ hp0
  have hl1 := st _ _ hl0
  have f1 := f0.trans (Same.fr (p := p) (l := l) st)
  obtain ⟨hc, h63⟩ := hc
  have ln : (cells.map V.int).length = cells.length := List.length_map ..
  refine ⟨_, _, _, _, rfl, rfl, hl1, upd_same, (by rw [ln]; exact Nat.le_trans (by omega : cells.length + 1 ≤ 64) (by decide)), fun t2 nt2 => ?_⟩
  have st2 := same_upd (o := .lst (cells.map V.int ++ [.int 0])) nt2
  have hp2 := st2 _ _ hp1
  have hl2 := st2 _ _ hl1
  have f2 := f1.trans (Same.fr (p := p) (l := l) st2)
  have ht2 : upd (upd H0 t (.lst [.int 0])) t2 (.lst (cells.map V.int ++ [.int 0])) t2 = some (.lst ((cells ++ [0]).map V.int)) := by rw [upd_same, List.map_append]; rfl
  generalize upd (upd H0 t (HO.lst [V.int 0])) t2 (HO.lst (cells.map V.int ++ [V.int 0])) = H2 at hp2 hl2 f2 ht2 ⊢
  have q2 : ((n + 1).fmod (max 1 (cells.length : Int))).toNat < (cells ++ [0]).length := by rw [List.length_append, List.length_singleton]; omega
  have q3 : (n + 1).fmod (max 1 (cells.length : Int)) = (((n + 1).fmod (max 1 (cells.length : Int))).toNat : Int) := by omega
  generalize (n + 1).fmod (max 1 (cells.length : Int)) = pl at q0 q1 q2 q3 ⊢
  have q4 : ((cells ++ [0]).map V.int)[pl.toNat]? = some (.int (cells ++ [0])[pl.toNat]) := by
    rw [List.getElem?_map, List.getElem?_eq_getElem q2]
    rfl
  have c0 : 0 ≤ (cells ++ [0])[pl.toNat] := by
    rcases List.mem_append.mp (List.getElem_mem q2) with q | q
    · exact hc _ q
    · rw [List.mem_singleton.mp q]
      decide
  have inside : 1000000000000000000 ≤ (cells ++ [0])[pl.toNat] → pl.toNat < cells.length := by
    intro q
    by_cases e : pl.toNat < cells.length
    · exact e
    · rw [List.getElem_append_right (by omega)] at q
      simp at q
  generalize (cells ++ [0])[pl.toNat] = c at q4 c0 inside ⊢
  refine ⟨_, rfl, _, _, _, _, rfl, rfl, SqL.of ht2, at_of q3 q4, ?_⟩
  refine ⟨_, rfl, _, _, rfl, rfl, ⟨by decide, by decide, by decide⟩, _, _, rfl, rfl, _, rfl, ite3 (fun e => ?_) (fun e => ?_)⟩
  · have e : 1000000000000000000 ≤ c := e
    have p1 := inside e
    have ix : ixN (cells.map V.int).length pl = some pl.toNat := by
      unfold ixN
      rw [if_pos q0, if_pos (by omega)]
    refine ⟨_, rfl, _, rfl, _, _, rfl, rfl, div_draw m0 m1, _, rfl, _, _, _, _, rfl, rfl, SqL.of hp2, atI_nat (j := 0) rfl, _, rfl, _, _, _, _, rfl, rfl, hl2, ix, ?_⟩
    refine ⟨_, rfl, .inl ⟨_, rfl, _, rfl, _, _, rfl, rfl, (by omega), ?_⟩⟩
    have fm : c.fmod m = c % m := fmod_pos m0
    refine k _ _ (by rw [fm]; exact Int.emod_nonneg _ (by omega)) (by rw [fm]; exact Int.emod_lt_of_pos _ m0) (f2.trans fun b o _ h2 h => by rw [upd_ne h2]; exact h) ⟨by rw [upd_ne npl]; exact hp2, cells.set pl.toNat (c / m), by rw [upd_same, List.map_set], fun y hy => ?_, by rw [List.length_set]; exact h63⟩
    rcases List.mem_or_eq_of_mem_set hy with q | q
    · exact hc y q
    · rw [q]; exact Int.ediv_nonneg c0 (by omega)
  · refine ⟨_, rfl, .inl ⟨_, rfl, _, _, rfl, rfl, (show (2147483587 : Int) ≠ 0 by decide), _, rfl, _, _, _, _, rfl, rfl, SqL.of hp2, atI_nat (j := 1) rfl, _, _, rfl, rfl, .inl ⟨by decide, by decide⟩, _, _, rfl, rfl, _, _, rfl, rfl, ?_⟩⟩
    have fm : c.fmod 2147483587 = c % 2147483587 := fmod_pos (by decide)
    have h0 := Int.emod_nonneg c (show (2147483587 : Int) ≠ 0 by decide)
    have h1 := Int.emod_lt_of_pos c (show (0 : Int) < 2147483587 by decide)
    refine ⟨_, _, rfl, rfl, ⟨by decide, by decide, by rw [fm]; omega⟩, ?_⟩
    refine ⟨_, rfl, .inl ⟨_, rfl, _, _, rfl, rfl, (show (2147483647 : Int) ≠ 0 by decide), .inl ⟨_, rfl, _, rfl, _, _, rfl, rfl, (by omega), ?_⟩⟩⟩
    refine k _ _ ?_ ?_ f2 ⟨hp2, cells, hl2, hc, h63⟩
    · rw [fmod_pos m0]; exact Int.emod_nonneg _ (by omega)
    · rw [fmod_pos m0]; exact Int.emod_lt_of_pos _ m0
abbrev s_l_one : Stmt := topS 6
abbrev N_l_one : List Str := ["_law_deck_here", "_law_items"]
theorem sc_l_one : FnScope N_l_one ["_law_deck_here", "_law_items"] (defScope s_l_one) := ⟨rfl, rfl, rfl, by decide +kernel, rfl, by decide +kernel, by decide +kernel⟩
theorem ok_l_one (T : Txt mg) (D : Df K mg "_law_one" s_l_one ["_law_deck_here", "_law_items"]) (C_l_draw : Cal P w K mg base "_law_draw" ["_law_deck_here", "_law_many"] 1 (sp_l_draw K)) : Cal P w K mg base "_law_one" ["_law_deck_here", "_law_items"] 2 (sp_l_one K) := by
  obtain ⟨f_l_draw, fd_l_draw, G_l_draw, m_l_draw, k_l_draw, b_l_draw⟩ := C_l_draw
  refine D.cal sc_l_one (fun vs H Q E h => ?_) (fun f cdv A outer s H vs Q E hr h => ?_)
  · obtain ⟨p, l, b, n, xs, rfl, _⟩ := h
    rfl
  obtain ⟨p, l, b, n, xs, rfl, D, n0, n1, hb, bp, bl, x0, x1, k⟩ := h
  refine ⟨_, (pss_one (ps_ret (pe_ix ix_list (pv 1) (pe_call G_l_draw (hr.mono (by decide)) (by rfl) m_l_draw k_l_draw b_l_draw .nil pass0 (pa_cons (pv 0) (pa_cons (pe_callB call_len_seq (by rfl) T.n_len (by decide +kernel) (pa_cons (pv 1) pa_nil)) pa_nil))) (fun _ _ => rfl)))), ?_⟩
  refine ⟨_, rfl, _, rfl, _, rfl, _, _, rfl, .inl (SqL.of hb), p, l, n, _, rfl, D, n0, n1, (by omega), (by omega), fun r H' r0 r1 f D' => ?_⟩
  have q : r.toNat < xs.length := by omega
  refine ⟨_, _, _, _, rfl, rfl, SqL.of (f b _ bp bl hb), at_of (j := r.toNat) (by omega) (List.getElem?_eq_getElem q), ?_⟩
  exact k _ H' (List.getElem_mem q) f D'
end
end Sm

set_option Elab.async false
set_option linter.all false
set_option maxRecDepth 100000
set_option maxHeartbeats 8000000
namespace Sm
open PySem PySem.Spec PyProof.Rows L2
open C8 (pss_cut tCut)
section
variable {P : Program} {w : World} {K : PySem.W.Frag} {mg : Str → Option Value} {base : Heap}
theorem RB.div {T : List Int} {p : Nat} {r x : Int} (b : RB T p r) (o : RuleOk T p r) : CDivW x (p : Int) := by
  have := b.len
  have := o.p0
  have := o.p1
  exact wide_div (b := 10) (by omega) (by omega) (by decide) (by decide)
theorem RB.mulR {T : List Int} {p : Nat} {r x : Int} (b : RB T p r) (o : RuleOk T p r) : CMul x r := by
  have := b.r1
  have := o.r0
  exact .inr ⟨by omega, by omega⟩
theorem RB.mulR' {T : List Int} {p : Nat} {r x : Int} (b : RB T p r) (o : RuleOk T p r) : CMul r x := by
  have := b.r1
  have := o.r0
  exact .inl ⟨by omega, by omega⟩
theorem RB.mulP {T : List Int} {p : Nat} {r x : Int} (b : RB T p r) (o : RuleOk T p r) : CMul x (p : Int) := by
  have := b.len
  have := o.p1
  exact .inr ⟨by omega, by omega⟩
theorem len_int (T : List Int) : (((T.map V.int).length : Nat) : Int) = (T.length : Int) := by rw [List.length_map]
theorem turns_eq {T : List Int} {p x : Nat} (h : T.length ≤ x) : ((x : Int) - (((T.map V.int).length : Nat) : Int)) / (p : Int) + 1 = (((x - T.length) / p + 1 : Nat) : Int) := by
  rw [len_int]
  exact div_cast h
theorem index_eq {q p x : Nat} (h : q * p ≤ x) : (x : Int) - (q : Int) * (p : Int) = ((x - q * p : Nat) : Int) := by
  rw [Int.natCast_sub h, Int.natCast_mul]
abbrev s_l_value : Stmt := topS 7
abbrev N_l_value : List Str := ["_law_rule_here", "_law_x", "_law_table", "_law_period", "_law_rise", "_law_turns"]
theorem sc_l_value : FnScope N_l_value ["_law_rule_here", "_law_x"] (defScope s_l_value) := ⟨rfl, rfl, rfl, by decide +kernel, rfl, by decide +kernel, by decide +kernel⟩
theorem ok_l_value (T : Txt mg) (D : Df K mg "_law_value" s_l_value ["_law_rule_here", "_law_x"]) : Cal P w K mg base "_law_value" ["_law_rule_here", "_law_x"] 1 (sp_l_value K) := by
  refine D.cal sc_l_value (fun vs H Q E h => ?_) (fun f cdv A outer s H vs Q E hr h => ?_)
  · obtain ⟨d, T0, p, r, x, rfl, _⟩ := h
    rfl
  obtain ⟨d, T0, p, r, x, rfl, ⟨t, hd, ht⟩, o, b, k⟩ := h
  have p0 := o.p0
  have p1 := o.p1
  refine ⟨_, (pss_cons (ps_asg (pv 0) (pg_tup (by rfl) (pgs_cons (pg_name (i := 2) sc_l_value.nd rfl (Or.inl rfl)) (pgs_cons (pg_name (i := 3) sc_l_value.nd rfl (Or.inl rfl)) (pgs_cons (pg_name (i := 4) sc_l_value.nd rfl (Or.inl rfl)) pgs_nil)))))
    (pss_cons (ps_if (pt_cmpR op_lt (pv 1) (pe_callB call_len_seq (by rfl) T.n_len (by decide +kernel) (pa_cons (pv 2) pa_nil)) (nomark _)) (pss_one (ps_ret (pe_ix ix_tup (pv 2) (pv 1) (fun _ _ => rfl)))) pss_nil)
    (pss_cons (ps_set (i := 5) sc_l_value.nd rfl (Or.inl rfl) (pe_op op_add (pe_op op_fdivW (pe_op op_sub (pv 1) (pe_callB call_len_seq (by rfl) T.n_len (by decide +kernel) (pa_cons (pv 2) pa_nil))) (pv 3)) pe_int))
    (pss_one (ps_ret (pe_op op_add (pe_ix ix_tup (pv 2) (pe_op op_sub (pv 1) (pe_op op_mul (pv 5) (pv 3))) (fun _ _ => rfl)) (pe_op op_mul (pv 5) (pv 4)))))))), ?_⟩
  refine ⟨_, rfl, _, _, rfl, SqT.of hd, rfl, _, _, rfl, _, _, rfl, _, _, rfl, rfl, ?_⟩
  refine ⟨_, rfl, _, rfl, _, _, rfl, .inr (SqT.of ht), _, _, rfl, rfl, _, rfl, ite3 (fun e => ?_) (fun e => ?_)⟩
  · rw [len_int] at e
    have e : x < T0.length := by omega
    rw [vl_lt e] at k
    exact ⟨_, rfl, _, rfl, _, _, _, _, rfl, rfl, SqT.of ht, atI_nat (get_int e), k⟩
  · rw [len_int] at e
    have e : T0.length ≤ x := by omega
    have z : ∀ B : Int → Prop, B (((x - T0.length) / p + 1 : Nat) : Int) → B (((x : Int) - (((T0.map V.int).length : Nat) : Int)) / (p : Int) + 1) := fun B h => by rw [turns_eq e]; exact h
    refine ⟨_, rfl, _, rfl, _, _, rfl, .inr (SqT.of ht), _, _, rfl, rfl, _, rfl, _, _, rfl, rfl, b.div o, _, _, rfl, rfl, ?_⟩
    refine z (fun y => gName 5 (.int y) _ _ _) ?_
    clear z
    obtain ⟨a1, a2, a3⟩ := place p0 p1 e
    have kv : vl T0 p r x = T0.getD (x - ((x - T0.length) / p + 1) * p) 0 + (((x - T0.length) / p + 1 : Nat) : Int) * r := if_neg (by omega)
    rw [kv] at k
    generalize (x - T0.length) / p + 1 = q at a1 a2 a3 k ⊢
    exact ⟨_, rfl, _, rfl, _, rfl, _, rfl, _, _, rfl, rfl, b.mulP o, _, _, rfl, rfl, _, _, _, _, rfl, rfl, SqT.of ht, at_of (index_eq a1) (get_int a3), _, rfl, _, rfl, _, _, rfl, rfl, b.mulR o, _, _, rfl, rfl, k⟩
abbrev s_l_repeats : Stmt := topS 8
abbrev N_l_repeats : List Str := ["_law_rule_here", "_law_step", "_law_more", "_law_table", "_law_period", "_law_rise", "_law_x"]
theorem sc_l_repeats : FnScope N_l_repeats ["_law_rule_here", "_law_step", "_law_more"] (defScope s_l_repeats) := ⟨rfl, rfl, rfl, by decide +kernel, rfl, by decide +kernel, by decide +kernel⟩
theorem ok_l_repeats (T : Txt mg) (D : Df K mg "_law_repeats" s_l_repeats ["_law_rule_here", "_law_step", "_law_more"]) (C_l_value : Cal P w K mg base "_law_value" ["_law_rule_here", "_law_x"] 1 (sp_l_value K)) : Cal P w K mg base "_law_repeats" ["_law_rule_here", "_law_step", "_law_more"] 2 (sp_l_repeats K) := by
  obtain ⟨f_l_value, fd_l_value, G_l_value, m_l_value, k_l_value, b_l_value⟩ := C_l_value
  refine D.cal sc_l_repeats (fun vs H Q E h => ?_) (fun f cdv A outer s H vs Q E hr h => ?_)
  · obtain ⟨d, T0, p, r, s, c, rfl, _⟩ := h
    rfl
  obtain ⟨d, T0, p, r, st, c, rfl, R, o, b, k⟩ := h
  obtain ⟨t, hd, ht⟩ := id R
  have p0 := o.p0
  have p1 := o.p1
  have bl := b.len
  refine ⟨_, (pss_cons (ps_asg (pv 0) (pg_tup (by rfl) (pgs_cons (pg_name (i := 3) sc_l_repeats.nd rfl (Or.inl rfl)) (pgs_cons (pg_name (i := 4) sc_l_repeats.nd rfl (Or.inl rfl)) (pgs_cons (pg_name (i := 5) sc_l_repeats.nd rfl (Or.inl rfl)) pgs_nil)))))
    (pss_cons (ps_for PassesOwn.never rfl (pi_range2 (by rfl) T.n_range (pa_cons (pe_op op_sub (pe_callB call_len_seq (by rfl) T.n_len (by decide +kernel) (pa_cons (pv 3) pa_nil)) (pv 4)) (pa_cons (pe_callB call_len_seq (by rfl) T.n_len (by decide +kernel) (pa_cons (pv 3) pa_nil)) pa_nil))) (pg_name (i := 6) sc_l_repeats.nd rfl (Or.inl rfl))
      (pss_one (ps_if (pt_cmpR op_ne (pe_call G_l_value (hr.mono (by decide)) (by rfl) m_l_value k_l_value b_l_value .nil pass0 (pa_cons (pv 0) (pa_cons (pe_op op_add (pv 6) (pv 1)) pa_nil))) (pe_op op_add (pe_ix ix_tup (pv 3) (pv 6) (fun _ _ => rfl)) (pv 2)) (nomark _)) (pss_one (ps_ret pe_bl)) pss_nil)))
    (pss_one (ps_ret pe_bl)))), ?_⟩
  refine ⟨_, rfl, _, _, rfl, SqT.of hd, rfl, _, _, rfl, _, _, rfl, _, _, rfl, rfl, ?_⟩
  have ll := len_int T0
  refine ⟨_, rfl, _, _, rfl, .inr (SqT.of ht), _, rfl, _, _, rfl, rfl, _, rfl, _, _, rfl, .inr (SqT.of ht), _, _, rfl, ⟨by rw [ll]; omega, by rw [ll]; omega, by rw [ll]; omega, by rw [ll]; omega⟩, ?_⟩
  refine for_range (lo := _) (n := _) (fun i σ H' => ∃ v, σ = [some (.ref d), some (.int (st : Int)), some (.int c), some (.ref t), some (.int (p : Int)), some (.int r), v] ∧ H' = H ∧ ∀ j, j < i → vl T0 p r (T0.length - p + j + st) = T0.getD (T0.length - p + j) 0 + c)
    ⟨none, rfl, rfl, fun j hj => absurd hj (Nat.not_lt_zero _)⟩ ?_ ?_
  · rintro i σ H' hi ⟨v, rfl, rfl, hj⟩
    have hi : i < p := by
      rw [ll] at hi
      omega
    have e1 : (((T0.map V.int).length : Nat) : Int) - (p : Int) + (i : Int) = ((T0.length - p + i : Nat) : Int) := by rw [ll]; omega
    have e2 : (((T0.map V.int).length : Nat) : Int) - (p : Int) + (i : Int) + (st : Int) = ((T0.length - p + i + st : Nat) : Int) := by rw [ll]; omega
    have z : ∀ B : Int → Prop, B ((T0.length - p + i : Nat) : Int) → B ((((T0.map V.int).length : Nat) : Int) - (p : Int) + (i : Int)) := fun B h => by rw [e1]; exact h
    refine z (fun y => gName 6 (.int y) _ _ _) ?_
    clear z
    refine ⟨_, rfl, _, rfl, _, rfl, _, _, rfl, rfl, d, T0, p, r, T0.length - p + i + st, rfl, R, o, b, _, rfl, _, rfl, _, _, _, _, rfl, rfl, SqT.of ht, atI_nat (get_int (by omega)), _, rfl, _, _, rfl, rfl, rfl, _, rfl, ?_⟩
    by_cases e : vl T0 p r (T0.length - p + i + st) = T0.getD (T0.length - p + i) 0 + c
    · refine iteNP (congrArg V.int e) ⟨_, rfl, rfl, fun j hj' => ?_⟩
      by_cases q : j = i
      · rw [q]
        exact e
      · exact hj j (by omega)
    · exact iteNN (fun q => e (V.int.inj q)) (k false fun q => nomatch q)
  · rintro σ H' ⟨v, rfl, rfl, hj⟩
    refine k true fun _ i h1 h2 => ?_
    have := hj (i - (T0.length - p)) (by rw [ll]; omega)
    rw [show T0.length - p + (i - (T0.length - p)) = i by omega] at this
    exact this
def LeastW (d t : Addr) (T0 : List Int) (p : Nat) (r : Int) (s : Nat) (c : Int) (v : Option V) (H0 : Hp) : Nat → List (Option V) → Hp → Prop := fun m σ H =>
  σ = [some (.ref d), some (.ref t), some (.int (p : Int)), some (.int r), some (.int (s : Int)), some (.int (m : Int)), v, some (.int c)] ∧ H = H0 ∧ m ≤ T0.length - p ∧ ∀ y, m ≤ y → vl T0 p r (y + s) = vl T0 p r y + c
abbrev s_l_least : Stmt := topS 9
abbrev N_l_least : List Str := ["_law_rule_here", "_law_table", "_law_period", "_law_rise", "_law_step", "_law_start", "_law_one_here", "_law_more"]
theorem sc_l_least : FnScope N_l_least ["_law_rule_here"] (defScope s_l_least) := ⟨rfl, rfl, rfl, by decide +kernel, rfl, by decide +kernel, by decide +kernel⟩
theorem ok_l_least (T : Txt mg) (D : Df K mg "_law_least" s_l_least ["_law_rule_here"]) (C_l_value : Cal P w K mg base "_law_value" ["_law_rule_here", "_law_x"] 1 (sp_l_value K)) (C_l_repeats : Cal P w K mg base "_law_repeats" ["_law_rule_here", "_law_step", "_law_more"] 2 (sp_l_repeats K)) : Cal P w K mg base "_law_least" ["_law_rule_here"] 3 (sp_l_least K) := by
  obtain ⟨f_l_value, fd_l_value, G_l_value, m_l_value, k_l_value, b_l_value⟩ := C_l_value
  obtain ⟨f_l_repeats, fd_l_repeats, G_l_repeats, m_l_repeats, k_l_repeats, b_l_repeats⟩ := C_l_repeats
  refine D.cal sc_l_least (fun vs H Q E h => ?_) (fun f cdv A outer s H vs Q E hr h => ?_)
  · obtain ⟨d, T0, p, r, rfl, _⟩ := h
    rfl
  obtain ⟨d, T0, p, r, rfl, R, o, b, k⟩ := h
  obtain ⟨t, hd, ht⟩ := id R
  have p0 := o.p0
  have p1 := o.p1
  have bl := b.len
  have r0 := o.r0
  have ll := len_int T0
  refine ⟨_, (pss_cons (ps_asg (pv 0) (pg_tup (by rfl) (pgs_cons (pg_name (i := 1) sc_l_least.nd rfl (Or.inl rfl)) (pgs_cons (pg_name (i := 2) sc_l_least.nd rfl (Or.inl rfl)) (pgs_cons (pg_name (i := 3) sc_l_least.nd rfl (Or.inl rfl)) pgs_nil)))))
    (pss_cons (ps_par (i := 4) (j := 5) (by rfl) sc_l_least.nd rfl rfl (by decide) rfl rfl (pa_cons (pv 2) (pa_cons (pe_op op_sub (pe_callB call_len_seq (by rfl) T.n_len (by decide +kernel) (pa_cons (pv 1) pa_nil)) (pv 2)) pa_nil)) (by rfl))
    (pss_cut (ps_for PassesOwn.never rfl (pi_range2 (by rfl) T.n_range (pa_cons pe_int (pa_cons (pv 2) pa_nil))) (pg_name (i := 6) sc_l_least.nd rfl (Or.inl rfl))
      (pss_one (ps_if (PW.pt (pw_and (pt_cmpR op_eq (pv 4) (pv 2) (nomark _)) (pw_and (pt_cmpR op_eq (pe_op op_modN (pe_callTy call_int1 (by rfl) T.n_int (by decide +kernel) (pa_cons (pv 2) pa_nil)) (pv 6)) pe_int (nomark _)) (pw_and1 (pt_cmpR op_eq (pe_op op_modN (pe_callTy call_int1 (by rfl) T.n_int (by decide +kernel) (pa_cons (pe_op op_mul (pv 3) (pv 6)) pa_nil)) (pv 2)) pe_int (nomark _)))))) (pss_one (ps_if (pt_val (pe_call G_l_repeats (hr.mono (by decide)) (by rfl) m_l_repeats k_l_repeats b_l_repeats .nil pass0 (pa_cons (pv 0) (pa_cons (pv 6) (pa_cons (pe_op op_fdivW (pe_op op_mul (pv 3) (pv 6)) (pv 2)) pa_nil))))) (pss_one (ps_set (i := 4) sc_l_least.nd rfl (Or.inl rfl) (pv 6))) pss_nil)) pss_nil)))
    (pss_cons (ps_set (i := 7) sc_l_least.nd rfl (Or.inl rfl) (pe_op op_fdivW (pe_op op_mul (pv 3) (pv 4)) (pv 2)))
    (pss_cons (ps_while PassesOwn.never (PW.pt (pw_and (pt_cmpR op_gt (pv 5) pe_int (nomark _)) (pw_and1 (pt_cmpR op_eq (pe_call G_l_value (hr.mono (by decide)) (by rfl) m_l_value k_l_value b_l_value .nil pass0 (pa_cons (pv 0) (pa_cons (pe_op op_add (pe_op op_sub (pv 5) pe_int) (pv 4)) pa_nil))) (pe_op op_add (pe_ix ix_tup (pv 1) (pe_op op_sub (pv 5) pe_int) (fun _ _ => rfl)) (pv 7)) (nomark _)))))
      (pss_one (ps_set (i := 5) sc_l_least.nd rfl (Or.inl rfl) (pe_op op_sub (pv 5) pe_int))))
    (pss_one (ps_ret (pe_tup (pa_cons (pe_callTy call_tupleT (by rfl) T.n_tuple (by decide +kernel) (pa_cons (pe_slice sl_tupA (pv 1) po_none (po_some (pe_op op_add (pv 5) (pv 4)))) pa_nil)) (pa_cons (pv 4) (pa_cons (pv 7) pa_nil))))))))))), ?_⟩
  refine ⟨_, rfl, _, _, rfl, SqT.of hd, rfl, _, _, rfl, _, _, rfl, _, _, rfl, rfl, ?_⟩
  have z : ∀ B : Int → Prop, B ((T0.length - p : Nat) : Int) → B ((((T0.map V.int).length : Nat) : Int) - (p : Int)) := fun B h => by
    rw [ll, ← Int.natCast_sub p1]
    exact h
  refine ⟨_, rfl, _, rfl, _, _, rfl, .inr (SqT.of ht), _, rfl, _, _, rfl, rfl, _, _, rfl, ?_⟩
  refine z (fun y => tCut _ _ _ (List.set (List.set _ 4 (some (.int (p : Int)))) 5 (some (.int y))) H) ?_
  clear z
  refine ⟨fun σ H' => H' = H ∧ ∃ (s : Nat) (v : Option V), σ = [some (.ref d), some (.ref t), some (.int (p : Int)), some (.int r), some (.int (s : Int)), some (.int ((T0.length - p : Nat) : Int)), v, none] ∧ 1 ≤ s ∧ s ≤ p ∧ Rep T0 p r s (r * (s : Int) / (p : Int)), ?_, ?_⟩
  · refine ⟨_, rfl, _, _, rfl, ⟨by omega, by omega, by omega, by omega⟩, for_range (lo := _) (n := _) (fun i σ H' => H' = H ∧ ∃ (s : Nat) (v : Option V), σ = [some (.ref d), some (.ref t), some (.int (p : Int)), some (.int r), some (.int (s : Int)), some (.int ((T0.length - p : Nat) : Int)), v, none] ∧ 1 ≤ s ∧ s ≤ p ∧ Rep T0 p r s (r * (s : Int) / (p : Int)))
      ⟨rfl, p, none, rfl, p0, Nat.le_refl _, ?_⟩ ?_ ?_⟩
    · rw [Int.mul_ediv_cancel _ (by omega)]
      exact rep_self o
    · rintro i σ H' hi ⟨rfl, s, v, rfl, s0, s1, hs⟩
      have hi : i < p - 1 := by omega
      have one : (1 : Int) + (i : Int) = ((1 + i : Nat) : Int) := rfl
      refine ⟨_, rfl, _, rfl, rfl, _, rfl, ite3 (fun e => ?_) (fun e => ?_)⟩
      · refine ⟨_, rfl, .inl ⟨_, rfl, _, rfl, _, _, rfl, rfl, (by omega), rfl, _, rfl, ite3 (fun e2 => ?_) (fun e2 => ?_)⟩⟩
        · refine ⟨_, rfl, _, rfl, _, _, rfl, rfl, b.mulR' o, .inl ⟨_, rfl, _, rfl, _, _, rfl, rfl, (by omega), rfl, _, rfl, ite3 (fun e3 => ?_) (fun e3 => ?_)⟩⟩
          · refine ⟨_, rfl, _, rfl, _, rfl, _, rfl, _, _, rfl, rfl, b.mulR' o, _, rfl, _, _, rfl, rfl, b.div o, d, T0, p, r, 1 + i, _, rfl, R, o, b, fun bb hb => ⟨_, rfl, ?_⟩⟩
            cases bb with
            | true => exact iteT ⟨_, rfl, rfl, 1 + i, _, rfl, by omega, by omega, hb rfl⟩
            | false => exact iteF ⟨rfl, s, _, rfl, s0, s1, hs⟩
          · exact ⟨rfl, s, _, rfl, s0, s1, hs⟩
        · exact iteF ⟨rfl, s, _, rfl, s0, s1, hs⟩
      · exact iteF ⟨rfl, s, _, rfl, s0, s1, hs⟩
    · rintro σ H' ⟨rfl, s, v, rfl, s0, s1, hs⟩
      exact ⟨rfl, s, v, rfl, s0, s1, hs⟩
  · rintro σ H' ⟨rfl, s, v, rfl, s0, s1, hs⟩
    have c0 : 0 ≤ r * (s : Int) / (p : Int) := Int.ediv_nonneg (Int.mul_nonneg r0 (by omega)) (by omega)
    have c1 : r * (s : Int) / (p : Int) ≤ r := by
      have h1 : r * (s : Int) ≤ r * (p : Int) := Int.mul_le_mul_of_nonneg_left (by omega) r0
      have h2 := Int.ediv_le_ediv (show (0 : Int) < (p : Int) by omega) h1
      rw [Int.mul_ediv_cancel _ (by omega)] at h2
      exact h2
    refine ⟨_, rfl, _, rfl, _, _, rfl, rfl, b.mulR' o, _, rfl, _, _, rfl, rfl, b.div o, ?_⟩
    have all := rep_all o hs
    obtain ⟨c, ec⟩ : ∃ c, c = r * (s : Int) / (p : Int) := ⟨_, rfl⟩
    rw [← ec] at c0 c1 all
    refine ⟨LeastW d t T0 p r s c v H', ⟨T0.length - p, by rw [ec]; rfl, rfl, Nat.le_refl _, all⟩, ?_⟩
    rintro m σ H'' ⟨rfl, rfl, al, ha⟩
    -- the end, from any start
    have fin : ∀ (H2 : Hp) (t' : Addr), Same H'' H2 → H2 t' = some (.tup ((T0.take (m + s)).map V.int)) → ∀ q, H2 q = none → Q (.ref q) (upd H2 q (.tup [.ref t', .int (s : Int), .int c])) := by
      intro H2 t' sm h2 q nq
      have sq := same_upd (o := .tup [.ref t', .int (s : Int), .int c]) nq
      refine k _ q (T0.take (m + s)) s c (sm.trans sq) ⟨t', upd_same, sq _ _ h2⟩ (cut_ok o s0 (by omega) c0 ha) ⟨?_, by have := b.r1; omega, fun i hi => ?_⟩ (cut_vl s0 (by omega) ha)
      · rw [List.length_take]
        omega
      · rw [List.length_take] at hi
        rw [getD_take (by omega)]
        exact b.top i (by omega)
    refine ⟨_, rfl, _, _, rfl, rfl, _, rfl, ?_⟩
    by_cases e : (0 : Int) < (m : Int)
    · have e1 : (m : Int) - 1 = ((m - 1 : Nat) : Int) := by omega
      have e2 : (m : Int) - 1 + (s : Int) = ((m - 1 + s : Nat) : Int) := by omega
      refine iteP e ⟨_, rfl, _, rfl, _, _, rfl, rfl, _, rfl, _, _, rfl, rfl, d, T0, p, r, m - 1 + s, congrArg (fun z => [V.ref d, V.int z]) e2, R, o, b, _, rfl, _, rfl, _, _, rfl, rfl, _, _, _, _, rfl, rfl, SqT.of ht, at_of e1 (get_int (by omega)), _, rfl, _, _, rfl, rfl, rfl, _, rfl, ?_⟩
      by_cases e3 : vl T0 p r (m - 1 + s) = T0.getD (m - 1) 0 + c
      · refine iteP (congrArg V.int e3) ⟨LeastW d t T0 p r s c v H'' (m - 1), fun σ' H3 hw => ⟨m - 1, by omega, hw⟩, _, rfl, _, _, rfl, rfl, ?_⟩
        refine ⟨by rw [← e1]; rfl, rfl, by omega, fun y hy => ?_⟩
        by_cases q : y = m - 1
        · rw [q, e3, vl_lt (by omega)]
        · exact ha y (by omega)
      · refine iteN (fun q => e3 (V.int.inj q)) ?_
        refine ⟨_, rfl, _, rfl, _, rfl, _, _, rfl, rfl, _, rfl, _, _, rfl, SqT.of ht, fun wh => ?_, fun _ p' np' => ?_⟩
        · have w2 : min (m + s) (T0.map V.int).length = (T0.map V.int).length := (HT.sIx_nat _ _ (m + s)).symm.trans wh.2
          rw [List.length_map] at w2
          exact ⟨_, _, rfl, SqT.of ht, _, rfl, _, rfl, (by show 3 ≤ sizeLine; decide), fun q nq => fin _ t (Same.refl _) (by rw [List.take_of_length_le (by omega)]; exact ht) q nq⟩
        · exact ⟨_, _, rfl, SqT.of upd_same, _, rfl, _, rfl, (by show 3 ≤ sizeLine; decide), fun q nq => fin _ p' (same_upd np') (by rw [upd_same, show cutV (T0.map V.int) none (some ((m : Int) + (s : Int))) = cutV (T0.map V.int) none (some ((m + s : Nat) : Int)) from rfl, cut_all, List.map_take]) q nq⟩
    · refine iteN e (iteF ?_)
      refine ⟨_, rfl, _, rfl, _, rfl, _, _, rfl, rfl, _, rfl, _, _, rfl, SqT.of ht, fun wh => ?_, fun _ p' np' => ?_⟩
      · have w2 : min (m + s) (T0.map V.int).length = (T0.map V.int).length := (HT.sIx_nat _ _ (m + s)).symm.trans wh.2
        rw [List.length_map] at w2
        exact ⟨_, _, rfl, SqT.of ht, _, rfl, _, rfl, (by show 3 ≤ sizeLine; decide), fun q nq => fin _ t (Same.refl _) (by rw [List.take_of_length_le (by omega)]; exact ht) q nq⟩
      · exact ⟨_, _, rfl, SqT.of upd_same, _, rfl, _, rfl, (by show 3 ≤ sizeLine; decide), fun q nq => fin _ p' (same_upd np') (by rw [upd_same, show cutV (T0.map V.int) none (some ((m : Int) + (s : Int))) = cutV (T0.map V.int) none (some ((m + s : Nat) : Int)) from rfl, cut_all, List.map_take]) q nq⟩
end
end Sm

set_option Elab.async false
set_option linter.all false
set_option maxRecDepth 100000
set_option maxHeartbeats 16000000
namespace Sm
open PySem PySem.Spec PyProof.Rows L2
section
variable {P : Program} {w : World} {K : PySem.W.Frag} {mg : Str → Option Value} {base : Heap}
abbrev s_l_rule : Stmt := topS 10
abbrev N_l_rule : List Str := ["_law_deck_here", "_law_long", "_law_wide", "_law_tall", "_law_start", "_law_period", "_law_table", "_law_k", "_law_rise"]
theorem sc_l_rule : FnScope N_l_rule ["_law_deck_here", "_law_long", "_law_wide", "_law_tall"] (defScope s_l_rule) := ⟨rfl, rfl, rfl, by decide +kernel, rfl, by decide +kernel, by decide +kernel⟩
/-- what a draw needs of the deck, and an item of a list of four -/
theorem list_ne {H : Hp} {p l b : Addr} {n : Int} {xs : List V} (D : Deck H p l n) (h : H b = none) : b ≠ p ∧ b ≠ l := D.lne h
theorem ok_l_rule (T : Txt mg) (D : Df K mg "_law_rule" s_l_rule ["_law_deck_here", "_law_long", "_law_wide", "_law_tall"]) (C_l_least : Cal P w K mg base "_law_least" ["_law_rule_here"] 3 (sp_l_least K)) (C_l_draw : Cal P w K mg base "_law_draw" ["_law_deck_here", "_law_many"] 1 (sp_l_draw K)) : Cal P w K mg base "_law_rule" ["_law_deck_here", "_law_long", "_law_wide", "_law_tall"] 4 (sp_l_rule K) := by
  obtain ⟨f_l_least, fd_l_least, G_l_least, m_l_least, k_l_least, b_l_least⟩ := C_l_least
  obtain ⟨f_l_draw, fd_l_draw, G_l_draw, m_l_draw, k_l_draw, b_l_draw⟩ := C_l_draw
  refine D.cal sc_l_rule (fun vs H Q E h => ?_) (fun f cdv A outer s H vs Q E hr h => ?_)
  · obtain ⟨p, l, n, long, wide, tall, rfl, _⟩ := h
    rfl
  obtain ⟨p, l, n, long, wide, tall, rfl, D0, n0, n1, lo0, lo1, wi0, wi1, ta0, ta1, k⟩ := h
  refine ⟨_, (pss_cons (ps_par (i := 4) (j := 5) (by rfl) sc_l_rule.nd rfl rfl (by decide) rfl rfl (pa_cons (pe_call G_l_draw (hr.mono (by decide)) (by rfl) m_l_draw k_l_draw b_l_draw .nil pass0 (pa_cons (pv 0) (pa_cons (pe_op op_add (pv 1) pe_int) pa_nil))) (pa_cons (pe_op op_add pe_int (pe_call G_l_draw (hr.mono (by decide)) (by rfl) m_l_draw k_l_draw b_l_draw .nil pass0 (pa_cons (pv 0) (pa_cons (pv 2) pa_nil)))) pa_nil)) (by rfl))
    (pss_cons (ps_set (i := 6) sc_l_rule.nd rfl (Or.inl rfl) (pe_lst (pa_cons (pe_ix ix_list (pe_lst (pa_cons pe_int (pa_cons pe_int (pa_cons pe_int (pa_cons (pe_call G_l_draw (hr.mono (by decide)) (by rfl) m_l_draw k_l_draw b_l_draw .nil pass0 (pa_cons (pv 0) (pa_cons (pe_op op_add (pv 3) pe_int) pa_nil))) pa_nil))))) (pe_call G_l_draw (hr.mono (by decide)) (by rfl) m_l_draw k_l_draw b_l_draw .nil pass0 (pa_cons (pv 0) (pa_cons pe_int pa_nil))) (fun _ _ => rfl)) pa_nil)))
    (pss_cons (ps_for PassesOwn.never rfl (pi_range1 (by rfl) T.n_range (pa_cons (pe_op op_sub (pe_op op_add (pv 4) (pv 5)) pe_int) pa_nil)) (pg_name (i := 7) sc_l_rule.nd rfl (Or.inl rfl))
      (pss_one (ps_expr (pe_bm PySem.F.plainAttrs_list PySem.F.slot_list_append PySem.F.type_list_append mt_append (pv 6) (pa_cons (pe_op op_add (pe_ix ix_list (pv 6) (pe_un un_neg pe_int) (fun _ _ => rfl)) (pe_ix ix_list (pe_lst (pa_cons pe_int (pa_cons pe_int (pa_cons pe_int (pa_cons (pe_call G_l_draw (hr.mono (by decide)) (by rfl) m_l_draw k_l_draw b_l_draw .nil pass0 (pa_cons (pv 0) (pa_cons (pe_op op_add (pv 3) pe_int) pa_nil))) pa_nil))))) (pe_call G_l_draw (hr.mono (by decide)) (by rfl) m_l_draw k_l_draw b_l_draw .nil pass0 (pa_cons (pv 0) (pa_cons pe_int pa_nil))) (fun _ _ => rfl))) pa_nil)))))
    (pss_cons (ps_if (pt_cmpR op_eq (pe_call G_l_draw (hr.mono (by decide)) (by rfl) m_l_draw k_l_draw b_l_draw .nil pass0 (pa_cons (pv 0) (pa_cons pe_int pa_nil))) pe_int (nomark _)) (pss_one (ps_ret (pe_call G_l_least (hr.mono (by decide)) (by rfl) m_l_least k_l_least b_l_least .nil pass0 (pa_cons (pe_tup (pa_cons (pe_callTy call_tuple_of (by rfl) T.n_tuple (by decide +kernel) (pa_cons (pv 6) pa_nil)) (pa_cons pe_int (pa_cons pe_int pa_nil)))) pa_nil)))) pss_nil)
    (pss_cons (ps_set (i := 8) sc_l_rule.nd rfl (Or.inl rfl) (pe_op op_add (pe_op op_sub (pe_ix ix_list (pv 6) (pe_un un_neg pe_int) (fun _ _ => rfl)) (pe_ix ix_list (pv 6) (pv 4) (fun _ _ => rfl))) (pe_ix ix_list (pe_lst (pa_cons pe_int (pa_cons pe_int (pa_cons pe_int (pa_cons (pe_call G_l_draw (hr.mono (by decide)) (by rfl) m_l_draw k_l_draw b_l_draw .nil pass0 (pa_cons (pv 0) (pa_cons (pe_op op_add (pv 3) pe_int) pa_nil))) pa_nil))))) (pe_call G_l_draw (hr.mono (by decide)) (by rfl) m_l_draw k_l_draw b_l_draw .nil pass0 (pa_cons (pv 0) (pa_cons pe_int pa_nil))) (fun _ _ => rfl))))
    (pss_one (ps_ret (pe_call G_l_least (hr.mono (by decide)) (by rfl) m_l_least k_l_least b_l_least .nil pass0 (pa_cons (pe_tup (pa_cons (pe_callTy call_tuple_of (by rfl) T.n_tuple (by decide +kernel) (pa_cons (pv 6) pa_nil)) (pa_cons (pv 5) (pa_cons (pv 8) pa_nil)))) pa_nil))))))))), ?_⟩
  -- start, period
  refine ⟨_, rfl, _, rfl, _, _, rfl, rfl, p, l, n, _, rfl, D0, n0, by omega, by omega, by omega, fun rs H1 rs0 rs1 f1 D1 => ?_⟩
  refine ⟨_, rfl, _, rfl, p, l, n + 1, _, rfl, D1, by omega, by omega, by omega, by omega, fun rp H2 rp0 rp1 f2 D2 => ?_⟩
  refine ⟨_, _, rfl, rfl, _, _, rfl, ?_⟩
  -- the table's first item
  refine ⟨_, rfl, _, rfl, _, _, rfl, rfl, p, l, n + 1 + 1, _, rfl, D2, by omega, by omega, by omega, by omega, fun a H3 a0 a1 f3 D3 => ?_⟩
  refine ⟨(by show 4 ≤ sizeLine; decide), fun b nb => ?_⟩
  have sb := same_upd (o := .lst [.int 0, .int 0, .int 0, .int a]) nb
  obtain ⟨bp, bl⟩ := D3.lne nb
  refine ⟨_, rfl, p, l, n + 1 + 1 + 1, 4, rfl, D3.same sb, by omega, by omega, by omega, by omega, fun i4 H4 i40 i41 f4 D4 => ?_⟩
  obtain ⟨z, hz, zz⟩ := pick4 (a := 0) (b := 0) (c := 0) (d := a) i40 i41
  have z0 : 0 ≤ z := by omega
  have z1 : z ≤ 1000000000 := by omega
  refine ⟨_, _, _, _, rfl, rfl, SqL.of (f4 b _ bp bl upd_same), at_of (j := i4.toNat) (by omega) hz, ?_⟩
  refine ⟨(by show 1 ≤ sizeLine; decide), fun L nL => ?_⟩
  obtain ⟨Lp, Ll⟩ := D4.lne nL
  have sL := same_upd (o := .lst [.int z]) nL
  have fr : Fr p l H (upd H4 L (.lst [.int z])) := (f1.trans (f2.trans (f3.trans ((Same.fr sb).trans f4)))).trans (Same.fr sL)
  have D5 := D4.same sL
  have hn : ∀ b o, H b = some o → b ≠ L := by
    intro b o hb e
    subst e
    by_cases q1 : b = p
    · exact Lp q1
    · by_cases q2 : b = l
      · exact Ll q2
      · have := (f1.trans (f2.trans (f3.trans ((Same.fr sb).trans f4)))) b o q1 q2 hb
        rw [nL] at this
        cases this
  -- the loop
  refine ⟨_, rfl, _, rfl, _, _, rfl, rfl, _, _, rfl, rfl, _, rfl, (by omega), (by omega), ?_⟩
  refine for_range (lo := 0) (n := _) (fun i σ H' => ∃ (n' : Int) (T0 : List Int) (v : Option V), σ = [some (.ref p), some (.int long), some (.int wide), some (.int tall), some (.int rs), some (.int (1 + rp)), some (.ref L), v, none] ∧
      Deck H' p l n' ∧ n ≤ n' ∧ n' ≤ n + 4 + 2 * (i : Int) ∧ Fr p l H H' ∧ H' L = some (.lst (T0.map V.int)) ∧ T0.length = i + 1 ∧ Tb T0)
    ⟨_, [z], none, rfl, D5, by omega, by omega, fr, upd_same, rfl, ⟨by show 0 < 1; decide, fun i hi => ?_, fun i hi => ?_, fun i hi => ?_⟩⟩ ?_ ?_
  · have hi : i < 1 := hi
    rw [show i = 0 by omega]
    exact z0
  · have hi : i + 1 < 1 := hi
    omega
  · have hi : i < 1 := hi
    rw [show i = 0 by omega]
    show z ≤ 10000000000 * (((0 : Nat) : Int) + 1)
    omega
  · rintro i σ H' hi ⟨n', T0, v, rfl, D', m0, m1, f', hL, hT, tb⟩
    have hi : i < (rs + (1 + rp) - 1).toNat := hi
    refine ⟨_, rfl, .inl ⟨rfl, _, SqL.of hL⟩, ?_⟩
    refine ⟨_, rfl, _, rfl, _, _, _, _, rfl, rfl, SqL.of hL, last_int tb.ne, ?_⟩
    refine ⟨_, rfl, _, rfl, _, _, rfl, rfl, p, l, n', _, rfl, D', by omega, by omega, by omega, by omega, fun a' H6 a0' a1' f6 D6 => ?_⟩
    refine ⟨(by show 4 ≤ sizeLine; decide), fun b' nb' => ?_⟩
    have sb' := same_upd (o := .lst [.int 0, .int 0, .int 1, .int a']) nb'
    obtain ⟨bp', bl'⟩ := D6.lne nb'
    refine ⟨_, rfl, p, l, n' + 1, 4, rfl, D6.same sb', by omega, by omega, by omega, by omega, fun i5 H7 i50 i51 f7 D7 => ?_⟩
    obtain ⟨c, hc, cc⟩ := pick4 (a := 0) (b := 0) (c := 1) (d := a') i50 i51
    have c0 : 0 ≤ c := by omega
    have c1 : c ≤ 1000000000 := by omega
    have hL7 : H7 L = some (.lst (T0.map V.int)) := f7 L _ Lp Ll (sb' _ _ (f6 L _ Lp Ll hL))
    refine ⟨_, _, _, _, rfl, rfl, SqL.of (f7 b' _ bp' bl' upd_same), at_of (j := i5.toNat) (by omega) hc, _, _, rfl, rfl, L, _, _, rfl, rfl, hL7, ?_, ?_⟩
    · rw [List.length_map, hT]
      exact small1000 (by omega)
    · have fL : Fr p l H (upd H7 L (.lst ((T0 ++ [T0.getD (T0.length - 1) 0 + c]).map V.int))) := by
        intro b o h1 h2 hb
        rw [upd_ne (hn b o hb)]
        exact (f'.trans (f6.trans ((Same.fr sb').trans f7))) b o h1 h2 hb
      refine ⟨n' + 1 + 1, T0 ++ [T0.getD (T0.length - 1) 0 + c], _, rfl, ⟨by rw [upd_ne Lp.symm]; exact D7.hp, ?_⟩, by omega, by omega, ?_, ?_, ?_, tb.more c0 c1⟩
      · obtain ⟨cells, q1, q2⟩ := D7.hl
        exact ⟨cells, by rw [upd_ne Ll.symm]; exact q1, q2⟩
      · rw [List.map_append] at fL
        exact fL
      · rw [upd_same, List.map_append]
        rfl
      · rw [List.length_append, List.length_singleton, hT]
  · rintro σ H' ⟨n', T0, v, rfl, D', m0, m1, f', hL, hT, tb⟩
    have hlen : (T0.length : Int) = rs + (1 + rp) := by omega
    have small : T0.length ≤ 300 := by omega
    have line : T0.length ≤ sizeLine := Nat.le_trans small (by decide)
    have topI := tb.top
    refine ⟨_, rfl, p, l, n', 5, rfl, D', by omega, by omega, by omega, by omega, fun r5 H6 r50 r51 f6 D6 => ?_⟩
    have hL6 := f6 L _ Lp Ll hL
    refine ⟨rfl, _, rfl, ite3 (fun e => ?_) (fun e => ?_)⟩
    · -- a level rule
      refine ⟨_, rfl, L, _, rfl, .inl ⟨SqL.of hL6, fun t nt => ?_⟩⟩
      have st := same_upd (o := .tup (T0.map V.int)) nt
      refine ⟨(by show 3 ≤ sizeLine; decide), fun d nd => ?_⟩
      have sd := same_upd (o := .tup [.ref t, .int 1, .int 0]) nd
      refine ⟨d, T0, 1, 0, rfl, ⟨t, upd_same, sd _ _ upd_same⟩, tb.level, tb.rb small (by decide), fun H9 d' T' p' r' s9 hr' ho hb hv => ?_⟩
      have s := st.trans (sd.trans s9)
      exact k H9 d' T' p' r' (n' + 1) (f'.trans (f6.trans (Same.fr s))) (D6.same s) (by omega) (by omega) hr' ho hb
    · -- a rising rule
      have gs : (T0.map V.int)[rs.toNat]? = some (.int (T0.getD rs.toNat 0)) := get_int (by omega)
      refine ⟨_, rfl, _, rfl, _, _, _, _, rfl, rfl, SqL.of hL6, last_int tb.ne, _, rfl, _, rfl, _, _, _, _, rfl, rfl, SqL.of hL6, at_of (j := rs.toNat) (by omega) gs, _, _, rfl, rfl, ?_⟩
      refine ⟨_, rfl, _, rfl, _, _, rfl, rfl, p, l, n' + 1, _, rfl, D6, by omega, by omega, by omega, by omega, fun a' H7 a0' a1' f7 D7 => ?_⟩
      refine ⟨(by show 4 ≤ sizeLine; decide), fun b' nb' => ?_⟩
      have sb' := same_upd (o := .lst [.int 0, .int 0, .int 1, .int a']) nb'
      obtain ⟨bp', bl'⟩ := D7.lne nb'
      refine ⟨_, rfl, p, l, n' + 1 + 1, 4, rfl, D7.same sb', by omega, by omega, by omega, by omega, fun i5 H8 i50 i51 f8 D8 => ?_⟩
      obtain ⟨c, hc, cc⟩ := pick4 (a := 0) (b := 0) (c := 1) (d := a') i50 i51
      have c0 : 0 ≤ c := by omega
      have c1 : c ≤ 1000000000 := by omega
      have hL8 : H8 L = some (.lst (T0.map V.int)) := f8 L _ Lp Ll (sb' _ _ (f7 L _ Lp Ll hL6))
      refine ⟨_, _, _, _, rfl, rfl, SqL.of (f8 b' _ bp' bl' upd_same), at_of (j := i5.toNat) (by omega) hc, _, _, rfl, rfl, ?_⟩
      refine ⟨_, rfl, L, _, rfl, .inl ⟨SqL.of hL8, fun t nt => ?_⟩⟩
      have st := same_upd (o := .tup (T0.map V.int)) nt
      refine ⟨_, rfl, _, rfl, (by show 3 ≤ sizeLine; decide), fun d nd => ?_⟩
      have ep : (1 : Int) + rp = (((1 + rp).toNat : Nat) : Int) := by omega
      have er : T0.length - (1 + rp).toNat = rs.toNat := by omega
      have ok := tb.rising (p := (1 + rp).toNat) (c := c) (by omega) (by omega) c0
      rw [er] at ok
      have t1 := tb.top (T0.length - 1) (by omega)
      have t2 := tb.nn rs.toNat (by omega)
      have sd := same_upd (o := .tup [.ref t, .int (1 + rp), .int (T0.getD (T0.length - 1) 0 - T0.getD rs.toNat 0 + c)]) nd
      refine ⟨d, T0, (1 + rp).toNat, T0.getD (T0.length - 1) 0 - T0.getD rs.toNat 0 + c, rfl, ⟨t, by rw [← ep]; exact upd_same, sd _ _ upd_same⟩, ok, tb.rb small (by omega), fun H9 d' T' p' r' s9 hr' ho hb hv => ?_⟩
      have s := st.trans (sd.trans s9)
      exact k H9 d' T' p' r' (n' + 1 + 1 + 1) (f'.trans (f6.trans (f7.trans ((Same.fr sb').trans (f8.trans (Same.fr s)))))) (D8.same s) (by omega) (by omega) hr' ho hb
end
end Sm

set_option Elab.async false
set_option linter.all false
set_option maxRecDepth 100000
set_option maxHeartbeats 16000000
namespace Sm
open PySem PySem.Spec PyProof.Rows L2
open C8 (pss_cut tCut)
def sp_sum_below (_ : PySem.W.Frag) : Sp := fun vs H Q _ => ∃ (d : Addr) (T : List Int) (p : Nat) (r : Int) (x : Nat), vs = [.ref d, .int (x : Int)] ∧ RuleAt H d T p r ∧ RuleOk T p r ∧ RB T p r ∧ x ≤ 1000000000000000000000000000000000000000000000000000000000000 ∧
  ∀ H', Same H H' → Q (.int (sm T p r x)) H'
def sp_sum_of (_ : PySem.W.Frag) : Sp := fun vs H Q _ => ∃ (d : Addr) (T : List Int) (p : Nat) (r : Int) (lo hi : Nat), vs = [.ref d, .int (lo : Int), .int (hi : Int)] ∧ RuleAt H d T p r ∧ RuleOk T p r ∧ RB T p r ∧
  lo ≤ 1000000000000000000000000000000000000000000000000000000000000 ∧ hi ≤ 1000000000000000000000000000000000000000000000000000000000000 ∧
  ∀ H', Same H H' → Q (.int (if hi ≤ lo then 0 else sm T p r hi - sm T p r lo)) H'
section
variable {P : Program} {w : World} {K : PySem.W.Frag} {mg : Str → Option Value} {base : Heap}
theorem cut_from {xs : List V} {n : Nat} (h : n ≤ xs.length) : cutV xs (some (n : Int)) none = xs.drop n := by
  unfold cutV
  rw [HT.sIx_none, HT.sIx_nat, Nat.min_eq_left h]
  exact List.take_of_length_le (by rw [List.length_drop]; omega)
theorem box_T {T : List Int} {p : Nat} {r : Int} (o : RuleOk T p r) (b : RB T p r) : ∀ v ∈ T, 0 ≤ v ∧ v ≤ 10000000000000 := by
  intro v hv
  obtain ⟨i, hi, rfl⟩ := List.mem_iff_getElem.mp hv
  have e : T.getD i 0 = T[i] := by rw [List.getD_eq_getElem?_getD, List.getElem?_eq_getElem hi]; rfl
  rw [← e]
  exact ⟨o.nn i hi, b.top i hi⟩
/-- the tuple that a slice of a tuple gives, whole or not -/
theorem slice_whole {xs : List V} {n : Nat} (h : HT.sIx xs.length 0 none = 0 ∧ HT.sIx xs.length xs.length (some (n : Int)) = xs.length) : xs.take n = xs := by
  have := h.2
  rw [HT.sIx_nat] at this
  exact List.take_of_length_le (by omega)
theorem slice_whole' {xs : List V} {n : Nat} (h : HT.sIx xs.length 0 (some (n : Int)) = 0 ∧ HT.sIx xs.length xs.length none = xs.length) : n = 0 ∨ xs = [] := by
  have := h.1
  rw [HT.sIx_nat] at this
  cases xs with
  | nil => exact .inr rfl
  | cons a r =>
    rw [List.length_cons] at this
    exact .inl (by omega)
abbrev s_sum_below : Stmt := topS 2
abbrev N_sum_below : List Str := ["rule", "x", "table", "period", "rise", "turns", "rest", "tail", "whole"]
theorem sc_sum_below : FnScope N_sum_below ["rule", "x"] (defScope s_sum_below) := ⟨rfl, rfl, rfl, by decide +kernel, rfl, by decide +kernel, by decide +kernel⟩
theorem ok_sum_below (T : Txt mg) (D : Df K mg "sum_below" s_sum_below ["rule", "x"]) : Cal P w K mg base "sum_below" ["rule", "x"] 1 (sp_sum_below K) := by
  refine D.cal sc_sum_below (fun vs H Q E h => ?_) (fun f cdv A outer s H vs Q E hr h => ?_)
  · obtain ⟨d, T0, p, r, x, rfl, _⟩ := h
    rfl
  obtain ⟨d, T0, p, r, x, rfl, ⟨t, hd, ht⟩, o, b, xb, k⟩ := h
  have p0 := o.p0
  have p1 := o.p1
  have r0 := o.r0
  have r1 := b.r1
  have bl := b.len
  have ll := len_int T0
  have lm : (T0.map V.int).length = T0.length := List.length_map ..
  refine ⟨_, (pss_cons (ps_asg (pv 0) (pg_tup (by rfl) (pgs_cons (pg_name (i := 2) sc_sum_below.nd rfl (Or.inl rfl)) (pgs_cons (pg_name (i := 3) sc_sum_below.nd rfl (Or.inl rfl)) (pgs_cons (pg_name (i := 4) sc_sum_below.nd rfl (Or.inl rfl)) pgs_nil)))))
    (pss_cons (ps_if (pt_cmpR op_le (pv 1) (pe_callB call_len_seq (by rfl) T.n_len (by decide +kernel) (pa_cons (pv 2) pa_nil)) (nomark _)) (pss_one (ps_ret (pe_callB (cr_sumT rfl) (by rfl) T.n_sum (by decide +kernel) (pa_cons (pe_slice sl_tupA (pv 2) po_none (po_some (pv 1))) pa_nil)))) pss_nil)
    (pss_cons (ps_asg (pe_callB call_divmod (by rfl) T.n_divmod (by decide +kernel) (pa_cons (pe_op op_sub (pv 1) (pe_callB call_len_seq (by rfl) T.n_len (by decide +kernel) (pa_cons (pv 2) pa_nil))) (pa_cons (pv 3) pa_nil))) (pg_tup (by rfl) (pgs_cons (pg_name (i := 5) sc_sum_below.nd rfl (Or.inl rfl)) (pgs_cons (pg_name (i := 6) sc_sum_below.nd rfl (Or.inl rfl)) pgs_nil))))
    (pss_cut (ps_set (i := 7) sc_sum_below.nd rfl (Or.inl rfl) (pe_slice sl_tupA (pv 2) (po_some (pe_op op_sub (pe_callB call_len_seq (by rfl) T.n_len (by decide +kernel) (pa_cons (pv 2) pa_nil)) (pv 3))) po_none))
    (pss_cons (ps_set (i := 8) sc_sum_below.nd rfl (Or.inl rfl) (pe_op op_add (pe_op op_mul (pv 5) (pe_callB (cr_sumT rfl) (by rfl) T.n_sum (by decide +kernel) (pa_cons (pv 7) pa_nil))) (pe_op op_mul (pe_op op_mul (pv 4) (pv 3)) (pe_op op_fdivW (pe_op op_mulW (pv 5) (pe_op op_add (pv 5) pe_int)) pe_int))))
    (pss_one (ps_ret (pe_op op_add (pe_op op_add (pe_op op_add (pe_callB (cr_sumT rfl) (by rfl) T.n_sum (by decide +kernel) (pa_cons (pv 2) pa_nil)) (pv 8)) (pe_callB (cr_sumT rfl) (by rfl) T.n_sum (by decide +kernel) (pa_cons (pe_slice sl_tup (pv 7) po_none (po_some (pv 6))) pa_nil))) (pe_op op_mul (pe_op op_mul (pv 6) (pe_op op_add (pv 5) pe_int)) (pv 4)))))))))), ?_⟩
  refine ⟨_, rfl, _, _, rfl, SqT.of hd, rfl, _, _, rfl, _, _, rfl, _, _, rfl, rfl, ?_⟩
  refine ⟨_, rfl, _, rfl, _, _, rfl, .inr (SqT.of ht), _, _, rfl, rfl, _, rfl, ite3 (fun e => ?_) (fun e => ?_)⟩
  · rw [ll] at e
    have e : x ≤ T0.length := by omega
    rw [sm_take x e] at k
    refine ⟨_, rfl, _, rfl, _, rfl, _, _, rfl, SqT.of ht, fun wh => ?_, fun _ q nq => ?_⟩
    · have w2 := slice_whole wh
      rw [← List.map_take] at w2
      exact ⟨_, T0.take x, rfl, SqT.of (by rw [w2]; exact ht), k _ (Same.refl _)⟩
    · exact ⟨_, T0.take x, rfl, SqT.of (by rw [upd_same, cut_all, List.map_take]), k _ (same_upd nq)⟩
  · rw [ll] at e
    have e : T0.length < x := by omega
    rw [sm_eq o (by omega)] at k
    have q1 : ((x : Int) - (((T0.map V.int).length : Nat) : Int)) / (p : Int) = (((x - T0.length) / p : Nat) : Int) := by
      rw [ll, ← Int.natCast_sub (by omega)]
      rfl
    have q2 : ((x : Int) - (((T0.map V.int).length : Nat) : Int)) % (p : Int) = (((x - T0.length) % p : Nat) : Int) := by
      rw [ll, ← Int.natCast_sub (by omega)]
      rfl
    refine ⟨_, rfl, _, rfl, _, _, rfl, .inr (SqT.of ht), _, _, rfl, rfl, _, rfl, _, _, rfl, ⟨by omega, by omega⟩, fun q nq => ?_⟩
    rw [q1, q2]
    have rest_lt := Nat.mod_lt (x - T0.length) p0
    have turns_le := Nat.div_le_self (x - T0.length) p
    have s1 := same_upd (o := .tup [.int (((x - T0.length) / p : Nat) : Int), .int (((x - T0.length) % p : Nat) : Int)]) nq
    refine ⟨_, _, rfl, SqT.of upd_same, rfl, _, _, rfl, _, _, rfl, rfl, ?_⟩
    generalize (x - T0.length) / p = tn at turns_le k s1 ⊢
    generalize (x - T0.length) % p = rs at rest_lt k s1 ⊢
    have ht1 := s1 _ _ ht
    generalize upd H q (.tup [.int (tn : Int), .int (rs : Int)]) = H1 at s1 ht1 ⊢
    have el : (((T0.map V.int).length : Nat) : Int) - (p : Int) = ((T0.length - p : Nat) : Int) := by rw [ll]; omega
    -- tail
    have tbox := sum_box (l := T0.drop (T0.length - p)) fun v hv => box_T o b v (List.mem_of_mem_drop hv)
    have tlen : (T0.drop (T0.length - p)).length = p := by rw [List.length_drop]; omega
    rw [tlen] at tbox
    have tb2 : (p : Int) * 10000000000000 ≤ 300 * 10000000000000 := by omega
    refine ⟨fun σ H2 => ∃ tl, σ = [some (.ref d), some (.int (x : Int)), some (.ref t), some (.int (p : Int)), some (.int r), some (.int (tn : Int)), some (.int (rs : Int)), some (.ref tl), none] ∧ Same H H2 ∧ H2 t = some (.tup (T0.map V.int)) ∧ H2 tl = some (.tup ((T0.drop (T0.length - p)).map V.int)), ?_, ?_⟩
    · have z : ∀ B : Int → Prop, B ((T0.length - p : Nat) : Int) → B ((((T0.map V.int).length : Nat) : Int) - (p : Int)) := fun B h => by rw [el]; exact h
      refine ⟨_, rfl, _, rfl, _, _, rfl, .inr (SqT.of ht1), _, rfl, _, _, rfl, rfl, _, rfl, _, _, rfl, SqT.of ht1, fun wh => ?_, fun nwh q2 nq2 => ?_⟩
      · have wh := z (fun y => HT.sIx (T0.map V.int).length 0 (some y) = 0 ∧ HT.sIx (T0.map V.int).length (T0.map V.int).length none = (T0.map V.int).length → T0.length - p = 0 ∨ T0.map V.int = []) (fun h => slice_whole' h) wh
        refine ⟨t, rfl, s1, ht1, ?_⟩
        rcases wh with w | w
        · rw [w, List.drop_zero]
          exact ht1
        · have := congrArg List.length w
          rw [lm] at this
          have : T0.length = 0 := this
          omega
      · have c := z (fun y => cutV (T0.map V.int) (some y) none = (T0.drop (T0.length - p)).map V.int) (by rw [cut_from (by rw [lm]; omega), List.map_drop])
        have s2 := same_upd (o := .tup (cutV (T0.map V.int) (some ((((T0.map V.int).length : Nat) : Int) - (p : Int))) none)) nq2
        exact ⟨q2, rfl, s1.trans s2, s2 _ _ ht1, by rw [← c]; exact upd_same⟩
    · rintro σ H2 ⟨tl, rfl, s2, ht2, htl⟩
      have rp : r * (p : Int) ≤ 10000000000000 * 300 := Int.mul_le_mul r1 (by omega) (by omega) (by decide)
      have rp0 : 0 ≤ r * (p : Int) := Int.mul_nonneg r0 (by omega)
      refine ⟨_, rfl, _, rfl, _, _, rfl, SqT.of htl, _, _, rfl, rfl, .inr ⟨by omega, by omega⟩, _, rfl, _, rfl, _, _, rfl, rfl, b.mulP o, _, rfl, _, rfl, _, _, rfl, rfl, _, _, rfl, rfl, wide_mul (a := 210) (b := 210) (by omega) (by omega) (by decide) (by decide) (by decide), _, _, rfl, rfl, wide_div (b := 10) (by decide) (by decide) (by decide) (by decide), _, _, rfl, rfl, .inl ⟨by omega, by omega⟩, _, _, rfl, rfl, ?_⟩
      refine ⟨_, rfl, _, _, rfl, SqT.of ht2, _, rfl, _, _, rfl, rfl, _, rfl, _, rfl, _, rfl, _, _, rfl, SqT.of htl, ?_, fun q3 nq3 => ?_⟩
      · rintro ⟨_, w⟩
        rw [HT.sIx_nat, List.length_map, tlen] at w
        omega
      · have s3 := same_upd (o := .tup (cutV ((T0.drop (T0.length - p)).map V.int) none (some (rs : Int)))) nq3
        refine ⟨_, (T0.drop (T0.length - p)).take rs, rfl, SqT.of (by rw [upd_same, cut_all, List.map_take]), _, _, rfl, rfl, _, rfl, _, rfl, _, _, rfl, rfl, _, _, rfl, rfl, .inl ⟨by omega, by omega⟩, _, rfl, _, _, rfl, rfl, b.mulR o, _, _, rfl, rfl, ?_⟩
        exact k _ (s2.trans s3)
abbrev s_sum_of : Stmt := topS 1
abbrev N_sum_of : List Str := ["rule", "low", "high"]
theorem sc_sum_of : FnScope N_sum_of ["rule", "low", "high"] (defScope s_sum_of) := ⟨rfl, rfl, rfl, by decide +kernel, rfl, by decide +kernel, by decide +kernel⟩
theorem ok_sum_of (T : Txt mg) (D : Df K mg "sum_of" s_sum_of ["rule", "low", "high"]) (C_sum_below : Cal P w K mg base "sum_below" ["rule", "x"] 1 (sp_sum_below K)) : Cal P w K mg base "sum_of" ["rule", "low", "high"] 2 (sp_sum_of K) := by
  obtain ⟨f_sum_below, fd_sum_below, G_sum_below, m_sum_below, k_sum_below, b_sum_below⟩ := C_sum_below
  refine D.cal sc_sum_of (fun vs H Q E h => ?_) (fun f cdv A outer s H vs Q E hr h => ?_)
  · obtain ⟨d, T0, p, r, lo, hi, rfl, _⟩ := h
    rfl
  obtain ⟨d, T0, p, r, lo, hi, rfl, R, o, b, lb, hb, k⟩ := h
  refine ⟨_, (pss_cons (ps_if (pt_cmpR op_ge (pv 1) (pv 2) (nomark _)) (pss_one (ps_ret pe_int)) pss_nil)
    (pss_one (ps_ret (pe_op op_sub (pe_call G_sum_below (hr.mono (by decide)) (by rfl) m_sum_below k_sum_below b_sum_below .nil pass0 (pa_cons (pv 0) (pa_cons (pv 2) pa_nil))) (pe_call G_sum_below (hr.mono (by decide)) (by rfl) m_sum_below k_sum_below b_sum_below .nil pass0 (pa_cons (pv 0) (pa_cons (pv 1) pa_nil))))))), ?_⟩
  refine ⟨_, rfl, _, rfl, _, _, rfl, rfl, _, rfl, ite3 (fun e => ?_) (fun e => ?_)⟩
  · have k := k _ (Same.refl _)
    rw [if_pos (by omega)] at k
    exact k
  · refine ⟨_, rfl, _, rfl, d, T0, p, r, hi, rfl, R, o, b, hb, fun H1 s1 => ?_⟩
    refine ⟨_, rfl, _, rfl, d, T0, p, r, lo, rfl, R.same s1, o, b, lb, fun H2 s2 => ?_⟩
    have k := k _ (s1.trans s2)
    rw [if_neg (by omega)] at k
    exact ⟨_, _, rfl, rfl, k⟩
end
end Sm

set_option Elab.async false
set_option linter.all false
set_option maxRecDepth 100000
set_option maxHeartbeats 32000000
namespace Sm
open PySem PySem.Spec PyProof.Rows L2
def sp_law (K : PySem.W.Frag) : Sp := fun vs H Q _ => ∃ (a : Addr) (ns : List Int), vs = [.ref a] ∧ SqL K H a (ns.map V.int) ∧ ns.length ≤ 63 ∧ ∀ H', Q (.bl true) H'
theorem vl_top {T : List Int} {p : Nat} {r : Int} (o : RuleOk T p r) (b : RB T p r) : ∀ x : Nat, vl T p r x ≤ 10000000000000 * ((x : Int) + 2) := by
  intro x
  induction x using Nat.strongRecOn with
  | _ x ih =>
    have p0 := o.p0
    have p1 := o.p1
    have r1 := b.r1
    by_cases q : x < T.length
    · rw [vl_lt q]
      have := b.top x q
      omega
    · rw [vl_step p0 o.p1 (by omega)]
      have := ih (x - p) (by have := o.p1; omega)
      omega
theorem small_log {i : Int} (h0 : 0 ≤ i) (h1 : i ≤ 1000000000000000000000000000000000000000000000000000000000000000000000000000000000000000000) : i.natAbs.log2 < 1920 :=
  Nat.lt_of_lt_of_le (PySem.Flt.log2_lt_of (k := 310) (by decide) (by omega)) (by decide)
/-- the five sizes -/
theorem sizes {H : Hp} {t1 t2 t3 t4 t5 : Addr} {i : Nat} (hi : i < 5) (h1 : H t1 = some (.tup [.int 4, .int 4, .int 2])) (h2 : H t2 = some (.tup [.int 0, .int 12, .int 3])) (h3 : H t3 = some (.tup [.int 20, .int 6, .int (10 ^ 9)]))
    (h4 : H t4 = some (.tup [.int 8, .int 30, .int 1])) (h5 : H t5 = some (.tup [.int 160, .int 30, .int (10 ^ 9)])) :
    ∃ (tv : Addr) (lo wi ta : Int), [V.ref t1, V.ref t2, V.ref t3, V.ref t4, V.ref t5][i]? = some (.ref tv) ∧ H tv = some (.tup [.int lo, .int wi, .int ta]) ∧ 0 ≤ lo ∧ lo ≤ 200 ∧ 1 ≤ wi ∧ wi ≤ 40 ∧ 0 ≤ ta ∧ ta ≤ 1000000000 := by
  obtain rfl | rfl | rfl | rfl | rfl : i = 0 ∨ i = 1 ∨ i = 2 ∨ i = 3 ∨ i = 4 := by omega
  · exact ⟨t1, 4, 4, 2, rfl, h1, by decide, by decide, by decide, by decide, by decide, by decide⟩
  · exact ⟨t2, 0, 12, 3, rfl, h2, by decide, by decide, by decide, by decide, by decide, by decide⟩
  · exact ⟨t3, 20, 6, 10 ^ 9, rfl, h3, by decide, by decide, by decide, by decide, by decide, by decide⟩
  · exact ⟨t4, 8, 30, 1, rfl, h4, by decide, by decide, by decide, by decide, by decide, by decide⟩
  · exact ⟨t5, 160, 30, 10 ^ 9, rfl, h5, by decide, by decide, by decide, by decide, by decide, by decide⟩
theorem one_rule (v : Int) (h0 : 0 ≤ v) (r : Int) (r0 : 0 ≤ r) : RuleOk [v] 1 r := ⟨by decide, by show 1 ≤ 1; decide, r0, fun i hi => by have hi : i < 1 := hi; rw [show i = 0 by omega]; exact h0, fun i hi => by have hi : i + 1 < 1 := hi; omega, by show v ≤ v + r; omega⟩
theorem two_rule : RuleOk [0, 0] 2 1 := ⟨by decide, by decide, by decide, fun i hi => by
    have hi : i < 2 := hi
    obtain rfl | rfl : i = 0 ∨ i = 1 := by omega
    all_goals decide, fun i hi => by
    have hi : i + 1 < 2 := hi
    rw [show i = 0 by omega]
    decide, by decide⟩
theorem end1 : (if (10 ^ 39 : Nat) ≤ 0 then 0 else sm [0] 1 1 (10 ^ 39) - sm [0] 1 1 0) = (10 : Int) ^ 39 * (10 ^ 39 - 1) / 2 := by
  rw [if_neg (by decide +kernel), sm_eq (one_rule 0 (by decide) 1 (by decide)) (by decide +kernel)]
  decide +kernel
theorem end2 : (if (2 * 10 ^ 39 : Nat) ≤ 0 then 0 else sm [0, 0] 2 1 (2 * 10 ^ 39) - sm [0, 0] 2 1 0) = (10 : Int) ^ 39 * (10 ^ 39 - 1) := by
  rw [if_neg (by decide +kernel), sm_eq two_rule (by decide +kernel)]
  decide +kernel
theorem end3 : (if (10 ^ 39 : Nat) ≤ 5 then 0 else sm [4] 1 0 (10 ^ 39) - sm [4] 1 0 5) = (4 : Int) * (10 ^ 39 - 5) := by
  rw [if_neg (by decide +kernel), sm_eq (one_rule 4 (by decide) 0 (by decide)) (x := 10 ^ 39) (by decide +kernel), sm_eq (one_rule 4 (by decide) 0 (by decide)) (x := 5) (by decide +kernel)]
  decide +kernel
section
variable {P : Program} {w : World} {K : PySem.W.Frag} {mg : Str → Option Value} {base : Heap}
abbrev s_law : Stmt := topS 11
abbrev N_law : List Str := ["_law_script", "_law_deck_here", "_law_turn", "_law_long", "_law_wide", "_law_tall", "_law_rule_here", "_law_start", "_law_many", "_law_again", "_law_far", "_law_low", "_law_high", "_law_due", "_law_told", "_law_x"]
theorem sc_law : FnScope N_law ["_law_script"] (defScope s_law) := ⟨rfl, rfl, rfl, by decide +kernel, rfl, by decide +kernel, by decide +kernel⟩
theorem ok_lawG {f : Addr} {fd : FuncData} (T : Txt mg) (F : Fun K "law" "law" s_law f fd) (C_sum_of : Cal P w K mg base "sum_of" ["rule", "low", "high"] 2 (sp_sum_of K)) (C_l_value : Cal P w K mg base "_law_value" ["_law_rule_here", "_law_x"] 1 (sp_l_value K)) (C_l_one : Cal P w K mg base "_law_one" ["_law_deck_here", "_law_items"] 2 (sp_l_one K)) (C_l_draw : Cal P w K mg base "_law_draw" ["_law_deck_here", "_law_many"] 1 (sp_l_draw K)) (C_l_rule : Cal P w K mg base "_law_rule" ["_law_deck_here", "_law_long", "_law_wide", "_law_tall"] 4 (sp_l_rule K)) (C_l_deck : Cal P w K mg base "_law_deck" ["_law_script"] 1 (sp_l_deck K)) : FnG P w K mg base 5 f fd ["_law_script"] (sp_law K) := by
  obtain ⟨f_sum_of, fd_sum_of, G_sum_of, m_sum_of, k_sum_of, b_sum_of⟩ := C_sum_of
  obtain ⟨f_l_value, fd_l_value, G_l_value, m_l_value, k_l_value, b_l_value⟩ := C_l_value
  obtain ⟨f_l_one, fd_l_one, G_l_one, m_l_one, k_l_one, b_l_one⟩ := C_l_one
  obtain ⟨f_l_draw, fd_l_draw, G_l_draw, m_l_draw, k_l_draw, b_l_draw⟩ := C_l_draw
  obtain ⟨f_l_rule, fd_l_rule, G_l_rule, m_l_rule, k_l_rule, b_l_rule⟩ := C_l_rule
  obtain ⟨f_l_deck, fd_l_deck, G_l_deck, m_l_deck, k_l_deck, b_l_deck⟩ := C_l_deck
  refine FnG.body F sc_law (fun vs H Q E h => ?_) (fun cdv A outer s H vs Q E gu hr h => ?_)
  · obtain ⟨a, ns, rfl, _⟩ := h
    rfl
  obtain ⟨a, ns, rfl, hS, hlen, kk⟩ := h
  refine ⟨_, (pss_cons (ps_set (i := 1) sc_law.nd rfl (Or.inl rfl) (pe_call G_l_deck (hr.mono (by decide)) (by rfl) m_l_deck k_l_deck b_l_deck .nil pass0 (pa_cons (pv 0) pa_nil)))
    (pss_cons (ps_for PassesOwn.never rfl (pi_range1 (by rfl) T.n_range (pa_cons pe_int pa_nil)) (pg_name (i := 2) sc_law.nd rfl (Or.inl rfl))
      (pss_cons (ps_asg (pe_ix ix_list (pe_lst (pa_cons (pe_tup (pa_cons pe_int (pa_cons pe_int (pa_cons pe_int pa_nil)))) (pa_cons (pe_tup (pa_cons pe_int (pa_cons pe_int (pa_cons pe_int pa_nil)))) (pa_cons (pe_tup (pa_cons pe_int (pa_cons pe_int (pa_cons (pe_op op_pow pe_int pe_int) pa_nil)))) (pa_cons (pe_tup (pa_cons pe_int (pa_cons pe_int (pa_cons pe_int pa_nil)))) (pa_cons (pe_tup (pa_cons pe_int (pa_cons pe_int (pa_cons (pe_op op_pow pe_int pe_int) pa_nil)))) pa_nil)))))) (pv 2) (fun _ _ => rfl)) (pg_tup (by rfl) (pgs_cons (pg_name (i := 3) sc_law.nd rfl (Or.inl rfl)) (pgs_cons (pg_name (i := 4) sc_law.nd rfl (Or.inl rfl)) (pgs_cons (pg_name (i := 5) sc_law.nd rfl (Or.inl rfl)) pgs_nil)))))
    (pss_cons (ps_set (i := 6) sc_law.nd rfl (Or.inr rfl) (pe_call G_l_rule (hr.mono (by decide)) (by rfl) m_l_rule k_l_rule b_l_rule .nil pass0 (pa_cons (pv 1) (pa_cons (pv 3) (pa_cons (pv 4) (pa_cons (pv 5) pa_nil))))))
    (pss_cons (ps_par (i := 7) (j := 8) (by rfl) sc_law.nd rfl rfl (by decide) rfl rfl (pa_cons (pe_op op_sub (pe_callB call_len_seq (by rfl) T.n_len (by decide +kernel) (pa_cons (pe_ix ix_tup (pv 6) pe_int (fun _ _ => rfl)) pa_nil)) (pe_ix ix_tup (pv 6) pe_int (fun _ _ => rfl))) (pa_cons (pe_callB call_len_seq (by rfl) T.n_len (by decide +kernel) (pa_cons (pe_ix ix_tup (pv 6) pe_int (fun _ _ => rfl)) pa_nil)) pa_nil)) (by rfl))
    (pss_one (ps_for PassesOwn.never rfl (pi_range1 (by rfl) T.n_range (pa_cons pe_int pa_nil)) (pg_name (i := 9) sc_law.nd rfl (Or.inl rfl))
      (pss_cons (ps_set (i := 10) sc_law.nd rfl (Or.inl rfl) (pe_op op_mul (pe_call G_l_draw (hr.mono (by decide)) (by rfl) m_l_draw k_l_draw b_l_draw .nil pass0 (pa_cons (pv 1) (pa_cons (pe_op op_pow pe_int pe_int) pa_nil))) (pe_call G_l_one (hr.mono (by decide)) (by rfl) m_l_one k_l_one b_l_one .nil pass0 (pa_cons (pv 1) (pa_cons (pe_lst (pa_cons pe_int (pa_cons (pe_op op_pow pe_int pe_int) (pa_cons (pe_op op_pow pe_int pe_int) pa_nil)))) pa_nil)))))
    (pss_cons (ps_set (i := 11) sc_law.nd rfl (Or.inl rfl) (pe_call G_l_one (hr.mono (by decide)) (by rfl) m_l_one k_l_one b_l_one .nil pass0 (pa_cons (pv 1) (pa_cons (pe_lst (pa_cons pe_int (pa_cons (pv 7) (pa_cons (pe_callB (call_max2 rfl) (by rfl) T.n_max (by decide +kernel) (pa_cons pe_int (pa_cons (pe_op op_sub (pv 7) pe_int) pa_nil))) (pa_cons (pv 8) (pa_cons (pe_op op_sub (pv 8) pe_int) (pa_cons (pe_call G_l_draw (hr.mono (by decide)) (by rfl) m_l_draw k_l_draw b_l_draw .nil pass0 (pa_cons (pv 1) (pa_cons (pe_op op_mul pe_int (pv 8)) pa_nil))) (pa_cons (pv 10) pa_nil)))))))) pa_nil))))
    (pss_cons (ps_set (i := 12) sc_law.nd rfl (Or.inl rfl) (pe_op op_add (pv 11) (pe_call G_l_one (hr.mono (by decide)) (by rfl) m_l_one k_l_one b_l_one .nil pass0 (pa_cons (pv 1) (pa_cons (pe_lst (pa_cons pe_int (pa_cons pe_int (pa_cons (pe_ix ix_tup (pv 6) pe_int (fun _ _ => rfl)) (pa_cons (pe_op op_add (pe_op op_mul pe_int (pe_ix ix_tup (pv 6) pe_int (fun _ _ => rfl))) pe_int) (pa_cons (pe_call G_l_draw (hr.mono (by decide)) (by rfl) m_l_draw k_l_draw b_l_draw .nil pass0 (pa_cons (pv 1) (pa_cons pe_int pa_nil))) pa_nil)))))) pa_nil)))))
    (pss_cons (ps_set (i := 13) sc_law.nd rfl (Or.inl rfl) (pe_callB (cr_sum rfl) (by rfl) T.n_sum (by decide +kernel) (pa_cons (pe_lc (own := [("_law_x", 15)]) (g := gName 15) (tt := tYes) rfl sc_law.nd (pi_range2W (by rfl) T.n_range (pa_cons (pv 11) (pa_cons (pv 12) pa_nil))) (blkOk_by (own := [("_law_x", 15)]) (N := N_law) (sc := defScope s_law) (by decide +kernel)) (fun _ _ _ _ _ => pg_name (i := 15) sc_law.nd rfl (Or.inl rfl)) (fun _ _ _ _ _ => pts_nil) (fun _ _ _ _ _ => (pe_call G_l_value (hr.mono (by decide)) (by rfl) m_l_value k_l_value b_l_value .nil pass0 (pa_cons (pv 6) (pa_cons (pv 15) pa_nil))))) pa_nil)))
    (pss_cons (ps_if (pt_cmpR op_ne (pe_callB (call_repr_ints gu ⟨_, hr⟩) (by rfl) T.n_repr (by decide +kernel) (pa_cons (pe_lst (pa_cons (pe_call G_sum_of (hr.mono (by decide)) (by rfl) m_sum_of k_sum_of b_sum_of .nil pass0 (pa_cons (pv 6) (pa_cons (pv 11) (pa_cons (pv 12) pa_nil)))) (pa_cons (pe_call G_sum_of (hr.mono (by decide)) (by rfl) m_sum_of k_sum_of b_sum_of .nil pass0 (pa_cons (pv 6) (pa_cons (pv 11) (pa_cons (pv 12) pa_nil)))) pa_nil))) pa_nil)) (pe_callB (call_repr_ints gu ⟨_, hr⟩) (by rfl) T.n_repr (by decide +kernel) (pa_cons (pe_lst (pa_cons (pv 13) (pa_cons (pv 13) pa_nil))) pa_nil)) (nomark _)) (pss_one (ps_ret pe_bl)) pss_nil)
    (pss_one (ps_if (PW.pt (pw_and (pt_cmpR op_ne (pe_call G_sum_of (hr.mono (by decide)) (by rfl) m_sum_of k_sum_of b_sum_of .nil pass0 (pa_cons (pv 6) (pa_cons (pv 12) (pa_cons (pv 11) pa_nil)))) pe_int (nomark _)) (pw_and1 (pt_cmpR op_gt (pv 12) (pv 11) (nomark _))))) (pss_one (ps_ret pe_bl)) pss_nil)))))))))))))
    (pss_cons (ps_set (i := 8) sc_law.nd rfl (Or.inl rfl) (pe_op op_pow pe_int pe_int))
    (pss_cons (ps_set (i := 14) sc_law.nd rfl (Or.inl rfl) (pe_lst (pa_cons (pe_call G_sum_of (hr.mono (by decide)) (by rfl) m_sum_of k_sum_of b_sum_of .nil pass0 (pa_cons (pe_tup (pa_cons (pe_tup (pa_cons pe_int pa_nil)) (pa_cons pe_int (pa_cons pe_int pa_nil)))) (pa_cons pe_int (pa_cons (pv 8) pa_nil)))) (pa_cons (pe_call G_sum_of (hr.mono (by decide)) (by rfl) m_sum_of k_sum_of b_sum_of .nil pass0 (pa_cons (pe_tup (pa_cons (pe_tup (pa_cons pe_int (pa_cons pe_int pa_nil))) (pa_cons pe_int (pa_cons pe_int pa_nil)))) (pa_cons pe_int (pa_cons (pe_op op_mul pe_int (pv 8)) pa_nil)))) (pa_cons (pe_call G_sum_of (hr.mono (by decide)) (by rfl) m_sum_of k_sum_of b_sum_of .nil pass0 (pa_cons (pe_tup (pa_cons (pe_tup (pa_cons pe_int pa_nil)) (pa_cons pe_int (pa_cons pe_int pa_nil)))) (pa_cons pe_int (pa_cons (pv 8) pa_nil)))) pa_nil)))))
    (pss_one (ps_ret (pe_cmpR (op_eqD hr.units) (pv 14) (pe_lst (pa_cons (pe_op op_fdivW (pe_op op_mulW (pv 8) (pe_op op_sub (pv 8) pe_int)) pe_int) (pa_cons (pe_op op_mulW (pv 8) (pe_op op_sub (pv 8) pe_int)) (pa_cons (pe_op op_mul pe_int (pe_op op_sub (pv 8) pe_int)) pa_nil)))) (nomark _)))))))), ?_⟩
  refine ⟨_, rfl, a, ns, rfl, hS, hlen, fun H1 p l s1 D1 => ?_⟩
  refine ⟨5, rfl, (by decide), (by decide), for_range (lo := 0) (n := 5) (fun i σ H' => ∃ (n : Int) (v2 v3 v4 v5 v6 v7 v8 v9 v10 v11 v12 v13 v14 v15 : Option V), σ = [some (.ref a), some (.ref p), v2, v3, v4, v5, v6, v7, v8, v9, v10, v11, v12, v13, v14, v15] ∧ Deck H' p l n ∧ 0 ≤ n ∧ n ≤ 2000 * (i : Int))
    ⟨0, none, none, none, none, none, none, none, none, none, none, none, none, none, none, rfl, D1, by omega, by omega⟩ ?_ ?_⟩
  · rintro i σ H2 hi ⟨n, v2, v3, v4, v5, v6, v7, v8, v9, v10, v11, v12, v13, v14, v15, rfl, D2, n0, n1⟩
    -- the sizes
    refine ⟨(by show 3 ≤ sizeLine; decide), fun t1 nt1 => ⟨(by show 3 ≤ sizeLine; decide), fun t2 nt2 => ⟨_, _, rfl, rfl, ⟨by decide, by decide, by decide⟩, (by show 3 ≤ sizeLine; decide), fun t3 nt3 => ⟨(by show 3 ≤ sizeLine; decide), fun t4 nt4 =>
      ⟨_, _, rfl, rfl, ⟨by decide, by decide, by decide⟩, (by show 3 ≤ sizeLine; decide), fun t5 nt5 => ⟨(by show 5 ≤ sizeLine; decide), fun tb ntb => ?_⟩⟩⟩⟩⟩⟩
    have u1 := same_upd (o := .tup [.int 4, .int 4, .int 2]) nt1
    have u2 := same_upd (o := .tup [.int 0, .int 12, .int 3]) nt2
    have u3 := same_upd (o := .tup [.int 20, .int 6, .int (10 ^ 9)]) nt3
    have u4 := same_upd (o := .tup [.int 8, .int 30, .int 1]) nt4
    have u5 := same_upd (o := .tup [.int 160, .int 30, .int (10 ^ 9)]) nt5
    have ub := same_upd (o := .lst [.ref t1, .ref t2, .ref t3, .ref t4, .ref t5]) ntb
    obtain ⟨tv, lo, wi, ta, hget, htv, lo0, lo1, wi0, wi1, ta0, ta1⟩ := sizes hi ((u2.trans (u3.trans (u4.trans (u5.trans ub)))) _ _ upd_same) ((u3.trans (u4.trans (u5.trans ub))) _ _ upd_same) ((u4.trans (u5.trans ub)) _ _ upd_same) ((u5.trans ub) _ _ upd_same) (ub _ _ upd_same)
    have D3 := D2.same (u1.trans (u2.trans (u3.trans (u4.trans (u5.trans ub)))))
    refine ⟨_, rfl, _, _, _, _, rfl, rfl, SqL.of upd_same, at_of (j := i) (Int.zero_add _) hget, _, _, rfl, SqT.of htv, rfl, _, _, rfl, _, _, rfl, _, _, rfl, rfl, ?_⟩
    -- rule
    refine ⟨_, rfl, _, rfl, _, rfl, _, rfl, p, l, n, lo, wi, ta, rfl, D3, n0, by omega, lo0, lo1, wi0, wi1, ta0, ta1, fun H4 d T0 pp r n2 f4 D4 m0 m1 R4 o b => ?_⟩
    have p0 := o.p0
    have p1 := o.p1
    have bl := b.len
    obtain ⟨tt, hd4, ht4⟩ := id R4
    have ll := len_int T0
    -- start, many
    refine ⟨_, rfl, _, _, _, _, rfl, rfl, SqT.of hd4, atI_nat (j := 0) rfl, _, _, rfl, .inr (SqT.of ht4), _, rfl, _, _, _, _, rfl, rfl, SqT.of hd4, atI_nat (j := 1) rfl, _, _, rfl, rfl, _, rfl, _, _, _, _, rfl, rfl, SqT.of hd4, atI_nat (j := 0) rfl, _, _, rfl, .inr (SqT.of ht4), _, _, rfl, ?_⟩
    refine ⟨8, rfl, (by decide), (by decide), for_range (lo := 0) (n := 8) (fun j σ H' => ∃ (n3 : Int) (u9 u10 u11 u12 u13 : Option V), σ = [some (.ref a), some (.ref p), some (.int (0 + (i : Int))), some (.int lo), some (.int wi), some (.int ta), some (.ref d), some (.int ((((T0.map V.int).length : Nat) : Int) - (pp : Int))), some (.int (((T0.map V.int).length : Nat) : Int)), u9, u10, u11, u12, u13, v14, v15] ∧
      Deck H' p l n3 ∧ n2 ≤ n3 ∧ n3 ≤ n2 + 6 * (j : Int) ∧ RuleAt H' d T0 pp r)
      ⟨n2, _, _, _, _, _, rfl, D4, Int.le_refl _, by omega, R4⟩ ?_ ?_⟩
    · rintro j σ H5 hj ⟨n3, u9, u10, u11, u12, u13, rfl, D5, k0, k1, R5⟩
      -- far
      refine ⟨_, rfl, _, _, rfl, rfl, ⟨by decide, by decide, by decide⟩, p, l, n3, 10 ^ 9, rfl, D5, by omega, by omega, by decide, by decide, fun x1 H6 x10 x11 f6 D6 => ?_⟩
      refine ⟨_, rfl, _, _, rfl, rfl, ⟨by decide, by decide, by decide⟩, _, _, rfl, rfl, ⟨by decide, by decide, by decide⟩, (by show 3 ≤ sizeLine; decide), fun c nc => ?_⟩
      have sc := same_upd (o := .lst [.int 10, .int (10 ^ 9), .int (10 ^ 29)]) nc
      obtain ⟨cp, cl⟩ := D6.lne nc
      refine ⟨p, l, c, n3 + 1, _, rfl, D6.same sc, by omega, by omega, upd_same, cp, cl, (by show 0 < 3; decide), (by show 3 ≤ 1000; decide), fun ov H7 ovm f7 D7 => ?_⟩
      obtain ⟨ow, w0, w1, rfl⟩ : ∃ ow : Int, 0 ≤ ow ∧ ow ≤ 100000000000000000000000000000 ∧ ov = .int ow := by
        have ovm : ov ∈ [V.int 10, V.int (10 ^ 9), V.int (10 ^ 29)] := ovm
        rcases List.mem_cons.mp ovm with q | q
        · exact ⟨10, by decide, by decide, q⟩
        rcases List.mem_cons.mp q with q | q
        · exact ⟨10 ^ 9, by decide, by decide, q⟩
        · exact ⟨10 ^ 29, by decide, by decide, List.mem_singleton.mp q⟩
      have x11 : x1 < 1000000000 := x11
      have xw : x1 * ow ≤ 1000000000 * 100000000000000000000000000000 := Int.mul_le_mul (by omega) w1 w0 (by omega)
      have x0 : 0 ≤ x1 * ow := Int.mul_nonneg x10 w0
      refine ⟨_, _, rfl, rfl, .inl ⟨by omega, by omega⟩, ?_⟩
      have R7 := (R5.fr f6 D5).fr ((Same.fr sc).trans f7) D6
      -- low
      refine ⟨_, rfl, _, rfl, _, rfl, _, _, rfl, rfl, _, _, rfl, _, rfl, _, rfl, _, _, rfl, rfl, _, rfl, _, rfl, _, _, rfl, rfl, .inl ⟨by decide, by decide⟩, p, l, n3 + 1 + 1, _, rfl, D7, by omega, by omega, by rw [ll]; omega, by rw [ll]; omega, fun x2 H8 x20 x21 f8 D8 => ?_⟩
      refine ⟨_, rfl, (by show 7 ≤ sizeLine; decide), fun c2 nc2 => ?_⟩
      have sc2 := same_upd (o := .lst [.int 0, .int ((((T0.map V.int).length : Nat) : Int) - (pp : Int)), .int (if (((T0.map V.int).length : Nat) : Int) - (pp : Int) - 1 > 0 then (((T0.map V.int).length : Nat) : Int) - (pp : Int) - 1 else 0), .int (((T0.map V.int).length : Nat) : Int), .int ((((T0.map V.int).length : Nat) : Int) - 1), .int x2, .int (x1 * ow)]) nc2
      obtain ⟨cp2, cl2⟩ := D8.lne nc2
      refine ⟨p, l, c2, n3 + 1 + 1 + 1, _, rfl, D8.same sc2, by omega, by omega, upd_same, cp2, cl2, (by show 0 < 7; decide), (by show 7 ≤ 1000; decide), fun lv H9 lvm f9 D9 => ?_⟩
      obtain ⟨low, low1, rfl⟩ : ∃ low : Nat, low ≤ 1000000000000000000000000000000000000000 ∧ lv = .int (low : Int) := by
        have to : ∀ z : Int, 0 ≤ z → z ≤ 1000000000000000000000000000000000000000 → lv = .int z → ∃ low : Nat, low ≤ 1000000000000000000000000000000000000000 ∧ lv = .int (low : Int) := fun z h0 h1 e => ⟨z.toNat, by omega, by rw [e, Int.toNat_of_nonneg h0]⟩
        have x21 : x2 < 3 * (((T0.map V.int).length : Nat) : Int) := x21
        rw [ll] at x21
        have lvm : lv ∈ [V.int 0, .int ((((T0.map V.int).length : Nat) : Int) - (pp : Int)), .int (if (((T0.map V.int).length : Nat) : Int) - (pp : Int) - 1 > 0 then (((T0.map V.int).length : Nat) : Int) - (pp : Int) - 1 else 0), .int (((T0.map V.int).length : Nat) : Int), .int ((((T0.map V.int).length : Nat) : Int) - 1), .int x2, .int (x1 * ow)] := lvm
        rw [ll] at lvm
        rcases List.mem_cons.mp lvm with q | q
        · exact to _ (by decide) (by decide) q
        rcases List.mem_cons.mp q with q | q
        · exact to _ (by omega) (by omega) q
        rcases List.mem_cons.mp q with q | q
        · exact to _ (by split <;> omega) (by split <;> omega) q
        rcases List.mem_cons.mp q with q | q
        · exact to _ (by omega) (by omega) q
        rcases List.mem_cons.mp q with q | q
        · exact to _ (by omega) (by omega) q
        rcases List.mem_cons.mp q with q | q
        · exact to _ (by omega) (by omega) q
        · exact to _ (by omega) (by omega) (List.mem_singleton.mp q)
      have R9 := (R7.fr f8 D7).fr ((Same.fr sc2).trans f9) D8
      obtain ⟨tt9, hd9, ht9⟩ := id R9
      -- high
      refine ⟨_, rfl, _, rfl, _, rfl, _, _, _, _, rfl, rfl, SqT.of hd9, atI_nat (j := 1) rfl, _, rfl, _, _, _, _, rfl, rfl, SqT.of hd9, atI_nat (j := 1) rfl, _, _, rfl, rfl, .inl ⟨by decide, by decide⟩, _, _, rfl, rfl, _, rfl, p, l, _, 120, rfl, D9, by omega, by omega, by omega, by omega, fun x3 H10 x30 x31 f10 D10 => ?_⟩
      refine ⟨(by show 5 ≤ sizeLine; decide), fun c3 nc3 => ?_⟩
      have sc3 := same_upd (o := .lst [.int 0, .int 1, .int (pp : Int), .int (2 * (pp : Int) + 1), .int x3]) nc3
      obtain ⟨cp3, cl3⟩ := D10.lne nc3
      refine ⟨p, l, c3, _, _, rfl, D10.same sc3, by omega, by omega, upd_same, cp3, cl3, (by show 0 < 5; decide), (by show 5 ≤ 1000; decide), fun kv H11 kvm f11 D11 => ?_⟩
      obtain ⟨k, kb, rfl⟩ : ∃ k : Nat, k ≤ 1000 ∧ kv = .int (k : Int) := by
        have to : ∀ z : Int, 0 ≤ z → z ≤ 1000 → kv = .int z → ∃ k : Nat, k ≤ 1000 ∧ kv = .int (k : Int) := fun z h0 h1 e => ⟨z.toNat, by omega, by rw [e, Int.toNat_of_nonneg h0]⟩
        have kvm : kv ∈ [V.int 0, .int 1, .int (pp : Int), .int (2 * (pp : Int) + 1), .int x3] := kvm
        rcases List.mem_cons.mp kvm with q | q
        · exact to _ (by decide) (by decide) q
        rcases List.mem_cons.mp q with q | q
        · exact to _ (by decide) (by decide) q
        rcases List.mem_cons.mp q with q | q
        · exact to _ (by omega) (by omega) q
        rcases List.mem_cons.mp q with q | q
        · exact to _ (by omega) (by omega) q
        · exact to _ (by omega) (by omega) (List.mem_singleton.mp q)
      have R11 := (R9.fr f10 D9).fr ((Same.fr sc3).trans f11) D10
      refine ⟨_, _, rfl, rfl, ?_⟩
      -- due
      refine ⟨_, rfl, _, rfl, _, _, rfl, fun U nU => ?_⟩
      have sU := same_upd (o := .lst []) nU
      have cnt : ((low : Int) + (k : Int) - (low : Int)).toNat = k := by omega
      rw [cnt]
      refine lc_range (lo := (low : Int)) (n := k) (fun j H' => Same H11 H' ∧ H' U = some (.lst (((List.range j).map fun i => vl T0 pp r (low + i)).map V.int))) ⟨sU, upd_same⟩ ?_ ?_
      · rintro q H' hq ⟨sm', hU⟩
        refine ⟨rfl, ?_⟩
        unfold tYes
        refine iteT ?_
        refine ⟨_, rfl, _, rfl, d, T0, pp, r, low + q, rfl, R11.same sm', o, b, _, hU, ?_, fun b' u e' => ?_, ?_⟩
        · rw [List.length_map, List.length_map, List.length_range]
          exact small1000 (by omega)
        · rw [upd_ne (ne_of_none e' nU)]
          exact sm' _ _ e'
        · rw [upd_same, List.range_succ, List.map_append, List.map_append]
          rfl
      rintro H12 ⟨s12, hU⟩
      have R12 := R11.same s12
      have D12 := D11.same s12
      refine ⟨U, _, rfl, SqL.of hU, ?_⟩
      have all : ∀ x, x < low + k → vl T0 pp r x ≤ 100000000000000000000000000000000000000000000000000000000 := fun x hx => by
        have := vl_top o b x
        omega
      obtain ⟨S0, S1⟩ := sm_up o low k all
      rw [sm_part]
      have same0 : ∀ H' : Hp, (if low + k ≤ low then 0 else sm T0 pp r (low + k) - sm T0 pp r low) = sm T0 pp r (low + k) - sm T0 pp r low := fun _ => by
        split
        · rw [show k = 0 by omega, Nat.add_zero]
          omega
        · rfl
      have same0 := same0 H12
      generalize hS : sm T0 pp r (low + k) - sm T0 pp r low = S at S0 S1 same0 ⊢
      have slog : ∀ y ∈ [S, S], y.natAbs.log2 < 1920 := by
        intro y hy
        have : y = S := by
          rcases List.mem_cons.mp hy with q | q
          · exact q
          · exact List.mem_singleton.mp q
        rw [this]
        exact small_log S0 (by omega)
      -- twice sum_of
      refine ⟨_, rfl, _, rfl, _, rfl, d, T0, pp, r, low, low + k, rfl, R12, o, b, by omega, by omega, fun H13 s13 => ?_⟩
      refine ⟨_, rfl, _, rfl, _, rfl, d, T0, pp, r, low, low + k, rfl, R12.same s13, o, b, by omega, by omega, fun H14 s14 => ?_⟩
      refine ⟨(by show 2 ≤ sizeLine; decide), fun L1 nL1 => ?_⟩
      rw [hS, same0]
      have sL1 := same_upd (o := .lst [.int S, .int S]) nL1
      refine ⟨L1, [S, S], rfl, SqL.of upd_same, (by show 2 ≤ 5000; decide), slog, ?_⟩
      refine ⟨_, rfl, _, rfl, (by show 2 ≤ sizeLine; decide), fun L2 nL2 => ?_⟩
      have sL2 := same_upd (o := .lst [.int S, .int S]) nL2
      refine ⟨L2, [S, S], rfl, SqL.of upd_same, (by show 2 ≤ 5000; decide), slog, rfl, _, rfl, iteNP rfl ?_⟩
      have s15 := s13.trans (s14.trans (sL1.trans sL2))
      -- an empty range
      refine ⟨_, rfl, _, rfl, _, rfl, d, T0, pp, r, low + k, low, rfl, R12.same s15, o, b, by omega, by omega, fun H16 s16 => ?_⟩
      refine ⟨rfl, _, rfl, iteNP (congrArg V.int (if_pos (by omega))) (iteF ?_)⟩
      exact ⟨_, _, _, _, _, _, rfl, D12.same (s15.trans s16), by omega, by omega, R12.same (s15.trans s16)⟩
    · rintro σ H5 ⟨n3, u9, u10, u11, u12, u13, rfl, D5, k0, k1, R5⟩
      exact ⟨n3, _, _, _, _, _, _, _, _, _, _, _, _, _, _, rfl, D5, by omega, by omega⟩
  · rintro σ H' ⟨n, v2, v3, v4, v5, v6, v7, v8, v9, v10, v11, v12, v13, v14, v15, rfl, D2, n0, n1⟩
    have m39 : (10 : Int) ^ Int.toNat 39 = ((10 ^ 39 : Nat) : Int) := by decide +kernel
    have m239 : (2 : Int) * 10 ^ Int.toNat 39 = ((2 * 10 ^ 39 : Nat) : Int) := by decide +kernel
    have rb1 : ∀ (v r : Int), 0 ≤ v → v ≤ 10 → r ≤ 10 → RB [v] 1 r := fun v r h0 h1 h2 => ⟨by show 1 ≤ 300; decide, by omega, fun i hi => by have hi : i < 1 := hi; rw [show i = 0 by omega]; show v ≤ _; omega⟩
    refine ⟨_, _, rfl, rfl, ⟨by decide, by decide, by decide⟩, ?_⟩
    refine ⟨(by show 1 ≤ sizeLine; decide), fun a1 na1 => ⟨(by show 3 ≤ sizeLine; decide), fun a2 na2 => ?_⟩⟩
    have z2 := same_upd (o := .tup [.ref a1, .int 1, .int 1]) na2
    refine ⟨_, rfl, a2, [0], 1, 1, 0, 10 ^ 39, congrArg (fun z => [V.ref a2, V.int 0, V.int z]) m39, ⟨a1, upd_same, z2 _ _ upd_same⟩, one_rule 0 (by decide) 1 (by decide), rb1 0 1 (by decide) (by decide) (by decide), by decide, by decide +kernel, fun H3 s3 => ?_⟩
    refine ⟨(by show 2 ≤ sizeLine; decide), fun a3 na3 => ⟨(by show 3 ≤ sizeLine; decide), fun a4 na4 => ?_⟩⟩
    have z4 := same_upd (o := .tup [.ref a3, .int 2, .int 1]) na4
    refine ⟨_, rfl, _, _, rfl, rfl, .inl ⟨by decide, by decide⟩, a4, [0, 0], 2, 1, 0, 2 * 10 ^ 39, congrArg (fun z => [V.ref a4, V.int 0, V.int z]) m239, ⟨a3, upd_same, z4 _ _ upd_same⟩, two_rule, ⟨by decide, by decide, fun i hi => by
      have hi : i < 2 := hi
      obtain rfl | rfl : i = 0 ∨ i = 1 := by omega
      all_goals decide⟩, by decide, by decide +kernel, fun H4 s4 => ?_⟩
    refine ⟨(by show 1 ≤ sizeLine; decide), fun a5 na5 => ⟨(by show 3 ≤ sizeLine; decide), fun a6 na6 => ?_⟩⟩
    have z6 := same_upd (o := .tup [.ref a5, .int 1, .int 0]) na6
    refine ⟨_, rfl, a6, [4], 1, 0, 5, 10 ^ 39, congrArg (fun z => [V.ref a6, V.int 5, V.int z]) m39, ⟨a5, upd_same, z6 _ _ upd_same⟩, one_rule 4 (by decide) 0 (by decide), rb1 4 0 (by decide) (by decide) (by decide), by decide, by decide +kernel, fun H5 s5 => ?_⟩
    refine ⟨(by show 3 ≤ sizeLine; decide), fun L1 nL1 => ?_⟩
    rw [end1, end2, end3]
    refine ⟨_, rfl, _, rfl, _, rfl, _, _, rfl, rfl, _, _, rfl, rfl, wide_mul (a := 200) (b := 200) (by decide +kernel) (by decide +kernel) (by decide) (by decide) (by decide), _, _, rfl, rfl, wide_div (b := 10) (by decide) (by decide) (by decide) (by decide), _, rfl, _, rfl, _, _, rfl, rfl, _, _, rfl, rfl, wide_mul (a := 200) (b := 200) (by decide +kernel) (by decide +kernel) (by decide) (by decide) (by decide), _, rfl, _, _, rfl, rfl, _, _, rfl, rfl, .inl ⟨by decide, by decide⟩, (by show 3 ≤ sizeLine; decide), fun L2 nL2 => ?_⟩
    have y2 := same_upd (o := .lst [.int (10 ^ 39 * (10 ^ 39 - 1) / 2), .int (10 ^ 39 * (10 ^ 39 - 1)), .int (4 * (10 ^ 39 - 5))]) nL2
    refine ⟨.list [.int (10 ^ 39 * (10 ^ 39 - 1) / 2), .int (10 ^ 39 * (10 ^ 39 - 1)), .int (4 * (10 ^ 39 - 5))], .list [.int (10 ^ 39 * (10 ^ 39 - 1) / 2), .int (10 ^ 39 * (10 ^ 39 - 1)), .int (4 * (10 ^ 39 - 5))], .lst (SqL.of (y2 _ _ upd_same)) (.cons (.int _) (.cons (.int _) (.cons (.int _) .nil))), .lst (SqL.of upd_same) (.cons (.int _) (.cons (.int _) (.cons (.int _) .nil))), rfl, rfl, ?_⟩
    have q : PyData.eqv (.list [.int (10 ^ 39 * (10 ^ 39 - 1) / 2), .int (10 ^ 39 * (10 ^ 39 - 1)), .int (4 * (10 ^ 39 - 5))]) (.list [.int (10 ^ 39 * (10 ^ 39 - 1) / 2), .int (10 ^ 39 * (10 ^ 39 - 1)), .int (4 * (10 ^ 39 - 5))]) = true := by decide +kernel
    rw [q]
    exact kk _
end
end Sm

set_option Elab.async false
set_option linter.all false
set_option maxRecDepth 100000
set_option maxHeartbeats 16000000
namespace Sm
open PySem PySem.Spec PyProof.Rows L2
theorem all_mk {l : PySem.W.OpenLaw} {w : World} {K : PySem.W.Frag} {h : Heap} {mg : Str → Option Value} {fa : Addr} (X : K.In h) (G : h.Ns mainGlobals mg) (hfa : mg "law" = some (.ref fa))
    {F_sum_of : Addr} {od_sum_of an_sum_of : Option Addr} {sl_sum_of : Array (Option Value)} {oc_sum_of kV_sum_of dc_sum_of pm_sum_of cd_sum_of ct_sum_of : Value} (a_sum_of : PySem.W.nsIn K mainGlobals "sum_of" = some (some (.ref F_sum_of))) (l_sum_of : K.lookup F_sum_of = some ⟨oc_sum_of, od_sum_of, .func (PySem.W.fnOf "sum_of" "sum_of" (defArgs s_sum_of) (defBody s_sum_of) (defScope s_sum_of) .none kV_sum_of dc_sum_of pm_sum_of an_sum_of cd_sum_of ct_sum_of), sl_sum_of⟩) (c_sum_of : PySem.W.codeIn K cd_sum_of "sum_of" = true) (k_sum_of : PySem.W.keepIn K (.ref F_sum_of) = true)
    {F_sum_below : Addr} {od_sum_below an_sum_below : Option Addr} {sl_sum_below : Array (Option Value)} {oc_sum_below kV_sum_below dc_sum_below pm_sum_below cd_sum_below ct_sum_below : Value} (a_sum_below : PySem.W.nsIn K mainGlobals "sum_below" = some (some (.ref F_sum_below))) (l_sum_below : K.lookup F_sum_below = some ⟨oc_sum_below, od_sum_below, .func (PySem.W.fnOf "sum_below" "sum_below" (defArgs s_sum_below) (defBody s_sum_below) (defScope s_sum_below) .none kV_sum_below dc_sum_below pm_sum_below an_sum_below cd_sum_below ct_sum_below), sl_sum_below⟩) (c_sum_below : PySem.W.codeIn K cd_sum_below "sum_below" = true) (k_sum_below : PySem.W.keepIn K (.ref F_sum_below) = true)
    {F_l_deck : Addr} {od_l_deck an_l_deck : Option Addr} {sl_l_deck : Array (Option Value)} {oc_l_deck kV_l_deck dc_l_deck pm_l_deck cd_l_deck ct_l_deck : Value} (a_l_deck : PySem.W.nsIn K mainGlobals "_law_deck" = some (some (.ref F_l_deck))) (l_l_deck : K.lookup F_l_deck = some ⟨oc_l_deck, od_l_deck, .func (PySem.W.fnOf "_law_deck" "_law_deck" (defArgs s_l_deck) (defBody s_l_deck) (defScope s_l_deck) .none kV_l_deck dc_l_deck pm_l_deck an_l_deck cd_l_deck ct_l_deck), sl_l_deck⟩) (c_l_deck : PySem.W.codeIn K cd_l_deck "_law_deck" = true) (k_l_deck : PySem.W.keepIn K (.ref F_l_deck) = true)
    {F_l_draw : Addr} {od_l_draw an_l_draw : Option Addr} {sl_l_draw : Array (Option Value)} {oc_l_draw kV_l_draw dc_l_draw pm_l_draw cd_l_draw ct_l_draw : Value} (a_l_draw : PySem.W.nsIn K mainGlobals "_law_draw" = some (some (.ref F_l_draw))) (l_l_draw : K.lookup F_l_draw = some ⟨oc_l_draw, od_l_draw, .func (PySem.W.fnOf "_law_draw" "_law_draw" (defArgs s_l_draw) (defBody s_l_draw) (defScope s_l_draw) .none kV_l_draw dc_l_draw pm_l_draw an_l_draw cd_l_draw ct_l_draw), sl_l_draw⟩) (c_l_draw : PySem.W.codeIn K cd_l_draw "_law_draw" = true) (k_l_draw : PySem.W.keepIn K (.ref F_l_draw) = true)
    {F_l_one : Addr} {od_l_one an_l_one : Option Addr} {sl_l_one : Array (Option Value)} {oc_l_one kV_l_one dc_l_one pm_l_one cd_l_one ct_l_one : Value} (a_l_one : PySem.W.nsIn K mainGlobals "_law_one" = some (some (.ref F_l_one))) (l_l_one : K.lookup F_l_one = some ⟨oc_l_one, od_l_one, .func (PySem.W.fnOf "_law_one" "_law_one" (defArgs s_l_one) (defBody s_l_one) (defScope s_l_one) .none kV_l_one dc_l_one pm_l_one an_l_one cd_l_one ct_l_one), sl_l_one⟩) (c_l_one : PySem.W.codeIn K cd_l_one "_law_one" = true) (k_l_one : PySem.W.keepIn K (.ref F_l_one) = true)
    {F_l_value : Addr} {od_l_value an_l_value : Option Addr} {sl_l_value : Array (Option Value)} {oc_l_value kV_l_value dc_l_value pm_l_value cd_l_value ct_l_value : Value} (a_l_value : PySem.W.nsIn K mainGlobals "_law_value" = some (some (.ref F_l_value))) (l_l_value : K.lookup F_l_value = some ⟨oc_l_value, od_l_value, .func (PySem.W.fnOf "_law_value" "_law_value" (defArgs s_l_value) (defBody s_l_value) (defScope s_l_value) .none kV_l_value dc_l_value pm_l_value an_l_value cd_l_value ct_l_value), sl_l_value⟩) (c_l_value : PySem.W.codeIn K cd_l_value "_law_value" = true) (k_l_value : PySem.W.keepIn K (.ref F_l_value) = true)
    {F_l_repeats : Addr} {od_l_repeats an_l_repeats : Option Addr} {sl_l_repeats : Array (Option Value)} {oc_l_repeats kV_l_repeats dc_l_repeats pm_l_repeats cd_l_repeats ct_l_repeats : Value} (a_l_repeats : PySem.W.nsIn K mainGlobals "_law_repeats" = some (some (.ref F_l_repeats))) (l_l_repeats : K.lookup F_l_repeats = some ⟨oc_l_repeats, od_l_repeats, .func (PySem.W.fnOf "_law_repeats" "_law_repeats" (defArgs s_l_repeats) (defBody s_l_repeats) (defScope s_l_repeats) .none kV_l_repeats dc_l_repeats pm_l_repeats an_l_repeats cd_l_repeats ct_l_repeats), sl_l_repeats⟩) (c_l_repeats : PySem.W.codeIn K cd_l_repeats "_law_repeats" = true) (k_l_repeats : PySem.W.keepIn K (.ref F_l_repeats) = true)
    {F_l_least : Addr} {od_l_least an_l_least : Option Addr} {sl_l_least : Array (Option Value)} {oc_l_least kV_l_least dc_l_least pm_l_least cd_l_least ct_l_least : Value} (a_l_least : PySem.W.nsIn K mainGlobals "_law_least" = some (some (.ref F_l_least))) (l_l_least : K.lookup F_l_least = some ⟨oc_l_least, od_l_least, .func (PySem.W.fnOf "_law_least" "_law_least" (defArgs s_l_least) (defBody s_l_least) (defScope s_l_least) .none kV_l_least dc_l_least pm_l_least an_l_least cd_l_least ct_l_least), sl_l_least⟩) (c_l_least : PySem.W.codeIn K cd_l_least "_law_least" = true) (k_l_least : PySem.W.keepIn K (.ref F_l_least) = true)
    {F_l_rule : Addr} {od_l_rule an_l_rule : Option Addr} {sl_l_rule : Array (Option Value)} {oc_l_rule kV_l_rule dc_l_rule pm_l_rule cd_l_rule ct_l_rule : Value} (a_l_rule : PySem.W.nsIn K mainGlobals "_law_rule" = some (some (.ref F_l_rule))) (l_l_rule : K.lookup F_l_rule = some ⟨oc_l_rule, od_l_rule, .func (PySem.W.fnOf "_law_rule" "_law_rule" (defArgs s_l_rule) (defBody s_l_rule) (defScope s_l_rule) .none kV_l_rule dc_l_rule pm_l_rule an_l_rule cd_l_rule ct_l_rule), sl_l_rule⟩) (c_l_rule : PySem.W.codeIn K cd_l_rule "_law_rule" = true) (k_l_rule : PySem.W.keepIn K (.ref F_l_rule) = true)
    {F_law : Addr} {od_law an_law : Option Addr} {sl_law : Array (Option Value)} {oc_law kV_law dc_law pm_law cd_law ct_law : Value} (a_law : PySem.W.nsIn K mainGlobals "law" = some (some (.ref F_law))) (l_law : K.lookup F_law = some ⟨oc_law, od_law, .func (PySem.W.fnOf "law" "law" (defArgs s_law) (defBody s_law) (defScope s_law) .none kV_law dc_law pm_law an_law cd_law ct_law), sl_law⟩) (c_law : PySem.W.codeIn K cd_law "law" = true) (k_law : PySem.W.keepIn K (.ref F_law) = true)
    (z_abs : PySem.W.nsIn K mainGlobals "abs" = some none)
    (z_divmod : PySem.W.nsIn K mainGlobals "divmod" = some none)
    (z_int : PySem.W.nsIn K mainGlobals "int" = some none)
    (z_len : PySem.W.nsIn K mainGlobals "len" = some none)
    (z_max : PySem.W.nsIn K mainGlobals "max" = some none)
    (z_range : PySem.W.nsIn K mainGlobals "range" = some none)
    (z_repr : PySem.W.nsIn K mainGlobals "repr" = some none)
    (z_sum : PySem.W.nsIn K mainGlobals "sum" = some none)
    (z_tuple : PySem.W.nsIn K mainGlobals "tuple" = some none) :
    ∃ fd : FuncData, (∀ (s : Shared) (v : Value), BindsTo s fd ⟨[v], []⟩ [("_law_script", v)]) ∧ ∀ base : Heap, K.In base → base.Ns mainGlobals mg → FnG l.prog w K mg base 5 fa fd ["_law_script"] (sp_law K) := by
  have e := hfa.symm.trans (PySem.W.mg_of X G a_law)
  cases e
  have T : Txt mg := ⟨PySem.W.mg_none_of X G z_abs, PySem.W.mg_none_of X G z_divmod, PySem.W.mg_none_of X G z_int, PySem.W.mg_none_of X G z_len, PySem.W.mg_none_of X G z_max, PySem.W.mg_none_of X G z_range, PySem.W.mg_none_of X G z_repr, PySem.W.mg_none_of X G z_sum, PySem.W.mg_none_of X G z_tuple⟩
  have D_sum_of : Df K mg "sum_of" s_sum_of ["rule", "low", "high"] := ⟨_, _, fun_mk (st := s_sum_of) l_sum_of c_sum_of k_sum_of, PySem.W.mg_of X G a_sum_of, (fun_mk (st := s_sum_of) l_sum_of c_sum_of k_sum_of).binds (ps := ["rule", "low", "high"]) fun _ _ _ _ _ _ us hl => match us, hl with | [_, _, _], _ => rfl⟩
  have D_sum_below : Df K mg "sum_below" s_sum_below ["rule", "x"] := ⟨_, _, fun_mk (st := s_sum_below) l_sum_below c_sum_below k_sum_below, PySem.W.mg_of X G a_sum_below, (fun_mk (st := s_sum_below) l_sum_below c_sum_below k_sum_below).binds (ps := ["rule", "x"]) fun _ _ _ _ _ _ us hl => match us, hl with | [_, _], _ => rfl⟩
  have D_l_deck : Df K mg "_law_deck" s_l_deck ["_law_script"] := ⟨_, _, fun_mk (st := s_l_deck) l_l_deck c_l_deck k_l_deck, PySem.W.mg_of X G a_l_deck, (fun_mk (st := s_l_deck) l_l_deck c_l_deck k_l_deck).binds (ps := ["_law_script"]) fun _ _ _ _ _ _ us hl => match us, hl with | [_], _ => rfl⟩
  have D_l_draw : Df K mg "_law_draw" s_l_draw ["_law_deck_here", "_law_many"] := ⟨_, _, fun_mk (st := s_l_draw) l_l_draw c_l_draw k_l_draw, PySem.W.mg_of X G a_l_draw, (fun_mk (st := s_l_draw) l_l_draw c_l_draw k_l_draw).binds (ps := ["_law_deck_here", "_law_many"]) fun _ _ _ _ _ _ us hl => match us, hl with | [_, _], _ => rfl⟩
  have D_l_one : Df K mg "_law_one" s_l_one ["_law_deck_here", "_law_items"] := ⟨_, _, fun_mk (st := s_l_one) l_l_one c_l_one k_l_one, PySem.W.mg_of X G a_l_one, (fun_mk (st := s_l_one) l_l_one c_l_one k_l_one).binds (ps := ["_law_deck_here", "_law_items"]) fun _ _ _ _ _ _ us hl => match us, hl with | [_, _], _ => rfl⟩
  have D_l_value : Df K mg "_law_value" s_l_value ["_law_rule_here", "_law_x"] := ⟨_, _, fun_mk (st := s_l_value) l_l_value c_l_value k_l_value, PySem.W.mg_of X G a_l_value, (fun_mk (st := s_l_value) l_l_value c_l_value k_l_value).binds (ps := ["_law_rule_here", "_law_x"]) fun _ _ _ _ _ _ us hl => match us, hl with | [_, _], _ => rfl⟩
  have D_l_repeats : Df K mg "_law_repeats" s_l_repeats ["_law_rule_here", "_law_step", "_law_more"] := ⟨_, _, fun_mk (st := s_l_repeats) l_l_repeats c_l_repeats k_l_repeats, PySem.W.mg_of X G a_l_repeats, (fun_mk (st := s_l_repeats) l_l_repeats c_l_repeats k_l_repeats).binds (ps := ["_law_rule_here", "_law_step", "_law_more"]) fun _ _ _ _ _ _ us hl => match us, hl with | [_, _, _], _ => rfl⟩
  have D_l_least : Df K mg "_law_least" s_l_least ["_law_rule_here"] := ⟨_, _, fun_mk (st := s_l_least) l_l_least c_l_least k_l_least, PySem.W.mg_of X G a_l_least, (fun_mk (st := s_l_least) l_l_least c_l_least k_l_least).binds (ps := ["_law_rule_here"]) fun _ _ _ _ _ _ us hl => match us, hl with | [_], _ => rfl⟩
  have D_l_rule : Df K mg "_law_rule" s_l_rule ["_law_deck_here", "_law_long", "_law_wide", "_law_tall"] := ⟨_, _, fun_mk (st := s_l_rule) l_l_rule c_l_rule k_l_rule, PySem.W.mg_of X G a_l_rule, (fun_mk (st := s_l_rule) l_l_rule c_l_rule k_l_rule).binds (ps := ["_law_deck_here", "_law_long", "_law_wide", "_law_tall"]) fun _ _ _ _ _ _ us hl => match us, hl with | [_, _, _, _], _ => rfl⟩
  have D_law : Df K mg "law" s_law ["_law_script"] := ⟨_, _, fun_mk (st := s_law) l_law c_law k_law, PySem.W.mg_of X G a_law, (fun_mk (st := s_law) l_law c_law k_law).binds (ps := ["_law_script"]) fun _ _ _ _ _ _ us hl => match us, hl with | [_], _ => rfl⟩
  refine ⟨PySem.W.fnOf "law" "law" (defArgs s_law) (defBody s_law) (defScope s_law) .none kV_law dc_law pm_law an_law cd_law ct_law, fun s v => .of_eq rfl, fun base _ _ => ?_⟩
  have C_sum_below : Cal l.prog w K mg base "sum_below" ["rule", "x"] 1 (sp_sum_below K) := ok_sum_below T D_sum_below
  have C_l_deck : Cal l.prog w K mg base "_law_deck" ["_law_script"] 1 (sp_l_deck K) := ok_l_deck T D_l_deck
  have C_l_draw : Cal l.prog w K mg base "_law_draw" ["_law_deck_here", "_law_many"] 1 (sp_l_draw K) := ok_l_draw T D_l_draw
  have C_l_value : Cal l.prog w K mg base "_law_value" ["_law_rule_here", "_law_x"] 1 (sp_l_value K) := ok_l_value T D_l_value
  have C_sum_of : Cal l.prog w K mg base "sum_of" ["rule", "low", "high"] 2 (sp_sum_of K) := ok_sum_of T D_sum_of C_sum_below
  have C_l_one : Cal l.prog w K mg base "_law_one" ["_law_deck_here", "_law_items"] 2 (sp_l_one K) := ok_l_one T D_l_one C_l_draw
  have C_l_repeats : Cal l.prog w K mg base "_law_repeats" ["_law_rule_here", "_law_step", "_law_more"] 2 (sp_l_repeats K) := ok_l_repeats T D_l_repeats C_l_value
  have C_l_least : Cal l.prog w K mg base "_law_least" ["_law_rule_here"] 3 (sp_l_least K) := ok_l_least T D_l_least C_l_value C_l_repeats
  have C_l_rule : Cal l.prog w K mg base "_law_rule" ["_law_deck_here", "_law_long", "_law_wide", "_law_tall"] 4 (sp_l_rule K) := ok_l_rule T D_l_rule C_l_least C_l_draw
  exact ok_lawG T (fun_mk (st := s_law) l_law c_law k_law) C_sum_of C_l_value C_l_one C_l_draw C_l_rule C_l_deck

end Sm
open PySem PySem.W PyProof.Rows in
set_option maxRecDepth 100000 in
set_option maxHeartbeats 0 in
theorem PySem.Challenge.cw_smallchange_k03_sums_of_ranges_holds : PySem.Challenge.rw_smallchange_k03_sums_of_ranges.Holds := by
  w_on; o_law; k_head; (case hw => w_witness2)
  k_fill
  refine Sm.walk_at_law (l := PySem.Challenge.rw_smallchange_k03_sums_of_ranges) (k := 5) (x := "_law_script") (sp := Sm.sp_law) rfl rfl ⟨rfl, by decide, by decide⟩ (fun w h Y => PySem.W.kIn_of Y) ?F (fun _ _ a ns hl hS => ⟨a, ns, rfl, hS, hl, fun _ => rfl⟩)
  case F =>
    intro w mg fa h KX G hmg
    refine' Sm.all_mk KX G hmg ?a_sum_of ?l_sum_of ?c_sum_of ?k_sum_of ?a_sum_below ?l_sum_below ?c_sum_below ?k_sum_below ?a_l_deck ?l_l_deck ?c_l_deck ?k_l_deck ?a_l_draw ?l_l_draw ?c_l_draw ?k_l_draw ?a_l_one ?l_l_one ?c_l_one ?k_l_one ?a_l_value ?l_l_value ?c_l_value ?k_l_value ?a_l_repeats ?l_l_repeats ?c_l_repeats ?k_l_repeats ?a_l_least ?l_l_least ?c_l_least ?k_l_least ?a_l_rule ?l_l_rule ?c_l_rule ?k_l_rule ?a_law ?l_law ?c_law ?k_law ?z_abs ?z_divmod ?z_int ?z_len ?z_max ?z_range ?z_repr ?z_sum ?z_tuple
    (case a_sum_of => k_is)
    (case l_sum_of => k_is)
    (case c_sum_of => k_is)
    (case k_sum_of => k_is)
    (case a_sum_below => k_is)
    (case l_sum_below => k_is)
    (case c_sum_below => k_is)
    (case k_sum_below => k_is)
    (case a_l_deck => k_is)
    (case l_l_deck => k_is)
    (case c_l_deck => k_is)
    (case k_l_deck => k_is)
    (case a_l_draw => k_is)
    (case l_l_draw => k_is)
    (case c_l_draw => k_is)
    (case k_l_draw => k_is)
    (case a_l_one => k_is)
    (case l_l_one => k_is)
    (case c_l_one => k_is)
    (case k_l_one => k_is)
    (case a_l_value => k_is)
    (case l_l_value => k_is)
    (case c_l_value => k_is)
    (case k_l_value => k_is)
    (case a_l_repeats => k_is)
    (case l_l_repeats => k_is)
    (case c_l_repeats => k_is)
    (case k_l_repeats => k_is)
    (case a_l_least => k_is)
    (case l_l_least => k_is)
    (case c_l_least => k_is)
    (case k_l_least => k_is)
    (case a_l_rule => k_is)
    (case l_l_rule => k_is)
    (case c_l_rule => k_is)
    (case k_l_rule => k_is)
    (case a_law => k_is)
    (case l_law => k_is)
    (case c_law => k_is)
    (case k_law => k_is)
    (case z_abs => k_is)
    (case z_divmod => k_is)
    (case z_int => k_is)
    (case z_len => k_is)
    (case z_max => k_is)
    (case z_range => k_is)
    (case z_repr => k_is)
    (case z_sum => k_is)
    (case z_tuple => k_is)

