import PyProof.Rows.All
import Wide.All
import OpenK.AllK
import Wide.FinOn
import HandS.ForMost
import HandS.Wide
import HandS.Codes
import PyProof.ReprRoads
import HandS.TupMul
import HandS.Conv
import HandS.IsInst
import HandS.Style
import HandS.TupAny
import HandS.TupSets
import HandS.SetFor
import PySem.Challenge.RW_smallchange_k40_back_kinds
set_option Elab.async false
set_option linter.all false
set_option maxRecDepth 100000
set_option maxHeartbeats 4000000
namespace Sm
open PySem PySem.Spec PyProof.Rows L2
/-! ### promises of defs where no repr is under way: as FnOk, with A's guards empty -/
structure FnG (P : Program) (w : World) (K : PySem.W.Frag) (mg : Str → Option Value) (base : Heap) (k : Nat) (f : Addr) (fd : FuncData) (ps : List Str) (sp : Sp) : Prop where
  len : ∀ vs H Q E, sp vs H Q E → vs.length = ps.length
  run : ∀ (A : Around) (outer : List Env) (s : Shared) (H : Hp) (args : Args) (us : List Value) (vs : List V) (Q : VK) (E : XK), A.guards = some [] → Room k A →
    Env0 P w K mg base A outer s H → BindsTo s fd args (ps.zip us) → Vals vs us → sp vs H Q E → codeAny (model P w) A (.call (.ref f) args) (CR CX0 outer P w H s Q E) s
section
variable {P : Program} {w : World} {K : PySem.W.Frag} {mg : Str → Option Value} {base : Heap} {k : Nat} {f : Addr} {fd : FuncData} {ps : List Str} {sp : Sp}
theorem FnG.of (F : FnOk P w K mg base CX0 k f fd ps sp) : FnG P w K mg base k f fd ps sp :=
  ⟨F.len, fun A outer s H args us vs Q E _ hr e b v h => F.run A outer s H args us vs Q E hr e b v h⟩
theorem FnG.body {x : Str} {st : Stmt} {N : List Str} (F : Fun K x x st f fd) (S : FnScope N ps (defScope st)) (len : ∀ vs H Q E, sp vs H Q E → vs.length = ps.length)
    (hb : ∀ (cdv : Value) (A : Around) (outer : List Env) (s : Shared) (H : Hp) (vs : List V) (Q : VK) (E : XK), A.guards = some [] → Room k (A.deeper (envOfC x (defScope st) s.heap.objs.size f cdv)) → sp vs H Q E →
      ∃ t, PSs (cxOf CX0 P w K mg base N x (defScope st) f cdv A outer s H E).nox (defBody st) t ∧ t { nx := fun _ H' => Q .non H', rt := Q } (start N vs) H) : FnG P w K mg base (k + 1) f fd ps sp := by
  obtain ⟨oc, od, kV, doc, pm, an, cdv, ct, osl, efd, look, code⟩ := F.ex
  subst efd
  constructor
  · exact len
  intro A outer s H args us vs Q E guard room e0 bind rel want
  have inn : K.In s.heap := e0.mod.kin.keeps fun b o e => (e0.bs b o e).1
  have nolim : s.heap.NoLimit := e0.mod.nolimit.keeps fun b o e => (e0.bs b o e).1
  refine codeAny_call_function room.depth (inn _ _ look) rfl S.co S.gen rfl (PySem.W.codeRec_of inn code) (bind _ _ _ _ ?_)
  refine wpAny_newFunctionEnv_cells S.kind ?_ ?_
  · rintro ⟨n, v⟩ there
    have := S.par n (List.of_mem_zip there).1
    cases this with
    | inl q => exact .inl q
    | inr q => exact .inr ⟨q, PySem.W.cellsFrom_some _ _ _ (.inl q)⟩
  · intro env eenv s1 laid
    subst eenv
    refine ⟨nolim.keeps laid.toInCall.keep, codeAny_func ?_⟩
    obtain ⟨t, der, goal⟩ := hb cdv A outer s H vs Q E guard (room.deeper _) want
    have I := inv_start (CX := CX0) (E := E) S room.hd e0 (len _ _ _ _ want) rel laid
    refine wpAny_mono (der.nox.run [] s1 (start N vs) H _ I goal) (fun out s' got => ?_) fun e s' got => got
    match out, got with
    | .ret u, ⟨v, σ', H', J, rv, q⟩ => exact ⟨v, H', J.os, J.bare, J.base, J.hok, rv, q⟩
    | .next, ⟨σ', H', J, q⟩ => exact ⟨V.non, H', J.os, J.bare, J.base, J.hok, rfl, q⟩
    | .brk, ⟨_, _, _, q⟩ => exact q.elim
    | .cont, ⟨_, _, _, q⟩ => exact q.elim
end
section
variable {X : Cx} {k : Nat} {f : Addr} {fd : FuncData} {ps : List Str} {sp : Sp} {x : Str} {p pos : Pos} {e : Expr} {es : List Expr} {t : TA}
theorem pe_callG (F : FnG X.prog X.w X.K X.mg X.base k f fd ps sp) (gu : X.A.guards = some []) (hr : Room k X.A) (hg : Gl X x) (hm : X.mg x = some (.ref f)) (hk : PySem.W.keepIn X.K (.ref f) = true) (hb : Binds X.K fd ps [])
    (ha : PA X (e :: es) t) (hdb : (x == ("__debug__" : Str)) = false := by decide) (he : starEach (e :: es) X.env = (false, eval e X.env) :: starEach es X.env := by rfl) (hpl : (backTo pos (starEach es X.env)).any (·.1) = false := by rfl) :
    PE X (.Call (.Name x p) (e :: es) [] pos) (tCall sp [] E0 t) := by
  constructor
  intro pins s σ H Q I want
  refine wpAny_Call_Name_kw (ld_glob I hg hm ?_ hdb)
  refine PySem.W.callWith_K (h₀ := X.base) I.ok.mod.kin hk (thn (ha.run pos pins s σ H _ I want) ?_) he hpl
  rintro us s1 ⟨vs, H1, I1, rel, q⟩
  refine ⟨I1.kIn, ?_⟩
  have q : sp vs H1 Q E0 := by
    have q : sp (vs ++ []) H1 Q E0 := q
    rw [List.append_nil] at q
    exact q
  have b := hb s1 us I1.kIn (by rw [List.append_nil, ← rel.length]; exact F.len _ _ _ _ q)
  rw [List.append_nil] at b
  refine wpAny_call (codeAny_mono (F.run X.A X.stack s1 H1 ⟨us, []⟩ us vs Q E0 gu hr I1.env0 b rel q) ?_)
  rintro (e | out) s' got
  · exact got.elim
  · match out, got with
    | .ret u, got => exact I1.after got
    | .next, got => exact got.elim
    | .brk, got => exact got.elim
    | .cont, got => exact got.elim
/-- repr of data at any depth -/
theorem call_repr_data (gu : X.A.guards = some []) (room : ∃ k, Room k X.A) : CallR X (.builtin "repr") (fun xs H Q => ∃ a d, xs = [.ref a] ∧ Dp X.K H (.ref a) d ∧ PyData.showable d = true ∧ PyData.hasDict d = false ∧ d.depth ≤ 60 ∧ d.shown.length ≤ sizeLine ∧ Q (.str d.shown) H) := by
  intro pins s σ H xs us Q I rel want
  obtain ⟨a, d, rfl, data, sh, nd, dep, len, q⟩ := want
  obtain ⟨u, rfl, ru⟩ := vals1 rel
  obtain ⟨as, reads⟩ := Dp.reads I d _ u data ru
  cases ru
  obtain ⟨k, room⟩ := room
  have un := room.un
  exact repr_of_reads' reads sh (PyData.noDict_hsm nd) gu (by omega) (fun _ _ e => e) (fun h' v tk keep => ⟨.str d.shown, H, I.kept keep, ⟨_, rfl⟩, q⟩) len
end
/-! ### the law's own call, at the caller's place -/
theorem law_at {P : Program} {w : World} {K : PySem.W.Frag} {mg mb : Str → Option Value} {k : Nat} {fa a : Addr} {fd : FuncData} {x : Str} {sp : Sp} {s₁ : Shared} {vs : List Value} {ns : List Int}
    (KX : K.In s₁.heap) (hns : s₁.heap.Ns mainGlobals mg) (hb : s₁.heap.Ns builtinsNs mb) (hbb : ∀ x : Str, x ≠ "__name__" → mb x = bootBuiltins x) (hlim : s₁.heap.NoLimit) (hg : s₁.gens = #[])
    (ha : s₁.heap.get? a = some { cls := .type "list", data := .seq vs.toArray }) (hi : IntsAre vs ns) (hl : ns.length ≤ sizeLine) (hr : Room k callerA)
    (F : ∀ base : Heap, K.In base → base.Ns mainGlobals mg → FnG P w K mg base k fa fd [x] sp) (hbind : ∀ (s : Shared) (u : Value), BindsTo s fd ⟨[u], []⟩ [(x, u)])
    (hsp : ∀ H : Hp, SqL K H a (ns.map V.int) → sp [.ref a] H (fun v _ => v = .bl true) E0) :
    codeAny (model P w) callerA (.call (.ref fa) ⟨[.ref a], []⟩) (fun r s' => r = .ok (.ret (.bool true)) ∧ OldK s₁.heap s'.heap ∧ s'.os = s₁.os ∧ AllBare s'.gens) s₁ := by
  have ivs := vals_ints hi
  -- what is tracked: the script, if the module does not hold it itself
  obtain ⟨H, seq, ok, only, free⟩ : ∃ H : Hp, SqL K H a (ns.map V.int) ∧ HOk P w H s₁.heap ∧ (∀ b u, H b = some u → b = a ∧ u = .frz { cls := .type "list", data := .seq vs.toArray } (.lst (ns.map V.int))) ∧ ∀ b u, H b = some u → K.lookup b = none := by
    cases look : K.lookup a with
    | some o =>
      have same := KX a o look
      rw [ha] at same
      injection same with same
      subst same
      have empty : ∀ {u : HO}, (none : Option HO) = some u → False := fun z => nomatch z
      refine ⟨fun _ => none, .inr ⟨_, vs.toArray, _, look, rfl, rfl, rfl, ?_, ?_⟩, fun b u z => (empty z).elim, fun b u z => (empty z).elim, fun b u z => (empty z).elim⟩
      · rw [List.size_toArray, hi.length]
        exact hl
      · simpa using ivs
    | none =>
      have at_a : ∀ b u, (fun b => if b = a then some (HO.frz { cls := .type "list", data := .seq vs.toArray } (.lst (ns.map V.int))) else none : Hp) b = some u → b = a ∧ u = .frz { cls := .type "list", data := .seq vs.toArray } (.lst (ns.map V.int)) := by
        intro b u z
        by_cases e : b = a
        · have z := (if_pos e).symm.trans z
          exact ⟨e, (Option.some.inj z).symm⟩
        · exact nomatch (if_neg e).symm.trans z
      refine ⟨_, .inl (.inr ⟨_, if_pos rfl⟩), fun b u z => ?_, at_a, fun b u z => ?_⟩
      · obtain ⟨rfl, rfl⟩ := at_a b u z
        exact ⟨ha, by rw [List.length_map]; exact hl, vs, _, ivs, ha⟩
      · rw [(at_a b u z).1]
        exact look
  have stays : ∀ {b : Addr} {o : Obj}, s₁.heap.get? b = some o → (∀ u, H b ≠ some u) → (hidT s₁.heap H).get? b = some o := fun {b o} e no => hidT_get e (by
    cases z : H b with
    | none => rfl
    | some u => exact (no u z).elim)
  have spaces : ∀ {b : Addr} {m : Str → Option Value}, s₁.heap.Ns b m → (hidT s₁.heap H).Ns b m := by
    rintro b m ⟨o, es, ep, there, data, rest⟩
    refine ⟨o, es, ep, stays there fun u z => ?_, data, rest⟩
    rw [(only b u z).1, ha] at there
    injection there with there
    subst there
    exact nomatch data
  have inn : K.In (hidT s₁.heap H) := fun b o e => stays (KX b o e) fun u z => by
    rw [free b u z] at e
    exact nomatch e
  have mod : Mod K mg (hidT s₁.heap H) := by
    obtain ⟨mc, c1, c2⟩ := hlim
    exact ⟨inn, spaces hns, ⟨mb, spaces hb, hbb⟩, mc, spaces c1, c2⟩
  have e0 : Env0 P w K mg (hidT s₁.heap H) callerA [] s₁ H := by
    refine ⟨rfl, mod, fun b o e => of_hidT e, Nat.le_of_eq (hidT_size _ _), trivial, ?_, ok, .of_eq hg⟩
    intro b q
    exact absurd q (List.not_mem_nil (a := b))
  refine codeAny_mono ((F _ inn (spaces hns)).run callerA [] s₁ H ⟨[.ref a], []⟩ [.ref a] [.ref a] _ _ rfl hr e0 (hbind s₁ (.ref a)) (.cons rfl .nil) (hsp H seq)) ?_
  rintro (e | out) s' got
  · exact got.elim
  · match out, got with
    | .next, got => exact got.elim
    | .brk, got => exact got.elim
    | .cont, got => exact got.elim
    | .ret u, ⟨v, H', os, bare, un, ok', rel, q⟩ =>
      have q : v = V.bl true := q
      subst q
      have rel : u = Value.bool true := rel
      subst rel
      refine ⟨rfl, .of_keep fun b o e => ?_, os, bare⟩
      cases z : H b with
      | none => exact un.keep b o e z (List.not_mem_nil (a := b)) (List.not_mem_nil (a := b))
      | some u =>
        obtain ⟨rfl, rfl⟩ := only b u z
        have now := (ok' _ _ (un.frzs _ _ _ z)).1
        rw [ha] at e
        injection e with e
        rw [← e]
        exact now
theorem walk_at_law {l : PySem.W.OpenLaw} {k : Nat} {q : Program} {loose : List Str} {XP : (Str → Option Value) → Heap → Prop} {YP : World → Heap → Prop} {d : DefRec} {K : Params → PySem.W.Frag} {sp : PySem.W.Frag → Sp} {x : Str}
    (hn : l.most = some 63) (hdf : d.params.defaults = []) (hr : Room k callerA) (hY : ∀ (w : World) (h : Heap), YP w h → (K w.params).In h)
    (F : ∀ (w : World) (mg : Str → Option Value) (fa : Addr) (h : Heap), (K w.params).In h → h.Ns mainGlobals mg → mg d.name = some (.ref fa) →
      ∃ fd : FuncData, (∀ (s : Shared) (u : Value), BindsTo s fd ⟨[u], []⟩ [(x, u)]) ∧ ∀ base : Heap, (K w.params).In base → base.Ns mainGlobals mg → FnG l.prog w (K w.params) mg base k fa fd [x] (sp (K w.params)))
    (hsp : ∀ (K : PySem.W.Frag) (H : Hp) (a : Addr) (ns : List Int), ns.length ≤ 63 → SqL K H a (ns.map V.int) → sp K [.ref a] H (fun v _ => v = .bl true) E0) :
    PySem.W.WalkO q loose XP YP l.row.toRowW d [] (fun f vs => PySem.call f vs) := by
  refine Att.attach_call hn hdf ?_
  intro w s₀ s₁ mg mb fa o pm cd doc a vs ns G Y ho hd hcd hmg hobj hints hlen hg
  obtain ⟨fd, bind, each⟩ := F w mg fa _ (hY w _ Y) G.T.g hmg
  exact law_at (hY w _ Y) G.T.g G.T.b G.T.builtins G.T.nolimit hg hobj hints (Nat.le_trans hlen (by decide)) hr each bind fun H sq => hsp (K w.params) H a ns hlen sq
end Sm

set_option Elab.async false
set_option linter.all false
set_option maxRecDepth 100000
set_option maxHeartbeats 4000000
namespace Sm
open PySem PySem.Spec PyProof.Rows L2
section
variable {P : Program} {w : World} {K : PySem.W.Frag} {mg : Str → Option Value} {base : Heap}
def Df (K : PySem.W.Frag) (mg : Str → Option Value) (x : Str) (st : Stmt) (ps : List Str) : Prop :=
  ∃ (f : Addr) (fd : FuncData), Fun K x x st f fd ∧ mg x = some (.ref f) ∧ Binds K fd ps []
def Cal (P : Program) (w : World) (K : PySem.W.Frag) (mg : Str → Option Value) (base : Heap) (x : Str) (ps : List Str) (k : Nat) (sp : Sp) : Prop :=
  ∃ (f : Addr) (fd : FuncData), FnOk P w K mg base CX0 k f fd ps sp ∧ mg x = some (.ref f) ∧ PySem.W.keepIn K (.ref f) = true ∧ Binds K fd ps []
theorem Df.cal {x : Str} {st : Stmt} {N ps : List Str} {k : Nat} {sp : Sp} (D : Df K mg x st ps) (S : FnScope N ps (defScope st)) (len : ∀ vs H Q E, sp vs H Q E → vs.length = ps.length)
    (hbody : ∀ (f : Addr) (cdv : Value) (A : Around) (outer : List Env) (s : Shared) (H : Hp) (vs : List V) (Q : VK) (E : XK), Room k (A.deeper (envOfC x (defScope st) s.heap.objs.size f cdv)) → sp vs H Q E →
      ∃ t, PSs (cxOf CX0 P w K mg base N x (defScope st) f cdv A outer s H E).nox (defBody st) t ∧ t { nx := fun _ H' => Q .non H', rt := Q } (start N vs) H) : Cal P w K mg base x ps (k + 1) sp := by
  obtain ⟨f, fd, F, m, b⟩ := D
  exact ⟨f, fd, F.ok S len (fun cdv A outer s H vs Q E hr h => hbody f cdv A outer s H vs Q E hr h), m, F.kp, b⟩
theorem same_upd {H : Hp} {p : Addr} {o : HO} (h : H p = none) : Same H (upd H p o) := fun b x e => by
  rw [upd_ne (ne_of_none e h)]
  exact e
theorem iteP {p A B : Prop} [Decidable p] (h : p) (a : A) : if decide p = true then A else B := by
  rw [decide_eq_true h]
  exact iteT a
theorem iteN {p A B : Prop} [Decidable p] (h : ¬ p) (b : B) : if decide p = true then A else B := by
  rw [decide_eq_false h]
  exact iteF b
theorem iteNP {p A B : Prop} [Decidable p] (h : p) (b : B) : if (!decide p) = true then A else B := by
  rw [decide_eq_true h]
  exact iteF b
theorem iteNN {p A B : Prop} [Decidable p] (h : ¬ p) (a : A) : if (!decide p) = true then A else B := by
  rw [decide_eq_false h]
  exact iteT a
theorem ite3 {p A B : Prop} [Decidable p] (h1 : p → A) (h2 : ¬ p → B) : if decide p = true then A else B := by
  by_cases h : p
  · exact iteP h (h1 h)
  · exact iteN h (h2 h)
theorem fmod_pos {a b : Int} (h : 0 < b) : a.fmod b = a % b := Int.fmod_eq_emod_of_nonneg a (by omega)
end
/-! ### the deck -/
structure Deck (H : Hp) (p l : Addr) (n : Int) : Prop where
  hp : H p = some (.lst [.ref l, .int n])
  hl : ∃ cells : List Int, H l = some (.lst (cells.map V.int)) ∧ (∀ c ∈ cells, 0 ≤ c) ∧ cells.length ≤ 63
theorem deck_ne {l : Addr} {n : Int} {cells : List Int} : HO.lst [.ref l, .int n] ≠ HO.lst (cells.map V.int) := by
  intro q
  injection q with q
  cases cells with
  | nil => cases q
  | cons c r => cases (List.cons.inj q).1
/-- all but the deck is as it was -/
def Fr (p l : Addr) (H H' : Hp) : Prop := ∀ b o, b ≠ p → b ≠ l → H b = some o → H' b = some o
theorem Fr.trans {p l : Addr} {H H1 H2 : Hp} (a : Fr p l H H1) (b : Fr p l H1 H2) : Fr p l H H2 := fun c o h1 h2 h => b c o h1 h2 (a c o h1 h2 h)
theorem Same.fr {p l : Addr} {H H' : Hp} (s : Same H H') : Fr p l H H' := fun b o _ _ h => s b o h
theorem Deck.same {H H' : Hp} {p l : Addr} {n : Int} (D : Deck H p l n) (s : Same H H') : Deck H' p l n := by
  obtain ⟨cells, hl, hc⟩ := D.hl
  exact ⟨s _ _ D.hp, cells, s _ _ hl, hc⟩
theorem Fr.tup {H H' : Hp} {p l b : Addr} {n : Int} {xs : List V} (f : Fr p l H H') (D : Deck H p l n) (h : H b = some (.tup xs)) : H' b = some (.tup xs) := by
  obtain ⟨cells, hl, hc⟩ := D.hl
  exact f b _ (ne_of h D.hp (by intro q; cases q)) (ne_of h hl (by intro q; cases q)) h
def sp_l_deck (K : PySem.W.Frag) : Sp := fun vs H Q _ => ∃ (a : Addr) (ns : List Int), vs = [.ref a] ∧ SqL K H a (ns.map V.int) ∧ ns.length ≤ 63 ∧ ∀ H' p l, Same H H' → Deck H' p l 0 → Q (.ref p) H'
def sp_l_draw (K : PySem.W.Frag) : Sp := fun vs H Q _ => ∃ (p l : Addr) (n m : Int), vs = [.ref p, .int m] ∧ Deck H p l n ∧ 0 ≤ n ∧ n ≤ 1000000 ∧ 0 < m ∧ m ≤ 1000000000000000000000000000000000000000000000000000000000000 ∧
  ∀ r H', 0 ≤ r → r < m → Fr p l H H' → Deck H' p l (n + 1) → Q (.int r) H'
def sp_l_one (K : PySem.W.Frag) : Sp := fun vs H Q _ => ∃ (p l b : Addr) (n : Int) (xs : List V), vs = [.ref p, .ref b] ∧ Deck H p l n ∧ 0 ≤ n ∧ n ≤ 1000000 ∧ H b = some (.lst xs) ∧ b ≠ p ∧ b ≠ l ∧ 0 < xs.length ∧ xs.length ≤ 1000 ∧
  ∀ x H', x ∈ xs → Fr p l H H' → Deck H' p l (n + 1) → Q x H'
theorem cut63 {ns : List Int} (h : ns.length ≤ 63) : cutV (ns.map V.int) none (some 63) = ns.map V.int := by
  unfold cutV
  rw [HT.sIx_none, show HT.sIx (ns.map V.int).length (ns.map V.int).length (some 63) = min 63 (ns.map V.int).length from HT.sIx_nat _ _ 63]
  rw [List.length_map, Nat.min_eq_right h, List.drop_zero]
  exact List.take_of_length_le (by rw [List.length_map]; omega)
def absI (n : Int) : Int := if n < 0 then -n else n
theorem absI_pos (n : Int) : 0 ≤ absI n := by
  unfold absI
  split <;> omega
theorem div_draw {c m : Int} (h0 : 0 < m) (h : m ≤ 1000000000000000000000000000000000000000000000000000000000000) : CDivW c m :=
  wide_div (b := 300) h0 (by omega) (by decide) (by decide)
theorem cut_all {xs : List V} {n : Nat} : cutV xs none (some (n : Int)) = xs.take n := by
  unfold cutV
  rw [HT.sIx_none, HT.sIx_nat, List.drop_zero, Nat.sub_zero]
  rcases Nat.le_total n xs.length with h | h
  · rw [Nat.min_eq_left h]
  · rw [Nat.min_eq_right h, List.take_length, List.take_of_length_le h]
theorem ne_new {H : Hp} {p b : Addr} {o : HO} (h : H p = some o) (n : H b = none) : b ≠ p := (ne_of_none h n).symm
/-- what the deck's second list is not -/
theorem Deck.lne {H : Hp} {p l b : Addr} {n : Int} (D : Deck H p l n) (h : H b = none) : b ≠ p ∧ b ≠ l := by
  obtain ⟨cells, hl, hc⟩ := D.hl
  exact ⟨ne_new D.hp h, ne_new hl h⟩
section
variable {X : Cx}
/-- repr of an int or None -/
theorem call_repr_some : CallR X (.builtin "repr") (fun xs H Q => (∃ i, xs = [.int i] ∧ i.natAbs.log2 < 1920 ∧ Q (.str (toString i)) H) ∨ (xs = [.non] ∧ Q (.str "None") H)) := by
  intro pins s σ H xs us Q I r h
  rcases h with ⟨i, rfl, hz, q⟩ | ⟨rfl, q⟩
  · obtain ⟨u, rfl, t, rfl⟩ := vals1 r
    exact PySem.P.repr_of_int hz ⟨.str _, H, I.tok _, ⟨_, rfl⟩, q⟩
  · obtain ⟨u, rfl, rfl⟩ := vals1 r
    exact PySem.P.repr_of_none ⟨.str _, H, I.tok _, ⟨_, rfl⟩, q⟩
def dataI (ns : List Int) : PyData := .list (ns.map PyData.int)
theorem dp_ints {K : PySem.W.Frag} {H : Hp} : ∀ ns : List Int, DpAll K H (ns.map V.int) (ns.map PyData.int)
  | [] => .nil
  | n :: ns => .cons (.int n) (dp_ints ns)
theorem showable_ints : ∀ {ns : List Int}, (∀ n ∈ ns, n.natAbs.log2 < 1920) → PyData.showableAll (ns.map PyData.int) = true
  | [], _ => rfl
  | n :: ns, h => by
    have a := h n (List.mem_cons_self ..)
    have b := showable_ints (ns := ns) fun m hm => h m (List.mem_cons_of_mem _ hm)
    simp only [List.map_cons, PyData.showableAll, PyData.showable, decide_eq_true a, b, Bool.and_self]
theorem hasDict_ints : ∀ ns : List Int, PyData.hasDictAll (ns.map PyData.int) = false
  | [] => rfl
  | n :: ns => by
    simp only [List.map_cons, PyData.hasDictAll, PyData.hasDict, hasDict_ints ns, Bool.or_self]
theorem depth_ints : ∀ ns : List Int, PyData.depthAll (ns.map PyData.int) ≤ 1
  | [] => by simp [PyData.depthAll]
  | n :: ns => by
    have := depth_ints ns
    simp only [List.map_cons, PyData.depthAll, PyData.depth]
    omega
theorem shown_ints : ∀ {ns : List Int}, (∀ n ∈ ns, n.natAbs.log2 < 1920) → ((PyData.shownAll (ns.map PyData.int)).map (·.length)).sum ≤ 1921 * ns.length ∧ (PyData.shownAll (ns.map PyData.int)).length = ns.length
  | [], _ => by simp [PyData.shownAll]
  | n :: ns, h => by
    have a := PyProof.Rows.int_text_len_1921 (h n (List.mem_cons_self ..))
    obtain ⟨b, c⟩ := shown_ints (ns := ns) fun m hm => h m (List.mem_cons_of_mem _ hm)
    simp only [List.map_cons, PyData.shownAll, PyData.shown, List.sum_cons, List.length_cons]
    omega
/-- repr of a list of ints -/
theorem call_repr_ints (gu : X.A.guards = some []) (room : ∃ k, Room k X.A) : CallR X (.builtin "repr") (fun xs H Q => ∃ a ns, xs = [.ref a] ∧ SqL X.K H a (ns.map V.int) ∧ ns.length ≤ 5000 ∧ (∀ n ∈ ns, n.natAbs.log2 < 1920) ∧ Q (.str (dataI ns).shown) H) := by
  intro pins s σ H xs us Q I r h
  obtain ⟨a, ns, rfl, hS, len, small, q⟩ := h
  refine call_repr_data gu room pins s σ H _ us Q I r ⟨a, dataI ns, rfl, .lst hS (dp_ints ns), ?_, ?_, ?_, ?_, q⟩
  · unfold dataI
    simp only [PyData.showable, showable_ints small]
  · unfold dataI
    simp only [PyData.hasDict, hasDict_ints]
  · have := depth_ints ns
    unfold dataI
    simp only [PyData.depth]
    omega
  · obtain ⟨s1, s2⟩ := shown_ints small
    have := listText_len_le (PyData.shownAll (ns.map PyData.int))
    unfold dataI
    simp only [PyData.shown]
    rw [sizeLine_eq]
    omega
end
end Sm

set_option maxHeartbeats 4000000
namespace Sm
/-! offers, boards, and what leads where -/
structure Of where
  a : Nat
  x : Int
  b : Nat
  y : Int
def Of.ns (o : Of) : List Int := [(o.a : Int), o.x, (o.b : Int), o.y]
structure OfOk (k : Nat) (o : Of) : Prop where
  a : o.a < k
  b : o.b < k
  ne : o.a ≠ o.b
  x0 : 1 ≤ o.x
  x1 : o.x ≤ 30
  y0 : 0 ≤ o.y
  y1 : o.y ≤ 30
def Edge (L : List Of) (a b : Nat) : Prop := ∃ o ∈ L, o.a = a ∧ o.b = b ∧ 0 < o.y
def Rn (L : List Of) (s : Nat) : Nat → Nat → Prop
  | 0, c => c = s
  | n + 1, c => Rn L s n c ∨ ∃ b, Rn L s n b ∧ Edge L b c
def Lead (L : List Of) (s c : Nat) : Prop := ∃ n, Rn L s n c
section
variable {L : List Of} {s c d k : Nat}
theorem Rn.up {n m : Nat} (h : n ≤ m) (r : Rn L s n c) : Rn L s m c := by
  induction m with
  | zero => rw [show n = 0 by omega] at r; exact r
  | succ m ih =>
    by_cases q : n = m + 1
    · rw [← q]; exact r
    · exact .inl (ih (by omega))
theorem Lead.self : Lead L s s := ⟨0, rfl⟩
theorem Lead.step (h : Lead L s c) (e : Edge L c d) : Lead L s d := by
  obtain ⟨n, r⟩ := h
  exact ⟨n + 1, .inr ⟨c, r, e⟩⟩
theorem Lead.closed {S : Nat → Prop} (h0 : S s) (hs : ∀ a b, S a → Edge L a b → S b) (h : Lead L s c) : S c := by
  obtain ⟨n, r⟩ := h
  induction n generalizing c with
  | zero => rw [show c = s from r]; exact h0
  | succ n ih =>
    rcases r with r | ⟨b, r, e⟩
    · exact ih r
    · exact hs _ _ (ih r) e
theorem Lead.trans (h1 : Lead L s c) (h2 : Lead L c d) : Lead L s d := h2.closed (S := fun x => Lead L s x) h1 fun _ _ h e => h.step e
theorem filter_less {α : Type} {p q : α → Bool} : ∀ {l : List α}, (∀ x ∈ l, p x = true → q x = true) → (∃ x ∈ l, q x = true ∧ p x = false) → (l.filter p).length + 1 ≤ (l.filter q).length
  | [], _, h => by obtain ⟨_, h, _⟩ := h; cases h
  | a :: l, h, ⟨x, hx, h1, h2⟩ => by
    have le : (l.filter p).length ≤ (l.filter q).length := by
      clear hx h1 h2
      induction l with
      | nil => exact Nat.le_refl _
      | cons b l ih =>
        have i := ih fun x hx => by
          rcases List.mem_cons.mp hx with e | e
          · exact h x (by rw [e]; exact List.mem_cons_self)
          · exact h x (List.mem_cons_of_mem _ (List.mem_cons_of_mem _ e))
        have hb := h b (List.mem_cons_of_mem _ List.mem_cons_self)
        rw [List.filter_cons, List.filter_cons]
        cases e : p b with
        | true => rw [if_pos rfl, if_pos (hb e)]; simp; exact i
        | false =>
          rw [if_neg Bool.false_ne_true]
          split
          · simp; omega
          · exact i
    rw [List.filter_cons, List.filter_cons]
    rcases List.mem_cons.mp hx with e | e
    · subst e
      rw [h1, h2, if_neg Bool.false_ne_true, if_pos rfl]
      simp
      exact le
    · have i := filter_less (fun x hx => h x (List.mem_cons_of_mem _ hx)) ⟨x, e, h1, h2⟩
      have ha := h a List.mem_cons_self
      cases e : p a with
      | true => rw [if_pos rfl, if_pos (ha e)]; simp; omega
      | false =>
        rw [if_neg Bool.false_ne_true]
        split
        · simp; omega
        · exact i
noncomputable def cnt (L : List Of) (s k n : Nat) : Nat := ((List.range k).filter fun c => @decide (Rn L s n c) (Classical.propDecidable _)).length
theorem cdec {p : Prop} : (@decide p (Classical.propDecidable _)) = true ↔ p := @decide_eq_true_iff p (Classical.propDecidable _)
theorem cdecf {p : Prop} : (@decide p (Classical.propDecidable _)) = false ↔ ¬ p := @decide_eq_false_iff_not p (Classical.propDecidable _)
theorem Rn.lt {n : Nat} (hL : ∀ o ∈ L, OfOk k o) (hs : s < k) (r : Rn L s n c) : c < k := by
  induction n generalizing c with
  | zero => rw [show c = s from r]; exact hs
  | succ n ih =>
    rcases r with r | ⟨b, r, o, ho, _, e, _⟩
    · exact ih r
    · rw [← e]; exact (hL o ho).b
theorem Lead.lt (hL : ∀ o ∈ L, OfOk k o) (hs : s < k) (h : Lead L s c) : c < k := by
  obtain ⟨n, r⟩ := h
  exact r.lt hL hs
theorem Lead.to (hL : ∀ o ∈ L, OfOk k o) (hs : s < k) (h : Lead L s c) : Rn L s k c := by
  have key : ∀ n, (∃ m, m ≤ n ∧ ∀ c, Rn L s (m + 1) c → Rn L s m c) ∨ n + 1 ≤ cnt L s k n := by
    intro n
    induction n with
    | zero =>
      right
      have : 0 < cnt L s k 0 := List.length_pos_of_mem (a := s) (List.mem_filter.mpr ⟨List.mem_range.mpr hs, cdec.mpr rfl⟩)
      omega
    | succ n ih =>
      rcases ih with ⟨m, h1, h2⟩ | ih
      · exact .inl ⟨m, by omega, h2⟩
      · rcases Classical.em (∀ c, Rn L s (n + 1) c → Rn L s n c) with q | q
        · exact .inl ⟨n, by omega, q⟩
        · right
          obtain ⟨c, hc⟩ := Classical.not_forall.mp q
          obtain ⟨h1, h2⟩ := Classical.not_imp.mp hc
          have := filter_less (l := List.range k) (p := fun c => @decide (Rn L s n c) (Classical.propDecidable _)) (q := fun c => @decide (Rn L s (n + 1) c) (Classical.propDecidable _))
            (fun x _ hx => cdec.mpr (.inl (cdec.mp hx))) ⟨c, List.mem_range.mpr (h1.lt hL hs), cdec.mpr h1, cdecf.mpr h2⟩
          unfold cnt at ih ⊢
          omega
  rcases key k with ⟨m, h1, h2⟩ | q
  · refine Rn.up h1 ?_
    exact h.closed (S := fun x => Rn L s m x) (Rn.up (Nat.zero_le _) rfl) fun a b ha e => h2 b (.inr ⟨a, ha, e⟩)
  · have : cnt L s k k ≤ k := by
      unfold cnt
      exact Nat.le_trans (List.length_filter_le ..) (by rw [List.length_range]; exact Nat.le_refl _)
    omega
end
/-! sorted lists -/
theorem srt_eq {α : Type} {lt : α → α → Prop} (irr : ∀ x, ¬ lt x x) (tr : ∀ x y z, lt x y → lt y z → lt x z) : ∀ {l m : List α}, l.Pairwise lt → m.Pairwise lt → (∀ x, x ∈ l ↔ x ∈ m) → l = m
  | [], [], _, _, _ => rfl
  | [], b :: m, _, _, h => by have := (h b).mpr List.mem_cons_self; cases this
  | a :: l, [], _, _, h => by have := (h a).mp List.mem_cons_self; cases this
  | a :: l, b :: m, h1, h2, h => by
    obtain ⟨p1, q1⟩ := List.pairwise_cons.mp h1
    obtain ⟨p2, q2⟩ := List.pairwise_cons.mp h2
    have e : a = b := by
      rcases List.mem_cons.mp ((h a).mp List.mem_cons_self) with e | e
      · exact e
      · rcases List.mem_cons.mp ((h b).mpr List.mem_cons_self) with f | f
        · exact f.symm
        · exact (irr a (tr _ _ _ (p1 b f) (p2 a e))).elim
    subst e
    rw [srt_eq irr tr q1 q2 fun x => ⟨fun hx => ?_, fun hx => ?_⟩]
    · rcases List.mem_cons.mp ((h x).mp (List.mem_cons_of_mem _ hx)) with e | e
      · subst e; exact (irr _ (p1 _ hx)).elim
      · exact e
    · rcases List.mem_cons.mp ((h x).mpr (List.mem_cons_of_mem _ hx)) with e | e
      · subst e; exact (irr _ (p2 _ hx)).elim
      · exact e
theorem range_lt (k : Nat) : (List.range k).Pairwise (· < ·) := List.pairwise_lt_range
noncomputable def leadsL (L : List Of) (k s : Nat) : List Nat := (List.range k).filter fun c => @decide (Lead L s c) (Classical.propDecidable _)
noncomputable def backs (L : List Of) (k s : Nat) : List Nat := (List.range k).filter fun c => @decide (Lead L s c ∧ Lead L c s) (Classical.propDecidable _)
theorem mem_leads {L : List Of} {k s c : Nat} : c ∈ leadsL L k s ↔ c < k ∧ Lead L s c := by
  unfold leadsL
  rw [List.mem_filter, List.mem_range, cdec]
theorem mem_backs {L : List Of} {k s c : Nat} : c ∈ backs L k s ↔ c < k ∧ Lead L s c ∧ Lead L c s := by
  unfold backs
  rw [List.mem_filter, List.mem_range, cdec]
theorem backs_same {L : List Of} {k s c : Nat} (h : c ∈ backs L k s) : backs L k c = backs L k s := by
  obtain ⟨h0, h1, h2⟩ := mem_backs.mp h
  unfold backs
  refine List.filter_congr fun x _ => ?_
  have : (Lead L c x ∧ Lead L x c) ↔ (Lead L s x ∧ Lead L x s) := ⟨fun ⟨a, b⟩ => ⟨h1.trans a, b.trans h2⟩, fun ⟨a, b⟩ => ⟨h2.trans a, b.trans h1⟩⟩
  rw [Bool.eq_iff_iff, cdec, cdec]
  exact this
theorem backs_self {L : List Of} {k s : Nat} (h : s < k) : s ∈ backs L k s := mem_backs.mpr ⟨h, .self, .self⟩
theorem leads_lt (L : List Of) (k s : Nat) : (leadsL L k s).Pairwise (· < ·) := (range_lt k).filter _
theorem backs_lt (L : List Of) (k s : Nat) : (backs L k s).Pairwise (· < ·) := (range_lt k).filter _
theorem backs_len (L : List Of) (k s : Nat) : (backs L k s).length ≤ k := Nat.le_trans (List.length_filter_le ..) (by rw [List.length_range]; exact Nat.le_refl _)
theorem leads_len (L : List Of) (k s : Nat) : (leadsL L k s).length ≤ k := Nat.le_trans (List.length_filter_le ..) (by rw [List.length_range]; exact Nat.le_refl _)
theorem backs_filter (L : List Of) (k s : Nat) : (leadsL L k s).filter (fun c => @decide (Lead L c s) (Classical.propDecidable _)) = backs L k s := by
  unfold leadsL backs
  rw [List.filter_filter]
  refine List.filter_congr fun x _ => ?_
  rw [Bool.eq_iff_iff, Bool.and_eq_true, cdec, cdec, cdec]
  exact ⟨fun ⟨a, b⟩ => ⟨b, a⟩, fun ⟨a, b⟩ => ⟨b, a⟩⟩
theorem nd_len {α : Type} [DecidableEq α] : ∀ {l m : List α}, l.Nodup → (∀ x, x ∈ l → x ∈ m) → l.length ≤ m.length
  | [], _, _, _ => Nat.zero_le _
  | a :: l, m, hn, hs => by
    have hm : a ∈ m := hs a List.mem_cons_self
    obtain ⟨n1, n2⟩ := List.nodup_cons.mp hn
    have ih := nd_len (m := m.erase a) n2 fun x hx => (List.mem_erase_of_ne (by rintro rfl; exact n1 hx)).mpr (hs x (List.mem_cons_of_mem _ hx))
    rw [List.length_erase_of_mem hm] at ih
    have := List.length_pos_of_mem hm
    simp only [List.length_cons]
    omega
/-- numbers as integers -/
abbrev ni (l : List Nat) : List Int := l.map fun (c : Nat) => (c : Int)
theorem mem_ni {l : List Nat} {c : Nat} : (c : Int) ∈ ni l ↔ c ∈ l := by
  constructor
  · intro h
    obtain ⟨d, hd, e⟩ := List.mem_map.mp h
    rw [← Int.ofNat.inj e]
    exact hd
  · intro h
    exact List.mem_map.mpr ⟨c, h, rfl⟩
theorem ni_sorted {l : List Nat} (h : l.Pairwise (· < ·)) : (ni l).Pairwise (· < ·) := by
  rw [List.pairwise_map]
  exact h.imp fun q => Int.ofNat_lt.mpr q
theorem ni_nodup {l : List Nat} (h : l.Nodup) : (ni l).Nodup := by
  unfold List.Nodup at h ⊢
  rw [List.pairwise_map]
  exact h.imp fun q e => q (Int.ofNat.inj e)
/-- a sorted arrangement of given numbers -/
theorem ni_sort {F l : List Nat} {ys : List Int} (pm : ys.Perm (ni F)) (le : ys.Pairwise (· ≤ ·)) (nd : F.Nodup) (up : l.Pairwise (· < ·)) (h : ∀ c, c ∈ F ↔ c ∈ l) : ys = ni l := by
  have ny : ys.Nodup := (pm.nodup_iff).mpr (ni_nodup nd)
  have lt : ys.Pairwise (· < ·) := by
    have both := List.Pairwise.and le ny
    exact both.imp fun ⟨a, b⟩ => by omega
  refine srt_eq (lt := fun a b : Int => a < b) (fun x => Int.lt_irrefl x) (fun x y z => Int.lt_trans) lt (ni_sorted up) fun x => ?_
  rw [pm.mem_iff]
  constructor
  · intro hx
    obtain ⟨c, hc, rfl⟩ := List.mem_map.mp hx
    exact mem_ni.mpr ((h c).mp hc)
  · intro hx
    obtain ⟨c, hc, rfl⟩ := List.mem_map.mp hx
    exact mem_ni.mpr ((h c).mpr hc)
end Sm

set_option Elab.async false
set_option linter.all false
set_option maxRecDepth 100000
set_option maxHeartbeats 8000000
namespace Sm
open PySem PySem.Spec PyProof.Rows L2
open C8 (pss_cut)
def topS (i : Nat) : Stmt := PySem.Challenge.pw_smallchange_k40_back_kinds.main.body.getD i (.Pass ⟨0, 0, 0, 0⟩)
structure Txt (mg : Str → Option Value) : Prop where
  n_abs : mg "abs" = none
  n_int : mg "int" = none
  n_len : mg "len" = none
  n_max : mg "max" = none
  n_range : mg "range" = none
  n_repr : mg "repr" = none
  n_set : mg "set" = none
  n_sorted : mg "sorted" = none
  n_tuple : mg "tuple" = none
theorem get_int {T : List Int} {i : Nat} (h : i < T.length) : (T.map V.int)[i]? = some (.int (T.getD i 0)) := by
  rw [List.getElem?_map, List.getElem?_eq_getElem h, List.getD_eq_getElem?_getD, List.getElem?_eq_getElem h]
  rfl
/-! ### boards in the heap -/
def OffAt (H : Hp) (q : Addr) (o : Of) : Prop := H q = some (.tup (o.ns.map V.int))
/-- the offers of a list, one after another -/
def OffsAt (H : Hp) (qs : List Addr) (L : List Of) : Prop := qs.length = L.length ∧ ∀ (i : Nat) (q : Addr), qs[i]? = some q → ∃ o, L[i]? = some o ∧ OffAt H q o
def BoardAt (H : Hp) (d : Addr) (k : Nat) (L : List Of) : Prop := ∃ (t : Addr) (qs : List Addr), H d = some (.tup [.int (k : Int), .ref t]) ∧ H t = some (.tup (qs.map V.ref)) ∧ OffsAt H qs L
theorem OffsAt.same {H H' : Hp} {qs : List Addr} {L : List Of} (h : OffsAt H qs L) (s : Same H H') : OffsAt H' qs L :=
  ⟨h.1, fun i q e => by obtain ⟨o, h1, h2⟩ := h.2 i q e; exact ⟨o, h1, s _ _ h2⟩⟩
theorem BoardAt.same {H H' : Hp} {d : Addr} {k : Nat} {L : List Of} (h : BoardAt H d k L) (s : Same H H') : BoardAt H' d k L := by
  obtain ⟨t, qs, h1, h2, h3⟩ := h
  exact ⟨t, qs, s _ _ h1, s _ _ h2, h3.same s⟩
theorem OffsAt.fr {H H' : Hp} {a l : Addr} {n : Int} {qs : List Addr} {L : List Of} (h : OffsAt H qs L) (f : Fr a l H H') (D : Deck H a l n) : OffsAt H' qs L :=
  ⟨h.1, fun i q e => by obtain ⟨o, h1, h2⟩ := h.2 i q e; exact ⟨o, h1, f.tup D h2⟩⟩
theorem BoardAt.fr {H H' : Hp} {d a l : Addr} {n : Int} {k : Nat} {L : List Of} (h : BoardAt H d k L) (f : Fr a l H H') (D : Deck H a l n) : BoardAt H' d k L := by
  obtain ⟨t, qs, h1, h2, h3⟩ := h
  exact ⟨t, qs, f.tup D h1, f.tup D h2, h3.fr f D⟩
/-- a list's place rewritten: tuples stay -/
theorem OffsAt.updL {H : Hp} {U : Addr} {xs ys : List V} {qs : List Addr} {L : List Of} (h : OffsAt H qs L) (hU : H U = some (.lst xs)) : OffsAt (upd H U (.lst ys)) qs L :=
  ⟨h.1, fun i q e => by
    obtain ⟨o, h1, h2⟩ := h.2 i q e
    refine ⟨o, h1, ?_⟩
    unfold OffAt
    rw [upd_ne (ne_of h2 hU (by intro q; cases q))]
    exact h2⟩
def sp_l_board (_ : PySem.W.Frag) : Sp := fun vs H Q _ => ∃ (p l : Addr) (n : Int) (k : Nat) (upto top : Int), vs = [.ref p, .int (k : Int), .int upto, .int top] ∧ Deck H p l n ∧ 0 ≤ n ∧ n ≤ 900000 ∧ 1 ≤ k ∧ k ≤ 4 ∧ 0 ≤ upto ∧ upto ≤ 40 ∧ 1 ≤ top ∧ top ≤ 30 ∧
  ∀ H' d L n', Fr p l H H' → Deck H' p l n' → n ≤ n' → n' ≤ n + 200 → BoardAt H' d k L → (∀ o ∈ L, OfOk k o) → L.length < 64 → Q (.ref d) H'
section
variable {P : Program} {w : World} {K : PySem.W.Frag} {mg : Str → Option Value} {base : Heap}
abbrev s_l_deck : Stmt := topS 5
abbrev N_l_deck : List Str := ["_law_script", "_law_cell"]
theorem sc_l_deck : FnScope N_l_deck ["_law_script"] (defScope s_l_deck) := ⟨rfl, rfl, rfl, by decide +kernel, rfl, by decide +kernel, by decide +kernel⟩
theorem ok_l_deck (T : Txt mg) (D : Df K mg "_law_deck" s_l_deck ["_law_script"]) : Cal P w K mg base "_law_deck" ["_law_script"] 1 (sp_l_deck K) := by
  refine D.cal sc_l_deck (fun vs H Q E h => ?_) (fun f cdv A outer s H vs Q E hr h => ?_)
  · obtain ⟨a, ns, rfl, _⟩ := h
    rfl
  obtain ⟨a, ns, rfl, hS, hlen, k⟩ := h
  refine ⟨_, (pss_one (ps_ret (pe_lst (pa_cons (pe_lc (own := [("_law_cell", 1)]) (g := gName 1) (tt := tYes) rfl sc_l_deck.nd (pi_list (pe_slice sl_list (pv 0) po_none (po_some pe_int))) (blkOk_by (own := [("_law_cell", 1)]) (N := N_l_deck) (sc := defScope s_l_deck) (by decide +kernel)) (fun _ _ _ _ _ => pg_name (i := 1) sc_l_deck.nd rfl (Or.inl rfl)) (fun _ _ _ _ _ => pts_nil) (fun _ _ _ _ _ => (pe_callB call_abs (by rfl) T.n_abs (by decide +kernel) (pa_cons (pv 1) pa_nil)))) (pa_cons pe_int pa_nil))))), ?_⟩
  refine ⟨_, rfl, _, rfl, a, _, rfl, hS, fun c nc => ?_⟩
  rw [cut63 hlen]
  have s1 := same_upd (o := .lst (ns.map V.int)) nc
  refine ⟨c, rfl, ⟨_, SqL.of upd_same⟩, fun D nD => ?_⟩
  have s2 := s1.trans (same_upd (o := .lst []) nD)
  have hc2 : upd (upd H c (.lst (ns.map V.int))) D (.lst []) c = some (.lst (ns.map V.int)) := same_upd nD _ _ upd_same
  refine lc_list (K := K) (a := c) (xs := ns.map V.int) (fun i H' => Same H H' ∧ H' c = some (.lst (ns.map V.int)) ∧ c ≠ D ∧ H D = none ∧ H' D = some (.lst (((ns.take i).map absI).map V.int)))
    ⟨s2, hc2, ne_of_none upd_same nD, s1.free nD, upd_same⟩ (fun i H' _ h => SqL.of h.2.1) ?_ ?_
  · rintro i x H' hx ⟨sm, hc, ncD, nD0, hD⟩
    rw [List.getElem?_map] at hx
    cases e : ns[i]? with
    | none => rw [e] at hx; cases hx
    | some y =>
      rw [e] at hx
      have ex : x = .int y := (Option.some.inj hx).symm
      subst ex
      refine ⟨rfl, ?_⟩
      unfold tYes
      refine iteT ?_
      refine ⟨_, rfl, _, rfl, _, hD, ?_, ?_⟩
      · rw [List.length_map, List.length_map, List.length_take]
        exact Nat.lt_of_le_of_lt (Nat.min_le_right _ _) (small1000 (by omega))
      · refine ⟨fun b o e => ?_, ?_, ncD, nD0, ?_⟩
        · rw [upd_ne (ne_of_none e nD0)]
          exact sm _ _ e
        · rw [upd_ne ncD]
          exact hc
        · rw [upd_same, List.take_add_one, e, List.map_append, List.map_append]
          rfl
  · rintro H' ⟨sm, hc, ncD, nD0, hD⟩
    refine ⟨(by show 2 ≤ sizeLine; decide), fun p np => ?_⟩
    have s3 := sm.trans (same_upd (o := .lst [.ref D, .int 0]) np)
    refine k _ p D s3 ⟨upd_same, _, (same_upd np) _ _ hD, fun c hc => ?_, ?_⟩
    · obtain ⟨y, _, rfl⟩ := List.mem_map.mp hc
      exact absI_pos y
    · rw [List.length_map, List.length_take]
      omega
abbrev s_l_draw : Stmt := topS 6
abbrev N_l_draw : List Str := ["_law_deck_here", "_law_many", "_law_place", "_law_cell", "_law_mixed"]
theorem sc_l_draw : FnScope N_l_draw ["_law_deck_here", "_law_many"] (defScope s_l_draw) := ⟨rfl, rfl, rfl, by decide +kernel, rfl, by decide +kernel, by decide +kernel⟩
theorem ok_l_draw (T : Txt mg) (D : Df K mg "_law_draw" s_l_draw ["_law_deck_here", "_law_many"]) : Cal P w K mg base "_law_draw" ["_law_deck_here", "_law_many"] 1 (sp_l_draw K) := by
  refine D.cal sc_l_draw (fun vs H Q E h => ?_) (fun f cdv A outer s H vs Q E hr h => ?_)
  · obtain ⟨p, l, n, m, rfl, _⟩ := h
    rfl
  obtain ⟨p, l, n, m, rfl, D, n0, n1, m0, m1, k⟩ := h
  obtain ⟨cells, hl, hc⟩ := D.hl
  have npl : p ≠ l := ne_of D.hp hl deck_ne
  refine ⟨_, (pss_cons (ps_asg (pe_op op_add (pe_ix ix_list (pv 0) pe_int (fun _ _ => rfl)) pe_int) (pg_sub (pv 0) pe_int set_list))
    (pss_cons (ps_set (i := 2) sc_l_draw.nd rfl (Or.inl rfl) (pe_op op_modN (pe_callTy call_int1 (by rfl) T.n_int (by decide +kernel) (pa_cons (pe_ix ix_list (pv 0) pe_int (fun _ _ => rfl)) pa_nil)) (pe_callB (call_max2 rfl) (by rfl) T.n_max (by decide +kernel) (pa_cons pe_int (pa_cons (pe_callB call_len_seq (by rfl) T.n_len (by decide +kernel) (pa_cons (pe_ix ix_list (pv 0) pe_int (fun _ _ => rfl)) pa_nil)) pa_nil)))))
    (pss_cons (ps_set (i := 3) sc_l_draw.nd rfl (Or.inl rfl) (pe_ix ix_list (pe_op op_cat (pe_ix ix_list (pv 0) pe_int (fun _ _ => rfl)) (pe_lst (pa_cons pe_int pa_nil))) (pv 2) (fun _ _ => rfl)))
    (pss_cons (ps_if (pt_cmpR op_ge (pv 3) (pe_op op_pow pe_int pe_int) (nomark _)) (pss_cons (ps_asg (pe_op op_fdivW (pv 3) (pv 1)) (pg_sub (pe_ix ix_list (pv 0) pe_int (fun _ _ => rfl)) (pv 2) set_list))
    (pss_one (ps_ret (pe_op op_modN (pe_callTy call_int1 (by rfl) T.n_int (by decide +kernel) (pa_cons (pv 3) pa_nil)) (pv 1))))) pss_nil)
    (pss_cons (ps_set (i := 4) sc_l_draw.nd rfl (Or.inl rfl) (pe_op op_pow (pe_op op_add (pe_op op_add (pe_op op_modN (pe_callTy call_int1 (by rfl) T.n_int (by decide +kernel) (pa_cons (pv 3) pa_nil)) pe_int) (pe_op op_mul pe_int (pe_ix ix_list (pv 0) pe_int (fun _ _ => rfl)))) pe_int) pe_int))
    (pss_one (ps_ret (pe_op op_modN (pe_callTy call_int1 (by rfl) T.n_int (by decide +kernel) (pa_cons (pe_op op_modN (pe_callTy call_int1 (by rfl) T.n_int (by decide +kernel) (pa_cons (pv 4) pa_nil)) pe_int) pa_nil)) (pv 1))))))))), ?_⟩
  refine ⟨_, rfl, _, _, _, _, rfl, rfl, SqL.of D.hp, atI_nat (j := 1) rfl, _, _, rfl, rfl, _, rfl, _, _, _, _, rfl, rfl, D.hp, rfl, ?_⟩
  generalize hH0 : upd H p (HO.lst (List.set [V.ref l, V.int n] (Int.toNat 1) ((fun i j => V.int (i + j)) n 1))) = H0
  have hH0 : upd H p (.lst [.ref l, .int (n + 1)]) = H0 := hH0
  have f0 : Fr p l H H0 := fun b o h1 _ h => by rw [← hH0, upd_ne h1]; exact h
  have hl0 : H0 l = some (.lst (cells.map V.int)) := by rw [← hH0, upd_ne npl.symm]; exact hl
  have hp0 : H0 p = some (.lst [.ref l, .int (n + 1)]) := by rw [← hH0, upd_same]
  -- place
  have big : (if ((cells.map V.int).length : Int) > 1 then ((cells.map V.int).length : Int) else 1) = max 1 (cells.length : Int) := by
    rw [List.length_map]
    split <;> omega
  have fm : (n + 1).fmod (max 1 (cells.length : Int)) = (n + 1) % (max 1 (cells.length : Int)) := fmod_pos (by omega)
  have q0 : 0 ≤ (n + 1).fmod (max 1 (cells.length : Int)) := by rw [fm]; exact Int.emod_nonneg _ (by omega)
  have q1 : (n + 1).fmod (max 1 (cells.length : Int)) < max 1 (cells.length : Int) := by rw [fm]; exact Int.emod_lt_of_pos _ (by omega)
  refine ⟨_, rfl, _, _, _, _, rfl, rfl, SqL.of hp0, atI_nat (j := 1) rfl, .inl ⟨_, rfl, _, rfl, _, _, _, _, rfl, rfl, SqL.of hp0, atI_nat (j := 0) rfl, _, _, rfl, .inl (SqL.of hl0), _, _, rfl, _, _, rfl, rfl, (by rw [big]; omega), ?_⟩⟩
  have z : ∀ B : Int → Prop, B ((n + 1).fmod (max 1 (cells.length : Int))) → B ((n + 1).fmod (if ((cells.map V.int).length : Int) > 1 then ((cells.map V.int).length : Int) else 1)) := fun B h => by rw [big]; exact h
  refine z (fun y => gName 2 (.int y) _ _ _) ?_
  clear z
  -- cell
  refine ⟨_, rfl, _, _, _, _, rfl, rfl, SqL.of hp0, atI_nat (j := 0) rfl, (by show 1 ≤ sizeLine; decide), fun t nt => ?_⟩
  have st := same_upd (o := .lst [.int 0]) nt
  have hp1 := st _ _ hp0
  have hl1 := st _ _ hl0
  have f1 := f0.trans (Same.fr (p := p) (l := l) st)
  obtain ⟨hc, h63⟩ := hc
  have ln : (cells.map V.int).length = cells.length := List.length_map ..
  refine ⟨_, _, _, _, rfl, rfl, hl1, upd_same, (by rw [ln]; exact Nat.le_trans (by omega : cells.length + 1 ≤ 64) (by decide)), fun t2 nt2 => ?_⟩
  have st2 := same_upd (o := .lst (cells.map V.int ++ [.int 0])) nt2
  have hp2 := st2 _ _ hp1
  have hl2 := st2 _ _ hl1
  have f2 := f1.trans (Same.fr (p := p) (l := l) st2)
  have ht2 : upd (upd H0 t (.lst [.int 0])) t2 (.lst (cells.map V.int ++ [.int 0])) t2 = some (.lst ((cells ++ [0]).map V.int)) := by rw [upd_same, List.map_append]; rfl
  generalize upd (upd H0 t (HO.lst [V.int 0])) t2 (HO.lst (cells.map V.int ++ [V.int 0])) = H2 at hp2 hl2 f2 ht2 ⊢
  have q2 : ((n + 1).fmod (max 1 (cells.length : Int))).toNat < (cells ++ [0]).length := by rw [List.length_append, List.length_singleton]; omega
  have q3 : (n + 1).fmod (max 1 (cells.length : Int)) = (((n + 1).fmod (max 1 (cells.length : Int))).toNat : Int) := by omega
  generalize (n + 1).fmod (max 1 (cells.length : Int)) = pl at q0 q1 q2 q3 ⊢
  have q4 : ((cells ++ [0]).map V.int)[pl.toNat]? = some (.int (cells ++ [0])[pl.toNat]) := by
    rw [List.getElem?_map, List.getElem?_eq_getElem q2]
    rfl
  have c0 : 0 ≤ (cells ++ [0])[pl.toNat] := by
    rcases List.mem_append.mp (List.getElem_mem q2) with q | q
    · exact hc _ q
    · rw [List.mem_singleton.mp q]
      decide
  have inside : 1000000000000000000 ≤ (cells ++ [0])[pl.toNat] → pl.toNat < cells.length := by
    intro q
    by_cases e : pl.toNat < cells.length
    · exact e
    · rw [List.getElem_append_right (by omega)] at q
      simp at q
  generalize (cells ++ [0])[pl.toNat] = c at q4 c0 inside ⊢
  refine ⟨_, rfl, _, _, _, _, rfl, rfl, SqL.of ht2, at_of q3 q4, ?_⟩
  refine ⟨_, rfl, _, _, rfl, rfl, ⟨by decide, by decide, by decide⟩, _, _, rfl, rfl, _, rfl, ite3 (fun e => ?_) (fun e => ?_)⟩
  · have e : 1000000000000000000 ≤ c := e
    have p1 := inside e
    have ix : ixN (cells.map V.int).length pl = some pl.toNat := by
      unfold ixN
      rw [if_pos q0, if_pos (by omega)]
    refine ⟨_, rfl, _, rfl, _, _, rfl, rfl, div_draw m0 m1, _, rfl, _, _, _, _, rfl, rfl, SqL.of hp2, atI_nat (j := 0) rfl, _, rfl, _, _, _, _, rfl, rfl, hl2, ix, ?_⟩
    refine ⟨_, rfl, .inl ⟨_, rfl, _, rfl, _, _, rfl, rfl, (by omega), ?_⟩⟩
    have fm : c.fmod m = c % m := fmod_pos m0
    refine k _ _ (by rw [fm]; exact Int.emod_nonneg _ (by omega)) (by rw [fm]; exact Int.emod_lt_of_pos _ m0) (f2.trans fun b o _ h2 h => by rw [upd_ne h2]; exact h) ⟨by rw [upd_ne npl]; exact hp2, cells.set pl.toNat (c / m), by rw [upd_same, List.map_set], fun y hy => ?_, by rw [List.length_set]; exact h63⟩
    rcases List.mem_or_eq_of_mem_set hy with q | q
    · exact hc y q
    · rw [q]; exact Int.ediv_nonneg c0 (by omega)
  · refine ⟨_, rfl, .inl ⟨_, rfl, _, _, rfl, rfl, (show (2147483587 : Int) ≠ 0 by decide), _, rfl, _, _, _, _, rfl, rfl, SqL.of hp2, atI_nat (j := 1) rfl, _, _, rfl, rfl, .inl ⟨by decide, by decide⟩, _, _, rfl, rfl, _, _, rfl, rfl, ?_⟩⟩
    have fm : c.fmod 2147483587 = c % 2147483587 := fmod_pos (by decide)
    have h0 := Int.emod_nonneg c (show (2147483587 : Int) ≠ 0 by decide)
    have h1 := Int.emod_lt_of_pos c (show (0 : Int) < 2147483587 by decide)
    refine ⟨_, _, rfl, rfl, ⟨by decide, by decide, by rw [fm]; omega⟩, ?_⟩
    refine ⟨_, rfl, .inl ⟨_, rfl, _, _, rfl, rfl, (show (2147483647 : Int) ≠ 0 by decide), .inl ⟨_, rfl, _, rfl, _, _, rfl, rfl, (by omega), ?_⟩⟩⟩
    refine k _ _ ?_ ?_ f2 ⟨hp2, cells, hl2, hc, h63⟩
    · rw [fmod_pos m0]; exact Int.emod_nonneg _ (by omega)
    · rw [fmod_pos m0]; exact Int.emod_lt_of_pos _ m0
abbrev s_l_one : Stmt := topS 7
abbrev N_l_one : List Str := ["_law_deck_here", "_law_items"]
theorem sc_l_one : FnScope N_l_one ["_law_deck_here", "_law_items"] (defScope s_l_one) := ⟨rfl, rfl, rfl, by decide +kernel, rfl, by decide +kernel, by decide +kernel⟩
theorem ok_l_one (T : Txt mg) (D : Df K mg "_law_one" s_l_one ["_law_deck_here", "_law_items"]) (C_l_draw : Cal P w K mg base "_law_draw" ["_law_deck_here", "_law_many"] 1 (sp_l_draw K)) : Cal P w K mg base "_law_one" ["_law_deck_here", "_law_items"] 2 (sp_l_one K) := by
  obtain ⟨f_l_draw, fd_l_draw, G_l_draw, m_l_draw, k_l_draw, b_l_draw⟩ := C_l_draw
  refine D.cal sc_l_one (fun vs H Q E h => ?_) (fun f cdv A outer s H vs Q E hr h => ?_)
  · obtain ⟨p, l, b, n, xs, rfl, _⟩ := h
    rfl
  obtain ⟨p, l, b, n, xs, rfl, D, n0, n1, hb, bp, bl, x0, x1, k⟩ := h
  refine ⟨_, (pss_one (ps_ret (pe_ix ix_list (pv 1) (pe_call G_l_draw (hr.mono (by decide)) (by rfl) m_l_draw k_l_draw b_l_draw .nil pass0 (pa_cons (pv 0) (pa_cons (pe_callB call_len_seq (by rfl) T.n_len (by decide +kernel) (pa_cons (pv 1) pa_nil)) pa_nil))) (fun _ _ => rfl)))), ?_⟩
  refine ⟨_, rfl, _, rfl, _, rfl, _, _, rfl, .inl (SqL.of hb), p, l, n, _, rfl, D, n0, n1, (by omega), (by omega), fun r H' r0 r1 f D' => ?_⟩
  have q : r.toNat < xs.length := by omega
  refine ⟨_, _, _, _, rfl, rfl, SqL.of (f b _ bp bl hb), at_of (j := r.toNat) (by omega) (List.getElem?_eq_getElem q), ?_⟩
  exact k _ H' (List.getElem_mem q) f D'
end
end Sm

set_option Elab.async false
set_option linter.all false
set_option maxRecDepth 100000
set_option maxHeartbeats 8000000
namespace Sm
open PySem PySem.Spec PyProof.Rows L2
open C8 (pss_cut tCut)
def ofNs : List Int → Of
  | [a, x, b, y] => ⟨a.toNat, x, b.toNat, y⟩
  | _ => ⟨0, 0, 0, 0⟩
theorem ofNs_ns (o : Of) : ofNs o.ns = o := by
  cases o
  rfl
theorem offs_of {H : Hp} (L' : List (Addr × List Int)) (h : ∀ p ∈ L', ∃ o : Of, p.2 = o.ns ∧ OffAt H p.1 o) : OffsAt H (L'.map (·.1)) (L'.map fun p => ofNs p.2) := by
  refine ⟨by rw [List.length_map, List.length_map], fun i q e => ?_⟩
  rw [List.getElem?_map] at e
  cases z : L'[i]? with
  | none => rw [z] at e; cases e
  | some p =>
    rw [z] at e
    have e : p.1 = q := Option.some.inj e
    obtain ⟨o, h1, h2⟩ := h p (List.mem_of_getElem? z)
    refine ⟨o, ?_, by rw [← e]; exact h2⟩
    rw [List.getElem?_map, z]
    show some (ofNs p.2) = some o
    rw [h1, ofNs_ns]
theorem bd_ns {k : Nat} {o : Of} (h : OfOk k o) (k4 : k ≤ 4) : o.ns.length = 4 ∧ TS.Bd 100 o.ns := by
  refine ⟨rfl, fun m hm => ?_⟩
  have h1 := h.a
  have h2 := h.b
  have h3 := h.x0
  have h4 := h.x1
  have h5 := h.y0
  have h6 := h.y1
  simp only [Of.ns, List.mem_cons, List.not_mem_nil, or_false] at hm
  rcases hm with rfl | rfl | rfl | rfl <;> omega
/-- tuple(sorted(set(..))) of offers, told for the list that stands at U -/
theorem set_board {K : PySem.W.Frag} {P : Program} {w : World} {H : Hp} {U : Addr} {ks : List (Addr × Of)} {k : Nat} (hU : H U = some (.lst (ks.map fun e => V.ref e.1))) (hk : ∀ e ∈ ks, OffAt H e.1 e.2 ∧ OfOk k e.2) (k4 : k ≤ 4) (h64 : ks.length < 64)
    {Q : VK} (q : ∀ H' t (qs : List Addr) (L : List Of), Same H H' → H' t = some (.tup (qs.map V.ref)) → OffsAt H' qs L → (∀ o ∈ L, OfOk k o) → L.length < 64 → Q (.ref t) H') :
    rSetOfT K P w [.ref U] H fun x H1 => rSortedT K P w [x] H1 fun y H2 => ∃ (q : Addr) (xs : List V), [y] = [V.ref q] ∧ ((SqL K H2 q xs ∧ ∀ t, H2 t = none → Q (.ref t) (upd H2 t (.tup xs))) ∨ SqT K H2 q xs ∧ Q (.ref q) H2) := by
  have lm : (ks.map fun e => (e.1, e.2.ns)).map (fun p : Addr × List Int => V.ref p.1) = ks.map fun e => V.ref e.1 := by
    rw [List.map_map]
    rfl
  refine ⟨U, ks.map fun e => (e.1, e.2.ns), rfl, ?_, fun p hp => ?_, by rw [List.length_map]; exact h64, fun a L na hL _ => ?_⟩
  · rw [lm]
    exact SqL.of hU
  · obtain ⟨e, he, rfl⟩ := List.mem_map.mp hp
    exact SqT.of (hk e he).1
  have sa := same_upd (o := SetTO P w a L) na
  have own : ∀ p ∈ L, ∃ e ∈ ks, p = (e.1, e.2.ns) := fun p hp => by
    obtain ⟨e, he, h⟩ := List.mem_map.mp (hL p hp)
    exact ⟨e, he, h.symm⟩
  refine ⟨a, L, 4, 100, rfl, upd_same, fun p hp => ?_, by decide, fun p hp => ?_, fun L' r pm nd l64 pw nr => ?_⟩
  · obtain ⟨e, he, rfl⟩ := own p hp
    exact SqT.of (sa _ _ (hk e he).1)
  · obtain ⟨e, he, rfl⟩ := own p hp
    exact bd_ns (hk e he).2 k4
  have sr := same_upd (o := .lst (L'.map fun q => V.ref q.1)) nr
  refine ⟨r, _, rfl, .inl ⟨SqL.of upd_same, fun t nt => ?_⟩⟩
  have st := same_upd (o := .tup (L'.map fun q => V.ref q.1)) nt
  have s := sa.trans (sr.trans st)
  refine q _ t (L'.map (·.1)) (L'.map fun p => ofNs p.2) s (by rw [upd_same, List.map_map]; rfl) (offs_of L' fun p hp => ?_) (fun o ho => ?_) (by rw [List.length_map]; exact l64)
  · obtain ⟨e, he, rfl⟩ := own p (pm.mem_iff.mp hp)
    exact ⟨e.2, rfl, s _ _ (hk e he).1⟩
  · obtain ⟨p, hp, rfl⟩ := List.mem_map.mp ho
    obtain ⟨e, he, rfl⟩ := own p (pm.mem_iff.mp hp)
    show OfOk k (ofNs e.2.ns)
    rw [ofNs_ns]
    exact (hk e he).2
/-- the offers found so far -/
def BW (p l U : Addr) (k : Nat) (upto top n : Int) (H : Hp) (i : Nat) (σ : L2.St) (H' : Hp) : Prop := ∃ (n' : Int) (ks : List (Addr × Of)) (v5 v6 v7 v8 : Option V), σ = [some (.ref p), some (.int (k : Int)), some (.int upto), some (.int top), some (.ref U), v5, v6, v7, v8] ∧ Deck H' p l n' ∧ n ≤ n' ∧ n' ≤ n + 1 + 4 * (i : Int) ∧ Fr p l H H' ∧
      H' U = some (.lst (ks.map fun e => V.ref e.1)) ∧ ks.length = i ∧ ∀ e ∈ ks, OffAt H' e.1 e.2 ∧ OfOk k e.2
theorem BW.more {p l U t : Addr} {k i : Nat} {upto top n n' : Int} {H H7 : Hp} {ks : List (Addr × Of)} {o : Of} {v5 v6 v7 v8 : Option V} (hn : ∀ b o, H b = some o → b ≠ U) (Up : U ≠ p) (Ul : U ≠ l) (D : Deck H7 p l n') (n0 : n ≤ n') (n1 : n' ≤ n + 5 + 4 * (i : Int)) (f : Fr p l H H7)
    (hU : H7 U = some (.lst (ks.map fun e => V.ref e.1))) (kl : ks.length = i) (old : ∀ e ∈ ks, OffAt H7 e.1 e.2 ∧ OfOk k e.2) (ht : OffAt H7 t o) (ho : OfOk k o) :
    BW p l U k upto top n H (i + 1) [some (.ref p), some (.int (k : Int)), some (.int upto), some (.int top), some (.ref U), v5, v6, v7, v8] (upd H7 U (.lst ((ks.map fun e => V.ref e.1) ++ [.ref t]))) := by
  have neU : ∀ b xs, H7 b = some (.tup xs) → b ≠ U := fun b xs hb => ne_of hb hU (by intro q; cases q)
  refine ⟨n', ks ++ [(t, o)], v5, v6, v7, v8, rfl, ⟨by rw [upd_ne Up.symm]; exact D.hp, ?_⟩, n0, by omega, ?_, ?_, ?_, ?_⟩
  · obtain ⟨cells, q1, q2⟩ := D.hl
    exact ⟨cells, by rw [upd_ne Ul.symm]; exact q1, q2⟩
  · intro b o h1 h2 hb
    rw [upd_ne (hn b o hb)]
    exact f b o h1 h2 hb
  · rw [upd_same, List.map_append]
    rfl
  · rw [List.length_append, List.length_singleton, kl]
  · intro e he
    rcases List.mem_append.mp he with he | he
    · refine ⟨?_, (old e he).2⟩
      unfold OffAt
      rw [upd_ne (neU _ _ (old e he).1)]
      exact (old e he).1
    · rw [List.mem_singleton.mp he]
      refine ⟨?_, ho⟩
      unfold OffAt
      rw [upd_ne (neU _ _ ht)]
      exact ht
section
variable {P : Program} {w : World} {K : PySem.W.Frag} {mg : Str → Option Value} {base : Heap}
abbrev s_l_board : Stmt := topS 8
abbrev N_l_board : List Str := ["_law_deck_here", "_law_kinds", "_law_upto", "_law_top", "_law_found", "_law_k", "_law_a", "_law_x", "_law_y"]
theorem sc_l_board : FnScope N_l_board ["_law_deck_here", "_law_kinds", "_law_upto", "_law_top"] (defScope s_l_board) := ⟨rfl, rfl, rfl, by decide +kernel, rfl, by decide +kernel, by decide +kernel⟩
theorem ok_l_board (T : Txt mg) (D : Df K mg "_law_board" s_l_board ["_law_deck_here", "_law_kinds", "_law_upto", "_law_top"]) (C_l_draw : Cal P w K mg base "_law_draw" ["_law_deck_here", "_law_many"] 1 (sp_l_draw K)) : Cal P w K mg base "_law_board" ["_law_deck_here", "_law_kinds", "_law_upto", "_law_top"] 2 (sp_l_board K) := by
  obtain ⟨f_l_draw, fd_l_draw, G_l_draw, m_l_draw, k_l_draw, b_l_draw⟩ := C_l_draw
  refine D.cal sc_l_board (fun vs H Q E h => ?_) (fun f cdv A outer s H vs Q E hr h => ?_)
  · obtain ⟨p, l, n, k, upto, top, rfl, _⟩ := h
    rfl
  obtain ⟨p, l, n, k, upto, top, rfl, D0, n0, n1, k1, k4, u0, u1, t0, t1, kk⟩ := h
  refine ⟨_, (pss_cons (ps_set (i := 4) sc_l_board.nd rfl (Or.inl rfl) (pe_lst pa_nil))
    (pss_cons (ps_for PassesOwn.never rfl (pi_range1 (by rfl) T.n_range (pa_cons (pe_op op_mul (pe_call G_l_draw (hr.mono (by decide)) (by rfl) m_l_draw k_l_draw b_l_draw .nil pass0 (pa_cons (pv 0) (pa_cons (pe_op op_add (pv 2) pe_int) pa_nil))) (pe_callTy call_int1 (by rfl) T.n_int (by decide +kernel) (pa_cons (pe_cmpR op_gt (pv 1) pe_int (nomark _)) pa_nil))) pa_nil)) (pg_name (i := 5) sc_l_board.nd rfl (Or.inl rfl))
      (pss_cons (ps_par3 (i := 6) (j := 7) (l := 8) (by rfl) sc_l_board.nd rfl rfl rfl (by decide) (by decide) (by decide) rfl rfl rfl (pa_cons (pe_call G_l_draw (hr.mono (by decide)) (by rfl) m_l_draw k_l_draw b_l_draw .nil pass0 (pa_cons (pv 0) (pa_cons (pv 1) pa_nil))) (pa_cons (pe_op op_add pe_int (pe_call G_l_draw (hr.mono (by decide)) (by rfl) m_l_draw k_l_draw b_l_draw .nil pass0 (pa_cons (pv 0) (pa_cons (pv 3) pa_nil)))) (pa_cons (pe_call G_l_draw (hr.mono (by decide)) (by rfl) m_l_draw k_l_draw b_l_draw .nil pass0 (pa_cons (pv 0) (pa_cons (pe_op op_add (pv 3) pe_int) pa_nil))) pa_nil))) (by rfl))
    (pss_one (ps_expr (pe_bm PySem.F.plainAttrs_list PySem.F.slot_list_append PySem.F.type_list_append mt_append (pv 4) (pa_cons (pe_tup (pa_cons (pv 6) (pa_cons (pv 7) (pa_cons (pe_op op_modN (pe_callTy call_int1 (by rfl) T.n_int (by decide +kernel) (pa_cons (pe_op op_add (pe_op op_add (pv 6) pe_int) (pe_call G_l_draw (hr.mono (by decide)) (by rfl) m_l_draw k_l_draw b_l_draw .nil pass0 (pa_cons (pv 0) (pa_cons (pe_op op_sub (pv 1) pe_int) pa_nil)))) pa_nil)) (pv 1)) (pa_cons (pv 8) pa_nil))))) pa_nil))))))
    (pss_one (ps_ret (pe_tup (pa_cons (pv 1) (pa_cons (pe_callTy call_tuple_of (by rfl) T.n_tuple (by decide +kernel) (pa_cons (pe_callB (cr_sortedT rfl) (by rfl) T.n_sorted (by decide +kernel) (pa_cons (pe_callTy (cr_setOfT rfl hr.units) (by rfl) T.n_set (by decide +kernel) (pa_cons (pv 4) pa_nil)) pa_nil)) pa_nil)) pa_nil))))))), ?_⟩
  refine ⟨(by show 0 ≤ sizeLine; decide), fun U nU => ?_⟩
  obtain ⟨Up, Ul⟩ := D0.lne nU
  have sU := same_upd (o := .lst []) nU
  refine ⟨_, rfl, _, rfl, _, _, rfl, rfl, p, l, n, _, rfl, D0.same sU, n0, by omega, by omega, by omega, fun r H1 r0 r1 f1 D1 => ?_⟩
  refine ⟨_, rfl, _, _, rfl, rfl, .inr ⟨_, rfl, _, _, rfl, rfl, .inl ⟨by omega, by omega⟩, ?_⟩⟩
  obtain ⟨N, hN, hN2, hN1⟩ : ∃ N : Nat, r * (if decide ((k : Int) > 1) = true then 1 else 0) = (N : Int) ∧ (0 < N → 2 ≤ k) ∧ N ≤ 40 := by
    by_cases q : (k : Int) > 1
    · rw [decide_eq_true q, if_pos rfl, Int.mul_one]
      exact ⟨r.toNat, by omega, by omega, by omega⟩
    · rw [decide_eq_false q, if_neg Bool.false_ne_true, Int.mul_zero]
      exact ⟨0, rfl, by omega, by omega⟩
  refine ⟨r * (if decide ((k : Int) > 1) = true then 1 else 0), rfl, (by rw [hN]; omega), (by rw [hN]; omega), ?_⟩
  have hn : ∀ b o, H b = some o → b ≠ U := fun b o hb => ne_of_none hb nU
  refine for_range (lo := 0) (n := _) (BW p l U k upto top n H)
    ⟨n + 1, [], none, none, none, none, rfl, D1, by omega, by omega, (Same.fr sU).trans f1, f1 U _ Up Ul upd_same, rfl, fun e he => nomatch he⟩ ?_ ?_
  · rintro i σ H2 hi ⟨n', ks, v5, v6, v7, v8, rfl, D2, m0, m1, f2, hU, kl, hk⟩
    have hi : i < (r * (if decide ((k : Int) > 1) = true then 1 else 0)).toNat := hi
    rw [hN] at hi
    have hi : i < N := by omega
    have k2 := hN2 (by omega)
    refine ⟨_, rfl, _, rfl, p, l, n', _, rfl, D2, by omega, by omega, by omega, by omega, fun ra H3 a0 a1 f3 D3 => ?_⟩
    refine ⟨_, rfl, _, rfl, p, l, n' + 1, _, rfl, D3, by omega, by omega, by omega, by omega, fun rx H4 x0 x1 f4 D4 => ?_⟩
    refine ⟨_, _, rfl, rfl, _, rfl, _, rfl, _, _, rfl, rfl, p, l, n' + 1 + 1, _, rfl, D4, by omega, by omega, by omega, by omega, fun ry H5 y0 y1 f5 D5 => ?_⟩
    refine ⟨_, _, _, rfl, ?_⟩
    have hU5 := f5 U _ Up Ul (f4 U _ Up Ul (f3 U _ Up Ul hU))
    refine ⟨_, rfl, .inl ⟨rfl, _, SqL.of hU5⟩, ?_⟩
    refine ⟨_, rfl, _, rfl, _, rfl, _, _, rfl, rfl, _, rfl, _, rfl, _, _, rfl, rfl, p, l, n' + 1 + 1 + 1, _, rfl, D5, by omega, by omega, by omega, by omega, fun rb H6 b0 b1 f6 D6 => ?_⟩
    refine ⟨_, _, rfl, rfl, .inl ⟨_, rfl, _, rfl, _, _, rfl, rfl, (show (k : Int) ≠ 0 by omega), _, rfl, (by show 4 ≤ sizeLine; decide), fun t nt => ?_⟩⟩
    have fm : (ra + 1 + rb).fmod (k : Int) = (ra + 1 + rb) % (k : Int) := fmod_pos (by omega)
    have c0 : 0 ≤ (ra + 1 + rb).fmod (k : Int) := by rw [fm]; exact Int.emod_nonneg _ (by omega)
    have c1 : (ra + 1 + rb).fmod (k : Int) < (k : Int) := by rw [fm]; exact Int.emod_lt_of_pos _ (by omega)
    have cn : (ra + 1 + rb).fmod (k : Int) ≠ ra := by
      rw [fm]
      obtain rfl | rfl | rfl : k = 2 ∨ k = 3 ∨ k = 4 := by omega
      · show (ra + 1 + rb) % 2 ≠ ra
        have b1 : rb < 2 - 1 := b1
        have a1 : ra < 2 := a1
        omega
      · show (ra + 1 + rb) % 3 ≠ ra
        have b1 : rb < 3 - 1 := b1
        have a1 : ra < 3 := a1
        omega
      · show (ra + 1 + rb) % 4 ≠ ra
        have b1 : rb < 4 - 1 := b1
        have a1 : ra < 4 := a1
        omega
    have hU6 := f6 U _ Up Ul hU5
    have ft := f3.trans (f4.trans (f5.trans f6))
    have st := same_upd (o := .tup [.int ra, .int (1 + rx), .int ((ra + 1 + rb).fmod (k : Int)), .int ry]) nt
    refine ⟨U, _, _, rfl, rfl, st _ _ hU6, ?_, ?_⟩
    · rw [List.length_map, kl]
      exact Nat.lt_of_le_of_lt (show i ≤ 40 by omega) (by decide)
    · refine BW.more (n' := n' + 1 + 1 + 1 + 1) (o := ⟨ra.toNat, 1 + rx, ((ra + 1 + rb).fmod (k : Int)).toNat, ry⟩) hn Up Ul (D6.same st) (by omega) (by omega) (f2.trans (ft.trans (Same.fr st))) (st _ _ hU6) kl (fun e he => ⟨st _ _ (ft.tup D2 (hk e he).1), (hk e he).2⟩) ?_ ?_
      · show upd H6 t _ t = some (.tup [.int (ra.toNat : Int), .int (1 + rx), .int (((ra + 1 + rb).fmod (k : Int)).toNat : Int), .int ry])
        rw [Int.toNat_of_nonneg a0, Int.toNat_of_nonneg c0]
        exact upd_same
      · exact ⟨by show ra.toNat < k; omega, by show Int.toNat _ < k; omega, by show ra.toNat ≠ Int.toNat _; omega, by show 1 ≤ 1 + rx; omega, by show 1 + rx ≤ 30; omega, y0, by show ry ≤ 30; omega⟩
  · rintro σ H2 ⟨n', ks, v5, v6, v7, v8, rfl, D2, m0, m1, f2, hU, kl, hk⟩
    rw [hN] at kl m1
    refine ⟨_, rfl, _, rfl, ?_⟩
    refine set_board (K := K) (P := P) (w := w) (Q := fun v H1 => [V.int (k : Int), v].length ≤ sizeLine ∧ ∀ p, H1 p = none → Q (.ref p) (upd H1 p (.tup [.int (k : Int), v]))) hU hk k4 (by omega) fun H3 t qs L s3 ht hL ok l64 => ⟨(by show 2 ≤ sizeLine; decide), fun d nd => ?_⟩
    have sd := same_upd (o := .tup [.int (k : Int), .ref t]) nd
    exact kk _ d L n' (f2.trans (Same.fr (s3.trans sd))) ((D2.same s3).same sd) (by omega) (by omega) ⟨t, qs, upd_same, sd _ _ ht, hL.same sd⟩ ok l64
end
end Sm

set_option Elab.async false
set_option linter.all false
set_option maxRecDepth 100000
set_option maxHeartbeats 8000000
namespace Sm
open PySem PySem.Spec PyProof.Rows L2
open C8 (pss_cut tCut)
/-- a dict of numbers, each with True -/
def kvOf (F : List Nat) : List (Key × V) := F.map fun (c : Nat) => (Sum.inl (c : Int), V.bl true)
theorem val_kv (c : Nat) : ∀ F : List Nat, (valV (kvOf F) (Sum.inl (c : Int))).isSome = decide (c ∈ F)
  | [] => rfl
  | d :: F => by
    have ih := val_kv c F
    by_cases e : d = c
    · subst e
      show (valV ((Sum.inl (d : Int), V.bl true) :: kvOf F) _).isSome = _
      rw [valV_pos rfl]
      simp
    · show (valV ((Sum.inl (d : Int), V.bl true) :: kvOf F) _).isSome = _
      rw [valV_neg (fun q => e (Int.ofNat.inj (Sum.inl.inj q))), ih]
      simp [Ne.symm e]
theorem put_kv (c : Nat) (F : List Nat) : putK (kvOf F) (Sum.inl (c : Int)) (V.bl true) = kvOf (if c ∈ F then F else F ++ [c]) := by
  unfold putK
  rw [valV_any, val_kv]
  by_cases e : c ∈ F
  · rw [decide_eq_true e, if_pos rfl, if_pos e]
    unfold kvOf
    rw [List.map_map]
    refine List.map_congr_left fun d _ => ?_
    show (if Sum.inl (d : Int) = (Sum.inl (c : Int) : Key) then (Sum.inl (d : Int), V.bl true) else (Sum.inl (d : Int), V.bl true)) = _
    split <;> rfl
  · rw [decide_eq_false e, if_neg Bool.false_ne_true, if_neg e]
    unfold kvOf
    rw [List.map_append]
    rfl
theorem keys_kv (F : List Nat) : (kvOf F).map (·.1) = (ni F).map Sum.inl := by
  unfold kvOf ni
  rw [List.map_map, List.map_map]
  rfl
def sp_leads_from (_ : PySem.W.Frag) : Sp := fun vs H Q _ => ∃ (d : Addr) (k s : Nat) (L : List Of), vs = [.ref d, .int (s : Int)] ∧ BoardAt H d k L ∧ (∀ o ∈ L, OfOk k o) ∧ s < k ∧ k ≤ 4 ∧
  ∀ H' q, Same H H' → H' q = some (.lst ((ni (leadsL L k s)).map V.int)) → Q (.ref q) H'
def sp_back_kinds (_ : PySem.W.Frag) : Sp := fun vs H Q _ => ∃ (d : Addr) (k s : Nat) (L : List Of), vs = [.ref d, .int (s : Int)] ∧ BoardAt H d k L ∧ (∀ o ∈ L, OfOk k o) ∧ s < k ∧ k ≤ 4 ∧
  ∀ H' q, Same H H' → H' q = some (.tup ((ni (backs L k s)).map V.int)) → Q (.ref q) H'
def sp_l_back (_ : PySem.W.Frag) : Sp := fun vs H Q _ => ∃ (d : Addr) (k s : Nat) (L : List Of), vs = [.ref d, .int (s : Int)] ∧ BoardAt H d k L ∧ (∀ o ∈ L, OfOk k o) ∧ s < k ∧ k ≤ 4 ∧ L.length < 64 ∧
  ∀ H' q, Same H H' → H' q = some (.tup ((ni (backs L k s)).map V.int)) → Q (.ref q) H'
/-- what stands within a round of the search -/
structure LdW (L : List Of) (s n j : Nat) (F : List Nat) : Prop where
  nd : F.Nodup
  sound : ∀ c ∈ F, Lead L s c
  all : ∀ c, Rn L s n c → c ∈ F
  now : ∀ (i : Nat) o, i < j → L[i]? = some o → 0 < o.y → Rn L s n o.a → o.b ∈ F
theorem LdW.next {L : List Of} {s n j : Nat} {F : List Nat} (w : LdW L s n j F) (h : L.length ≤ j) : LdW L s (n + 1) 0 F := by
  refine ⟨w.nd, w.sound, fun c hc => ?_, fun i o hi => absurd hi (Nat.not_lt_zero _)⟩
  rcases hc with hc | ⟨b, hb, o, ho, ea, eb, y0⟩
  · exact w.all c hc
  · obtain ⟨i, hi, e⟩ := List.getElem_of_mem ho
    rw [← eb]
    exact w.now i o (by omega) (by rw [List.getElem?_eq_getElem hi, e]) y0 (by rw [ea]; exact hb)
theorem LdW.skip {L : List Of} {s n j : Nat} {F : List Nat} {o : Of} (w : LdW L s n j F) (ho : L[j]? = some o) (h : ¬ (0 < o.y ∧ o.a ∈ F)) : LdW L s n (j + 1) F := by
  refine ⟨w.nd, w.sound, w.all, fun i o' hi e y0 r => ?_⟩
  by_cases q : i = j
  · subst q
    rw [ho] at e
    obtain rfl := Option.some.inj e
    exact (h ⟨y0, w.all _ r⟩).elim
  · exact w.now i o' (by omega) e y0 r
theorem LdW.put {L : List Of} {s n j : Nat} {F : List Nat} {o : Of} (w : LdW L s n j F) (ho : L[j]? = some o) (h1 : 0 < o.y) (h2 : o.a ∈ F) : LdW L s n (j + 1) (if o.b ∈ F then F else F ++ [o.b]) := by
  have sub : ∀ c, c ∈ F → c ∈ (if o.b ∈ F then F else F ++ [o.b]) := fun c hc => by
    split
    · exact hc
    · exact List.mem_append_left _ hc
  have mb : o.b ∈ (if o.b ∈ F then F else F ++ [o.b]) := by
    split
    · assumption
    · exact List.mem_append_right _ List.mem_cons_self
  refine ⟨?_, fun c hc => ?_, fun c hc => sub c (w.all c hc), fun i o' hi e y0 r => ?_⟩
  · split
    · exact w.nd
    · rename_i q
      rw [List.nodup_append]
      refine ⟨w.nd, by simp, fun a ha b hb => ?_⟩
      rw [List.mem_singleton.mp hb]
      rintro rfl
      exact q ha
  · have edge : Lead L s o.b := (w.sound _ h2).step ⟨o, List.mem_of_getElem? ho, rfl, rfl, h1⟩
    split at hc
    · exact w.sound c hc
    · rcases List.mem_append.mp hc with hc | hc
      · exact w.sound c hc
      · rw [List.mem_singleton.mp hc]
        exact edge
  · by_cases q : i = j
    · subst q
      rw [ho] at e
      obtain rfl := Option.some.inj e
      exact mb
    · exact sub _ (w.now i o' (by omega) e y0 r)
theorem LdW.len {L : List Of} {s n j k : Nat} {F : List Nat} (w : LdW L s n j F) (ok : ∀ o ∈ L, OfOk k o) (hs : s < k) : F.length ≤ k := by
  have := nd_len (m := List.range k) w.nd fun x hx => List.mem_range.mpr ((w.sound x hx).lt ok hs)
  rw [List.length_range] at this
  exact this
section
variable {P : Program} {w : World} {K : PySem.W.Frag} {mg : Str → Option Value} {base : Heap}
abbrev s_leads_from : Stmt := topS 1
abbrev N_leads_from : List Str := ["board", "kind", "found", "_", "a", "b", "y"]
theorem sc_leads_from : FnScope N_leads_from ["board", "kind"] (defScope s_leads_from) := ⟨rfl, rfl, rfl, by decide +kernel, rfl, by decide +kernel, by decide +kernel⟩
theorem ok_leads_from (T : Txt mg) (D : Df K mg "leads_from" s_leads_from ["board", "kind"]) : Cal P w K mg base "leads_from" ["board", "kind"] 1 (sp_leads_from K) := by
  refine D.cal sc_leads_from (fun vs H Q E h => ?_) (fun f cdv A outer s H vs Q E hr h => ?_)
  · obtain ⟨d, k, s, L, rfl, _⟩ := h
    rfl
  obtain ⟨d, k, s, L, rfl, B, ok, sk, k4, kk⟩ := h
  obtain ⟨t, qs, hd, ht, hL⟩ := id B
  refine ⟨_, (pss_cons (ps_set (i := 2) sc_leads_from.nd rfl (Or.inl rfl) (pe_disp (pps_cons (pv 1) pe_bl pps_nil) rfl rfl (fun z => nomatch z) (by decide)))
    (pss_cons (ps_for PassesOwn.never rfl (pi_range1 (by rfl) T.n_range (pa_cons (pe_ix ix_tup (pv 0) pe_int (fun _ _ => rfl)) pa_nil)) (pg_name (i := 3) sc_leads_from.nd rfl (Or.inl rfl))
      (pss_one (ps_for PassesOwn.never rfl (pi_tup (pe_ix ix_tup (pv 0) pe_int (fun _ _ => rfl))) (pg_tup (by rfl) (pgs_cons (pg_name (i := 4) sc_leads_from.nd rfl (Or.inl rfl)) (pgs_cons (pg_name (i := 3) sc_leads_from.nd rfl (Or.inl rfl)) (pgs_cons (pg_name (i := 5) sc_leads_from.nd rfl (Or.inl rfl)) (pgs_cons (pg_name (i := 6) sc_leads_from.nd rfl (Or.inl rfl)) pgs_nil)))))
      (pss_one (ps_if (PW.pt (pw_and (pt_cmpR op_gt (pv 6) pe_int (nomark _)) (pw_and1 (pt_cmp (pc_din (hu_of hr) (pv 4) (pv 2)) rfl)))) (pss_one (ps_dput (hu_of hr) (pv 2) (pv 5) pe_bl rfl)) pss_nil)))))
    (pss_one (ps_ret (pe_callB (call_sortedDI rfl) (by rfl) T.n_sorted (by decide +kernel) (pa_cons (pv 2) pa_nil)))))), ?_⟩
  refine fun D nD => ⟨_, rfl, upd_same, [(Sum.inl (s : Int), V.bl true)], rfl, (by show 1 ≤ 15; decide), ?_⟩
  have sD : Same H (upd (upd H D (.dK [])) D (.dK (mergeK [] [(Sum.inl (s : Int), V.bl true)]))) := fun b o e => by
    rw [upd_ne (ne_of_none e nD), upd_ne (ne_of_none e nD)]
    exact e
  refine ⟨_, rfl, _, _, _, _, rfl, rfl, SqT.of (sD _ _ hd), atI_nat (j := 0) rfl, _, rfl, (by omega), (by omega), ?_⟩
  refine for_range (lo := 0) (n := _) (fun n σ H' => ∃ (F : List Nat) (v3 v4 v5 v6 : Option V), σ = [some (.ref d), some (.int (s : Int)), some (.ref D), v3, v4, v5, v6] ∧ Same H H' ∧ H' D = some (.dK (kvOf F)) ∧ LdW L s n 0 F)
    ⟨[s], none, none, none, none, rfl, sD, upd_same, by simp, fun c hc => by rw [List.mem_singleton.mp hc]; exact .self, fun c hc => by rw [show c = s from hc]; exact List.mem_cons_self, fun i o hi => absurd hi (Nat.not_lt_zero _)⟩ ?_ ?_
  · rintro n σ H1 hn ⟨F, v3, v4, v5, v6, rfl, s1, hD, lw⟩
    refine ⟨_, rfl, _, _, _, _, rfl, rfl, SqT.of (s1 _ _ hd), atI_nat (j := 1) rfl, t, rfl, ⟨_, SqT.of (s1 _ _ ht)⟩, ?_⟩
    refine for_tup (K := K) (a := t) (xs := qs.map V.ref) (fun j σ H' => ∃ (F : List Nat) (v3 v4 v5 v6 : Option V), σ = [some (.ref d), some (.int (s : Int)), some (.ref D), v3, v4, v5, v6] ∧ Same H H' ∧ H' D = some (.dK (kvOf F)) ∧ LdW L s n j F)
      ⟨F, _, _, _, _, rfl, s1, hD, lw⟩ (fun j σ H' _ h => by obtain ⟨_, _, _, _, _, _, s', _⟩ := h; exact SqT.of (s' _ _ ht)) ?_ ?_
    · rintro j x σ H2 hx ⟨F, v3, v4, v5, v6, rfl, s2, hD, lw⟩
      rw [List.getElem?_map] at hx
      cases e : qs[j]? with
      | none => rw [e] at hx; cases hx
      | some q =>
        rw [e] at hx
        have ex : x = .ref q := (Option.some.inj hx).symm
        subst ex
        obtain ⟨o, ho, hq⟩ := hL.2 j q e
        have hq2 : H2 q = some (.tup [.int (o.a : Int), .int o.x, .int (o.b : Int), .int o.y]) := s2 _ _ hq
        refine ⟨q, _, rfl, SqT.of hq2, rfl, _, _, rfl, _, _, rfl, _, _, rfl, _, _, rfl, rfl, ?_⟩
        refine ⟨_, rfl, _, _, rfl, rfl, _, rfl, ?_⟩
        by_cases y0 : o.y > 0
        · refine iteP y0 ⟨_, rfl, _, rfl, D, _, rfl, DGet.k (k := Sum.inl (o.a : Int)) hD, _, congrArg V.bl (val_kv o.a F), ite3 (fun a0 => ?_) (fun a0 => ?_)⟩
          · have l4 := lw.len ok sk
            refine ⟨_, rfl, _, rfl, D, _, rfl, DPut.k (k := Sum.inl (o.b : Int)) hD ?_, ?_⟩
            · unfold kvOf
              rw [List.length_map]
              exact Nat.lt_of_le_of_lt (show F.length ≤ 4 by omega) (by decide)
            · rw [put_kv]
              refine ⟨_, _, _, _, _, rfl, fun b o' e' => ?_, upd_same, lw.put ho y0 a0⟩
              rw [upd_ne (ne_of_none e' nD)]
              exact s2 _ _ e'
          · exact ⟨F, _, _, _, _, rfl, s2, hD, lw.skip ho fun q => a0 q.2⟩
        · exact iteN y0 (iteF ⟨F, _, _, _, _, rfl, s2, hD, lw.skip ho fun q => y0 q.1⟩)
    · rintro σ H2 ⟨F, v3, v4, v5, v6, rfl, s2, hD, lw⟩
      refine ⟨F, _, _, _, _, rfl, s2, hD, lw.next ?_⟩
      rw [List.length_map, hL.1]
      exact Nat.le_refl _
  · rintro σ H1 ⟨F, v3, v4, v5, v6, rfl, s1, hD, lw⟩
    rw [Int.toNat_natCast] at lw
    refine ⟨_, rfl, D, kvOf F, ni F, rfl, .inl hD, keys_kv F, ?_, fun ys q pm pw nq => ?_⟩
    · have := lw.len ok sk
      unfold ni
      rw [List.length_map]
      omega
    · have sq := same_upd (o := .lst (ys.map V.int)) nq
      refine kk _ q (s1.trans sq) ?_
      rw [upd_same, ni_sort pm pw lw.nd (leads_lt L k s) fun c => ⟨fun hc => mem_leads.mpr ⟨(lw.sound c hc).lt ok sk, lw.sound c hc⟩, fun hc => lw.all c ((mem_leads.mp hc).2.to ok sk)⟩]
end
end Sm

set_option Elab.async false
set_option linter.all false
set_option maxRecDepth 100000
set_option maxHeartbeats 8000000
namespace Sm
open PySem PySem.Spec PyProof.Rows L2
open C8 (pss_cut tCut)
theorem inV_int (a : Int) : ∀ T : List Int, inV (.int a) (T.map V.int) = decide (a ∈ T)
  | [] => rfl
  | b :: T => by
    have ih := inV_int a T
    unfold inV at ih ⊢
    rw [List.map_cons, List.any_cons, ih]
    show (decide (b = a) || decide (a ∈ T)) = _
    by_cases e : b = a
    · subst e
      simp
    · simp [e, Ne.symm e]
theorem flat_int : ∀ T : List Int, (T.map V.int).all flatV = true
  | [] => rfl
  | b :: T => by
    rw [List.map_cons, List.all_cons, flat_int T]
    rfl
theorem take_ni {l : List Nat} {j : Nat} {x : V} (h : ((ni l).map V.int)[j]? = some x) : ∃ c : Nat, l[j]? = some c ∧ x = .int (c : Int) := by
  rw [List.getElem?_map, List.getElem?_map] at h
  cases e : l[j]? with
  | none => rw [e] at h; cases h
  | some c =>
    rw [e] at h
    exact ⟨c, rfl, (Option.some.inj h).symm⟩
theorem filt_yes {α : Type} {p : α → Bool} {l : List α} {j : Nat} {c : α} (h : l[j]? = some c) (q : p c = true) : (l.take (j + 1)).filter p = (l.take j).filter p ++ [c] := by
  rw [List.take_add_one, h, List.filter_append]
  show _ ++ List.filter p [c] = _
  rw [List.filter_cons, if_pos q, List.filter_nil]
theorem filt_no {α : Type} {p : α → Bool} {l : List α} {j : Nat} {c : α} (h : l[j]? = some c) (q : p c = false) : (l.take (j + 1)).filter p = (l.take j).filter p := by
  rw [List.take_add_one, h, List.filter_append]
  show _ ++ List.filter p [c] = _
  rw [List.filter_cons, q, if_neg Bool.false_ne_true, List.filter_nil, List.append_nil]
/-- what a turn of the law's own search finds -/
noncomputable def grow (L : List Of) (G : List Nat) : List Nat := (L.filter fun o => @decide (o.a ∈ G ∧ 0 < o.y) (Classical.propDecidable _)).map (·.b)
theorem grow_yes {L : List Of} {G : List Nat} {j : Nat} {o : Of} (h : L[j]? = some o) (q : o.a ∈ G ∧ 0 < o.y) : grow (L.take (j + 1)) G = grow (L.take j) G ++ [o.b] := by
  unfold grow
  rw [filt_yes h (cdec.mpr q), List.map_append]
  rfl
theorem grow_no {L : List Of} {G : List Nat} {j : Nat} {o : Of} (h : L[j]? = some o) (q : ¬ (o.a ∈ G ∧ 0 < o.y)) : grow (L.take (j + 1)) G = grow (L.take j) G := by
  unfold grow
  rw [filt_no h (cdecf.mpr q)]
theorem grow_len (L : List Of) (G : List Nat) : (grow L G).length ≤ L.length := by
  unfold grow
  rw [List.length_map]
  exact List.length_filter_le ..
theorem mem_grow {L : List Of} {G : List Nat} {b : Nat} : b ∈ grow L G ↔ ∃ a ∈ G, Edge L a b := by
  unfold grow
  constructor
  · intro h
    obtain ⟨o, ho, rfl⟩ := List.mem_map.mp h
    obtain ⟨h1, h2⟩ := List.mem_filter.mp ho
    have h2 := cdec.mp h2
    exact ⟨o.a, h2.1, o, h1, rfl, rfl, h2.2⟩
  · rintro ⟨a, ha, o, ho, rfl, rfl, y0⟩
    exact List.mem_map.mpr ⟨o, List.mem_filter.mpr ⟨ho, cdec.mpr ⟨ha, y0⟩⟩, rfl⟩
theorem rfilt_yes {p : Nat → Bool} {j : Nat} (q : p j = true) : (List.range (j + 1)).filter p = (List.range j).filter p ++ [j] := by
  rw [List.range_succ, List.filter_append]
  show _ ++ List.filter p [j] = _
  rw [List.filter_cons, if_pos q, List.filter_nil]
theorem rfilt_no {p : Nat → Bool} {j : Nat} (q : p j = false) : (List.range (j + 1)).filter p = (List.range j).filter p := by
  rw [List.range_succ, List.filter_append]
  show _ ++ List.filter p [j] = _
  rw [List.filter_cons, q, if_neg Bool.false_ne_true, List.filter_nil, List.append_nil]
theorem lst_ne {G : List Nat} {rs : List Addr} (h : G ≠ []) : HO.lst ((ni G).map V.int) ≠ HO.lst (rs.map V.ref) := by
  intro q
  injection q with q
  cases G with
  | nil => exact h rfl
  | cons c G => cases rs with
    | nil => cases q
    | cons r rs => cases (List.cons.inj q).1
section
variable {P : Program} {w : World} {K : PySem.W.Frag} {mg : Str → Option Value} {base : Heap}
abbrev s_back_kinds : Stmt := topS 3
abbrev N_back_kinds : List Str := ["board", "kind", "other"]
theorem sc_back_kinds : FnScope N_back_kinds ["board", "kind"] (defScope s_back_kinds) := ⟨rfl, rfl, rfl, by decide +kernel, rfl, by decide +kernel, by decide +kernel⟩
theorem ok_back_kinds (T : Txt mg) (D : Df K mg "back_kinds" s_back_kinds ["board", "kind"]) (C_leads_from : Cal P w K mg base "leads_from" ["board", "kind"] 1 (sp_leads_from K)) : Cal P w K mg base "back_kinds" ["board", "kind"] 2 (sp_back_kinds K) := by
  obtain ⟨f_leads_from, fd_leads_from, G_leads_from, m_leads_from, k_leads_from, b_leads_from⟩ := C_leads_from
  refine D.cal sc_back_kinds (fun vs H Q E h => ?_) (fun f cdv A outer s H vs Q E hr h => ?_)
  · obtain ⟨d, k, s, L, rfl, _⟩ := h
    rfl
  obtain ⟨d, k, s, L, rfl, B, ok, sk, k4, kk⟩ := h
  refine ⟨_, (pss_one (ps_ret (pe_callTy call_tuple_of (by rfl) T.n_tuple (by decide +kernel) (pa_cons (pe_lc (own := [("other", 2)]) (g := gName 2) (tt := _) rfl sc_back_kinds.nd (pi_list (pe_call G_leads_from (hr.mono (by decide)) (by rfl) m_leads_from k_leads_from b_leads_from .nil pass0 (pa_cons (pv 0) (pa_cons (pv 1) pa_nil)))) (blkOk_by (own := [("other", 2)]) (N := N_back_kinds) (sc := defScope s_back_kinds) (by decide +kernel)) (fun _ _ _ _ _ => pg_name (i := 2) sc_back_kinds.nd rfl (Or.inl rfl)) (fun _ _ _ _ _ => pts_one (pt_cmpR (show OpR _ _ (rIn K false) from op_in_seq) (pv 1) (pe_call G_leads_from (hr.mono (by decide)) (by rfl) m_leads_from k_leads_from b_leads_from .nil pass0 (pa_cons (pv 0) (pa_cons (pv 2) pa_nil))) (by rfl))) (fun _ _ _ _ _ => (pv 2))) pa_nil)))), ?_⟩
  refine ⟨_, rfl, _, rfl, d, k, s, L, rfl, B, ok, sk, k4, fun H1 q1 s1 hq1 => ?_⟩
  refine ⟨q1, rfl, ⟨_, SqL.of hq1⟩, fun U nU => ?_⟩
  have sU := same_upd (o := .lst []) nU
  have ln := leads_len L k s
  refine lc_list (K := K) (a := q1) (xs := (ni (leadsL L k s)).map V.int) (fun j H' => Same H1 H' ∧ H' U = some (.lst ((ni (((leadsL L k s).take j).filter fun c => @decide (Lead L c s) (Classical.propDecidable _))).map V.int))) ⟨sU, upd_same⟩ (fun j H' _ h => SqL.of (h.1 _ _ hq1)) ?_ ?_
  · rintro j x H' hx ⟨s', hU⟩
    obtain ⟨c, hc, rfl⟩ := take_ni hx
    have cl := mem_leads.mp (List.mem_of_getElem? hc)
    refine ⟨rfl, ?_⟩
    refine ⟨_, rfl, _, rfl, _, rfl, d, k, c, L, rfl, (B.same s1).same s', ok, cl.1, k4, fun H2 q2 s2 hq2 => ?_⟩
    have hU2 := s2 _ _ hU
    refine ⟨q2, _, rfl, .inl (SqL.of hq2), rfl, flat_int _, _, congrArg V.bl (inV_int _ _), ite3 (fun e => ?_) (fun e => ?_)⟩
    · have le : Lead L c s := (mem_leads.mp (mem_ni.mp e)).2
      refine ⟨_, rfl, _, hU2, ?_, fun b o e' => ?_, ?_⟩
      · rw [List.length_map, List.length_map]
        exact Nat.lt_of_le_of_lt (Nat.le_trans (List.length_filter_le ..) (by rw [List.length_take]; omega : ((leadsL L k s).take j).length ≤ 4)) (by decide)
      · rw [upd_ne (ne_of_none e' nU)]
        exact s2 _ _ (s' _ _ e')
      · rw [upd_same, filt_yes hc (cdec.mpr le)]
        unfold ni
        rw [List.map_append, List.map_append]
        rfl
    · have le : ¬ Lead L c s := fun z => e (mem_ni.mpr (mem_leads.mpr ⟨sk, z⟩))
      refine ⟨s'.trans s2, ?_⟩
      rw [filt_no hc (cdecf.mpr le)]
      exact hU2
  · rintro H' ⟨s', hU⟩
    rw [List.take_of_length_le (by rw [List.length_map, List.length_map]; exact Nat.le_refl _), backs_filter] at hU
    refine ⟨_, _, rfl, .inl ⟨SqL.of hU, fun q nq => ?_⟩⟩
    exact kk _ q (s1.trans (s'.trans (same_upd nq))) upd_same
abbrev s_l_back : Stmt := topS 9
abbrev N_l_back : List Str := ["_law_board_here", "_law_kind", "_law_rows", "_law_begin", "_law_found", "_law_turn", "_law_one_here", "_law_a", "_law_x", "_law_b", "_law_y"]
theorem sc_l_back : FnScope N_l_back ["_law_board_here", "_law_kind"] (defScope s_l_back) := ⟨rfl, rfl, rfl, by decide +kernel, rfl, by decide +kernel, by decide +kernel⟩
/-- the rows found so far -/
def RwW (H : Hp) (L : List Of) (k : Nat) (rs : List Addr) : Prop := ∀ (i : Nat) (r : Addr), rs[i]? = some r → ∃ G : List Nat, H r = some (.lst ((ni G).map V.int)) ∧ ∀ c, c ∈ G ↔ Lead L i c
theorem ok_l_back (T : Txt mg) (D : Df K mg "_law_back" s_l_back ["_law_board_here", "_law_kind"]) : Cal P w K mg base "_law_back" ["_law_board_here", "_law_kind"] 1 (sp_l_back K) := by
  refine D.cal sc_l_back (fun vs H Q E h => ?_) (fun f cdv A outer s H vs Q E hr h => ?_)
  · obtain ⟨d, k, s, L, rfl, _⟩ := h
    rfl
  obtain ⟨d, k, s, L, rfl, B, ok, sk, k4, l64, kk⟩ := h
  obtain ⟨t, qs, hd, ht, hL⟩ := id B
  refine ⟨_, (pss_cons (ps_set (i := 2) sc_l_back.nd rfl (Or.inr rfl) (pe_lst pa_nil))
    (pss_cons (ps_for PassesOwn.never rfl (pi_range1 (by rfl) T.n_range (pa_cons (pe_ix ix_tup (pv 0) pe_int (fun _ _ => rfl)) pa_nil)) (pg_name (i := 3) sc_l_back.nd rfl (Or.inl rfl))
      (pss_cons (ps_set (i := 4) sc_l_back.nd rfl (Or.inr rfl) (pe_lst (pa_cons (pv 3) pa_nil)))
    (pss_cons (ps_for PassesOwn.never rfl (pi_range1 (by rfl) T.n_range (pa_cons (pe_ix ix_tup (pv 0) pe_int (fun _ _ => rfl)) pa_nil)) (pg_name (i := 5) sc_l_back.nd rfl (Or.inl rfl))
      (pss_one (ps_set (i := 4) sc_l_back.nd rfl (Or.inr rfl) (pe_op op_cat (pv 4) (pe_lc (own := [("_law_a", 7), ("_law_x", 8), ("_law_b", 9), ("_law_y", 10)]) (g := gTup K 4 (gCons (gName 7) (gCons (gName 8) (gCons (gName 9) (gCons (gName 10) gNil))))) (tt := _) rfl sc_l_back.nd (pi_tup (pe_ix ix_tup (pv 0) pe_int (fun _ _ => rfl))) (blkOk_by (own := [("_law_a", 7), ("_law_x", 8), ("_law_b", 9), ("_law_y", 10)]) (N := N_l_back) (sc := defScope s_l_back) (by decide +kernel)) (fun _ _ _ _ _ => pg_tup (by rfl) (pgs_cons (pg_name (i := 7) sc_l_back.nd rfl (Or.inl rfl)) (pgs_cons (pg_name (i := 8) sc_l_back.nd rfl (Or.inl rfl)) (pgs_cons (pg_name (i := 9) sc_l_back.nd rfl (Or.inl rfl)) (pgs_cons (pg_name (i := 10) sc_l_back.nd rfl (Or.inl rfl)) pgs_nil))))) (fun _ _ _ _ _ => pts_one (PW.pt (pw_and (pt_cmpR (show OpR _ _ (rIn K false) from op_in_seq) (pv 7) (pv 4) (by rfl)) (pw_and1 (pt_cmpR op_gt (pv 10) pe_int (nomark _)))))) (fun _ _ _ _ _ => (pv 9)))))))
    (pss_one (ps_expr (pe_bm PySem.F.plainAttrs_list PySem.F.slot_list_append PySem.F.type_list_append mt_append (pv 2) (pa_cons (pv 4) pa_nil)))))))
    (pss_one (ps_ret (pe_callTy call_tuple_of (by rfl) T.n_tuple (by decide +kernel) (pa_cons (pe_lc (own := [("_law_one_here", 6)]) (g := gName 6) (tt := _) rfl sc_l_back.nd (pi_range1 (by rfl) T.n_range (pa_cons (pe_ix ix_tup (pv 0) pe_int (fun _ _ => rfl)) pa_nil)) (blkOk_by (own := [("_law_one_here", 6)]) (N := N_l_back) (sc := defScope s_l_back) (by decide +kernel)) (fun _ _ _ _ _ => pg_name (i := 6) sc_l_back.nd rfl (Or.inl rfl)) (fun _ _ _ _ _ => pts_one (PW.pt (pw_and (pt_cmpR (show OpR _ _ (rIn K false) from op_in_seq) (pv 6) (pe_ix (show IxR _ (rIxL K) from ix_list) (pv 2) (pv 1) (fun _ _ => rfl)) (by rfl)) (pw_and1 (pt_cmpR (show OpR _ _ (rIn K false) from op_in_seq) (pv 1) (pe_ix (show IxR _ (rIxL K) from ix_list) (pv 2) (pv 6) (fun _ _ => rfl)) (by rfl)))))) (fun _ _ _ _ _ => (pv 6))) pa_nil)))))), ?_⟩
  refine ⟨(by show 0 ≤ sizeLine; decide), fun R nR => ?_⟩
  have sR := same_upd (o := .lst []) nR
  refine ⟨_, rfl, _, _, _, _, rfl, rfl, SqT.of (sR _ _ hd), atI_nat (j := 0) rfl, _, rfl, (by omega), (by omega), ?_⟩
  refine for_range (lo := 0) (n := _) (fun i σ H' => ∃ (rs : List Addr) (v3 v4 v5 : Option V), σ = [some (.ref d), some (.int (s : Int)), some (.ref R), v3, v4, v5, none, none, none, none, none] ∧ Same H H' ∧ H' R = some (.lst (rs.map V.ref)) ∧ rs.length = i ∧ RwW H' L k rs)
    ⟨[], none, none, none, rfl, sR, upd_same, rfl, fun i r e => by cases e⟩ ?_ ?_
  · rintro i σ H1 hi ⟨rs, v3, v4, v5, rfl, s1, hR, rl, rw1⟩
    have hi : i < ((k : Nat) : Int).toNat := hi
    rw [Int.toNat_natCast] at hi
    have B1 := B.same s1
    refine ⟨_, rfl, (by show 1 ≤ sizeLine; decide), fun g0 ng => ?_⟩
    have sg := same_upd (o := .lst [.int (0 + (i : Int))]) ng
    refine ⟨_, rfl, _, _, _, _, rfl, rfl, SqT.of (sg _ _ (s1 _ _ hd)), atI_nat (j := 0) rfl, _, rfl, (by omega), (by omega), ?_⟩
    refine for_range (lo := 0) (n := _) (fun m σ H' => ∃ (g : Addr) (G : List Nat) (v5 : Option V), σ = [some (.ref d), some (.int (s : Int)), some (.ref R), some (.int (0 + (i : Int))), some (.ref g), v5, none, none, none, none, none] ∧ Same H1 H' ∧ H' g = some (.lst ((ni G).map V.int)) ∧
        (∀ c, Rn L i m c → c ∈ G) ∧ (∀ c ∈ G, Lead L i c) ∧ G.length ≤ 1 + 64 * m)
      ⟨g0, [i], _, rfl, sg, by rw [upd_same, Int.zero_add]; rfl, fun c hc => by rw [show c = i from hc]; exact List.mem_cons_self, fun c hc => by rw [List.mem_singleton.mp hc]; exact .self, Nat.le_refl _⟩ ?_ ?_
    · rintro m σ H2 hm ⟨g, G, v5', rfl, s2, hg, gall, gs, gl⟩
      have hm : m < ((k : Nat) : Int).toNat := hm
      rw [Int.toNat_natCast] at hm
      refine ⟨_, rfl, _, rfl, _, _, _, _, rfl, rfl, SqT.of (s2 _ _ (s1 _ _ hd)), atI_nat (j := 1) rfl, t, rfl, ⟨_, SqT.of (s2 _ _ (s1 _ _ ht))⟩, fun U nU => ?_⟩
      have sU := same_upd (o := .lst []) nU
      have ht2 := s2 _ _ (s1 _ _ ht)
      refine lc_tup (K := K) (a := t) (xs := qs.map V.ref) (fun j H' => Same H2 H' ∧ H' U = some (.lst ((ni (grow (L.take j) G)).map V.int))) ⟨sU, upd_same⟩ (fun j H' _ h => SqT.of (h.1 _ _ ht2)) ?_ ?_
      · rintro j x H3 hx ⟨s3, hU⟩
        rw [List.getElem?_map] at hx
        cases e : qs[j]? with
        | none => rw [e] at hx; cases hx
        | some q =>
          rw [e] at hx
          have ex : x = .ref q := (Option.some.inj hx).symm
          subst ex
          obtain ⟨o, ho, hq⟩ := hL.2 j q e
          have hq3 : H3 q = some (.tup [.int (o.a : Int), .int o.x, .int (o.b : Int), .int o.y]) := s3 _ _ (s2 _ _ (s1 _ _ hq))
          refine ⟨q, _, rfl, SqT.of hq3, rfl, _, _, rfl, _, _, rfl, _, _, rfl, _, _, rfl, rfl, ?_⟩
          refine ⟨rfl, ?_⟩
          refine ⟨_, rfl, _, rfl, g, _, rfl, .inl (SqL.of (s3 _ _ hg)), rfl, flat_int _, _, congrArg V.bl (inV_int _ _), ?_⟩
          by_cases a0 : (o.a : Int) ∈ ni G
          · refine iteP a0 ⟨_, rfl, _, _, rfl, rfl, _, rfl, ite3 (fun y0 => ?_) (fun y0 => ?_)⟩
            · refine ⟨_, rfl, _, hU, ?_, fun b o' e' => ?_, ?_⟩
              · rw [List.length_map, List.length_map]
                exact Nat.lt_of_le_of_lt (Nat.le_trans (grow_len _ _) (by rw [List.length_take]; omega : (L.take j).length ≤ 64)) (by decide)
              · rw [upd_ne (ne_of_none e' nU)]
                exact s3 _ _ e'
              · rw [upd_same, grow_yes ho ⟨mem_ni.mp a0, y0⟩]
                unfold ni
                rw [List.map_append, List.map_append]
                rfl
            · refine ⟨s3, ?_⟩
              rw [grow_no ho fun z => y0 z.2]
              exact hU
          · refine iteN a0 (iteF ⟨s3, ?_⟩)
            rw [grow_no ho fun z => a0 (mem_ni.mpr z.1)]
            exact hU
      · rintro H3 ⟨s3, hU⟩
        rw [List.length_map, hL.1, List.take_length] at hU
        refine ⟨_, _, _, _, rfl, rfl, s3 _ _ hg, hU, ?_, fun g' ng' => ?_⟩
        · rw [List.length_map, List.length_map, List.length_map, List.length_map]
          have := grow_len L G
          exact Nat.le_trans (show G.length + (grow L G).length ≤ 1000 by omega) (by decide)
        · refine ⟨g', G ++ grow L G, _, rfl, s2.trans (s3.trans (same_upd ng')), ?_, fun c hc => ?_, fun c hc => ?_, ?_⟩
          · rw [upd_same]
            unfold ni
            rw [List.map_append, List.map_append]
          · rcases hc with hc | ⟨b, hb, e⟩
            · exact List.mem_append_left _ (gall c hc)
            · exact List.mem_append_right _ (mem_grow.mpr ⟨b, gall b hb, e⟩)
          · rcases List.mem_append.mp hc with hc | hc
            · exact gs c hc
            · obtain ⟨a, ha, e⟩ := mem_grow.mp hc
              exact (gs a ha).step e
          · rw [List.length_append]
            have := grow_len L G
            omega
    · rintro σ H2 ⟨g, G, v5', rfl, s2, hg, gall, gs, gl⟩
      rw [Int.toNat_natCast] at gall
      have hR2 := s2 _ _ hR
      have own : i ∈ G := gall i (Rn.up (Nat.zero_le _) rfl)
      have mem : ∀ c, c ∈ G ↔ Lead L i c := fun c => ⟨gs c, fun h => gall c (h.to ok hi)⟩
      refine ⟨_, rfl, .inl ⟨rfl, _, SqL.of hR2⟩, _, rfl, R, _, _, rfl, rfl, hR2, ?_, rs ++ [g], _, _, _, rfl, fun b o e => ?_, ?_, ?_, fun i' r e => ?_⟩
      · rw [List.length_map, rl]
        exact Nat.lt_of_le_of_lt (show i ≤ 4 by omega) (by decide)
      · rw [upd_ne (ne_of_none e nR)]
        exact s2 _ _ (s1 _ _ e)
      · rw [upd_same, List.map_append]
        rfl
      · rw [List.length_append, List.length_singleton, rl]
      · have cell : ∀ (r : Addr) (G' : List Nat), G' ≠ [] → H2 r = some (.lst ((ni G').map V.int)) → upd H2 R (.lst (rs.map V.ref ++ [.ref g])) r = some (.lst ((ni G').map V.int)) := fun r G' n0 h => by
          rw [upd_ne (ne_of h hR2 (lst_ne n0))]
          exact h
        rw [List.getElem?_append] at e
        split at e
        · obtain ⟨G', h1, h2⟩ := rw1 i' r e
          exact ⟨G', cell r G' (by rintro rfl; have := (h2 i').mpr .self; cases this) (s2 _ _ h1), h2⟩
        · rename_i nl
          have z : i' = i := by
            have := (List.getElem?_eq_some_iff.mp e).1
            rw [List.length_singleton] at this
            omega
          subst z
          rw [rl, Nat.sub_self] at e
          have : g = r := Option.some.inj e
          subst this
          exact ⟨G, cell g G (by rintro rfl; cases own) hg, mem⟩
  · rintro σ H1 ⟨rs, v3, v4, v5, rfl, s1, hR, rl, rw1⟩
    rw [Int.toNat_natCast] at rl
    have row : ∀ i, i < k → ∃ (r : Addr) (G : List Nat), (rs.map V.ref)[i]? = some (.ref r) ∧ H1 r = some (.lst ((ni G).map V.int)) ∧ ∀ c, c ∈ G ↔ Lead L i c := fun i hi => by
      have hl : i < rs.length := by omega
      obtain ⟨G, h1, h2⟩ := rw1 i rs[i] (List.getElem?_eq_getElem hl)
      exact ⟨rs[i], G, by rw [List.getElem?_map, List.getElem?_eq_getElem hl]; rfl, h1, h2⟩
    obtain ⟨g, G, hg1, hg2, hg3⟩ := row s sk
    refine ⟨_, rfl, _, _, _, _, rfl, rfl, SqT.of (s1 _ _ hd), atI_nat (j := 0) rfl, _, rfl, (by omega), (by omega), fun U nU => ?_⟩
    have sU := same_upd (o := .lst []) nU
    refine lc_range (lo := 0) (n := _) (fun j H' => Same H1 H' ∧ H' U = some (.lst ((ni ((List.range j).filter fun c => @decide (Lead L s c ∧ Lead L c s) (Classical.propDecidable _))).map V.int))) ⟨sU, upd_same⟩ ?_ ?_
    · rintro j H2 hj ⟨s2, hU⟩
      have hj : j < ((k : Nat) : Int).toNat := hj
      rw [Int.toNat_natCast] at hj
      obtain ⟨r, G', hr1, hr2, hr3⟩ := row j hj
      have stay : ¬ (Lead L s j ∧ Lead L j s) → Same H1 H2 ∧ H2 U = some (.lst ((ni ((List.range (j + 1)).filter fun c => @decide (Lead L s c ∧ Lead L c s) (Classical.propDecidable _))).map V.int)) := fun q => by
        rw [rfilt_no (cdecf.mpr q)]
        exact ⟨s2, hU⟩
      refine ⟨rfl, ?_⟩
      refine ⟨_, rfl, _, rfl, _, rfl, _, _, _, _, rfl, rfl, SqL.of (s2 _ _ hR), atI_nat (j := s) hg1, g, _, rfl, .inl (SqL.of (s2 _ _ hg2)), rfl, flat_int _, _, congrArg V.bl (inV_int _ _), ?_⟩
      by_cases a0 : (0 : Int) + (j : Int) ∈ ni G
      · refine iteP a0 ⟨_, rfl, _, rfl, _, rfl, _, _, _, _, rfl, rfl, SqL.of (s2 _ _ hR), at_of (j := j) (Int.zero_add _) hr1, r, _, rfl, .inl (SqL.of (s2 _ _ hr2)), rfl, flat_int _, _, congrArg V.bl (inV_int _ _), ite3 (fun y0 => ?_) (fun y0 => ?_)⟩
        · rw [Int.zero_add] at a0
          have both := And.intro ((hg3 j).mp (mem_ni.mp a0)) ((hr3 s).mp (mem_ni.mp y0))
          refine ⟨_, rfl, _, hU, ?_, fun b o' e' => ?_, ?_⟩
          · rw [List.length_map, List.length_map]
            exact Nat.lt_of_le_of_lt (Nat.le_trans (List.length_filter_le ..) (by rw [List.length_range]; omega : (List.range j).length ≤ 4)) (by decide)
          · rw [upd_ne (ne_of_none e' nU)]
            exact s2 _ _ e'
          · rw [upd_same, rfilt_yes (cdec.mpr both), Int.zero_add]
            unfold ni
            rw [List.map_append, List.map_append]
            rfl
        · exact stay fun q => y0 (mem_ni.mpr ((hr3 s).mpr q.2))
      · refine iteN a0 (iteF (stay fun q => a0 ?_))
        rw [Int.zero_add]
        exact mem_ni.mpr ((hg3 j).mpr q.1)
    · rintro H2 ⟨s2, hU⟩
      rw [Int.toNat_natCast] at hU
      refine ⟨_, _, rfl, .inl ⟨SqL.of hU, fun q nq => ?_⟩⟩
      exact kk _ q (s1.trans (s2.trans (same_upd nq))) upd_same
end
end Sm

set_option Elab.async false
set_option linter.all false
set_option maxRecDepth 100000
set_option maxHeartbeats 8000000
namespace Sm
open PySem PySem.Spec PyProof.Rows L2
/-! ### tuples of ints as data -/
def tD (t : List Int) : PyData := .tuple (t.map PyData.int)
def dLL (LL : List (List Int)) : List PyData := LL.map tD
theorem log_abs {i : Int} (h0 : -(10 ^ 60) ≤ i) (h1 : i ≤ 10 ^ 60) : i.natAbs.log2 < 1920 :=
  Nat.lt_of_lt_of_le (PySem.Flt.log2_lt_of (k := 310) (by decide) (by omega)) (by decide)
structure Sm8 (t : List Int) : Prop where
  len : t.length ≤ 8
  sm : ∀ n ∈ t, n.natAbs.log2 < 1920
theorem tD_sh {t : List Int} (h : Sm8 t) : (tD t).showable = true ∧ (tD t).hasDict = false ∧ (tD t).depth ≤ 2 ∧ (tD t).shown.length ≤ 16000 ∧ (tD t).canLay0 = true := by
  have dep := depth_ints t
  obtain ⟨s1, s2⟩ := shown_ints h.sm
  have t1 := PySem.tupleText_len_le (PyData.shownAll (t.map PyData.int))
  have l8 := h.len
  have lay : PyData.canLayAll0 (t.map PyData.int) = true := by
    clear dep s1 s2 t1 l8 h
    induction t with
    | nil => rfl
    | cons i t ih => simp [PyData.canLayAll0, PyData.canLay0, ih]
  unfold tD
  refine ⟨?_, ?_, ?_, ?_, ?_⟩
  · simp only [PyData.showable, showable_ints h.sm]
  · simp only [PyData.hasDict, hasDict_ints]
  · simp only [PyData.depth]
    omega
  · simp only [PyData.shown]
    omega
  · simp only [PyData.canLay0, lay]
theorem dLL_sh : ∀ {LL : List (List Int)}, (∀ t ∈ LL, Sm8 t) → PyData.showableAll (dLL LL) = true ∧ PyData.hasDictAll (dLL LL) = false ∧ PyData.depthAll (dLL LL) ≤ 2 ∧ ((PyData.shownAll (dLL LL)).map (·.length)).sum ≤ 16000 * LL.length ∧ (PyData.shownAll (dLL LL)).length = LL.length ∧ PyData.canLayAll0 (dLL LL) = true
  | [], _ => by
    unfold dLL
    simp [PyData.showableAll, PyData.hasDictAll, PyData.depthAll, PyData.shownAll, PyData.canLayAll0]
  | t :: LL, h => by
    obtain ⟨a1, a2, a3, a4, a5⟩ := tD_sh (h t List.mem_cons_self)
    obtain ⟨b1, b2, b3, b4, b5, b6⟩ := dLL_sh (LL := LL) fun t' ht => h t' (List.mem_cons_of_mem _ ht)
    unfold dLL at *
    simp only [List.map_cons, PyData.showableAll, PyData.hasDictAll, PyData.depthAll, PyData.shownAll, PyData.canLayAll0, a1, a2, a5, b1, b2, b6, List.sum_cons, List.length_cons, Bool.and_self, Bool.or_self, true_and, and_true]
    omega
/-- a list, a tuple of such tuples can be shown -/
theorem lLL_show {LL : List (List Int)} (h : ∀ t ∈ LL, Sm8 t) (l : LL.length ≤ 200) : PyData.showable (.list (dLL LL)) = true ∧ PyData.hasDict (.list (dLL LL)) = false ∧ PyData.depth (.list (dLL LL)) ≤ 60 ∧ (PyData.shown (.list (dLL LL))).length ≤ sizeLine ∧ SeqAt.shaped (.list (dLL LL)) = true := by
  obtain ⟨b1, b2, b3, b4, b5, b6⟩ := dLL_sh h
  have t := listText_len_le (PyData.shownAll (dLL LL))
  have dep : PyData.depth (.list (dLL LL)) ≤ 60 := by
    simp only [PyData.depth]
    omega
  refine ⟨?_, ?_, dep, ?_, ?_⟩
  · simp only [PyData.showable, b1]
  · simp only [PyData.hasDict, b2]
  · simp only [PyData.shown]
    rw [sizeLine_eq]
    omega
  · have dep' : PyData.depth (.list (dLL LL)) ≤ 64 := by omega
    have lay : PyData.canLay0 (.list (dLL LL)) = true := by simp only [PyData.canLay0, b6]
    unfold SeqAt.shaped
    rw [lay, decide_eq_true dep']
    rfl
theorem tD_shaped {t : List Int} (h : Sm8 t) : SeqAt.shaped (tD t) = true := by
  obtain ⟨a1, a2, a3, a4, a5⟩ := tD_sh h
  unfold SeqAt.shaped
  rw [a5, decide_eq_true (show (tD t).depth ≤ 64 by omega)]
  rfl
theorem dp_tD {K : PySem.W.Frag} {H : Hp} {q : Addr} {t : List Int} (h : H q = some (.tup (t.map V.int))) : Dp K H (.ref q) (tD t) := .tup (SqT.of h) (dp_ints t)
/-- the data of tuples that stand at these places -/
theorem dp_dLL {K : PySem.W.Frag} {H : Hp} : ∀ {qs : List Addr} {LL : List (List Int)}, qs.length = LL.length → (∀ (i : Nat) (q : Addr), qs[i]? = some q → ∃ t, LL[i]? = some t ∧ H q = some (.tup (t.map V.int))) → DpAll K H (qs.map V.ref) (dLL LL)
  | [], [], _, _ => .nil
  | q :: qs, t :: LL, hl, h => by
    obtain ⟨t', e, hq⟩ := h 0 q rfl
    obtain rfl : t = t' := Option.some.inj e
    exact .cons (dp_tD hq) (dp_dLL (by simpa using hl) fun i q' e => h (i + 1) q' e)
/-! ### boards as data -/
def bD (k : Nat) (L : List Of) : PyData := .tuple [.int (k : Int), .tuple (dLL (L.map Of.ns))]
theorem BoardAt.dp {K : PySem.W.Frag} {H : Hp} {d : Addr} {k : Nat} {L : List Of} (B : BoardAt H d k L) : Dp K H (.ref d) (bD k L) := by
  obtain ⟨t, qs, h1, h2, h3, h4⟩ := B
  refine .tup (SqT.of h1) (.cons (.int _) (.cons (.tup (SqT.of h2) (dp_dLL (by rw [List.length_map]; exact h3) fun i q e => ?_)) .nil))
  obtain ⟨o, e1, e2⟩ := h4 i q e
  exact ⟨o.ns, by rw [List.getElem?_map, e1]; rfl, e2⟩
theorem ns_sm {k : Nat} {o : Of} (h : OfOk k o) (k4 : k ≤ 4) : Sm8 o.ns := by
  refine ⟨by show 4 ≤ 8; decide, fun n hn => ?_⟩
  have h1 := h.a
  have h2 := h.b
  have h3 := h.x0
  have h4 := h.x1
  have h5 := h.y0
  have h6 := h.y1
  simp only [Of.ns, List.mem_cons, List.not_mem_nil, or_false] at hn
  rcases hn with rfl | rfl | rfl | rfl <;> exact log_abs (by omega) (by omega)
theorem bD_show {k : Nat} {L : List Of} (ok : ∀ o ∈ L, OfOk k o) (k4 : k ≤ 4) (l : L.length < 64) : (bD k L).showable = true ∧ (bD k L).hasDict = false ∧ (bD k L).depth ≤ 6 ∧ (bD k L).shown.length ≤ 1100000 := by
  have sm : ∀ t ∈ L.map Of.ns, Sm8 t := fun t ht => by
    obtain ⟨o, ho, rfl⟩ := List.mem_map.mp ht
    exact ns_sm (ok o ho) k4
  obtain ⟨b1, b2, b3, b4, b5, b6⟩ := dLL_sh sm
  rw [List.length_map] at b4 b5
  have sk : (k : Int).natAbs.log2 < 1920 := log_abs (by omega) (by omega)
  have lk := PyProof.Rows.int_text_len_1921 sk
  have t1 := PySem.tupleText_len_le (PyData.shownAll (dLL (L.map Of.ns)))
  unfold bD
  refine ⟨?_, ?_, ?_, ?_⟩
  · simp only [PyData.showable, PyData.showableAll, b1, decide_eq_true sk, Bool.and_self]
  · simp only [PyData.hasDict, PyData.hasDictAll, b2, Bool.or_self]
  · simp only [PyData.depth, PyData.depthAll]
    omega
  · simp only [PyData.shown, PyData.shownAll]
    have t2 := PySem.tupleText_len_le [Str.ofString (toString (k : Int)), tupleText (PyData.shownAll (dLL (L.map Of.ns)))]
    simp only [List.map_cons, List.map_nil, List.sum_cons, List.sum_nil, List.length_cons, List.length_nil] at t2
    omega
end Sm

set_option Elab.async false
set_option linter.all false
set_option maxRecDepth 100000
namespace Sm
open PySem PySem.Spec PyProof.Rows L2
/-! ### set(t) of a tuple whose items are tuples of ints -/
abbrev noSet (w : World) : Obj := { cls := .type "set", dict := none, data := .set #[] 0 (.fresh 0 0 (!w.params.followText "set-order")) }
section
variable {P : Program} {w : World} {A : Around} {E : Value → Shared → Prop} {s : Shared}
set_option maxHeartbeats 3200000 in
theorem set_tups {l : Addr} {its : Array Value} {ks : List (Addr × List Int)} {Q : Value → Shared → Prop} (calm : A.handled = none) (tup : s.heap.IsTuple l its) (re : its.toList = ks.map fun p => Value.ref p.1) (own : ∀ p ∈ ks, IsT P w s.heap p.2 p.1) (few : ks.length < 64) (units : A.units + 3 < cLine)
    (fin : ∀ (g : Heap) (tk : Nat) L es ep t, SetTR P w g s.heap.objs.size L es ep t → Got ks ks.length L → (∀ b o, s.heap.get? b = some o → g.get? b = some o) → Q (.ref s.heap.objs.size) { s with heap := g, toks := tk }) : wpAny (model P w) A (call (.type "set") [.ref l]) Q E s := by
  have count : its.size = ks.length := by
    rw [← Array.length_toList, re, List.length_map]
  have new : (s.heap.push (noSet w)).get? s.heap.objs.size = some (noSet w) := Heap.get?_push_size _ rfl
  obtain ⟨mc, mt, mro⟩ := F.called_set.mro
  have made := F.called_set.made
  have sub := F.called_set.sub
  have nt := F.called_set.notType
  have cc := F.called_set.canCreate
  have tc := F.typeCall_set_1 (.ref l)
  refine wpAny_call (codeAny_of_tree (wpAny_pure (show _ ∧ _ from ⟨Code.quiet_builtin _ (by decide +kernel), codeAny_builtin F.entry_type_call ?_⟩)))
  have light := weight_type_call_type "set" [.ref l] []
  rw [Around.under_plain light rfl]
  repeat any_goals first | assumption | wp_step
  refine codeAny_mono (code_set_led1 (.ref l) (E := E) (Q₁ := fun v s₁ => v = .ref s.heap.objs.size ∧ s₁ = { s with heap := s.heap.push (noSet w) }) (And.intro rfl rfl)) (fun r s₁ got => ?_)
  match r, got with
  | .error _, got => exact got
  | .ok .next, got => exact got.elim
  | .ok .brk, got => exact got.elim
  | .ok .cont, got => exact got.elim
  | .ok (.ret v), ⟨ev, es⟩ =>
    subst ev es
    have ty : Shared.TypeIs { s with heap := s.heap.push (noSet w) } (.ref s.heap.objs.size) "set" := ⟨_, new, rfl⟩
    have il := F.called_set.init.lookup
    have ib := F.called_set.init.bind (.ref s.heap.objs.size)
    repeat any_goals first | assumption | wp_step
    let R2 : Result → Shared → Prop := wants (fun u s₃ => u = Value.none ∧ ∃ g tk L es ep t, s₃ = { s with heap := g, toks := tk } ∧ SetTR P w g s.heap.objs.size L es ep t ∧ Got ks ks.length L ∧ ∀ b o, s.heap.get? b = some o → g.get? b = some o) E
    refine codeAny_mono (codeAny_call_builtin (R := R2) F.called_set.init.plain F.entry_set_init (check_set_init_1 ty ?_)) (fun r s₂ got2 => ?_)
    rotate_left
    · match r, got2 with
      | .error _, got2 => exact got2
      | .ok .next, got2 => exact got2.elim
      | .ok .brk, got2 => exact got2.elim
      | .ok .cont, got2 => exact got2.elim
      | .ok (.ret u), ⟨eu, g, tk, L, es, ep, t, e2, R, G, keep⟩ =>
        subst eu e2
        repeat any_goals first | assumption | wp_step
        exact fin _ _ _ _ _ _ R G keep
    obtain ⟨⟨oc, od, dat, sl⟩, at_l, ec, n, ed⟩ := tup
    simp only at ec ed
    subst ec ed
    have l_lt : l < s.heap.objs.size := Heap.lt_size at_l
    have at1 : (s.heap.push (noSet w)).get? l = some { cls := .type "tuple", dict := od, data := .seq its n, slots := sl } := Heap.get?_push_of_some _ at_l
    have t_set := F.sub_tuple_set
    have t_fro := F.sub_tuple_frozenset
    have t_dic : (Value.type "tuple" == Value.type "dict") = false := by decide
    have tup1 : (s.heap.push (noSet w)).IsTuple l its := ⟨_, at1, rfl, n, rfl⟩
    unfold Builtin.«set.__init__»
    unfold noKeywords Builtin.Frozenset.updateFrom
    generalize eI : pyIter = I
    wp_walk
    subst eI
    refine wpAny_pyIter_tuple tup1 (wpAny_bind (wpAny_runValue ?_))
    have calm3 : A.in1.in1.in1.handled = none := by simp [calm]
    have big : (s.heap.push (noSet w)).objs.size = s.heap.objs.size + 1 := Heap.size_push ..
    have no : ∀ b, s.heap.objs.size ≤ b → s.heap.get? b = none := by
      intro b hb
      cases z : s.heap.get? b with
      | none => rfl
      | some o => exact absurd (Heap.lt_size z) (Nat.not_lt.mpr hb)
    have item : ∀ (i : Nat) (v : Value), its[i]? = some v → ∃ p, ks[i]? = some p ∧ v = .ref p.1 := by
      intro i v hv
      rw [← Array.getElem?_toList, re, List.getElem?_map] at hv
      match z : ks[i]?, hv with
      | some p, hv => exact ⟨p, rfl, (Option.some.inj hv).symm⟩
      | none, hv => cases hv
    refine set_update_tups ((Walks.tuple calm3 _ l (by rw [big]; exact Nat.ne_of_lt (Nat.lt_succ_of_lt l_lt)) its).toS) s.heap.objs.size (by rw [big]; simp only [List.mem_cons, List.not_mem_nil, or_false, not_or]; exact ⟨Nat.ne_of_lt (Nat.lt_succ_self _), Nat.ne_of_gt l_lt⟩) ks count few item s.heap own (no _ (Nat.le_refl _)) (fun b hb => no b (by rw [List.mem_singleton.mp hb, big]; omega)) units
      (its.size - 0) 0 _ (Nat.sub_zero _).symm.symm (Nat.zero_le _) ⟨⟨_, Heap.get?_push_size _ rfl, rfl, rfl⟩, tup1.push _⟩ (fun b o e => Heap.get?_push_of_some _ (Heap.get?_push_of_some _ e)) ⟨[], #[], 0, _, setTR_fresh (Heap.get?_push_of_some _ new), Got.zero ks⟩ ?_
    rintro ⟨g, gs, dr, tk, os⟩ L es ep t mv R G keep
    have e1 : gs = s.gens := mv.gens
    have e2 : dr = s.drawn := mv.drawn
    have e3 : os = s.os := mv.os
    subst e1 e2 e3
    rw [count] at G
    exact wpAny_pure (wpAny_pure ⟨rfl, g, tk, L, es, ep, t, rfl, R, G, keep⟩)
end
section
variable {X : Cx}
def rSetTT (K : PySem.W.Frag) (P : Program) (w : World) : List V → Hp → VK → Prop := fun xs H Q => ∃ (t : Addr) (ks : List (Addr × List Int)), xs = [V.ref t] ∧ SqT K H t (ks.map fun p => V.ref p.1) ∧ (∀ p ∈ ks, SqT K H p.1 (p.2.map V.int)) ∧ ks.length < 64 ∧
    ∀ a L, H a = none → (∀ p ∈ L, p ∈ ks) → Q (.ref a) (upd H a (SetTO P w a L))
theorem cr_setTT (calm : X.calm = true) (room : X.A.units + 64 < cLine) : CallR X (.type "set") (rSetTT X.K X.prog X.w) := by
  rintro pins s σ H xs us Q I r ⟨t, ks, rfl, ht, hk, few, q⟩
  rw [Vals.ref1 r]
  obtain ⟨its, rv, pl, _⟩ := I.tuple ht
  refine set_tups (P := X.prog) (w := X.w) (ks := ks) (I.ok.hd calm) pl (by simpa using refs_of_vals rv) (fun p hp => I.isT (hk p hp)) few (by omega) ?_
  intro g tk L es ep t' R G keep
  exact ⟨.ref s.heap.objs.size, _, I.laid (t' := tk) keep (Nat.le_refl _) (setTO_new R.t0), rfl, q _ L (I.hok.fresh (Nat.le_refl _)) fun p hp => List.mem_of_mem_take (G.sub p hp)⟩
end
end Sm

set_option Elab.async false
set_option linter.all false
set_option maxRecDepth 100000
set_option maxHeartbeats 16000000
namespace Sm
open PySem PySem.Spec PyProof.Rows L2
open C8 (pss_cut tCut)
theorem set_boardT {K : PySem.W.Frag} {P : Program} {w : World} {H : Hp} {U : Addr} {ks : List (Addr × Of)} {k : Nat} (hU : H U = some (.tup (ks.map fun e => V.ref e.1))) (hk : ∀ e ∈ ks, OffAt H e.1 e.2 ∧ OfOk k e.2) (k4 : k ≤ 4) (h64 : ks.length < 64)
    {Q : VK} (q : ∀ H' t (qs : List Addr) (L : List Of), Same H H' → H' t = some (.tup (qs.map V.ref)) → OffsAt H' qs L → (∀ o ∈ L, OfOk k o) → L.length < 64 → Q (.ref t) H') :
    rSetTT K P w [.ref U] H fun x H1 => rSortedT K P w [x] H1 fun y H2 => ∃ (q : Addr) (xs : List V), [y] = [V.ref q] ∧ ((SqL K H2 q xs ∧ ∀ t, H2 t = none → Q (.ref t) (upd H2 t (.tup xs))) ∨ SqT K H2 q xs ∧ Q (.ref q) H2) := by
  have lm : (ks.map fun e => (e.1, e.2.ns)).map (fun p : Addr × List Int => V.ref p.1) = ks.map fun e => V.ref e.1 := by
    rw [List.map_map]
    rfl
  refine ⟨U, ks.map fun e => (e.1, e.2.ns), rfl, ?_, fun p hp => ?_, by rw [List.length_map]; exact h64, fun a L na hL => ?_⟩
  · rw [lm]
    exact SqT.of hU
  · obtain ⟨e, he, rfl⟩ := List.mem_map.mp hp
    exact SqT.of (hk e he).1
  have sa := same_upd (o := SetTO P w a L) na
  have own : ∀ p ∈ L, ∃ e ∈ ks, p = (e.1, e.2.ns) := fun p hp => by
    obtain ⟨e, he, h⟩ := List.mem_map.mp (hL p hp)
    exact ⟨e, he, h.symm⟩
  refine ⟨a, L, 4, 100, rfl, upd_same, fun p hp => ?_, by decide, fun p hp => ?_, fun L' r pm nd l64 pw nr => ?_⟩
  · obtain ⟨e, he, rfl⟩ := own p hp
    exact SqT.of (sa _ _ (hk e he).1)
  · obtain ⟨e, he, rfl⟩ := own p hp
    exact bd_ns (hk e he).2 k4
  have sr := same_upd (o := .lst (L'.map fun q => V.ref q.1)) nr
  refine ⟨r, _, rfl, .inl ⟨SqL.of upd_same, fun t nt => ?_⟩⟩
  have st := same_upd (o := .tup (L'.map fun q => V.ref q.1)) nt
  have s := sa.trans (sr.trans st)
  refine q _ t (L'.map (·.1)) (L'.map fun p => ofNs p.2) s (by rw [upd_same, List.map_map]; rfl) (offs_of L' fun p hp => ?_) (fun o ho => ?_) (by rw [List.length_map]; exact l64)
  · obtain ⟨e, he, rfl⟩ := own p (pm.mem_iff.mp hp)
    exact ⟨e.2, rfl, s _ _ (hk e he).1⟩
  · obtain ⟨p, hp, rfl⟩ := List.mem_map.mp ho
    obtain ⟨e, he, rfl⟩ := own p (pm.mem_iff.mp hp)
    show OfOk k (ofNs e.2.ns)
    rw [ofNs_ns]
    exact (hk e he).2
theorem pick_k {r : Int} (h0 : 0 ≤ r) (h1 : r < 5) : ∃ k : Nat, [V.int 3, V.int 2, V.int 3, V.int 3, V.int 1][r.toNat]? = some (.int (k : Int)) ∧ 1 ≤ k ∧ k ≤ 3 := by
  obtain rfl | rfl | rfl | rfl | rfl : r = 0 ∨ r = 1 ∨ r = 2 ∨ r = 3 ∨ r = 4 := by omega
  · exact ⟨3, rfl, by decide, by decide⟩
  · exact ⟨2, rfl, by decide, by decide⟩
  · exact ⟨3, rfl, by decide, by decide⟩
  · exact ⟨3, rfl, by decide, by decide⟩
  · exact ⟨1, rfl, by decide, by decide⟩
theorem pick3 {a b c r : Int} (h0 : 0 ≤ r) (h1 : r < 3) : ∃ z, [V.int a, V.int b, V.int c][r.toNat]? = some (.int z) ∧ (z = a ∨ z = b ∨ z = c) := by
  obtain rfl | rfl | rfl : r = 0 ∨ r = 1 ∨ r = 2 := by omega
  · exact ⟨a, rfl, .inl rfl⟩
  · exact ⟨b, rfl, .inr (.inl rfl)⟩
  · exact ⟨c, rfl, .inr (.inr rfl)⟩
theorem pick2 {a b r : Int} (h0 : 0 ≤ r) (h1 : r < 2) : ∃ z, [V.int a, V.int b][r.toNat]? = some (.int z) ∧ (z = a ∨ z = b) := by
  obtain rfl | rfl : r = 0 ∨ r = 1 := by omega
  · exact ⟨a, rfl, .inl rfl⟩
  · exact ⟨b, rfl, .inr rfl⟩
/-- the back kinds of all kinds -/
noncomputable def bkLL (L : List Of) (k : Nat) : List (List Int) := (List.range k).map fun s => ni (backs L k s)
theorem bk_sm {L : List Of} {k : Nat} (k4 : k ≤ 4) : ∀ t ∈ bkLL L k, Sm8 t := fun t ht => by
  obtain ⟨s, _, rfl⟩ := List.mem_map.mp ht
  refine ⟨?_, fun n hn => ?_⟩
  · rw [List.length_map]
    exact Nat.le_trans (backs_len L k s) (by omega)
  · obtain ⟨c, hc, rfl⟩ := List.mem_map.mp hn
    have := (mem_backs.mp hc).1
    exact log_abs (by omega) (by omega)
/-- tuples with the back kinds -/
def BkAt (H : Hp) (L : List Of) (k : Nat) (es : List Addr) : Prop := ∀ (i : Nat) (e : Addr), es[i]? = some e → H e = some (.tup ((ni (backs L k i)).map V.int))
theorem BkAt.same {H H' : Hp} {L : List Of} {k : Nat} {es : List Addr} (h : BkAt H L k es) (s : Same H H') : BkAt H' L k es := fun i e q => s _ _ (h i e q)
theorem BkAt.dp {K : PySem.W.Frag} {H : Hp} {L : List Of} {k : Nat} {es : List Addr} (h : BkAt H L k es) (l : es.length = k) : DpAll K H (es.map V.ref) (dLL (bkLL L k)) := by
  refine dp_dLL (by unfold bkLL; rw [List.length_map, List.length_range]; exact l) fun i q e => ⟨_, ?_, h i q e⟩
  have hi := (List.getElem?_eq_some_iff.mp e).1
  unfold bkLL
  rw [List.getElem?_map, List.getElem?_range (by omega)]
  rfl
theorem BkAt.more {H : Hp} {L : List Of} {k j : Nat} {U q : Addr} {xs ys : List V} {es : List Addr} (h : BkAt H L k es) (l : es.length = j) (hq : H q = some (.tup ((ni (backs L k j)).map V.int))) (hU : H U = some (.lst xs)) : BkAt (upd H U (.lst ys)) L k (es ++ [q]) := by
  intro i e z
  have keep : ∀ b zs, H b = some (.tup zs) → upd H U (.lst ys) b = some (.tup zs) := fun b zs hb => by
    rw [upd_ne (ne_of hb hU (by intro q; cases q))]
    exact hb
  rw [List.getElem?_append] at z
  split at z
  · exact keep _ _ (h i e z)
  · have hi := (List.getElem?_eq_some_iff.mp z).1
    rw [List.length_singleton] at hi
    have : i = j := by omega
    subst this
    rw [l, Nat.sub_self] at z
    have : q = e := Option.some.inj z
    subst this
    exact keep _ _ hq
def sp_law (K : PySem.W.Frag) : Sp := fun vs H Q _ => ∃ (a : Addr) (ns : List Int), vs = [.ref a] ∧ SqL K H a (ns.map V.int) ∧ ns.length ≤ 63 ∧ ∀ H', Q (.bl true) H'
theorem backs_eq {L : List Of} {k s : Nat} {l : List Nat} (up : l.Pairwise (· < ·)) (h : ∀ c, c ∈ l ↔ c < k ∧ Lead L s c ∧ Lead L c s) : backs L k s = l :=
  srt_eq (lt := fun a b : Nat => a < b) (fun x => Nat.lt_irrefl x) (fun x y z => Nat.lt_trans) (backs_lt L k s) up fun c => by rw [mem_backs, h c]
theorem eqv_self {d : PyData} (h : SeqAt.shaped d = true) : PyData.eqv d d = true := SeqAt.eqv_refl d (SeqAt.canLay_of_shaped h)
def circL : List Of := [⟨0, 1, 1, 1⟩, ⟨1, 8, 2, 1⟩, ⟨2, 8, 0, 1⟩]
def partL : List Of := [⟨0, 1, 1, 8⟩, ⟨1, 1, 0, 0⟩, ⟨1, 1, 2, 1⟩, ⟨2, 1, 1, 1⟩]
theorem edge_at {L : List Of} {s c : Nat} (i : Nat) {o : Of} (h : L[i]? = some o) (ha : o.a = s) (hb : o.b = c) (y : 0 < o.y) : Lead L s c := Lead.step .self ⟨o, List.mem_of_getElem? h, ha, hb, y⟩
theorem circ_all {s c : Nat} (hs : s < 3) (hc : c < 3) : Lead circL s c := by
  have a01 : Lead circL 0 1 := edge_at 0 rfl rfl rfl (by decide)
  have a12 : Lead circL 1 2 := edge_at 1 rfl rfl rfl (by decide)
  have a20 : Lead circL 2 0 := edge_at 2 rfl rfl rfl (by decide)
  obtain rfl | rfl | rfl : s = 0 ∨ s = 1 ∨ s = 2 := by omega
  · obtain rfl | rfl | rfl : c = 0 ∨ c = 1 ∨ c = 2 := by omega
    · exact .self
    · exact a01
    · exact a01.trans a12
  · obtain rfl | rfl | rfl : c = 0 ∨ c = 1 ∨ c = 2 := by omega
    · exact a12.trans a20
    · exact .self
    · exact a12
  · obtain rfl | rfl | rfl : c = 0 ∨ c = 1 ∨ c = 2 := by omega
    · exact a20
    · exact a20.trans a01
    · exact .self
theorem circ_backs {s : Nat} (hs : s < 3) : backs circL 3 s = [0, 1, 2] := by
  refine backs_eq (by decide) fun c => ?_
  constructor
  · intro h
    have hc : c < 3 := by
      simp only [List.mem_cons, List.not_mem_nil, or_false] at h
      omega
    exact ⟨hc, circ_all hs hc, circ_all hc hs⟩
  · rintro ⟨hc, _⟩
    simp only [List.mem_cons, List.not_mem_nil, or_false]
    omega
theorem part_not {s : Nat} (hs : s ≠ 0) : ¬ Lead partL s 0 := fun h => h.closed (S := fun x => x ≠ 0) hs (fun a b ha e => by
  obtain ⟨o, ho, rfl, rfl, y⟩ := e
  simp only [partL, List.mem_cons, List.not_mem_nil, or_false] at ho
  rcases ho with rfl | rfl | rfl | rfl
  · exact (by decide : (1 : Nat) ≠ 0)
  · exact absurd y (by decide)
  · exact (by decide : (2 : Nat) ≠ 0)
  · exact (by decide : (1 : Nat) ≠ 0)) rfl
theorem part_backs0 : backs partL 3 0 = [0] := by
  refine backs_eq (by decide) fun c => ?_
  constructor
  · intro h
    obtain rfl := List.mem_singleton.mp h
    exact ⟨by decide, .self, .self⟩
  · rintro ⟨hc, _, h⟩
    by_cases e : c = 0
    · rw [e]
      exact List.mem_cons_self
    · exact (part_not e h).elim
theorem part_backs {s : Nat} (h : s = 1 ∨ s = 2) : backs partL 3 s = [1, 2] := by
  have a12 : Lead partL 1 2 := edge_at 2 rfl rfl rfl (by decide)
  have a21 : Lead partL 2 1 := edge_at 3 rfl rfl rfl (by decide)
  have all : ∀ x y : Nat, (x = 1 ∨ x = 2) → (y = 1 ∨ y = 2) → Lead partL x y := by
    rintro x y (rfl | rfl) (rfl | rfl)
    · exact .self
    · exact a12
    · exact a21
    · exact .self
  refine backs_eq (by decide) fun c => ?_
  simp only [List.mem_cons, List.not_mem_nil, or_false]
  constructor
  · intro hc
    exact ⟨by omega, all s c h hc, all c s hc h⟩
  · rintro ⟨hc, h1, _⟩
    have : c ≠ 0 := by
      rintro rfl
      exact part_not (by omega) h1
    omega
theorem one_backs : backs [] 1 0 = [0] := by
  refine backs_eq (by decide) fun c => ?_
  constructor
  · intro h
    obtain rfl := List.mem_singleton.mp h
    exact ⟨by decide, .self, .self⟩
  · rintro ⟨hc, _⟩
    rw [show c = 0 by omega]
    exact List.mem_cons_self
theorem circ_ok : ∀ o ∈ circL, OfOk 3 o := by
  intro o ho
  simp only [circL, List.mem_cons, List.not_mem_nil, or_false] at ho
  rcases ho with rfl | rfl | rfl <;> exact ⟨by decide, by decide, by decide, by decide, by decide, by decide, by decide⟩
theorem part_ok : ∀ o ∈ partL, OfOk 3 o := by
  intro o ho
  simp only [partL, List.mem_cons, List.not_mem_nil, or_false] at ho
  rcases ho with rfl | rfl | rfl | rfl <;> exact ⟨by decide, by decide, by decide, by decide, by decide, by decide, by decide⟩
/-- within a turn: the board is made -/
def TW (a p l : Addr) (i : Int) (k : Nat) (n0 : Int) (H : Hp) (d : Addr) (L : List Of) (v5 v6 v7 v8 v9 v10 : Option V) (σ : L2.St) : Prop := ∃ n', σ = [some (.ref a), some (.ref p), some (.int i), some (.int (k : Int)), some (.ref d), v5, v6, v7, v8, v9, v10, none, none, none, none, none, none, none] ∧
  Deck H p l n' ∧ n0 ≤ n' ∧ n' ≤ n0 + 700 ∧ BoardAt H d k L ∧ (∀ o ∈ L, OfOk k o) ∧ L.length < 64
section
variable {P : Program} {w : World} {K : PySem.W.Frag} {mg : Str → Option Value} {base : Heap}
abbrev s_law : Stmt := topS 10
abbrev N_law : List Str := ["_law_script", "_law_deck_here", "_law_turn", "_law_kinds", "_law_board_here", "_law_shown", "_law_told", "_law_due", "_law_again", "_law_kind", "_law_own", "_law_circle", "_law_parted", "_law_a", "_law_x", "_law_b", "_law_y", "_law_one_here"]
theorem sc_law : FnScope N_law ["_law_script"] (defScope s_law) := ⟨rfl, rfl, rfl, by decide +kernel, rfl, by decide +kernel, by decide +kernel⟩
theorem ok_lawG {f : Addr} {fd : FuncData} (T : Txt mg) (F : Fun K "law" "law" s_law f fd) (C_back_kinds : Cal P w K mg base "back_kinds" ["board", "kind"] 2 (sp_back_kinds K)) (C_l_back : Cal P w K mg base "_law_back" ["_law_board_here", "_law_kind"] 1 (sp_l_back K)) (C_l_draw : Cal P w K mg base "_law_draw" ["_law_deck_here", "_law_many"] 1 (sp_l_draw K)) (C_l_board : Cal P w K mg base "_law_board" ["_law_deck_here", "_law_kinds", "_law_upto", "_law_top"] 2 (sp_l_board K)) (C_l_deck : Cal P w K mg base "_law_deck" ["_law_script"] 1 (sp_l_deck K)) : FnG P w K mg base 3 f fd ["_law_script"] (sp_law K) := by
  obtain ⟨f_back_kinds, fd_back_kinds, G_back_kinds, m_back_kinds, k_back_kinds, b_back_kinds⟩ := C_back_kinds
  obtain ⟨f_l_back, fd_l_back, G_l_back, m_l_back, k_l_back, b_l_back⟩ := C_l_back
  obtain ⟨f_l_draw, fd_l_draw, G_l_draw, m_l_draw, k_l_draw, b_l_draw⟩ := C_l_draw
  obtain ⟨f_l_board, fd_l_board, G_l_board, m_l_board, k_l_board, b_l_board⟩ := C_l_board
  obtain ⟨f_l_deck, fd_l_deck, G_l_deck, m_l_deck, k_l_deck, b_l_deck⟩ := C_l_deck
  refine FnG.body F sc_law (fun vs H Q E h => ?_) (fun cdv A outer s H vs Q E gu hr h => ?_)
  · obtain ⟨a, ns, rfl, _⟩ := h
    rfl
  obtain ⟨a, ns, rfl, hS, hlen, kk⟩ := h
  refine ⟨_, (pss_cons (ps_set (i := 1) sc_law.nd rfl (Or.inr rfl) (pe_call G_l_deck (hr.mono (by decide)) (by rfl) m_l_deck k_l_deck b_l_deck .nil pass0 (pa_cons (pv 0) pa_nil)))
    (pss_cons (ps_for PassesOwn.never rfl (pi_range1 (by rfl) T.n_range (pa_cons pe_int pa_nil)) (pg_name (i := 2) sc_law.nd rfl (Or.inl rfl))
      (pss_cons (ps_set (i := 3) sc_law.nd rfl (Or.inl rfl) (pe_ix ix_list (pe_lst (pa_cons pe_int (pa_cons pe_int (pa_cons pe_int (pa_cons pe_int (pa_cons pe_int pa_nil)))))) (pe_op op_modN (pv 2) pe_int) (fun _ _ => rfl)))
    (pss_cons (ps_set (i := 4) sc_law.nd rfl (Or.inr rfl) (pe_call G_l_board (hr.mono (by decide)) (by rfl) m_l_board k_l_board b_l_board .nil pass0 (pa_cons (pv 1) (pa_cons (pv 3) (pa_cons (pe_ix ix_list (pe_lst (pa_cons pe_int (pa_cons pe_int (pa_cons pe_int pa_nil)))) (pe_op op_modN (pv 2) pe_int) (fun _ _ => rfl)) (pa_cons pe_int pa_nil))))))
    (pss_cut (ps_if (pt_cmpR op_eq (pe_op op_modN (pv 2) pe_int) pe_int (nomark _)) (pss_cons (ps_set (i := 4) sc_law.nd rfl (Or.inr rfl) (pe_tup (pa_cons (pv 3) (pa_cons (pe_callTy call_tuple_of (by rfl) T.n_tuple (by decide +kernel) (pa_cons (pe_lc (own := [("_law_a", 13), ("_law_x", 14), ("_law_b", 15), ("_law_y", 16)]) (g := gTup K 4 (gCons (gName 13) (gCons (gName 14) (gCons (gName 15) (gCons (gName 16) gNil))))) (tt := tYes) rfl sc_law.nd (pi_tup (pe_ix ix_tup (pv 4) pe_int (fun _ _ => rfl))) (blkOk_by (own := [("_law_a", 13), ("_law_x", 14), ("_law_b", 15), ("_law_y", 16)]) (N := N_law) (sc := defScope s_law) (by decide +kernel)) (fun _ _ _ _ _ => pg_tup (by rfl) (pgs_cons (pg_name (i := 13) sc_law.nd rfl (Or.inl rfl)) (pgs_cons (pg_name (i := 14) sc_law.nd rfl (Or.inl rfl)) (pgs_cons (pg_name (i := 15) sc_law.nd rfl (Or.inl rfl)) (pgs_cons (pg_name (i := 16) sc_law.nd rfl (Or.inl rfl)) pgs_nil))))) (fun _ _ _ _ _ => pts_nil) (fun _ _ _ _ _ => (pe_tup (pa_cons (pv 13) (pa_cons (pv 14) (pa_cons (pv 15) (pa_cons (pe_ix (show IxR _ (rIxL K) from ix_list) (pe_lst (pa_cons (pv 16) (pa_cons pe_int pa_nil))) (pe_call G_l_draw (hr.mono (by decide)) (by rfl) m_l_draw k_l_draw b_l_draw .nil pass0 (pa_cons (pv 1) (pa_cons pe_int pa_nil))) (fun _ _ => rfl)) pa_nil))))))) pa_nil)) pa_nil))))
    (pss_one (ps_set (i := 4) sc_law.nd rfl (Or.inr rfl) (pe_tup (pa_cons (pv 3) (pa_cons (pe_callTy call_tuple_of (by rfl) T.n_tuple (by decide +kernel) (pa_cons (pe_callB (cr_sortedT rfl) (by rfl) T.n_sorted (by decide +kernel) (pa_cons (pe_callTy (cr_setTT rfl hr.units) (by rfl) T.n_set (by decide +kernel) (pa_cons (pe_ix ix_tup (pv 4) pe_int (fun _ _ => rfl)) pa_nil)) pa_nil)) pa_nil)) pa_nil)))))) pss_nil)
    (pss_cut (ps_asg (pe_tup (pa_cons (pe_callB (call_repr_data gu ⟨_, hr⟩) (by rfl) T.n_repr (by decide +kernel) (pa_cons (pv 4) pa_nil)) (pa_cons (pe_lc (own := [("_law_kind", 9)]) (g := gName 9) (tt := tYes) rfl sc_law.nd (pi_range1 (by rfl) T.n_range (pa_cons (pv 3) pa_nil)) (blkOk_by (own := [("_law_kind", 9)]) (N := N_law) (sc := defScope s_law) (by decide +kernel)) (fun _ _ _ _ _ => pg_name (i := 9) sc_law.nd rfl (Or.inl rfl)) (fun _ _ _ _ _ => pts_nil) (fun _ _ _ _ _ => (pe_call G_back_kinds (hr.mono (by decide)) (by rfl) m_back_kinds k_back_kinds b_back_kinds .nil pass0 (pa_cons (pv 4) (pa_cons (pv 9) pa_nil))))) pa_nil))) (pg_tup (by rfl) (pgs_cons (pg_name (i := 5) sc_law.nd rfl (Or.inl rfl)) (pgs_cons (pg_name (i := 6) sc_law.nd rfl (Or.inr rfl)) pgs_nil))))
    (pss_cut (ps_set (i := 7) sc_law.nd rfl (Or.inl rfl) (pe_callB (call_repr_data gu ⟨_, hr⟩) (by rfl) T.n_repr (by decide +kernel) (pa_cons (pe_lc (own := [("_law_kind", 9)]) (g := gName 9) (tt := tYes) rfl sc_law.nd (pi_range1 (by rfl) T.n_range (pa_cons (pv 3) pa_nil)) (blkOk_by (own := [("_law_kind", 9)]) (N := N_law) (sc := defScope s_law) (by decide +kernel)) (fun _ _ _ _ _ => pg_name (i := 9) sc_law.nd rfl (Or.inl rfl)) (fun _ _ _ _ _ => pts_nil) (fun _ _ _ _ _ => (pe_call G_l_back (hr.mono (by decide)) (by rfl) m_l_back k_l_back b_l_back .nil pass0 (pa_cons (pv 4) (pa_cons (pv 9) pa_nil))))) pa_nil)))
    (pss_cut (ps_set (i := 8) sc_law.nd rfl (Or.inl rfl) (pe_callB (call_repr_data gu ⟨_, hr⟩) (by rfl) T.n_repr (by decide +kernel) (pa_cons (pe_lc (own := [("_law_kind", 9)]) (g := gName 9) (tt := tYes) rfl sc_law.nd (pi_range1 (by rfl) T.n_range (pa_cons (pv 3) pa_nil)) (blkOk_by (own := [("_law_kind", 9)]) (N := N_law) (sc := defScope s_law) (by decide +kernel)) (fun _ _ _ _ _ => pg_name (i := 9) sc_law.nd rfl (Or.inl rfl)) (fun _ _ _ _ _ => pts_nil) (fun _ _ _ _ _ => (pe_call G_back_kinds (hr.mono (by decide)) (by rfl) m_back_kinds k_back_kinds b_back_kinds .nil pass0 (pa_cons (pv 4) (pa_cons (pv 9) pa_nil))))) pa_nil)))
    (pss_cons (ps_if (PW.pt (pw_or (pt_cmpR op_ne (pe_callB (call_repr_data gu ⟨_, hr⟩) (by rfl) T.n_repr (by decide +kernel) (pa_cons (pv 6) pa_nil)) (pv 7) (nomark _)) (pw_or1 (pt_cmpR op_ne (pv 8) (pv 7) (nomark _))))) (pss_one (ps_ret pe_bl)) pss_nil)
    (pss_cons (ps_for PassesOwn.never rfl (pi_range1 (by rfl) T.n_range (pa_cons (pv 3) pa_nil)) (pg_name (i := 9) sc_law.nd rfl (Or.inl rfl))
      (pss_cons (ps_set (i := 10) sc_law.nd rfl (Or.inr rfl) (pe_ix ix_list (pv 6) (pv 9) (fun _ _ => rfl)))
    (pss_one (ps_if (PW.pt (pw_or (pt_cmpR op_notIn_seq (pv 9) (pv 10) (by rfl)) (pw_or1 (pt_cmpR (op_neD hr.units) (pe_lc (own := [("_law_one_here", 17)]) (g := gName 17) (tt := _) rfl sc_law.nd (pi_tup (pv 10)) (blkOk_by (own := [("_law_one_here", 17)]) (N := N_law) (sc := defScope s_law) (by decide +kernel)) (fun _ _ _ _ _ => pg_name (i := 17) sc_law.nd rfl (Or.inl rfl)) (fun _ _ _ _ _ => pts_one (pt_cmpR (show OpR _ _ (rNeD K) from (op_neD hr.units)) (pe_ix (show IxR _ (rIxL K) from ix_list) (pv 6) (pv 17) (fun _ _ => rfl)) (pv 10) (nomark _))) (fun _ _ _ _ _ => (pv 17))) (pe_lst pa_nil) (nomark _))))) (pss_one (ps_ret pe_bl)) pss_nil))))
    (pss_one (ps_if (pt_cmpR op_ne (pe_callB (call_repr_data gu ⟨_, hr⟩) (by rfl) T.n_repr (by decide +kernel) (pa_cons (pv 4) pa_nil)) (pv 5) (nomark _)) (pss_one (ps_ret pe_bl)) pss_nil)))))))))))
    (pss_cons (ps_set (i := 11) sc_law.nd rfl (Or.inr rfl) (pe_tup (pa_cons pe_int (pa_cons (pe_tup (pa_cons (pe_tup (pa_cons pe_int (pa_cons pe_int (pa_cons pe_int (pa_cons pe_int pa_nil))))) (pa_cons (pe_tup (pa_cons pe_int (pa_cons pe_int (pa_cons pe_int (pa_cons pe_int pa_nil))))) (pa_cons (pe_tup (pa_cons pe_int (pa_cons pe_int (pa_cons pe_int (pa_cons pe_int pa_nil))))) pa_nil)))) pa_nil))))
    (pss_cons (ps_set (i := 12) sc_law.nd rfl (Or.inr rfl) (pe_tup (pa_cons pe_int (pa_cons (pe_tup (pa_cons (pe_tup (pa_cons pe_int (pa_cons pe_int (pa_cons pe_int (pa_cons pe_int pa_nil))))) (pa_cons (pe_tup (pa_cons pe_int (pa_cons pe_int (pa_cons pe_int (pa_cons pe_int pa_nil))))) (pa_cons (pe_tup (pa_cons pe_int (pa_cons pe_int (pa_cons pe_int (pa_cons pe_int pa_nil))))) (pa_cons (pe_tup (pa_cons pe_int (pa_cons pe_int (pa_cons pe_int (pa_cons pe_int pa_nil))))) pa_nil))))) pa_nil))))
    (pss_cons (ps_set (i := 6) sc_law.nd rfl (Or.inr rfl) (pe_lc (own := [("_law_kind", 9)]) (g := gName 9) (tt := tYes) rfl sc_law.nd (pi_range1 (by rfl) T.n_range (pa_cons pe_int pa_nil)) (blkOk_by (own := [("_law_kind", 9)]) (N := N_law) (sc := defScope s_law) (by decide +kernel)) (fun _ _ _ _ _ => pg_name (i := 9) sc_law.nd rfl (Or.inl rfl)) (fun _ _ _ _ _ => pts_nil) (fun _ _ _ _ _ => (pe_call G_back_kinds (hr.mono (by decide)) (by rfl) m_back_kinds k_back_kinds b_back_kinds .nil pass0 (pa_cons (pv 11) (pa_cons (pv 9) pa_nil))))))
    (pss_cons (ps_if (PW.pt (pw_or (pt_cmpR (op_neD hr.units) (pv 6) (pe_op op_rep (pe_lst (pa_cons (pe_tup (pa_cons pe_int (pa_cons pe_int (pa_cons pe_int pa_nil)))) pa_nil)) pe_int) (nomark _)) (pw_or1 (pt_cmpR (op_neD hr.units) (pe_call G_back_kinds (hr.mono (by decide)) (by rfl) m_back_kinds k_back_kinds b_back_kinds .nil pass0 (pa_cons (pe_tup (pa_cons pe_int (pa_cons (pe_tup pa_nil) pa_nil))) (pa_cons pe_int pa_nil))) (pe_tup (pa_cons pe_int pa_nil)) (nomark _))))) (pss_one (ps_ret pe_bl)) pss_nil)
    (pss_cons (ps_set (i := 6) sc_law.nd rfl (Or.inr rfl) (pe_lc (own := [("_law_kind", 9)]) (g := gName 9) (tt := tYes) rfl sc_law.nd (pi_range1 (by rfl) T.n_range (pa_cons pe_int pa_nil)) (blkOk_by (own := [("_law_kind", 9)]) (N := N_law) (sc := defScope s_law) (by decide +kernel)) (fun _ _ _ _ _ => pg_name (i := 9) sc_law.nd rfl (Or.inl rfl)) (fun _ _ _ _ _ => pts_nil) (fun _ _ _ _ _ => (pe_call G_back_kinds (hr.mono (by decide)) (by rfl) m_back_kinds k_back_kinds b_back_kinds .nil pass0 (pa_cons (pv 12) (pa_cons (pv 9) pa_nil))))))
    (pss_one (ps_ret (pe_cmpR (op_eqD hr.units) (pv 6) (pe_lst (pa_cons (pe_tup (pa_cons pe_int pa_nil)) (pa_cons (pe_tup (pa_cons pe_int (pa_cons pe_int pa_nil))) (pa_cons (pe_tup (pa_cons pe_int (pa_cons pe_int pa_nil))) pa_nil)))) (nomark _))))))))))), ?_⟩
  refine ⟨_, rfl, a, ns, rfl, hS, hlen, fun H1 p l s1 D1 => ?_⟩
  refine ⟨60, rfl, (by decide), (by decide), for_range (lo := 0) (n := 60) (fun i σ H' => ∃ (n : Int) (v2 v3 v4 v5 v6 v7 v8 v9 v10 : Option V), σ = [some (.ref a), some (.ref p), v2, v3, v4, v5, v6, v7, v8, v9, v10, none, none, none, none, none, none, none] ∧ Deck H' p l n ∧ 0 ≤ n ∧ n ≤ 1000 * (i : Int))
    ⟨0, none, none, none, none, none, none, none, none, none, rfl, D1, by omega, by omega⟩ ?_ ?_⟩
  · rintro i σ H2 hi ⟨n, v2, v3, v4, v5, v6, v7, v8, v9, v10, rfl, D2, n0, n1⟩
    refine ⟨(by show 5 ≤ sizeLine; decide), fun b1 nb1 => ?_⟩
    have sb1 := same_upd (o := .lst [.int 3, .int 2, .int 3, .int 3, .int 1]) nb1
    have fm5 : (0 + (i : Int)).fmod 5 = (0 + (i : Int)) % 5 := fmod_pos (by decide)
    have fm3 : (0 + (i : Int)).fmod 3 = (0 + (i : Int)) % 3 := fmod_pos (by decide)
    obtain ⟨k, hk, k1, k3⟩ := pick_k (r := (0 + (i : Int)).fmod 5) (by rw [fm5]; omega) (by rw [fm5]; omega)
    obtain ⟨u, hu, hu3⟩ := pick3 (a := 12) (b := 3) (c := 5) (r := (0 + (i : Int)).fmod 3) (by rw [fm3]; omega) (by rw [fm3]; omega)
    refine ⟨_, rfl, _, _, rfl, rfl, (show (5 : Int) ≠ 0 by decide), _, _, _, _, rfl, rfl, SqL.of upd_same, at_of (j := ((0 + (i : Int)).fmod 5).toNat) (by rw [fm5]; omega) hk, ?_⟩
    refine ⟨_, rfl, _, rfl, (by show 3 ≤ sizeLine; decide), fun b2 nb2 => ?_⟩
    have sb2 := same_upd (o := .lst [.int 12, .int 3, .int 5]) nb2
    refine ⟨_, rfl, _, _, rfl, rfl, (show (3 : Int) ≠ 0 by decide), _, _, _, _, rfl, rfl, SqL.of upd_same, at_of (j := ((0 + (i : Int)).fmod 3).toNat) (by rw [fm3]; omega) hu, ?_⟩
    refine ⟨p, l, n, k, u, 8, rfl, (D2.same sb1).same sb2, n0, by omega, k1, by omega, by omega, by omega, by decide, by decide, fun H3 d L n3 f3 D3 m0 m1 B3 ok3 l3 => ?_⟩
    refine ⟨fun σ H' => ∃ d L, TW a p l (0 + (i : Int)) k n H' d L v5 v6 v7 v8 v9 v10 σ, ?_, ?_⟩
    · refine ⟨_, rfl, _, _, rfl, rfl, (show (4 : Int) ≠ 0 by decide), rfl, _, rfl, ite3 (fun e => ?_) (fun e => ⟨d, L, n3, rfl, D3, m0, by omega, B3, ok3, l3⟩)⟩
      obtain ⟨t, qs, hd, ht, hL⟩ := id B3
      refine ⟨_, rfl, _, rfl, _, _, _, _, rfl, rfl, SqT.of hd, atI_nat (j := 1) rfl, t, rfl, ⟨_, SqT.of ht⟩, fun U nU => ?_⟩
      obtain ⟨Up, Ul⟩ := D3.lne nU
      have sU := same_upd (o := .lst []) nU
      have hn : ∀ b o, H3 b = some o → b ≠ U := fun b o hb => ne_of_none hb nU
      refine lc_tup (K := K) (a := t) (xs := qs.map V.ref) (fun j H' => BW p l U k 0 0 n3 H3 j [some (.ref p), some (.int (k : Int)), some (.int 0), some (.int 0), some (.ref U), none, none, none, none] H')
        ⟨n3, [], none, none, none, none, rfl, D3.same sU, by omega, by omega, Same.fr sU, upd_same, rfl, fun e he => nomatch he⟩ (fun j H' _ h => by obtain ⟨_, _, _, _, _, _, _, _, _, _, f, _⟩ := h; exact SqT.of (f.tup D3 ht)) ?_ ?_
      · rintro j x H4 hx ⟨n4, ks, w5, w6, w7, w8, es, D4, q0, q1, f4, hU, kl, hk⟩
        rw [List.getElem?_map] at hx
        cases e : qs[j]? with
        | none => rw [e] at hx; cases hx
        | some q =>
          rw [e] at hx
          have ex : x = .ref q := (Option.some.inj hx).symm
          subst ex
          obtain ⟨o, ho, hq⟩ := hL.2 j q e
          have oo := ok3 o (List.mem_of_getElem? ho)
          have jl : j < L.length := (List.getElem?_eq_some_iff.mp ho).1
          have hq4 : H4 q = some (.tup [.int (o.a : Int), .int o.x, .int (o.b : Int), .int o.y]) := f4.tup D3 hq
          refine ⟨q, _, rfl, SqT.of hq4, rfl, _, _, rfl, _, _, rfl, _, _, rfl, _, _, rfl, rfl, ?_⟩
          refine ⟨rfl, ?_⟩
          unfold tYes
          refine iteT ?_
          refine ⟨_, rfl, _, rfl, _, rfl, _, rfl, (by show 2 ≤ sizeLine; decide), fun w nw => ?_⟩
          obtain ⟨wp, wl⟩ := D4.lne nw
          have sw := same_upd (o := .lst [.int o.y, .int 0]) nw
          refine ⟨_, rfl, p, l, n4, 2, rfl, D4.same sw, by omega, by omega, by decide, by decide, fun r H5 r0 r1 f5 D5 => ?_⟩
          obtain ⟨z, hz, zz⟩ := pick2 (a := o.y) (b := 0) r0 r1
          refine ⟨_, _, _, _, rfl, rfl, SqL.of (f5 w _ wp wl upd_same), at_of (j := r.toNat) (by omega) hz, (by show 4 ≤ sizeLine; decide), fun q2 nq2 => ?_⟩
          have s2 := same_upd (o := .tup [.int (o.a : Int), .int o.x, .int (o.b : Int), .int z]) nq2
          have hU5 := f5 U _ Up Ul (sw _ _ hU)
          refine ⟨_, s2 _ _ hU5, ?_, ?_⟩
          · rw [List.length_map, kl]
            exact Nat.lt_of_le_of_lt (show j ≤ 64 by omega) (by decide)
          · refine BW.more (n' := n4 + 1) (o := ⟨o.a, o.x, o.b, z⟩) hn Up Ul (D5.same s2) (by omega) (by omega) (f4.trans ((Same.fr sw).trans (f5.trans (Same.fr s2)))) (s2 _ _ hU5) kl (fun e he => ⟨s2 _ _ (f5.tup (D4.same sw) (sw _ _ (hk e he).1)), (hk e he).2⟩) upd_same ?_
            have y0 := oo.y0
            have y1 := oo.y1
            exact ⟨oo.a, oo.b, oo.ne, oo.x0, oo.x1, by show 0 ≤ z; omega, by show z ≤ 30; omega⟩
      · rintro H4 ⟨n4, ks, w5, w6, w7, w8, es, D4, q0, q1, f4, hU, kl, hk⟩
        rw [List.length_map, hL.1] at kl q1
        refine ⟨_, _, rfl, .inl ⟨SqL.of hU, fun t' nt' => ⟨(by show 2 ≤ sizeLine; decide), fun d' nd' => ?_⟩⟩⟩
        have st := same_upd (o := .tup (ks.map fun e => V.ref e.1)) nt'
        have sd := same_upd (o := .tup [.int (k : Int), .ref t']) nd'
        refine ⟨_, rfl, _, rfl, _, _, _, _, rfl, rfl, SqT.of upd_same, atI_nat (j := 1) rfl, ?_⟩
        refine set_boardT (K := K) (P := P) (w := w) (Q := fun v H1 => [V.int (k : Int), v].length ≤ sizeLine ∧ ∀ q, H1 q = none → ∃ d L, TW a p l (0 + (i : Int)) k n (upd H1 q (.tup [.int (k : Int), v])) d L v5 v6 v7 v8 v9 v10 [some (.ref a), some (.ref p), some (.int (0 + (i : Int))), some (.int (k : Int)), some (.ref q), v5, v6, v7, v8, v9, v10, none, none, none, none, none, none, none])
          (sd _ _ upd_same) (fun e he => ⟨sd _ _ (st _ _ (hk e he).1), (hk e he).2⟩) (by omega) (by omega) fun H5 t5 qs5 L5 s5 ht5 hL5 ok5 l5 => ⟨(by show 2 ≤ sizeLine; decide), fun q nq => ?_⟩
        have sq := same_upd (o := .tup [.int (k : Int), .ref t5]) nq
        exact ⟨q, L5, n4, rfl, D4.same (st.trans (sd.trans (s5.trans sq))), by omega, by omega, ⟨t5, qs5, upd_same, sq _ _ ht5, hL5.same sq⟩, ok5, l5⟩
    · rintro σ H4 ⟨d, L, n4, rfl, D4, q0, q1, B, ok, l64⟩
      obtain ⟨c1, c2, c3, c4⟩ := bD_show ok (by omega) l64
      obtain ⟨g1, g2, g3, g4, g5⟩ := lLL_show (bk_sm (L := L) (k := k) (by omega)) (by unfold bkLL; rw [List.length_map, List.length_range]; omega)
      have c4 : (bD k L).shown.length ≤ sizeLine := by rw [sizeLine_eq]; omega
      have c3 : (bD k L).depth ≤ 60 := by omega
      -- the list of all back kinds, told
      have start : ∀ {H : Hp}, BkAt H L k [] := fun i e z => by cases z
      refine ⟨fun σ H' => ∃ tl es, TW a p l (0 + (i : Int)) k n H' d L (some (.str (bD k L).shown)) (some (.ref tl)) v7 v8 v9 v10 σ ∧ H' tl = some (.lst (es.map V.ref)) ∧ es.length = k ∧ BkAt H' L k es, ?_, ?_⟩
      · refine ⟨_, rfl, d, bD k L, rfl, B.dp, c1, c2, c3, c4, ?_⟩
        refine ⟨_, rfl, _, rfl, (by omega), (by omega), fun U nU => ?_⟩
        have sU := same_upd (o := .lst []) nU
        refine lc_range (lo := 0) (n := _) (fun j H' => Same H4 H' ∧ ∃ es : List Addr, es.length = j ∧ H' U = some (.lst (es.map V.ref)) ∧ BkAt H' L k es) ⟨sU, [], rfl, upd_same, start⟩ ?_ ?_
        · rintro j H5 hj ⟨s5, es, el, hU, hes⟩
          have hj : j < ((k : Nat) : Int).toNat := hj
          rw [Int.toNat_natCast] at hj
          refine ⟨rfl, ?_⟩
          unfold tYes
          refine iteT ?_
          refine ⟨_, rfl, _, rfl, d, k, j, L, congrArg (fun z => [V.ref d, V.int z]) (Int.zero_add _), B.same s5, ok, hj, by omega, fun H6 q s6 hq => ?_⟩
          have hU6 := s6 _ _ hU
          refine ⟨_, hU6, ?_, fun b o e => ?_, es ++ [q], by rw [List.length_append, List.length_singleton, el], ?_, (hes.same s6).more el hq hU6⟩
          · rw [List.length_map, el]
            exact Nat.lt_of_le_of_lt (show j ≤ 4 by omega) (by decide)
          · rw [upd_ne (ne_of_none e nU)]
            exact s6 _ _ (s5 _ _ e)
          · rw [upd_same, List.map_append]
            rfl
        · rintro H5 ⟨s5, es, el, hU, hes⟩
          rw [Int.toNat_natCast] at el
          refine ⟨(by show 2 ≤ sizeLine; decide), fun t nt => ?_⟩
          have st := same_upd (o := .tup [.str (bD k L).shown, .ref U]) nt
          have sa := s5.trans st
          exact ⟨t, _, rfl, SqT.of upd_same, rfl, _, _, rfl, _, _, rfl, rfl, U, es, ⟨n4, rfl, D4.same sa, q0, q1, B.same sa, ok, l64⟩, st _ _ hU, el, hes.same st⟩
      rintro σ H5 ⟨tl, es, ⟨n5, rfl, D5, q0, q1, B, _, _⟩, htl, el, hes⟩
      refine ⟨fun σ H' => TW a p l (0 + (i : Int)) k n H' d L (some (.str (bD k L).shown)) (some (.ref tl)) (some (.str (PyData.list (dLL (bkLL L k))).shown)) v8 v9 v10 σ ∧ H' tl = some (.lst (es.map V.ref)) ∧ BkAt H' L k es, ?_, ?_⟩
      · refine ⟨_, rfl, _, rfl, (by omega), (by omega), fun U nU => ?_⟩
        have sU := same_upd (o := .lst []) nU
        refine lc_range (lo := 0) (n := _) (fun j H' => Same H5 H' ∧ ∃ es : List Addr, es.length = j ∧ H' U = some (.lst (es.map V.ref)) ∧ BkAt H' L k es) ⟨sU, [], rfl, upd_same, start⟩ ?_ ?_
        · rintro j H6 hj ⟨s6, es, el, hU, hes⟩
          have hj : j < ((k : Nat) : Int).toNat := hj
          rw [Int.toNat_natCast] at hj
          refine ⟨rfl, ?_⟩
          unfold tYes
          refine iteT ?_
          refine ⟨_, rfl, _, rfl, d, k, j, L, congrArg (fun z => [V.ref d, V.int z]) (Int.zero_add _), B.same s6, ok, hj, by omega, l64, fun H7 q s7 hq => ?_⟩
          have hU7 := s7 _ _ hU
          refine ⟨_, hU7, ?_, fun b o e => ?_, es ++ [q], by rw [List.length_append, List.length_singleton, el], ?_, (hes.same s7).more el hq hU7⟩
          · rw [List.length_map, el]
            exact Nat.lt_of_le_of_lt (show j ≤ 4 by omega) (by decide)
          · rw [upd_ne (ne_of_none e nU)]
            exact s7 _ _ (s6 _ _ e)
          · rw [upd_same, List.map_append]
            rfl
        · rintro H6 ⟨s6, es2, el2, hU, hes2⟩
          rw [Int.toNat_natCast] at el2
          exact ⟨U, .list (dLL (bkLL L k)), rfl, .lst (SqL.of hU) (hes2.dp el2), g1, g2, g3, g4, ⟨n5, rfl, D5.same s6, q0, q1, B.same s6, ok, l64⟩, s6 _ _ htl, hes.same s6⟩
      rintro σ H6 ⟨⟨n6, rfl, D6, q0, q1, B, _, _⟩, htl, hes⟩
      refine ⟨fun σ H' => TW a p l (0 + (i : Int)) k n H' d L (some (.str (bD k L).shown)) (some (.ref tl)) (some (.str (PyData.list (dLL (bkLL L k))).shown)) (some (.str (PyData.list (dLL (bkLL L k))).shown)) v9 v10 σ ∧ H' tl = some (.lst (es.map V.ref)) ∧ BkAt H' L k es, ?_, ?_⟩
      · refine ⟨_, rfl, _, rfl, (by omega), (by omega), fun U nU => ?_⟩
        have sU := same_upd (o := .lst []) nU
        refine lc_range (lo := 0) (n := _) (fun j H' => Same H6 H' ∧ ∃ es : List Addr, es.length = j ∧ H' U = some (.lst (es.map V.ref)) ∧ BkAt H' L k es) ⟨sU, [], rfl, upd_same, start⟩ ?_ ?_
        · rintro j H7 hj ⟨s7, es, el, hU, hes⟩
          have hj : j < ((k : Nat) : Int).toNat := hj
          rw [Int.toNat_natCast] at hj
          refine ⟨rfl, ?_⟩
          unfold tYes
          refine iteT ?_
          refine ⟨_, rfl, _, rfl, d, k, j, L, congrArg (fun z => [V.ref d, V.int z]) (Int.zero_add _), B.same s7, ok, hj, by omega, fun H8 q s8 hq => ?_⟩
          have hU8 := s8 _ _ hU
          refine ⟨_, hU8, ?_, fun b o e => ?_, es ++ [q], by rw [List.length_append, List.length_singleton, el], ?_, (hes.same s8).more el hq hU8⟩
          · rw [List.length_map, el]
            exact Nat.lt_of_le_of_lt (show j ≤ 4 by omega) (by decide)
          · rw [upd_ne (ne_of_none e nU)]
            exact s8 _ _ (s7 _ _ e)
          · rw [upd_same, List.map_append]
            rfl
        · rintro H7 ⟨s7, es2, el2, hU, hes2⟩
          rw [Int.toNat_natCast] at el2
          exact ⟨U, .list (dLL (bkLL L k)), rfl, .lst (SqL.of hU) (hes2.dp el2), g1, g2, g3, g4, ⟨n6, rfl, D6.same s7, q0, q1, B.same s7, ok, l64⟩, s7 _ _ htl, hes.same s7⟩
      rintro σ H7 ⟨⟨n7, rfl, D7, q0, q1, B, _, _⟩, htl, hes⟩
      refine ⟨_, rfl, tl, .list (dLL (bkLL L k)), rfl, .lst (SqL.of htl) (hes.dp el), g1, g2, g3, g4, _, rfl, rfl, _, rfl, iteNP rfl ?_⟩
      refine ⟨_, rfl, _, rfl, rfl, _, rfl, iteNP rfl ?_⟩
      refine ⟨_, rfl, _, rfl, (by omega), (by omega), ?_⟩
      refine for_range (lo := 0) (n := _) (fun c σ H' => ∃ v9 v10, Same H7 H' ∧ σ = [some (.ref a), some (.ref p), some (.int (0 + (i : Int))), some (.int (k : Int)), some (.ref d), some (.str (bD k L).shown), some (.ref tl), some (.str (PyData.list (dLL (bkLL L k))).shown), some (.str (PyData.list (dLL (bkLL L k))).shown), v9, v10, none, none, none, none, none, none, none])
        ⟨_, _, Same.refl _, rfl⟩ ?_ ?_
      · rintro c σ H8 hc ⟨v9, v10, s8, rfl⟩
        have hc : c < ((k : Nat) : Int).toNat := hc
        rw [Int.toNat_natCast] at hc
        have tl8 := s8 _ _ htl
        have he8 := hes.same s8
        have ec : es[c]? = some es[c] := List.getElem?_eq_getElem (by omega)
        have hec := he8 c _ ec
        refine ⟨_, rfl, _, rfl, _, _, _, _, rfl, rfl, SqL.of tl8, at_of (j := c) (Int.zero_add _) (by rw [List.getElem?_map, ec]; rfl), ?_⟩
        have own : (0 : Int) + (c : Int) ∈ ni (backs L k c) := by
          rw [Int.zero_add]
          exact mem_ni.mpr (backs_self hc)
        refine ⟨_, rfl, _, rfl, es[c], _, rfl, .inr (SqT.of hec), rfl, flat_int _, _, congrArg (fun b => V.bl (!b)) (inV_int _ _), iteNP own ?_⟩
        refine ⟨_, rfl, es[c], rfl, ⟨_, SqT.of hec⟩, fun U nU => ?_⟩
        have sU := same_upd (o := .lst []) nU
        refine lc_tup (K := K) (a := es[c]) (xs := (ni (backs L k c)).map V.int) (fun j H' => Same H8 H' ∧ H' U = some (.lst [])) ⟨sU, upd_same⟩ (fun j H' _ h => SqT.of (h.1 _ _ hec)) ?_ ?_
        · rintro j x H9 hx ⟨s9, hU⟩
          obtain ⟨c', hc', rfl⟩ := take_ni hx
          have mc := List.mem_of_getElem? hc'
          have lc := (mem_backs.mp mc).1
          have ec' : es[c']? = some es[c'] := List.getElem?_eq_getElem (by omega)
          have hec' := he8 c' _ ec'
          rw [backs_same mc] at hec'
          refine ⟨rfl, ?_⟩
          have sh : SeqAt.shaped (tD (ni (backs L k c))) = true := tD_shaped (bk_sm (L := L) (k := k) (by omega) _ (List.mem_map.mpr ⟨c, List.mem_range.mpr hc, rfl⟩))
          refine ⟨_, rfl, _, rfl, _, _, _, _, rfl, rfl, SqL.of (s9 _ _ tl8), atI_nat (j := c') (by rw [List.getElem?_map, ec']; rfl), _, rfl, tD (ni (backs L k c)), tD (ni (backs L k c)), dp_tD (s9 _ _ hec'), dp_tD (s9 _ _ hec), sh, sh, false, by rw [eqv_self sh]; rfl, iteF ⟨s9, hU⟩⟩
        · rintro H9 ⟨s9, hU⟩
          refine ⟨(by show 0 ≤ sizeLine; decide), fun W nW => ?_⟩
          have sW := same_upd (o := .lst []) nW
          exact ⟨.list [], .list [], .lst (SqL.of (sW _ _ hU)) .nil, .lst (SqL.of upd_same) .nil, by rfl, by rfl, false, by rw [eqv_self (by rfl)]; rfl, iteF ⟨_, _, s8.trans (s9.trans sW), rfl⟩⟩
      · rintro σ H8 ⟨v9, v10, s8, rfl⟩
        refine ⟨_, rfl, d, bD k L, rfl, (B.same s8).dp, c1, c2, c3, c4, _, rfl, rfl, _, rfl, iteNP rfl ?_⟩
        exact ⟨n7, _, _, _, _, _, _, _, _, _, rfl, D7.same s8, by omega, by omega⟩
  · rintro σ H2 ⟨n, v2, v3, v4, v5, v6, v7, v8, v9, v10, rfl, D2, n0, n1⟩
    -- two written boards
    refine ⟨(by show 4 ≤ sizeLine; decide), fun a1 na1 => ⟨(by show 4 ≤ sizeLine; decide), fun a2 na2 => ⟨(by show 4 ≤ sizeLine; decide), fun a3 na3 => ⟨(by show 3 ≤ sizeLine; decide), fun at' nat' => ⟨(by show 2 ≤ sizeLine; decide), fun dc ndc => ?_⟩⟩⟩⟩⟩
    have u1 := same_upd (o := .tup [.int 0, .int 1, .int 1, .int 1]) na1
    have u2 := same_upd (o := .tup [.int 1, .int 8, .int 2, .int 1]) na2
    have u3 := same_upd (o := .tup [.int 2, .int 8, .int 0, .int 1]) na3
    have u4 := same_upd (o := .tup [.ref a1, .ref a2, .ref a3]) nat'
    have u5 := same_upd (o := .tup [.int 3, .ref at']) ndc
    have Bc : BoardAt (upd (upd (upd (upd (upd H2 a1 (.tup [.int 0, .int 1, .int 1, .int 1])) a2 (.tup [.int 1, .int 8, .int 2, .int 1])) a3 (.tup [.int 2, .int 8, .int 0, .int 1])) at' (.tup [.ref a1, .ref a2, .ref a3])) dc (.tup [.int 3, .ref at'])) dc 3 circL := by
      refine ⟨at', [a1, a2, a3], upd_same, u5 _ _ upd_same, rfl, fun i q e => ?_⟩
      match i, e with
      | 0, e => cases e; exact ⟨_, rfl, (u2.trans (u3.trans (u4.trans u5))) _ _ upd_same⟩
      | 1, e => cases e; exact ⟨_, rfl, (u3.trans (u4.trans u5)) _ _ upd_same⟩
      | 2, e => cases e; exact ⟨_, rfl, (u4.trans u5) _ _ upd_same⟩
    generalize upd (upd (upd (upd (upd H2 a1 (.tup [.int 0, .int 1, .int 1, .int 1])) a2 (.tup [.int 1, .int 8, .int 2, .int 1])) a3 (.tup [.int 2, .int 8, .int 0, .int 1])) at' (.tup [.ref a1, .ref a2, .ref a3])) dc (.tup [.int 3, .ref at']) = H3 at Bc ⊢
    clear u1 u2 u3 u4 u5 na1 na2 na3 nat' ndc
    refine ⟨(by show 4 ≤ sizeLine; decide), fun b1 nb1 => ⟨(by show 4 ≤ sizeLine; decide), fun b2 nb2 => ⟨(by show 4 ≤ sizeLine; decide), fun b3 nb3 => ⟨(by show 4 ≤ sizeLine; decide), fun b4 nb4 => ⟨(by show 4 ≤ sizeLine; decide), fun bt nbt => ⟨(by show 2 ≤ sizeLine; decide), fun dp ndp => ?_⟩⟩⟩⟩⟩⟩
    have u1 := same_upd (o := .tup [.int 0, .int 1, .int 1, .int 8]) nb1
    have u2 := same_upd (o := .tup [.int 1, .int 1, .int 0, .int 0]) nb2
    have u3 := same_upd (o := .tup [.int 1, .int 1, .int 2, .int 1]) nb3
    have u4 := same_upd (o := .tup [.int 2, .int 1, .int 1, .int 1]) nb4
    have u5 := same_upd (o := .tup [.ref b1, .ref b2, .ref b3, .ref b4]) nbt
    have u6 := same_upd (o := .tup [.int 3, .ref bt]) ndp
    have Bc := Bc.same (u1.trans (u2.trans (u3.trans (u4.trans (u5.trans u6)))))
    have Bp : BoardAt (upd (upd (upd (upd (upd (upd H3 b1 (.tup [.int 0, .int 1, .int 1, .int 8])) b2 (.tup [.int 1, .int 1, .int 0, .int 0])) b3 (.tup [.int 1, .int 1, .int 2, .int 1])) b4 (.tup [.int 2, .int 1, .int 1, .int 1])) bt (.tup [.ref b1, .ref b2, .ref b3, .ref b4])) dp (.tup [.int 3, .ref bt])) dp 3 partL := by
      refine ⟨bt, [b1, b2, b3, b4], upd_same, u6 _ _ upd_same, rfl, fun i q e => ?_⟩
      match i, e with
      | 0, e => cases e; exact ⟨_, rfl, (u2.trans (u3.trans (u4.trans (u5.trans u6)))) _ _ upd_same⟩
      | 1, e => cases e; exact ⟨_, rfl, (u3.trans (u4.trans (u5.trans u6))) _ _ upd_same⟩
      | 2, e => cases e; exact ⟨_, rfl, (u4.trans (u5.trans u6)) _ _ upd_same⟩
      | 3, e => cases e; exact ⟨_, rfl, (u5.trans u6) _ _ upd_same⟩
    generalize upd (upd (upd (upd (upd (upd H3 b1 (.tup [.int 0, .int 1, .int 1, .int 8])) b2 (.tup [.int 1, .int 1, .int 0, .int 0])) b3 (.tup [.int 1, .int 1, .int 2, .int 1])) b4 (.tup [.int 2, .int 1, .int 1, .int 1])) bt (.tup [.ref b1, .ref b2, .ref b3, .ref b4])) dp (.tup [.int 3, .ref bt]) = H4 at Bc Bp ⊢
    clear u1 u2 u3 u4 u5 u6 nb1 nb2 nb3 nb4 nbt ndp
    -- told of the circle
    have start : ∀ {H : Hp} {L : List Of}, BkAt H L 3 [] := fun i e z => by cases z
    refine ⟨3, rfl, (by decide), (by decide), fun U nU => ?_⟩
    have sU := same_upd (o := .lst []) nU
    refine lc_range (lo := 0) (n := 3) (fun j H' => Same H4 H' ∧ ∃ es : List Addr, es.length = j ∧ H' U = some (.lst (es.map V.ref)) ∧ BkAt H' circL 3 es) ⟨sU, [], rfl, upd_same, start⟩ ?_ ?_
    · rintro j H5 hj ⟨s5, es, el, hU, hes⟩
      refine ⟨rfl, ?_⟩
      unfold tYes
      refine iteT ?_
      refine ⟨_, rfl, _, rfl, dc, 3, j, circL, congrArg (fun z => [V.ref dc, V.int z]) (Int.zero_add _), Bc.same s5, circ_ok, hj, by decide, fun H6 q s6 hq => ?_⟩
      have hU6 := s6 _ _ hU
      refine ⟨_, hU6, ?_, fun b o e => ?_, es ++ [q], by rw [List.length_append, List.length_singleton, el], ?_, (hes.same s6).more el hq hU6⟩
      · rw [List.length_map, el]
        exact Nat.lt_of_le_of_lt (show j ≤ 4 by omega) (by decide)
      · rw [upd_ne (ne_of_none e nU)]
        exact s6 _ _ (s5 _ _ e)
      · rw [upd_same, List.map_append]
        rfl
    rintro H5 ⟨s5, es, el, hU, hes⟩
    have Bp5 := Bp.same s5
    refine ⟨_, rfl, (by show 3 ≤ sizeLine; decide), fun t nt => ⟨(by show 1 ≤ sizeLine; decide), fun z nz => ?_⟩⟩
    have st := same_upd (o := .tup [.int 0, .int 1, .int 2]) nt
    have sz := same_upd (o := .lst [.ref t]) nz
    refine ⟨z, 3, _, rfl, rfl, upd_same, by decide, by decide, (by show 1 * 3 ≤ sizeLine; decide), fun q nq => ?_⟩
    have sq := same_upd (o := .lst (List.replicate (Int.toNat 3) [V.ref t]).flatten) nq
    have sa := st.trans (sz.trans sq)
    have ht := (sz.trans sq) _ _ (show upd H5 t (.tup [.int 0, .int 1, .int 2]) t = some (.tup (([0, 1, 2] : List Int).map V.int)) from upd_same)
    have cb : bkLL circL 3 = [[0, 1, 2], [0, 1, 2], [0, 1, 2]] := by
      show [ni (backs circL 3 0), ni (backs circL 3 1), ni (backs circL 3 2)] = _
      rw [circ_backs (by decide), circ_backs (by decide), circ_backs (by decide)]
      rfl
    have sm3 : ∀ t ∈ bkLL circL 3, Sm8 t := bk_sm (by decide)
    obtain ⟨_, _, _, _, g5⟩ := lLL_show sm3 (by rw [cb]; decide)
    have dq : Dp K (upd (upd (upd H5 t (.tup [.int 0, .int 1, .int 2])) z (.lst [.ref t])) q (.lst (List.replicate (Int.toNat 3) [V.ref t]).flatten)) (.ref q) (.list (dLL (bkLL circL 3))) := by
      rw [cb]
      exact .lst (SqL.of upd_same) (.cons (dp_tD ht) (.cons (dp_tD ht) (.cons (dp_tD ht) .nil)))
    refine ⟨.list (dLL (bkLL circL 3)), .list (dLL (bkLL circL 3)), .lst (SqL.of (sa _ _ hU)) ((hes.same sa).dp el), dq, g5, g5, false, by rw [eqv_self g5]; rfl, iteF ?_⟩
    have Bp6 := Bp5.same sa
    generalize upd (upd (upd H5 t (.tup [.int 0, .int 1, .int 2])) z (.lst [.ref t])) q (.lst (List.replicate (Int.toNat 3) [V.ref t]).flatten) = H6 at Bp6 ⊢
    clear dq ht sa sq sz st nq nz nt
    refine ⟨(by show 0 ≤ sizeLine; decide), fun e0 ne0 => ⟨(by show 2 ≤ sizeLine; decide), fun d0 nd0 => ?_⟩⟩
    have se := same_upd (o := .tup []) ne0
    have sd := same_upd (o := .tup [.int 1, .ref e0]) nd0
    refine ⟨d0, 1, 0, [], rfl, ⟨e0, [], upd_same, sd _ _ upd_same, rfl, fun i q e => by cases e⟩, (fun o ho => by cases ho), by decide, by decide, fun H7 q7 s7 hq7 => ?_⟩
    refine ⟨(by show 1 ≤ sizeLine; decide), fun w nw => ?_⟩
    have sw := same_upd (o := .tup [.int 0]) nw
    have sh0 : SeqAt.shaped (tD [0]) = true := tD_shaped ⟨by decide, fun n hn => by rw [List.mem_singleton.mp hn]; exact log_abs (by decide) (by decide)⟩
    rw [one_backs] at hq7
    refine ⟨tD [0], tD [0], dp_tD (sw _ _ hq7), dp_tD upd_same, sh0, sh0, false, by rw [eqv_self sh0]; rfl, iteF ?_⟩
    have Bp7 := ((Bp6.same (se.trans sd)).same s7).same sw
    generalize upd H7 w (.tup [.int 0]) = H8 at Bp7 ⊢
    -- told of the parted one
    refine ⟨3, rfl, (by decide), (by decide), fun U nU => ?_⟩
    have sU := same_upd (o := .lst []) nU
    refine lc_range (lo := 0) (n := 3) (fun j H' => Same H8 H' ∧ ∃ es : List Addr, es.length = j ∧ H' U = some (.lst (es.map V.ref)) ∧ BkAt H' partL 3 es) ⟨sU, [], rfl, upd_same, start⟩ ?_ ?_
    · rintro j H9 hj ⟨s9, es, el, hU, hes⟩
      refine ⟨rfl, ?_⟩
      unfold tYes
      refine iteT ?_
      refine ⟨_, rfl, _, rfl, dp, 3, j, partL, congrArg (fun z => [V.ref dp, V.int z]) (Int.zero_add _), Bp7.same s9, part_ok, hj, by decide, fun HA q sA hq => ?_⟩
      have hUA := sA _ _ hU
      refine ⟨_, hUA, ?_, fun b o e => ?_, es ++ [q], by rw [List.length_append, List.length_singleton, el], ?_, (hes.same sA).more el hq hUA⟩
      · rw [List.length_map, el]
        exact Nat.lt_of_le_of_lt (show j ≤ 4 by omega) (by decide)
      · rw [upd_ne (ne_of_none e nU)]
        exact sA _ _ (s9 _ _ e)
      · rw [upd_same, List.map_append]
        rfl
    rintro H9 ⟨s9, es2, el2, hU, hes2⟩
    refine ⟨_, rfl, (by show 1 ≤ sizeLine; decide), fun w1 nw1 => ⟨(by show 2 ≤ sizeLine; decide), fun w2 nw2 => ⟨(by show 2 ≤ sizeLine; decide), fun w3 nw3 => ⟨(by show 3 ≤ sizeLine; decide), fun wl nwl => ?_⟩⟩⟩⟩
    have q1 := same_upd (o := .tup [.int 0]) nw1
    have q2 := same_upd (o := .tup [.int 1, .int 2]) nw2
    have q3 := same_upd (o := .tup [.int 1, .int 2]) nw3
    have q4 := same_upd (o := .lst [.ref w1, .ref w2, .ref w3]) nwl
    have qa := q1.trans (q2.trans (q3.trans q4))
    have pb : bkLL partL 3 = [[0], [1, 2], [1, 2]] := by
      show [ni (backs partL 3 0), ni (backs partL 3 1), ni (backs partL 3 2)] = _
      rw [part_backs0, part_backs (.inl rfl), part_backs (.inr rfl)]
      rfl
    have smp : ∀ t ∈ bkLL partL 3, Sm8 t := bk_sm (by decide)
    obtain ⟨_, _, _, _, gp⟩ := lLL_show smp (by rw [pb]; decide)
    have dq : Dp K (upd (upd (upd (upd H9 w1 (.tup [.int 0])) w2 (.tup [.int 1, .int 2])) w3 (.tup [.int 1, .int 2])) wl (.lst [.ref w1, .ref w2, .ref w3])) (.ref wl) (.list (dLL (bkLL partL 3))) := by
      rw [pb]
      exact .lst (SqL.of upd_same) (.cons (dp_tD ((q2.trans (q3.trans q4)) _ _ upd_same)) (.cons (dp_tD ((q3.trans q4) _ _ upd_same)) (.cons (dp_tD (q4 _ _ upd_same)) .nil)))
    refine ⟨.list (dLL (bkLL partL 3)), .list (dLL (bkLL partL 3)), .lst (SqL.of (qa _ _ hU)) ((hes2.same qa).dp el2), dq, gp, gp, ?_⟩
    rw [eqv_self gp]
    exact kk _
end
end Sm

set_option Elab.async false
set_option linter.all false
set_option maxRecDepth 100000
set_option maxHeartbeats 16000000
namespace Sm
open PySem PySem.Spec PyProof.Rows L2
theorem all_mk {l : PySem.W.OpenLaw} {w : World} {K : PySem.W.Frag} {h : Heap} {mg : Str → Option Value} {fa : Addr} (X : K.In h) (G : h.Ns mainGlobals mg) (hfa : mg "law" = some (.ref fa))
    {F_leads_from : Addr} {od_leads_from an_leads_from : Option Addr} {sl_leads_from : Array (Option Value)} {oc_leads_from kV_leads_from dc_leads_from pm_leads_from cd_leads_from ct_leads_from : Value} (a_leads_from : PySem.W.nsIn K mainGlobals "leads_from" = some (some (.ref F_leads_from))) (l_leads_from : K.lookup F_leads_from = some ⟨oc_leads_from, od_leads_from, .func (PySem.W.fnOf "leads_from" "leads_from" (defArgs s_leads_from) (defBody s_leads_from) (defScope s_leads_from) .none kV_leads_from dc_leads_from pm_leads_from an_leads_from cd_leads_from ct_leads_from), sl_leads_from⟩) (c_leads_from : PySem.W.codeIn K cd_leads_from "leads_from" = true) (k_leads_from : PySem.W.keepIn K (.ref F_leads_from) = true)
    {F_back_kinds : Addr} {od_back_kinds an_back_kinds : Option Addr} {sl_back_kinds : Array (Option Value)} {oc_back_kinds kV_back_kinds dc_back_kinds pm_back_kinds cd_back_kinds ct_back_kinds : Value} (a_back_kinds : PySem.W.nsIn K mainGlobals "back_kinds" = some (some (.ref F_back_kinds))) (l_back_kinds : K.lookup F_back_kinds = some ⟨oc_back_kinds, od_back_kinds, .func (PySem.W.fnOf "back_kinds" "back_kinds" (defArgs s_back_kinds) (defBody s_back_kinds) (defScope s_back_kinds) .none kV_back_kinds dc_back_kinds pm_back_kinds an_back_kinds cd_back_kinds ct_back_kinds), sl_back_kinds⟩) (c_back_kinds : PySem.W.codeIn K cd_back_kinds "back_kinds" = true) (k_back_kinds : PySem.W.keepIn K (.ref F_back_kinds) = true)
    {F_l_deck : Addr} {od_l_deck an_l_deck : Option Addr} {sl_l_deck : Array (Option Value)} {oc_l_deck kV_l_deck dc_l_deck pm_l_deck cd_l_deck ct_l_deck : Value} (a_l_deck : PySem.W.nsIn K mainGlobals "_law_deck" = some (some (.ref F_l_deck))) (l_l_deck : K.lookup F_l_deck = some ⟨oc_l_deck, od_l_deck, .func (PySem.W.fnOf "_law_deck" "_law_deck" (defArgs s_l_deck) (defBody s_l_deck) (defScope s_l_deck) .none kV_l_deck dc_l_deck pm_l_deck an_l_deck cd_l_deck ct_l_deck), sl_l_deck⟩) (c_l_deck : PySem.W.codeIn K cd_l_deck "_law_deck" = true) (k_l_deck : PySem.W.keepIn K (.ref F_l_deck) = true)
    {F_l_draw : Addr} {od_l_draw an_l_draw : Option Addr} {sl_l_draw : Array (Option Value)} {oc_l_draw kV_l_draw dc_l_draw pm_l_draw cd_l_draw ct_l_draw : Value} (a_l_draw : PySem.W.nsIn K mainGlobals "_law_draw" = some (some (.ref F_l_draw))) (l_l_draw : K.lookup F_l_draw = some ⟨oc_l_draw, od_l_draw, .func (PySem.W.fnOf "_law_draw" "_law_draw" (defArgs s_l_draw) (defBody s_l_draw) (defScope s_l_draw) .none kV_l_draw dc_l_draw pm_l_draw an_l_draw cd_l_draw ct_l_draw), sl_l_draw⟩) (c_l_draw : PySem.W.codeIn K cd_l_draw "_law_draw" = true) (k_l_draw : PySem.W.keepIn K (.ref F_l_draw) = true)
    {F_l_board : Addr} {od_l_board an_l_board : Option Addr} {sl_l_board : Array (Option Value)} {oc_l_board kV_l_board dc_l_board pm_l_board cd_l_board ct_l_board : Value} (a_l_board : PySem.W.nsIn K mainGlobals "_law_board" = some (some (.ref F_l_board))) (l_l_board : K.lookup F_l_board = some ⟨oc_l_board, od_l_board, .func (PySem.W.fnOf "_law_board" "_law_board" (defArgs s_l_board) (defBody s_l_board) (defScope s_l_board) .none kV_l_board dc_l_board pm_l_board an_l_board cd_l_board ct_l_board), sl_l_board⟩) (c_l_board : PySem.W.codeIn K cd_l_board "_law_board" = true) (k_l_board : PySem.W.keepIn K (.ref F_l_board) = true)
    {F_l_back : Addr} {od_l_back an_l_back : Option Addr} {sl_l_back : Array (Option Value)} {oc_l_back kV_l_back dc_l_back pm_l_back cd_l_back ct_l_back : Value} (a_l_back : PySem.W.nsIn K mainGlobals "_law_back" = some (some (.ref F_l_back))) (l_l_back : K.lookup F_l_back = some ⟨oc_l_back, od_l_back, .func (PySem.W.fnOf "_law_back" "_law_back" (defArgs s_l_back) (defBody s_l_back) (defScope s_l_back) .none kV_l_back dc_l_back pm_l_back an_l_back cd_l_back ct_l_back), sl_l_back⟩) (c_l_back : PySem.W.codeIn K cd_l_back "_law_back" = true) (k_l_back : PySem.W.keepIn K (.ref F_l_back) = true)
    {F_law : Addr} {od_law an_law : Option Addr} {sl_law : Array (Option Value)} {oc_law kV_law dc_law pm_law cd_law ct_law : Value} (a_law : PySem.W.nsIn K mainGlobals "law" = some (some (.ref F_law))) (l_law : K.lookup F_law = some ⟨oc_law, od_law, .func (PySem.W.fnOf "law" "law" (defArgs s_law) (defBody s_law) (defScope s_law) .none kV_law dc_law pm_law an_law cd_law ct_law), sl_law⟩) (c_law : PySem.W.codeIn K cd_law "law" = true) (k_law : PySem.W.keepIn K (.ref F_law) = true)
    (z_abs : PySem.W.nsIn K mainGlobals "abs" = some none)
    (z_int : PySem.W.nsIn K mainGlobals "int" = some none)
    (z_len : PySem.W.nsIn K mainGlobals "len" = some none)
    (z_max : PySem.W.nsIn K mainGlobals "max" = some none)
    (z_range : PySem.W.nsIn K mainGlobals "range" = some none)
    (z_repr : PySem.W.nsIn K mainGlobals "repr" = some none)
    (z_set : PySem.W.nsIn K mainGlobals "set" = some none)
    (z_sorted : PySem.W.nsIn K mainGlobals "sorted" = some none)
    (z_tuple : PySem.W.nsIn K mainGlobals "tuple" = some none) :
    ∃ fd : FuncData, (∀ (s : Shared) (v : Value), BindsTo s fd ⟨[v], []⟩ [("_law_script", v)]) ∧ ∀ base : Heap, K.In base → base.Ns mainGlobals mg → FnG l.prog w K mg base 3 fa fd ["_law_script"] (sp_law K) := by
  have e := hfa.symm.trans (PySem.W.mg_of X G a_law)
  cases e
  have T : Txt mg := ⟨PySem.W.mg_none_of X G z_abs, PySem.W.mg_none_of X G z_int, PySem.W.mg_none_of X G z_len, PySem.W.mg_none_of X G z_max, PySem.W.mg_none_of X G z_range, PySem.W.mg_none_of X G z_repr, PySem.W.mg_none_of X G z_set, PySem.W.mg_none_of X G z_sorted, PySem.W.mg_none_of X G z_tuple⟩
  have D_leads_from : Df K mg "leads_from" s_leads_from ["board", "kind"] := ⟨_, _, fun_mk (st := s_leads_from) l_leads_from c_leads_from k_leads_from, PySem.W.mg_of X G a_leads_from, (fun_mk (st := s_leads_from) l_leads_from c_leads_from k_leads_from).binds (ps := ["board", "kind"]) fun _ _ _ _ _ _ us hl => match us, hl with | [_, _], _ => rfl⟩
  have D_back_kinds : Df K mg "back_kinds" s_back_kinds ["board", "kind"] := ⟨_, _, fun_mk (st := s_back_kinds) l_back_kinds c_back_kinds k_back_kinds, PySem.W.mg_of X G a_back_kinds, (fun_mk (st := s_back_kinds) l_back_kinds c_back_kinds k_back_kinds).binds (ps := ["board", "kind"]) fun _ _ _ _ _ _ us hl => match us, hl with | [_, _], _ => rfl⟩
  have D_l_deck : Df K mg "_law_deck" s_l_deck ["_law_script"] := ⟨_, _, fun_mk (st := s_l_deck) l_l_deck c_l_deck k_l_deck, PySem.W.mg_of X G a_l_deck, (fun_mk (st := s_l_deck) l_l_deck c_l_deck k_l_deck).binds (ps := ["_law_script"]) fun _ _ _ _ _ _ us hl => match us, hl with | [_], _ => rfl⟩
  have D_l_draw : Df K mg "_law_draw" s_l_draw ["_law_deck_here", "_law_many"] := ⟨_, _, fun_mk (st := s_l_draw) l_l_draw c_l_draw k_l_draw, PySem.W.mg_of X G a_l_draw, (fun_mk (st := s_l_draw) l_l_draw c_l_draw k_l_draw).binds (ps := ["_law_deck_here", "_law_many"]) fun _ _ _ _ _ _ us hl => match us, hl with | [_, _], _ => rfl⟩
  have D_l_board : Df K mg "_law_board" s_l_board ["_law_deck_here", "_law_kinds", "_law_upto", "_law_top"] := ⟨_, _, fun_mk (st := s_l_board) l_l_board c_l_board k_l_board, PySem.W.mg_of X G a_l_board, (fun_mk (st := s_l_board) l_l_board c_l_board k_l_board).binds (ps := ["_law_deck_here", "_law_kinds", "_law_upto", "_law_top"]) fun _ _ _ _ _ _ us hl => match us, hl with | [_, _, _, _], _ => rfl⟩
  have D_l_back : Df K mg "_law_back" s_l_back ["_law_board_here", "_law_kind"] := ⟨_, _, fun_mk (st := s_l_back) l_l_back c_l_back k_l_back, PySem.W.mg_of X G a_l_back, (fun_mk (st := s_l_back) l_l_back c_l_back k_l_back).binds (ps := ["_law_board_here", "_law_kind"]) fun _ _ _ _ _ _ us hl => match us, hl with | [_, _], _ => rfl⟩
  have D_law : Df K mg "law" s_law ["_law_script"] := ⟨_, _, fun_mk (st := s_law) l_law c_law k_law, PySem.W.mg_of X G a_law, (fun_mk (st := s_law) l_law c_law k_law).binds (ps := ["_law_script"]) fun _ _ _ _ _ _ us hl => match us, hl with | [_], _ => rfl⟩
  refine ⟨PySem.W.fnOf "law" "law" (defArgs s_law) (defBody s_law) (defScope s_law) .none kV_law dc_law pm_law an_law cd_law ct_law, fun s v => .of_eq rfl, fun base _ _ => ?_⟩
  have C_leads_from : Cal l.prog w K mg base "leads_from" ["board", "kind"] 1 (sp_leads_from K) := ok_leads_from T D_leads_from
  have C_l_deck : Cal l.prog w K mg base "_law_deck" ["_law_script"] 1 (sp_l_deck K) := ok_l_deck T D_l_deck
  have C_l_draw : Cal l.prog w K mg base "_law_draw" ["_law_deck_here", "_law_many"] 1 (sp_l_draw K) := ok_l_draw T D_l_draw
  have C_l_back : Cal l.prog w K mg base "_law_back" ["_law_board_here", "_law_kind"] 1 (sp_l_back K) := ok_l_back T D_l_back
  have C_back_kinds : Cal l.prog w K mg base "back_kinds" ["board", "kind"] 2 (sp_back_kinds K) := ok_back_kinds T D_back_kinds C_leads_from
  have C_l_board : Cal l.prog w K mg base "_law_board" ["_law_deck_here", "_law_kinds", "_law_upto", "_law_top"] 2 (sp_l_board K) := ok_l_board T D_l_board C_l_draw
  exact ok_lawG T (fun_mk (st := s_law) l_law c_law k_law) C_back_kinds C_l_back C_l_draw C_l_board C_l_deck

end Sm
open PySem PySem.W PyProof.Rows in
set_option maxRecDepth 100000 in
set_option maxHeartbeats 0 in
theorem PySem.Challenge.cw_smallchange_k40_back_kinds_holds : PySem.Challenge.rw_smallchange_k40_back_kinds.Holds := by
  w_on; o_law; k_head; (case hw => w_witness2)
  k_fill
  refine Sm.walk_at_law (l := PySem.Challenge.rw_smallchange_k40_back_kinds) (k := 3) (x := "_law_script") (sp := Sm.sp_law) rfl rfl ⟨rfl, by decide, by decide⟩ (fun w h Y => PySem.W.kIn_of Y) ?F (fun _ _ a ns hl hS => ⟨a, ns, rfl, hS, hl, fun _ => rfl⟩)
  case F =>
    intro w mg fa h KX G hmg
    refine' Sm.all_mk KX G hmg ?a_leads_from ?l_leads_from ?c_leads_from ?k_leads_from ?a_back_kinds ?l_back_kinds ?c_back_kinds ?k_back_kinds ?a_l_deck ?l_l_deck ?c_l_deck ?k_l_deck ?a_l_draw ?l_l_draw ?c_l_draw ?k_l_draw ?a_l_board ?l_l_board ?c_l_board ?k_l_board ?a_l_back ?l_l_back ?c_l_back ?k_l_back ?a_law ?l_law ?c_law ?k_law ?z_abs ?z_int ?z_len ?z_max ?z_range ?z_repr ?z_set ?z_sorted ?z_tuple
    (case a_leads_from => k_is)
    (case l_leads_from => k_is)
    (case c_leads_from => k_is)
    (case k_leads_from => k_is)
    (case a_back_kinds => k_is)
    (case l_back_kinds => k_is)
    (case c_back_kinds => k_is)
    (case k_back_kinds => k_is)
    (case a_l_deck => k_is)
    (case l_l_deck => k_is)
    (case c_l_deck => k_is)
    (case k_l_deck => k_is)
    (case a_l_draw => k_is)
    (case l_l_draw => k_is)
    (case c_l_draw => k_is)
    (case k_l_draw => k_is)
    (case a_l_board => k_is)
    (case l_l_board => k_is)
    (case c_l_board => k_is)
    (case k_l_board => k_is)
    (case a_l_back => k_is)
    (case l_l_back => k_is)
    (case c_l_back => k_is)
    (case k_l_back => k_is)
    (case a_law => k_is)
    (case l_law => k_is)
    (case c_law => k_is)
    (case k_law => k_is)
    (case z_abs => k_is)
    (case z_int => k_is)
    (case z_len => k_is)
    (case z_max => k_is)
    (case z_range => k_is)
    (case z_repr => k_is)
    (case z_set => k_is)
    (case z_sorted => k_is)
    (case z_tuple => k_is)

