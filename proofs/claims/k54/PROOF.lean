import PyProof.Rows.All
import Wide.All
import OpenK.AllK
import Wide.FinOn
import HandS.ForMost
import HandS.Wide
import HandS.Conv
import HandS.Zip
import HandS.Walk
import HandS.DictComp
import HandS.Small
import HandS.SortInts
import HandS.Style
import HandS.IsInst
import HandS.TupAny
import HandS.TupLe
import HandS.AnyAll
import HandS.ListItems
import HandS.Deep
import HandS.EndOwn
import HandS.TryOnly
import HandS.Star
import HandS.FStr
import KE.KNestM
import HandS.GenList
import PyProof.TupleOfGen
import HandS.TupMul
import KE.GoesNew
import KE.GoesMore
import KE.GoesEnum
import KE.KDictZip
import HandS.Set
import HandS.SetFor
import HandS.Strs
import HandS.List
import KE.SortData
import HandS.OwnEq
import KE.KCallOwn
import KE.KFmtOwn
import PyProof.InstNe
import PySem.Challenge.RW_fairposts_k54_tables_turned
set_option Elab.async false
set_option maxRecDepth 100000
namespace Gx
open PySem PySem.Spec PyProof.Rows L2
theorem over_start {A : Around} {elt : Expr} {gs : List Comprehension} {scope : Scope} {pos : Pos} {it acc : Value} {env : Env} :
    A.over (.compStart (.GeneratorExp elt gs scope pos) 0 it acc env) [] = A.deeper env := by
  obtain ⟨hd, d, fr, g, u⟩ := A
  simp [Around.over, Around.deeper, marksOver, frameCount, unitsOf, envsOf, guardsOf, pushEnvs, pushGuards, Code.envs, Code.env?, Code.isFrame, Code.guards, Code.isGuard, Code.weight, Code.frames, Code.isCreation, Code.isCaller, Code.cUnits]
theorem over_loop0 {A : Around} {elt : Expr} {gs : List Comprehension} {scope : Scope} {pos : Pos} {it acc : Value} {env : Env} :
    A.over (.compLoop (.GeneratorExp elt gs scope pos) 0 it acc env) [] = A.deeper env := by
  obtain ⟨hd, d, fr, g, u⟩ := A
  simp [Around.over, Around.deeper, marksOver, frameCount, unitsOf, envsOf, guardsOf, pushEnvs, pushGuards, Code.envs, Code.env?, Code.isFrame, Code.guards, Code.isGuard, Code.weight, Code.frames, Code.isCreation, Code.isCaller, Code.cUnits]
/-- the context of a generator expression's own frame, made at s -/
abbrev gx (X : Cx) (A : Around) (s : Shared) (H : Hp) (cenv : Env) (fp : List Addr) (pn : List (Addr × Obj)) : Cx :=
  { X with A := A.deeper cenv, s_0 := s, H_0 := H, env := cenv, outer := X.stack, stack := cenv :: X.stack, ex := fp, fn := fun x => cenv.scope.names.lookup x == some .cell, pn := pn, xe := fun _ _ => False }
abbrev gxEnv (X : Cx) (scope : Scope) (s : Shared) (code : Value) : Env := genEnv scope (cellsFrom (s.heap.objs.size + 1) scope.names (cloFrom X.env.cells scope.names [])) s.heap.objs.size code builtinsNs X.env
section
variable {X : Cx} {pins : List (Addr × Obj)} {σ : L2.St} {H : Hp} {s : Shared}
/-- the frame of a generator expression, its cells behind it -/
theorem newEnv_gen {M : Model} {A : Around} {E : Value → Shared → Prop} {scope : Scope} {globals : Addr} {closure : List (Str × Addr)} {it : Value} {qual : Str} {code : Value} {builtins : Addr} {Q : Env → Shared → Prop}
    (h0 : scope.names.lookup (".0" : Str) = some NameKind.local) (hk : scope.kind = .function)
    (hQ : ∀ h', h'.Ns s.heap.objs.size (fun y => if y = ".0" then some it else none) → Heap.SameBut s.heap.objs.size (pushCells (s.heap.push { cls := .type "frame", data := .dict #[] }) scope.names) h' →
      Q (newEnv scope s.heap.objs.size globals (cellsFrom (s.heap.objs.size + 1) scope.names closure) qual none code none builtins) { s with heap := h', toks := s.toks + 1 }) :
    wpAny M A (newFunctionEnv scope globals closure [(".0", it)] qual none code none builtins) Q E s := by
  simp only [newFunctionEnv, Option.isSome_none, Bool.false_eq_true, if_false]
  refine wpAny_bind (wpAny_alloc ?_)
  refine wpAny_bind (wpAny_layCells _ (fun name kind cells => by cases hkc : kind == NameKind.cell <;> simp [hkc]) _ _ _ _ ?_)
  rw [show ({ s with heap := s.heap.push { cls := .type "frame", data := .dict #[] } } : Shared).heap.objs.size = s.heap.objs.size + 1 from Heap.size_push ..]
  rw [List.forIn_cons]
  have ns : (pushCells (s.heap.push { cls := .type "frame", data := .dict #[] }) scope.names).Ns s.heap.objs.size (fun _ => none) := (Heap.Ns.new s.heap (.type "frame")).keeps (pushCells_keeps _ _)
  refine wpAny_bind (wpAny_bind (wpAny_bind (wpAny_storeName_local (show scope.names.lookup (".0" : Str) = some NameKind.local from h0) ns (fun h' hn' hs' => wpAny_pure ?_) (by show (scope.kind == .class || (scope.kind == .module && _)) = false; rw [hk]; rfl))))
  dsimp only
  rw [List.forIn_nil]
  exact wpAny_pure (wpAny_pure (hQ h' hn' hs'))
theorem make_gen {M : Model} {A : Around} {E : Value → Shared → Prop} {env : Env} {elt target iter : Expr} {ifs : List Expr} {scope : Scope} {cl : List (Str × Addr)} {pos : Pos} {Q : Value → Shared → Prop}
    (hco : scope.isCoroutine = false) (hclos : closureFor scope env = pure cl) (h0 : scope.names.lookup (".0" : Str) = some NameKind.local) (hkind : scope.kind = .function)
    (hroom : A.depth < recursionLimit)
    (h : wpAny M A (eval iter env) (fun xv s₁ => wpAny M A (pyIter xv) (fun it s₂ => s₂.heap.NoLimit ∧
      wpAny M A (genexprCode env pos (env.qual ++ "<genexpr>") scope) (fun code s₃ => wpAny M A (builtinsFor env.globals env.builtins) (fun bi s₄ =>
        ∀ h', h'.Ns s₄.heap.objs.size (fun y => if y = ".0" then some it else none) → Heap.SameBut s₄.heap.objs.size (pushCells (s₄.heap.push { cls := .type "frame", data := .dict #[] }) scope.names) h' →
          Q (.ref h'.objs.size) { s₄ with
            gens := s₄.gens.push (.fresh (.compStart (.GeneratorExp elt [⟨target, iter, ifs, 0⟩] scope pos) 0 it .none (genEnv scope (cellsFrom (s₄.heap.objs.size + 1) scope.names cl) s₄.heap.objs.size code bi env))),
            toks := s₄.toks + 1 + 1 + 1,
            heap := h'.push { cls := .type "generator", data := .fields #[.int s₄.gens.size 0, .str "<genexpr>" (s₄.toks + 1), .str (env.qual ++ "<genexpr>") (s₄.toks + 1 + 1)] } }) E s₃) E s₂) E s₁) E s)
    (hs : ∀ x, genFold iter env x = pure x) :
    wpAny M A (eval (.GeneratorExp elt [⟨target, iter, ifs, 0⟩] scope pos) env) Q E s := by
  rw [eval_GeneratorExp1 _ _ _ _ _ _ _ hco, hclos]
  refine wpAny_bind (wpAny_mono h (fun xv s₁ h₁ => ?_) fun _ _ e => e)
  refine wpAny_bind (wpAny_standAt ?_)
  refine wpAny_bind (wpAny_of_eq (hs xv) ?_)
  refine wpAny_bind (wpAny_holding (wpAny_mono h₁ (fun it s₂ h₂ => ?_) fun _ _ e => e))
  refine wpAny_bind (wpAny_enterFrame h₂.1 hroom ?_)
  refine wpAny_bind (wpAny_pure ?_)
  refine wpAny_bind (wpAny_mono h₂.2 (fun code s₃ h₃ => ?_) fun _ _ e => e)
  refine wpAny_bind (wpAny_mono h₃ (fun bi s₄ h₄ => ?_) fun _ _ e => e)
  refine wpAny_bind (newEnv_gen h0 hkind fun h' hn' hs' => ?_)
  simp only [newGenerator, newFields]
  refine wpAny_bind (wpAny_newGen (wpAny_bind (wpAny_mkText (wpAny_bind (wpAny_mkText (wpAny_newObj_type ?_ (by size_fits)))))))
  exact h₄ h' hn' hs'
theorem gx_inv {scope : Scope} {own : List (Str × Nat)} {fp : List Addr} {A : Around} {code : Value} {s5 : Shared} {pn pins5 : List (Addr × Obj)} (I : L2.Inv X pins σ H s) (ok : BlkOk X.N X.env.scope scope own) (hN : X.N.Nodup)
    (hfp : ∀ b ∈ fp, FpOk X pins H b ∧ b < s.heap.objs.size) (hA : A.handled = none) (hfr : A.frames = some X.stack)
    (kpc : ∀ b o, b ≠ s.heap.objs.size → (pushCells (s.heap.push { cls := .type "frame", data := .dict #[] }) scope.names).get? b = some o → s5.heap.get? b = some o) (hn : ∃ m, s5.heap.Ns s.heap.objs.size m) (hos : s5.os = s.os) (hb : AllBare s5.gens)
    (hpin : ∀ p ∈ pn ++ pins5, s5.heap.get? p.1 = some p.2 ∧ H p.1 = none ∧ p.1 ≠ s.heap.objs.size ∧ p.1 ∉ frs X.stack ∧ ∀ v, p.2.data ≠ .cell v) :
    L2.Inv (gx X A s H (gxEnv X scope s code) fp pn) pins5 (wipe σ (own.map (·.2))) H s5 := by
  have kp : ∀ b o, s.heap.get? b = some o → s5.heap.get? b = some o := fun b o e => kpc b o (Nat.ne_of_lt (Heap.lt_size e)) (pushCells_keeps _ _ _ _ (Heap.get?_push_of_some _ e))
  have hfree : ∀ y ∈ scope.names, y.2 = .free → ∃ c, X.env.cells.lookup y.1 = some c := by
    intro y hy e
    exact (ok.free y hy e).elim (fun k => I.ok.has _ (.inl k)) (fun k => I.ok.has _ (.inr k))
  have cm : ∀ {y c}, (y, c) ∈ cloFrom X.env.cells scope.names [] → X.env.cells.lookup y = some c ∧ c < s.heap.objs.size := by
    intro y c hm
    rcases cloFrom_mem hm with z | ⟨h1, rfl⟩
    · cases z
    · obtain ⟨c, hc⟩ := hfree _ h1 rfl
      rw [hc]
      obtain ⟨_, z⟩ := I.cell _ _ hc
      exact ⟨rfl, z.lt⟩
  have hcl : (gxEnv X scope s code).cells = cellsFrom (s.heap.push { cls := .type "frame", data := .dict #[] }).objs.size scope.names (cloFrom X.env.cells scope.names []) := by rw [Heap.size_push]; rfl
  have mem : ∀ {y c}, (gxEnv X scope s code).cells.lookup y = some c → (X.env.cells.lookup y = some c ∧ c < s.heap.objs.size) ∨ (s.heap.objs.size + 1 ≤ c ∧ CellAt (pushCells (s.heap.push { cls := .type "frame", data := .dict #[] }) scope.names) c none) := fun {y c} e => by
    rw [hcl] at e
    rcases cells_mem (PySem.mem_of_lookup e) with hm | ⟨_, h2, h3⟩
    · exact .inl (cm hm)
    · rw [Heap.size_push] at h2
      exact .inr ⟨h2, h3⟩
  have look : ∀ {y}, scope.names.lookup y = some .free → ∃ c, (gxEnv X scope s code).cells.lookup y = some c ∧ X.env.cells.lookup y = some c := fun {y} hl => by
    have hy : (y, NameKind.free) ∈ scope.names := PySem.mem_of_lookup hl
    obtain ⟨c', e'⟩ := mem_lookup (cells_acc (names := scope.names) (n := (s.heap.push { cls := .type "frame", data := .dict #[] }).objs.size) (cloFrom_has (cells := X.env.cells) (acc := []) hy))
    rw [← hcl] at e'
    refine ⟨c', e', ?_⟩
    rw [hcl] at e'
    rcases cells_mem (PySem.mem_of_lookup e') with hm | ⟨h1, _, _⟩
    · exact (cm hm).1
    · have := ok.uniq _ h1
      rw [hl] at this
      cases this
  have okG : (gx X A s H (gxEnv X scope s code) fp pn).Ok := by
    refine ⟨I.ok.mod, ok.kind, I.ok.glob, rfl, Nat.le_refl _, fun y z c e1 e2 => ?_, fun y hy => ?_, fun y c z e => ?_, fun _ => hA, Around.frames_deeper hfr, .inr ⟨rfl, rfl⟩,
      fun b hb => ⟨Nat.ne_of_lt (hfp b hb).2, fun y c e z => ?_⟩, I.bs, Nat.le_trans I.ok.bsz I.sz, fun b o e hb => ?_, fun b hb z => ?_, I.stack, I.stkFree⟩
    · have e1 : (gxEnv X scope s code).cells.lookup y = some c := e1
      have e2 : (gxEnv X scope s code).cells.lookup z = some c := e2
      rw [hcl] at e1 e2
      refine cells_inj (fun p hp => ?_) (fun y z c a b => I.ok.inj y z c (cm a).1 (cm b).1) (PySem.mem_of_lookup e1) (PySem.mem_of_lookup e2)
      rw [Heap.size_push]
      exact Nat.lt_succ_of_lt (cm (y := p.1) (c := p.2) hp).2
    · show ∃ c, (gxEnv X scope s code).cells.lookup y = some c
      rcases hy with hy | hy
      · obtain ⟨c, hm⟩ := cells_has (n := (s.heap.push { cls := .type "frame", data := .dict #[] }).objs.size) (acc := cloFrom X.env.cells scope.names []) (PySem.mem_of_lookup (show scope.names.lookup y = some .cell from hy))
        obtain ⟨c', e'⟩ := mem_lookup hm
        exact ⟨c', by rw [hcl]; exact e'⟩
      · obtain ⟨c, e, _⟩ := look (show scope.names.lookup y = some .free from hy)
        exact ⟨c, e⟩
    · have z : (scope.names.lookup y == some NameKind.cell) = true := z
      have z : scope.names.lookup y = some .cell := by simpa using z
      have e : (gxEnv X scope s code).cells.lookup y = some c := e
      rw [hcl] at e
      rcases cells_mem (PySem.mem_of_lookup e) with hm | ⟨_, h2, _⟩
      · rcases cloFrom_mem hm with hm | ⟨h1, _⟩
        · cases hm
        · have q := ok.uniq _ h1
          rw [z] at q
          cases q
      · rw [Heap.size_push] at h2
        exact Nat.le_of_succ_le h2
    · rcases mem e with ⟨h1, _⟩ | ⟨h1, _⟩
      · exact (hfp b hb).1.2.2.2.2.1 y c h1 z
      · have h2 : s.heap.objs.size + 1 ≤ b := by rw [← z]; exact h1
        exact absurd (Nat.lt_of_lt_of_le (hfp b hb).2 (Nat.le_of_succ_le h2)) (Nat.lt_irrefl _)
    · rcases (hfp b hb).1.2.2.2.1 with z | z
      · exact I.ok.noex b o e z
      · exact absurd (Nat.lt_of_lt_of_le (Heap.lt_size e) (Nat.le_trans I.ok.bsz z)) (Nat.lt_irrefl _)
    · rcases List.mem_cons.mp (I.stkSub b z) with z | z
      · exact (hfp b hb).1.2.1 z
      · exact (hfp b hb).1.2.2.1 z
  obtain ⟨m5, hm5⟩ := hn
  refine ⟨okG, hos, hb, Un.kept kp, ⟨m5, hm5, fun i y av e1 e2 e3 => ?_⟩, fun y c e => ?_, I.hok.fresh (Nat.le_refl _), fun y c e => ?_, hpin, I.hok.kept kp, by rw [wipe_length]; exact I.len⟩
  · obtain ⟨e2, hne⟩ := wipe_some e2
    have fr : scope.names.lookup y = some .free := by
      have no : ∀ k, scope.names.lookup y = some k → k = .local ∨ k = .cell → False := by
        intro k e hh
        rcases ok.own _ (PySem.mem_of_lookup e) hh with e' | e'
        · obtain ⟨p, hp, hpy⟩ := List.mem_map.mp e'
          have e4 := ok.ix p hp
          have e5 : p.1 = y := hpy
          rw [e5] at e4
          exact hne (List.mem_map.mpr ⟨p, hp, nodup_ix hN e4 e1⟩)
        · exact e' (List.mem_of_getElem? e1)
      rcases (show Vis scope y from e3) with z | z | z
      · exact (no _ z (.inl rfl)).elim
      · exact (no _ z (.inr rfl)).elim
      · exact z
    obtain ⟨m, _, hl⟩ := I.loc
    have hvis : Vis X.env.scope y := (ok.free _ (PySem.mem_of_lookup fr) rfl).elim (fun k => .inr (.inl k)) (fun k => .inr (.inr k))
    obtain ⟨u, r, q⟩ := hl i y av e1 e2 hvis
    obtain ⟨c, h1, h2⟩ := look fr
    refine ⟨u, r, .inr ⟨.inr fr, c, h1, ?_⟩⟩
    rcases q with ⟨k, _⟩ | ⟨_, c', e', z⟩
    · have k : X.env.scope.names.lookup y = some .local := k
      rcases ok.free _ (PySem.mem_of_lookup fr) rfl with k' | k' <;> rw [show X.env.scope.names.lookup y = _ from k'] at k <;> cases k
    · rw [h2] at e'
      cases e'
      exact z.keeps kp
  · rcases mem e with ⟨h1, _⟩ | ⟨h1, o, z1, z2⟩
    · obtain ⟨v, z⟩ := I.cell y c h1
      exact ⟨v, z.keeps kp⟩
    · exact ⟨_, o, kpc c o (by omega) z1, z2⟩
  · rcases mem e with ⟨h1, _⟩ | ⟨h1, _⟩
    · exact I.freeC y c h1
    · exact I.hok.fresh (Nat.le_of_succ_le h1)
end
/-- what a generator expression's turns ask: W of the turn, what is left, what is out, the heap -/
def Turns (J : It) (g : TG) (te : TE) (vs : List Nat) (σ : L2.St) (Q : List V → Hp → Prop) (W : Nat → Nat → List V → Hp → Prop) : Prop :=
  ∀ i m ys H, W i m ys H → (J.stop i H ∧ Q ys H) ∨ (J.go i H ∧ ∃ Nx : List V → Hp → Prop, (∀ zs H', Nx zs H' → ∃ m', m' < m ∧ W (i + 1) m' zs H') ∧
    ∀ x H', J.yld i H x H' → g x (wipe σ vs) H' fun σ2 H2 => wipe σ2 vs = wipe σ vs ∧ te σ2 H2 fun y H3 => ys.length < sizeLine ∧ Nx (ys ++ [y]) H3)
def GEnd (X : Cx) (S : Addr) (Q : List V → Hp → Prop) : GenEnd := fun n _ r s => r = .ok .next ∧ ∃ ys σ ip H, n + ys.length = sizeLine ∧ GI X S ip ys σ H s ∧ Q ys H
section
variable {X : Cx} {A : Around} {s : Shared} {H : Hp} {cenv : Env} {fp : List Addr} {pn : List (Addr × Obj)} {S it : Addr} {tn : Nat → Heap → Prop} {J : It} {tg elt iter : Expr} {scope : Scope} {pos : Pos} {g : TG} {te : TE} {vs : List Nat} {σ : L2.St} {Q : List V → Hp → Prop} {W : Nat → Nat → List V → Hp → Prop}
theorem gx_loop (hc : X.calm = true) (T : Turn X.prog X.w X.K tg J fp it tn) (pg : PG (gx X A s H cenv fp pn) tg g) (pe : PE (gx X A s H cenv fp pn) elt te) (hco : cenv.scope.isCoroutine = false)
    (hS : ∀ p ∈ pn, p.1 ≠ S) (hfS : ∀ b ∈ fp, S ≠ b) (hfn : ∀ b ∈ fp, ∀ p ∈ pn, p.1 ≠ b) (ap : Apart (gx X A s H cenv fp pn) S) (turn : Turns J g te vs σ Q W) :
    ∀ (m i n : Nat) (ys : List V) (s₀ s1 : Shared) (H1 : Hp), W i m ys H1 → GI (gx X A s H cenv fp pn) S [] ys (wipe σ vs) H1 s1 → tn i s1.heap → (∀ b ∈ fp, H1 b = none) → n + ys.length = sizeLine →
      Seg (model X.prog X.w) A (GEnd (gx X A s H cenv fp pn) S Q) (GY (gx X A s H cenv fp pn) S) n s₀ (.compLoop (.GeneratorExp elt [⟨tg, iter, [], 0⟩] scope pos) 0 (.ref it) .none cenv)
        ((model X.prog X.w).den (.compLoop (.GeneratorExp elt [⟨tg, iter, [], 0⟩] scope pos) 0 (.ref it) .none cenv)) [] s1 := by
  intro m
  induction m using Nat.strongRecOn with
  | _ m ih =>
    intro i n ys s₀ s1 H1 w1 gi st1 n1 hn
    have ov : A.over (.compLoop (.GeneratorExp elt [⟨tg, iter, [], 0⟩] scope pos) 0 (.ref it) .none cenv) [] = (gx X A s H cenv fp pn).A := over_loop0
    have stat : ∀ {σ' : L2.St} {H' : Hp} {s' : Shared} {acc : Array Value} {c : Nat}, L2.Inv (gx X A s H cenv fp pn) [(S, lstObj acc c)] σ' H' s' → (∀ b ∈ fp, H' b = none) → ∀ b ∈ fp, FpOk (gx X A s H cenv fp pn) [(S, lstObj acc c)] H' b := by
      intro σ' H' s' acc c I' hz b hb
      refine ⟨hz b hb, (I'.ok.exf b hb).1, I'.ok.exfs b hb, .inl hb, fun x c e => (I'.ok.exf b hb).2 x c e, fun p hp => ?_⟩
      rcases List.mem_append.mp hp with z | z
      · exact hfn b hb p z
      · rw [List.mem_singleton.mp z]
        exact hfS b hb
    show Seg _ A _ _ _ s₀ _ ((compTurn (.GeneratorExp elt [⟨tg, iter, [], 0⟩] scope pos) 0 (.ref it) .none cenv).onRaise (leaving cenv)) [] s1
    rw [compTurn_gen, Sem.onRaise_eq_wrap]
    refine seg_bind_wrap (wpAny_standAt ?_)
    obtain ⟨acc, cc, ra, I⟩ := gi
    rcases turn i m ys H1 w1 with ⟨stop, q⟩ | ⟨go, Nx, hNx, step⟩
    · refine seg_bind_wrap ?_
      rw [ov]
      refine wpAny_mono (T.done (gx X A s H cenv fp pn) rfl rfl rfl hc i _ s1 _ H1 _ I (stat I n1) st1 stop) (fun r s6 h6 => ?_) (fun _ _ z => z)
      obtain ⟨rfl, I6⟩ := h6
      exact seg_end (.ok .next) ⟨rfl, ys, _, [], H1, hn, ⟨acc, cc, ra, I6⟩, q⟩
    · refine seg_bind_wrap ?_
      rw [ov]
      refine wpAny_mono (T.item (gx X A s H cenv fp pn) rfl rfl rfl hc i _ s1 _ H1 _ I (stat I n1) st1 go) (fun r s6 h6 => ?_) (fun _ _ z => z)
      obtain ⟨u, rfl, h6⟩ := h6
      refine seg_bind_wrap ?_
      rw [ov]
      refine wpAny_mono h6 (fun _ s7 h7 => ?_) (fun _ _ z => z)
      obtain ⟨x, H7, I7, r7, y7, st7, n7⟩ := h7
      have I7' := I7.pinned (stat I7 n7) (T.obj _ _ st7)
      refine seg_bind_wrap ?_
      rw [ov]
      refine wpAny_mono (pg.run _ s7 _ H7 x u _ I7' r7 (step x H7 y7)) (fun _ s8 h8 => ?_) (fun _ _ z => z.elim)
      obtain ⟨σ8, H8, I8, hw8, q8⟩ := h8
      refine seg_bind_wrap ?_
      simp only [List.forIn_nil]
      refine wpAny_pure ?_
      simp only [if_true]
      have hy : ∀ v, yieldOut cenv v = yieldValue v := fun v => by simp only [yieldOut, hco, Bool.false_eq_true, if_false]
      simp only [hy]
      rw [Sem.bind_eq_wrap', Sem.bind_eq_wrap', Sem.wrap_wrap, Sem.wrap_wrap]
      refine seg_wrap ?_
      rw [ov]
      refine wpAny_mono (pe.run _ s8 σ8 H8 _ I8 q8) (fun yv s9 h9 => ?_) (fun _ _ z => z.elim)
      obtain ⟨y, H9, I9, r9, hlt, nx⟩ := h9
      obtain ⟨n', rfl⟩ : ∃ n', n = n' + 1 := ⟨n - 1, by omega⟩
      have hip : ∀ p ∈ pinsAt fp s7.heap, p.1 ≠ S := fun p hp => (hfS p.1 (of_pinsAt hp).1).symm
      have gi9 : GI (gx X A s H cenv fp pn) S (pinsAt fp s7.heap) ys σ8 H9 s9 := ⟨acc, cc, ra, I9⟩
      refine seg_at (seg_yield rfl rfl rfl ⟨ys, y, pinsAt fp s7.heap, σ8, H9, by omega, r9, gi9, fun s'' sl => ?_⟩)
      obtain ⟨acc2, c2, ra2, I10⟩ := gi9.woken hS hip ap r9 sl
      obtain ⟨m', hm, w'⟩ := hNx _ _ nx
      have pin' : ∀ b ∈ fp, ∀ o, s7.heap.get? b = some o → s''.heap.get? b = some o ∧ H9 b = none := by
        intro b hb o e
        have z := I10.pin (b, o) (List.mem_append_right _ (List.mem_cons_of_mem _ (mem_pinsAt hb e)))
        exact ⟨z.1, z.2.1⟩
      have hl : (wipe σ vs).length = σ8.length := by rw [← hw8, wipe_length]
      refine seg_again rfl (ih m' hm (i + 1) n' (ys ++ [y]) _ s'' H9 w' ⟨acc2, c2, ra2, ?_⟩ (T.keep _ _ _ st7 fun b hb o e => (pin' b hb o e).1) (fun b hb => ?_) (by rw [List.length_append]; show n' + (ys.length + 1) = sizeLine; omega))
      · refine (Inv.unpinned (pins := [(S, lstObj acc2 c2)]) (pl := pinsAt fp s7.heap) I10).weak hl fun j v e => ?_
        rw [← hw8] at e
        exact (wipe_some e).1
      · obtain ⟨o, e, _⟩ := T.obj _ _ st7 b hb
        exact (pin' b hb o e).2
end
section
variable {X : Cx} {A : Around} {s : Shared} {H : Hp} {cenv : Env} {fp : List Addr} {pn : List (Addr × Obj)} {S it : Addr} {tn : Nat → Heap → Prop} {J : It} {tg elt iter : Expr} {scope : Scope} {pos : Pos} {g : TG} {te : TE} {vs : List Nat} {σ : L2.St} {Q : List V → Hp → Prop} {W : Nat → Nat → List V → Hp → Prop}
theorem gx_start (hc : X.calm = true) (T : Turn X.prog X.w X.K tg J fp it tn) (pg : PG (gx X A s H cenv fp pn) tg g) (pe : PE (gx X A s H cenv fp pn) elt te) (hco : cenv.scope.isCoroutine = false)
    (hS : ∀ p ∈ pn, p.1 ≠ S) (hfS : ∀ b ∈ fp, S ≠ b) (hfn : ∀ b ∈ fp, ∀ p ∈ pn, p.1 ≠ b) (ap : Apart (gx X A s H cenv fp pn) S) (turn : Turns J g te vs σ Q W)
    {m : Nat} {s₀ s1 : Shared} {H1 : Hp} (w0 : W 0 m [] H1) (gi : GI (gx X A s H cenv fp pn) S [] [] (wipe σ vs) H1 s1) (st : tn 0 s1.heap) (n1 : ∀ b ∈ fp, H1 b = none) :
    Seg (model X.prog X.w) A (GEnd (gx X A s H cenv fp pn) S Q) (GY (gx X A s H cenv fp pn) S) sizeLine s₀ (.compStart (.GeneratorExp elt [⟨tg, iter, [], 0⟩] scope pos) 0 (.ref it) .none cenv)
      ((model X.prog X.w).den (.compStart (.GeneratorExp elt [⟨tg, iter, [], 0⟩] scope pos) 0 (.ref it) .none cenv)) [] s1 := by
  have loop := gx_loop (iter := iter) (scope := scope) (pos := pos) hc T pg pe hco hS hfS hfn ap turn m 0 sizeLine [] s₀ s1 H1 w0 gi st n1 (Nat.add_zero _)
  show Seg _ A _ _ _ s₀ _ ((compStart (.GeneratorExp elt [⟨tg, iter, [], 0⟩] scope pos) 0 (.ref it) .none cenv).onRaise (leaving cenv)) [] s1
  unfold compStart
  rw [Sem.onRaise_eq_wrap]
  show Seg _ A _ _ _ s₀ _ ((ask >>= _).wrap _ _ _ _) [] s1
  refine seg_bind_wrap (wpAny_askSetting ?_)
  split
  · exact seg_again rfl loop
  · first
    | exact seg_bind_wrap (wpAny_rule (seg_bind_wrap (wpAny_standAt (seg_bind_wrap (T.self _ 0 s1 _ _ st (seg_again rfl loop))))))
    | (refine seg_bind_wrap (wpAny_rule ?_)
       show Seg _ A _ _ _ s₀ _ ((standAt iter.pos >>= _).wrap _ _ _ _) [] s1
       exact seg_bind_wrap (wpAny_standAt (seg_bind_wrap (T.self _ 0 s1 _ _ st (seg_again rfl loop)))))
end
section
variable {X : Cx} {pins : List (Addr × Obj)} {σ : L2.St} {H : Hp} {s : Shared}
/-- a generator that stands ready: its frame at the size of s, its object behind it -/
theorem gx_made {scope : Scope} {own : List (Str × Nat)} {fp : List Addr} {code : Value} {it : Addr} {tn : Nat → Heap → Prop} {J : It} {tg elt iter : Expr} {pos : Pos} {g : TG} {te : TE} {Q : List V → Hp → Prop} {W : Nat → Nat → List V → Hp → Prop} {k m : Nat}
    (I : L2.Inv X pins σ H s) (ok : BlkOk X.N X.env.scope scope own) (hN : X.N.Nodup) (hco : scope.isCoroutine = false) (hc : X.calm = true)
    (T : Turn X.prog X.w X.K tg J fp it tn) (st : tn 0 s.heap) (hfp : ∀ b ∈ fp, FpOk X pins H b ∧ b < s.heap.objs.size)
    (pg : ∀ A pn, PG (gx X A s H (gxEnv X scope s code) fp pn) tg g) (pe : ∀ A pn, Room k A → PE (gx X A s H (gxEnv X scope s code) fp pn) elt te)
    (w0 : W 0 m [] H) (turn : Turns J g te (own.map (·.2)) σ Q W) {h' : Heap} {go : Obj} {nm qn : Value} {tk : Nat} {mC : Str → Option Value}
    (hC : h'.Ns s.heap.objs.size mC) (hsz : s.heap.objs.size + 1 ≤ h'.objs.size) (kpc : ∀ b o, b ≠ s.heap.objs.size → (pushCells (s.heap.push { cls := .type "frame", data := .dict #[] }) scope.names).get? b = some o → h'.get? b = some o)
    (hgc : go.cls = .type "generator") (hgd : go.data = .fields #[.int s.gens.size 0, nm, qn]) (hgs : go.slots = #[]) (hgp : (h'.push go).get? h'.objs.size = some go) :
    GMade X.prog X.w k X.stack H s fp Q E0 (.ref h'.objs.size) { s with gens := s.gens.push (.fresh (.compStart (.GeneratorExp elt [⟨tg, iter, [], 0⟩] scope pos) 0 (.ref it) .none (gxEnv X scope s code))), toks := tk, heap := h'.push go } := by
  have kp : ∀ b o, s.heap.get? b = some o → h'.get? b = some o := fun b o e => kpc b o (Nat.ne_of_lt (Heap.lt_size e)) (pushCells_keeps _ _ _ _ (Heap.get?_push_of_some _ e))
  have isg : ∀ h : Heap, h.get? h'.objs.size = some go → h.IsGen h'.objs.size s.gens.size := fun h e => ⟨go, nm, qn, e, hgc, hgd, hgs⟩
  have kp5 : ∀ b o, s.heap.get? b = some o → (h'.push go).get? b = some o := fun b o e => Heap.get?_push_of_some _ (kp b o e)
  refine ⟨h'.objs.size, s.gens.size, _, rfl, by omega, ?_, isg _ hgp, Array.getElem?_push_size .., rfl, AllBare.push I.bare rfl, I.nolimit.keeps kp5, kp5, ?_⟩
  · show _ < (h'.push go).objs.size
    rw [Heap.size_push]
    exact Nat.lt_succ_self _
  · intro Aw S s2 room hfr hSz hk2 hSo hos hba
    obtain ⟨cS, heS⟩ := hSo
    have hk2' : ∀ b o, (h'.push go).get? b = some o → s2.heap.get? b = some o := hk2
    have hSz' : h'.objs.size + 1 ≤ S := by
      have z : (h'.push go).objs.size ≤ S := hSz
      rw [Heap.size_push] at z
      exact z
    have ea : s2.heap.get? h'.objs.size = some go := hk2' _ _ hgp
    have lS : s.heap.objs.size < S := by omega
    have lH : h'.objs.size < S := by omega
    have lh : s.heap.objs.size < h'.objs.size := by omega
    have young : ∀ b, s.heap.objs.size < b → H b = none ∧ b ≠ s.heap.objs.size ∧ b ∉ frs X.stack := by
      intro b hb
      refine ⟨I.hok.fresh (Nat.le_of_lt hb), Nat.ne_of_gt hb, fun z => ?_⟩
      rcases List.mem_cons.mp (I.stkSub b z) with z | z
      · rw [z] at hb
        exact absurd (Nat.lt_trans hb I.lt) (Nat.lt_irrefl _)
      · exact I.nofs (Nat.le_of_lt hb) z
    have pinOk : ∀ p ∈ [(h'.objs.size, go)] ++ [(S, lstObj #[] cS)], s2.heap.get? p.1 = some p.2 ∧ H p.1 = none ∧ p.1 ≠ s.heap.objs.size ∧ p.1 ∉ frs X.stack ∧ ∀ v, p.2.data ≠ .cell v := by
      intro p hp
      rcases List.mem_append.mp hp with z | z
      · rw [List.mem_singleton.mp z]
        obtain ⟨y1, y2, y3⟩ := young h'.objs.size (by omega)
        exact ⟨ea, y1, y2, y3, fun v q => by rw [show go.data = _ from hgd] at q; cases q⟩
      · rw [List.mem_singleton.mp z]
        obtain ⟨y1, y2, y3⟩ := young S (by omega)
        exact ⟨heS, y1, y2, y3, fun v q => by cases q⟩
    have I2 := gx_inv (own := own) (code := code) (A := Aw) (pn := [(h'.objs.size, go)]) (pins5 := [(S, lstObj #[] cS)]) I ok hN hfp room.hd hfr (fun b o hb e => hk2' b o (Heap.get?_push_of_some _ (kpc b o hb e)))
      ⟨mC, hC.keeps fun b o e => hk2' b o (Heap.get?_push_of_some _ e)⟩ hos hba pinOk
    have hcell : ∀ x c, (gxEnv X scope s code).cells.lookup x = some c → c < h'.objs.size := by
      intro x c e
      have hcl : (gxEnv X scope s code).cells = cellsFrom (s.heap.push { cls := .type "frame", data := .dict #[] }).objs.size scope.names (cloFrom X.env.cells scope.names []) := by rw [Heap.size_push]; rfl
      rw [hcl] at e
      rcases cells_mem (PySem.mem_of_lookup e) with hm | ⟨_, h2, o, z1, z2⟩
      · rcases cloFrom_mem hm with z2 | ⟨h1, rfl⟩
        · cases z2
        · obtain ⟨c2, hc2⟩ : ∃ c2, X.env.cells.lookup x = some c2 := (ok.free _ h1 rfl).elim (fun k => I.ok.has _ (.inl k)) (fun k => I.ok.has _ (.inr k))
          obtain ⟨_, z3⟩ := I.cell _ _ hc2
          rw [hc2]
          exact Nat.lt_trans z3.lt lh
      · rw [Heap.size_push] at h2
        exact Heap.lt_size (kpc c o (by omega) z1)
    have ap : Apart (gx X Aw s H (gxEnv X scope s code) fp [(h'.objs.size, go)]) S := ⟨by show s.heap.objs.size ≤ S; omega, Nat.ne_of_gt lS, fun x c e => Nat.ne_of_lt (Nat.lt_of_lt_of_le (hcell x c e) (by omega))⟩
    have seg := gx_start (iter := iter) (scope := scope) (pos := pos) (S := S) (s₀ := s2) hc T (pg Aw [(h'.objs.size, go)]) (pe Aw [(h'.objs.size, go)] room) hco (fun p hp => by rw [List.mem_singleton.mp hp]; exact Nat.ne_of_lt lH)
      (fun b hb => Nat.ne_of_gt (Nat.lt_trans (hfp b hb).2 lS)) (fun b hb p hp => by rw [List.mem_singleton.mp hp]; exact Nat.ne_of_gt (Nat.lt_trans (hfp b hb).2 lh)) ap turn w0 ⟨#[], cS, .nil, I2⟩
      (T.keep _ _ _ st fun b _ o e => hk2' b o (kp5 b o e)) (fun b hb => (hfp b hb).1.1)
    refine seg_imp (fun n s₀ r s1 hR => ?_) (fun n s₀ v s1 kap kap' hkk hY => ?_) sizeLine seg
    · obtain ⟨rfl, ys, σ', ip, H', hn, gi, hq⟩ := hR
      obtain ⟨a1, _, _, acc, cc, ra, ea⟩ := gi.at
      obtain ⟨_, _, _, J1⟩ := gi
      exact .inl ⟨.inr rfl, H', ys, acc, cc, J1.os, J1.bare, J1.base, J1.hok, a1, ea, ra, by omega, hq⟩
    · obtain ⟨ys, xx, ip, σ', H', hn, h2, gi, h3⟩ := hY
      obtain ⟨_, _, _, acc, cc, ra, ea⟩ := gi.at
      obtain ⟨_, _, _, J1⟩ := gi
      have hg : s1.heap.IsGen h'.objs.size s.gens.size := isg _ (J1.pin (h'.objs.size, go) (List.mem_append_left _ (List.mem_singleton.mpr rfl))).1
      have len : acc.size = ys.length := by
        have e1 := ra.length
        have e2 : acc.toList.length = acc.size := by simp
        omega
      exact ⟨J1.os, J1.bare, J1.nolimit, hg, ⟨acc, cc, ea, by rw [len]; exact hn⟩, fun s' z => hkk _ _ (h3 s' z)⟩
end
/-! ### tuple(generator) -/
section
variable {P : Program} {w : World} {outer : List Env} {H : Hp} {sc s : Shared} {ex : List Addr} {Q : List V → Hp → Prop} {A : Around} {k : Nat} {E : Value → Shared → Prop}
theorem collect_made {u : Value} {Qc : List Value → Shared → Prop} (hr : Room (k + 3) A) (hfr : A.frames = some outer) (h : GMade P w k outer H sc ex Q E0 u s)
    (hQ : ∀ (s' : Shared) (acc : List Value) (H' : Hp) (ys : List V), L2.Vals ys acc → ys.length ≤ sizeLine → s'.os = sc.os → AllBare s'.gens → Un (frs outer) ex H H' sc.heap s'.heap → HOk P w H' s'.heap → Q ys H' → Qc acc s')
    (hexc : ∀ e s', ¬ CX P w outer H sc E0 e s') : wpAny (model P w) A (collect u) Qc E s := by
  obtain ⟨a, g, c, rfl, ha1, ha2, hg, hgs, hos, hb, hl, hkp, wake⟩ := h
  have hSa : s.heap.objs.size ≠ a := Nat.ne_of_gt ha2
  have hSc : s.heap.objs.size ≠ cStatics := Nat.ne_of_gt (let ⟨_, hn, _⟩ := hl; hn.lt)
  unfold collect
  refine wpAny_bind (wpAny_runValue (codeAny_builtin F.entry_proto_collect ?_))
  rw [Around.under_plainId F.plain_proto_collect _]
  show wpAny _ A.in1 (newList [] >>= fun l0 => again (.builtin "list.__iadd__" ⟨[l0, .ref a], []⟩)) _ _ s
  refine wpAny_bind (wpAny_newObj_type ?_)
  refine wpAny_pure ⟨plainId_quiet F.plain_list_iadd _, codeAny_builtin F.entry_list_iadd ?_⟩
  rw [Around.under_plainId F.plain_list_iadd _]
  show wpAny _ A.in1 (Builtin.List.listExtendWith (.ref s.heap.objs.size) (.ref a) (.ref s.heap.objs.size)) _ _ _
  unfold Builtin.List.listExtendWith
  have up : ∀ (h : Heap) (f : Obj → Obj), (∀ b o, s.heap.get? b = some o → h.get? b = some o) → ∀ b o, s.heap.get? b = some o → (h.update s.heap.objs.size f).get? b = some o := by
    intro h f q b o e
    exact (Heap.get?_update_other _ _ (Ne.symm (Nat.ne_of_lt (Heap.lt_size e)))).trans (q b o e)
  have k1 : ∀ b o, s.heap.get? b = some o → (s.heap.push { cls := .type "list", data := .seq ([] : List Value).toArray }).get? b = some o := fun b o e => Heap.get?_push_of_some _ e
  have isg : ∀ {h : Heap}, (∀ b o, s.heap.get? b = some o → h.get? b = some o) → h.IsGen a g := fun q => hg.keeps q
  refine wpAny_bind (wpAny_typeOf (Heap.IsGen.typeIs (s := { s with heap := _ }) (isg k1)) ?_)
  have h1 : Builtin.List.listSameRef (.ref s.heap.objs.size) (.ref a) = false := by simp [Builtin.List.listSameRef, hSa]
  have h2 : (Value.type "generator" == Value.type "list") = false := by decide
  have h3 : (Value.type "generator" == Value.type "tuple") = false := by decide
  simp only [h1, h2, h3, Bool.or_false, Bool.false_eq_true, if_false]
  refine wpAny_bind (wpAny_pyIter_gen (s := { s with heap := _ }) (isg k1) ?_)
  refine wpAny_bind (wpAny_holding ?_)
  unfold Builtin.List.listLengthHint
  refine wpAny_bind (wpAny_specialOf (Heap.IsGen.typeIs (s := { s with heap := _ }) (isg k1)) F.gen_no_len ?_)
  show wpAny _ A.in1 (specialOf (Value.ref a) (Str.ofString "__length_hint__") >>= _) _ _ _
  refine wpAny_bind (wpAny_specialOf (Heap.IsGen.typeIs (s := { s with heap := _ }) (isg k1)) F.gen_no_hint ?_)
  refine wpAny_pure ?_
  show wpAny _ A.in1 (rule "list.extend.makes-room" >>= fun _ => Builtin.List.listTouch (.ref s.heap.objs.size) >>= fun _ => again (.builtin "list.extend.loop" ⟨[.ref s.heap.objs.size, .ref a, .ref s.heap.objs.size], []⟩)) _ _ _
  refine wpAny_bind (wpAny_rule (wpAny_bind ?_))
  have hS1 : (s.heap.push { cls := .type "list", data := .seq ([] : List Value).toArray }).get? s.heap.objs.size = some { cls := .type "list", data := .seq ([] : List Value).toArray } := Heap.get?_push_size _ rfl
  show wpAny _ A.in1 (updateSeq s.heap.objs.size (·.push .none) >>= fun _ => updateSeq s.heap.objs.size (·.pop)) _ _ _
  refine wpAny_bind (wpAny_updateSeq hS1 rfl ?_)
  have hS2 := Heap.get?_update_self (Obj.mapSeq (·.push Value.none)) hS1 rfl
  refine wpAny_updateSeq hS2 rfl ?_
  have hS3 := Heap.get?_update_self (Obj.mapSeq (·.pop)) hS2 rfl
  have k3 := up _ (Obj.mapSeq (·.pop)) (up _ (Obj.mapSeq (·.push Value.none)) k1)
  refine wpAny_pure ⟨plainId_quiet F.plain_extend_loop _, ?_⟩
  refine drain (P := P) (w := w) (outer := outer) (H := H) (sc := sc) (ex := ex) (Q := Q) (EX := E0) (A := A) (g := g) hr.hd (by have := hr.dp; show A.depth < _; omega) hSa hSc
    (fun s' acc c H' ys q1 q2 q3 q4 q5 q6 q7 q8 q9 => ?_) (fun e s' z => (hexc e s' z).elim) sizeLine _ (isg k3) (hl.keeps k3) ⟨_, hgs, rfl, ?_⟩
  · show wpAny _ A (load s.heap.objs.size >>= _) _ _ s'
    refine wpAny_bind (wpAny_load q1 ?_)
    exact wpAny_pure (hQ s' acc.toList H' ys q2 q3 q4 q5 q6 q7 q9)
  · refine wake _ _ _ ⟨hr.hd, ?_, ?_⟩ hfr (Nat.le_refl _) k3 ⟨_, hS3⟩ hos (allBare_setGen (s := { s with heap := _ }) hb rfl)
    · have := hr.dp
      show A.depth + 3 * k + 5 < _
      omega
    · have := hr.un
      show A.units + 1 + 1 + 16 * k + 200 < _
      omega
theorem tuple_new_made {u : Value} {Q1 : Value → Shared → Prop} (hr : Room (k + 4) A) (hfr : A.frames = some outer) (h : GMade P w k outer H sc ex Q E0 u s)
    (hQ : ∀ (s' : Shared) (acc : List Value) (H' : Hp) (ys : List V), L2.Vals ys acc → ys.length ≤ sizeLine → s'.os = sc.os → AllBare s'.gens → Un (frs outer) ex H H' sc.heap s'.heap → HOk P w H' s'.heap → Q ys H' →
      Q1 (.ref s'.heap.objs.size) { s' with heap := s'.heap.push { cls := .type "tuple", data := .seq acc.toArray } })
    (hexc : ∀ e s', ¬ CX P w outer H sc E0 e s') : codeAny (model P w) A (.call (.builtin "tuple.__new__") ⟨[.type "tuple", u], []⟩) (wants Q1 E) s := by
  obtain ⟨a, g, c, ea, _, _, hg, _⟩ := id h
  subst ea
  refine codeAny_of_tree ?_
  show wpAny _ A.in1 (do checkBuiltinCall "tuple.__new__" ⟨[.type "tuple", .ref a], []⟩; again (.builtin "tuple.__new__" ⟨[.type "tuple", .ref a], []⟩)) _ _ s
  refine wpAny_bind (wpAny_of_eq (F.newCall_tuple_1 _) (wpAny_pure ⟨plainId_quiet F.plain_tuple_new _, codeAny_builtin F.entry_tuple_new ?_⟩))
  rw [Around.under_plainId F.plain_tuple_new _]
  have hsub := sub_tuple_self
  have hinit := init_tuple_lookup
  have hmh := madeHere_tuple
  have hTI := hg.typeIs
  have hr1 : Room (k + 3) A.in1 := hr.in1
  wp_walk using wpAny_typeOf hTI, collect_made hr1 hfr h
  · intro s' acc H' ys q1 q2 q3 q4 q5 q6 q7
    show wpAny _ _ (Builtin.Tuple.tupleExact acc.toArray >>= fun v => ret v) _ _ _
    unfold Builtin.Tuple.tupleExact
    refine wpAny_bind (wpAny_newObj_type ?_ (by show acc.toArray.size ≤ sizeLine; rw [List.size_toArray, ← q1.length]; exact q2))
    exact wpAny_pure (hQ s' acc H' ys q1 q2 q3 q4 q5 q6 q7)
  · exact hexc
theorem call_tuple_made {u : Value} {Q' : Value → Shared → Prop} (hr : Room (k + 5) A) (hfr : A.frames = some outer) (h : GMade P w k outer H sc ex Q E0 u s)
    (hQ : ∀ (s' : Shared) (acc : List Value) (H' : Hp) (ys : List V), L2.Vals ys acc → ys.length ≤ sizeLine → s'.os = sc.os → AllBare s'.gens → Un (frs outer) ex H H' sc.heap s'.heap → HOk P w H' s'.heap → Q ys H' →
      Q' (.ref s'.heap.objs.size) { s' with heap := s'.heap.push { cls := .type "tuple", data := .seq acc.toArray } })
    (hexc : ∀ e s', ¬ CX P w outer H sc E0 e s') : wpAny (model P w) A (call (.type "tuple") [u]) Q' E s := by
  refine callType_codes (Q₁ := fun obj s₁ => s₁.TypeIs obj "tuple" ∧ Q' obj s₁) F.called_tuple (F.typeCall_tuple_1 _) F.entry_object_init
    (tuple_new_made hr.in1 hfr h (fun s' acc H' ys q1 q2 q3 q4 q5 q6 q7 => ⟨⟨_, Heap.get?_push_size _ rfl, rfl⟩, hQ s' acc H' ys q1 q2 q3 q4 q5 q6 q7⟩) hexc) fun obj s₁ h₁ => ?_
  exact ⟨h₁.1, F.args_object_init_2 obj _, object_init_meets F.called_tuple.init.lookup F.called_tuple.made (by decide) P w A.in1 _ s₁ ⟨h₁.1, rfl, h₁.2⟩⟩
end
/-! ### the expression tuple(e for x in xs) -/
def tTupGx (P : Addr) (wi : TI) (g : TG) (te : TE) (vs : List Nat) : TE := fun σ H Q => wi σ H fun J H1 => GxR.TabG H1 P ∧ ∀ H2, GxR.Tabbed P H1 H2 →
  ∃ W : Nat → Nat → List V → Hp → Prop, (∃ m, W 0 m [] H2) ∧ Turns J g te vs σ (fun ys H' => ∀ p, H' p = none → Q (.ref p) (upd H' p (.tup ys))) W
section
variable {X : Cx}
theorem gx_eval {k : Nat} {c P : Addr} {elt tg iter : Expr} {scope : Scope} {own : List (Str × Nat)} {gpos : Pos} {wi : TI} {g : TG} {te : TE} {pins : List (Addr × Obj)} {s : Shared} {σ : L2.St} {H : Hp} {R : List V → Hp → Prop} {Q' : Value → Shared → Prop} (hc : X.calm = true) (hr : Room (k + 5) X.A) (hN : X.N.Nodup)
    (TB : GxR.TabB X.base X.mg c P) (hcode : X.env.code = .ref c) (hi : PI X tg iter wi) (ok : BlkOk X.N X.env.scope scope own) (hco : scope.isCoroutine = false) (dot : scope.names.lookup (".0" : Str) = some NameKind.local)
    (pg : ∀ (A : Around) (s : Shared) (H : Hp) (code : Value) (fp : List Addr) (pn : List (Addr × Obj)), PG (gx X A s H (gxEnv X scope s code) fp pn) tg g)
    (pe : ∀ (A : Around) (s : Shared) (H : Hp) (code : Value) (fp : List Addr) (pn : List (Addr × Obj)), Room k A → PE (gx X A s H (gxEnv X scope s code) fp pn) elt te)
    (hs : ∀ v, genFold iter X.env v = pure v) (I : L2.Inv X pins σ H s)
    (h : wi σ H fun J H1 => GxR.TabG H1 P ∧ ∀ H2, GxR.Tabbed P H1 H2 → ∃ W : Nat → Nat → List V → Hp → Prop, (∃ m, W 0 m [] H2) ∧ Turns J g te (own.map (·.2)) σ R W)
    (hQ : ∀ (u : Value) (s5 sc : Shared) (H2 : Hp) (fp : List Addr), L2.Inv X pins σ H2 sc → (∀ b ∈ fp, FpOk X pins H2 b) → GMade X.prog X.w k X.stack H2 sc fp R E0 u s5 → Q' u s5) :
    wpAny (model X.prog X.w) X.A (eval (.GeneratorExp elt [⟨tg, iter, [], 0⟩] scope gpos) X.env) Q' X.xe s := by
  have hfree : ∀ y ∈ scope.names, y.2 = .free → ∃ c, X.env.cells.lookup y.1 = some c := by
    intro y hy e
    exact (ok.free y hy e).elim (fun k => I.ok.has _ (.inl k)) (fun k => I.ok.has _ (.inr k))
  refine make_gen hco (closure_ok hfree) dot ok.kind (by have := hr.dp; omega) ?_ hs
  refine thn (hi.run pins s σ H _ I h) fun xv s1 h1 => thn h1 fun itv s2 h2 => ?_
  obtain ⟨it, fp, tn, J, H1, e, I2, T, st2, f2, ⟨ps, hP, ht⟩, q⟩ := h2
  subst e
  have hPs : s2.heap.get? P = some { cls := .none, data := .fields ps } := I2.hok P _ hP
  have cd : PySem.W.CodeHd s2.heap c P := TB.code.keeps I2.bk
  have nP : ∀ b ∈ fp, b ≠ P := fun b hb z => by
    have y := (f2 b hb).1
    rw [z, hP] at y
    cases y
  have hcP : cStatics ≠ P := fun e => by
    obtain ⟨_, hns, _⟩ := I2.nolimit
    obtain ⟨o', es, ep, ho, hd, _⟩ := hns
    rw [e, hPs] at ho
    cases ho
    cases hd
  refine ⟨I2.nolimit, ?_⟩
  have cont : ∀ (code : Value) (h3 : Heap) (tk : Nat) (ps' : Array Value), Heap.ExtBut P s2.heap h3 → s2.heap.objs.size ≤ h3.objs.size → h3.get? P = some { cls := .none, data := .fields ps' } → (∃ more, ps' = ps ++ more) → TriplesOk ps'.toList →
      wpAny (model X.prog X.w) X.A (builtinsFor X.env.globals X.env.builtins) (fun bi s₄ => ∀ h', h'.Ns s₄.heap.objs.size (fun y => if y = ".0" then some (Value.ref it) else none) → Heap.SameBut s₄.heap.objs.size (pushCells (s₄.heap.push { cls := .type "frame", data := .dict #[] }) scope.names) h' →
        Q' (Value.ref h'.objs.size) ({ s₄ with
          gens := s₄.gens.push (.fresh (.compStart (.GeneratorExp elt [⟨tg, iter, [], 0⟩] scope gpos) 0 (.ref it) .none (genEnv scope (cellsFrom (s₄.heap.objs.size + 1) scope.names (cloFrom X.env.cells scope.names [])) s₄.heap.objs.size code bi X.env))),
          toks := s₄.toks + 1 + 1 + 1,
          heap := h'.push { cls := .type "generator", data := .fields #[.int s₄.gens.size 0, .str "<genexpr>" (s₄.toks + 1), .str (X.env.qual ++ "<genexpr>") (s₄.toks + 1 + 1)] } } : Shared)) X.xe { s2 with heap := h3, toks := tk } := by
    intro code h3 tk ps' hx hsz hP3 hmore ht3
    obtain ⟨bm, ob, e1, e2, e3, e4, e5, e6, e7, e8⟩ := TB.bm
    have keep3 : ∀ b u, b ≠ P → s2.heap.get? b = some u → h3.get? b = some u := fun b u hb e => hx b u hb e
    refine wpAny_builtinsFor (m := X.mg) (by rw [I2.ok.glob]; exact (I2.mod.glob.keeps I2.bk).extBut hx TB.gP) e1 e2 (keep3 _ _ e4 (I2.bk _ _ e5)) e6 e7 e8 ?_
    intro h' hn' hs'
    obtain ⟨more, em⟩ := hmore
    have I3 : L2.Inv X pins σ (upd H1 P (.tbl (ps ++ more))) { s2 with heap := h3, toks := tk } :=
      GxR.inv_tab (more := more) (h' := h3) (g' := s2.gens) (d' := s2.drawn) (t' := tk) I2 hP keep3 (by rw [← em]; exact hP3) I2.bare
    obtain ⟨W, ⟨m, w0⟩, turn⟩ := q _ (show GxR.Tabbed P H1 (upd H1 P (.tbl (ps ++ more))) from ⟨⟨ps ++ more, upd_same, by rw [← em]; exact ht3⟩, fun b hb => upd_ne hb⟩)
    have fp3 : ∀ b ∈ fp, FpOk X pins (upd H1 P (.tbl (ps ++ more))) b ∧ b < h3.objs.size := by
      intro b hb
      obtain ⟨o, eo, _⟩ := T.obj _ _ st2 b hb
      refine ⟨⟨by rw [upd_ne (nP b hb)]; exact (f2 b hb).1, (f2 b hb).2⟩, Nat.lt_of_lt_of_le (Heap.lt_size eo) hsz⟩
    have st3 : tn 0 h3 := T.keep _ _ _ st2 fun b hb o e => keep3 b o (nP b hb) e
    have hsz' : h3.objs.size + 1 ≤ h'.objs.size := by
      rw [hs'.1]
      refine Nat.le_trans ?_ (pushCells_size _ _)
      rw [Heap.size_push]
      exact Nat.le_refl _
    have kp' : ∀ b o, b ≠ h3.objs.size → (pushCells (h3.push { cls := .type "frame", data := .dict #[] }) scope.names).get? b = some o → h'.get? b = some o := fun b o hb e => hs'.extBut b o hb e
    have made := gx_made (k := k) (own := own) (code := code) (iter := iter) (pos := gpos) (tk := tk + 1 + 1 + 1) I3 ok hN hco hc T st3 fp3 (fun A pn => pg A _ _ code fp pn) (fun A pn hq => pe A _ _ code fp pn hq) w0 turn hn' hsz' kp'
      (go := { cls := .type "generator", data := .fields #[.int s2.gens.size 0, .str "<genexpr>" (tk + 1), .str (X.env.qual ++ "<genexpr>") (tk + 1 + 1)] }) rfl rfl rfl (Heap.get?_push_size _ rfl)
    exact hQ _ _ _ _ fp I3 (fun b hb => (fp3 b hb).1) made
  cases hf : codeAmong gpos ps.toList with
  | none =>
    refine wpAny_genexprCodeX hcode (cd.code hPs ht) (cd.tab hPs) hf fun c' h' tk hx hge hlt hco' _ htab' _ => ?_
    obtain ⟨o1, vs, f1, tf, fl, tg', inF, tx, tt, op, _, _, _, _, _, _, _, _, _, htr, _⟩ := hco'
    exact cont _ h' tk _ hx (Nat.le_trans hge (Nat.le_of_lt hlt)) htab'.2 ⟨_, rfl⟩ htr
  | some cv =>
    refine wpAny_genexprCode_hit hcode (cd.code hPs ht) hf ?_
    exact cont cv s2.heap s2.toks ps (Heap.ExtBut.refl _ _) (Nat.le_refl _) hPs ⟨#[], by simp⟩ ht
theorem pe_tupGx {k : Nat} {c P : Addr} {elt tg iter : Expr} {scope : Scope} {own : List (Str × Nat)} {p pos gpos : Pos} {wi : TI} {g : TG} {te : TE} (hc : X.calm = true) (hr : Room (k + 5) X.A) (hN : X.N.Nodup) (hg : Gl X "tuple") (hm : X.mg "tuple" = none)
    (TB : GxR.TabB X.base X.mg c P) (hcode : X.env.code = .ref c) (hi : PI X tg iter wi) (ok : BlkOk X.N X.env.scope scope own) (hco : scope.isCoroutine = false) (dot : scope.names.lookup (".0" : Str) = some NameKind.local)
    (pg : ∀ (A : Around) (s : Shared) (H : Hp) (code : Value) (fp : List Addr) (pn : List (Addr × Obj)), PG (gx X A s H (gxEnv X scope s code) fp pn) tg g)
    (pe : ∀ (A : Around) (s : Shared) (H : Hp) (code : Value) (fp : List Addr) (pn : List (Addr × Obj)), Room k A → PE (gx X A s H (gxEnv X scope s code) fp pn) elt te)
    (hs : ∀ v, genFold iter X.env v = pure v)
    (he : starEach [.GeneratorExp elt [⟨tg, iter, [], 0⟩] scope gpos] X.env = (false, eval (.GeneratorExp elt [⟨tg, iter, [], 0⟩] scope gpos) X.env) :: starEach [] X.env := by rfl) :
    PE X (.Call (.Name "tuple" p) [.GeneratorExp elt [⟨tg, iter, [], 0⟩] scope gpos] [] pos) (tTupGx P wi g te (own.map (·.2))) := by
  refine ⟨fun pins s σ H Q I h => ?_⟩
  refine Call_ (ld_blt I hg hm boot_tuple (PyProof.Rows.callWith_type1 (args_cons ?_ he) he rfl))
  refine gx_eval hc hr hN TB hcode hi ok hco dot pg pe hs I h fun u s5 sc H2 fp I3 fp3 made => args_nil ?_
  refine call_tuple_made hr I.ok.frames made (fun s' acc H' ys q1 q2 q3 q4 q5 q6 q7 => ?_) (fun e s' z => ?_)
  · have J3 : L2.Inv X pins σ H' s' := I3.call' (ch := fp) q3 q5 q6 q4 fun b hb => ⟨(fp3 b hb).2.2.2.1, (fp3 b hb).2.1, (fp3 b hb).2.2.2.2.1, (fp3 b hb).2.2.2.2.2⟩
    refine ⟨.ref _, _, J3.laid (t' := s'.toks) (o := .tup ys) (fun b ob z => Heap.get?_push_of_some _ z) (Nat.le_refl _) ?_, rfl, q7 _ (J3.hok.fresh (Nat.le_refl _))⟩
    exact ⟨q2, acc, q1, _, Heap.get?_push_size _ rfl, rfl, _, rfl⟩
  · obtain ⟨_, _, _, _, _, _, _, _, _, _, _, _, z⟩ := z
    exact z
end
end Gx
set_option maxHeartbeats 4000000
/-! tuple * int, also by 0 and by 1. -/
namespace Gx
open PySem PySem.Spec PyProof.Rows L2
theorem tuple_mul1 (l : Addr) (items : Array Value) (n : Nat) (dd : Option Addr) (sl : Array (Option Value)) (u : Tok) :
    Meets (Builtin.«tuple.__mul__» ⟨[.ref l, .int 1 u], []⟩) (fun _ R s => s.heap.get? l = some { cls := .type "tuple", dict := dd, data := .seq items n, slots := sl } ∧ R (.ok (.ret (Value.ref l))) s) :=
  .of_wp fun prog w A R s h => by
    obtain ⟨hp, g, d, tk, os⟩ := s
    obtain ⟨hl, h⟩ := h
    have f1 := AutoSeq1.idx_int
    wp_walk using wpAny_loadPart' hl
    repeat (first
      | (refine wpAny_ite_false (decide_eq_false (by decide)) ?_; wp_walk using wpAny_loadPart' hl)
      | (refine wpAny_ite_true (decide_eq_true (by simp)) ?_; wp_walk using wpAny_loadPart' hl))
    exact ⟨_, rfl, h⟩
theorem tuple_mul0 (l : Addr) (items : Array Value) (n : Nat) (dd : Option Addr) (sl : Array (Option Value)) (u : Tok) (c1 : items.isEmpty = false) :
    Meets (Builtin.«tuple.__mul__» ⟨[.ref l, .int 0 u], []⟩) (fun _ R s => s.heap.get? l = some { cls := .type "tuple", dict := dd, data := .seq items n, slots := sl } ∧
      R (.ok (.ret (Value.ref s.heap.objs.size))) { s with heap := s.heap.push { cls := Value.type "tuple", data := Data.seq #[] }, toks := s.toks }) :=
  .of_wp fun prog w A R s h => by
    obtain ⟨hp, g, d, tk, os⟩ := s
    obtain ⟨hl, h⟩ := h
    have f1 := AutoSeq1.idx_int
    wp_walk using wpAny_loadPart' hl
    repeat (first
      | (refine wpAny_ite_false (decide_eq_false (by decide)) ?_; wp_walk using wpAny_loadPart' hl)
      | (refine wpAny_ite_false (decide_eq_false (by rw [c1]; decide)) ?_; wp_walk using wpAny_loadPart' hl)
      | (refine wpAny_ite_true (decide_eq_true (by simp)) ?_; wp_walk using wpAny_loadPart' hl))
    exact ⟨_, rfl, h⟩
def rRepA (K : PySem.W.Frag) : R2 := fun x y H Q => ∃ l k xs, x = .ref l ∧ y = .int k ∧ SqT K H l xs ∧ xs ≠ [] ∧ 0 ≤ k ∧ k ≤ 1000 ∧ xs.length ≤ 1000 ∧ (k = 1 → Q (.ref l) H) ∧ (k ≠ 1 → ∀ p, H p = none → Q (.ref p) (upd H p (.tup (List.replicate k.toNat xs).flatten)))
section
variable {X : Cx}
theorem op_repA : OpR X (binaryOp .Mult) (rRepA X.K) := by
  intro pins s σ H x y v u Q I rx ry h
  obtain ⟨l, k, xs, rfl, rfl, hT, hne, h1, h2, hz, q1, q⟩ := h
  by_cases k2 : 2 ≤ k
  · exact op_repT pins s σ H _ _ v u Q I rx ry ⟨l, k, xs, rfl, rfl, hT, hne, k2, h2, hz, q (by omega)⟩
  · cases rx
    obtain ⟨t, rfl⟩ := ry
    have hT0 := hT
    obtain ⟨its, r, ⟨⟨cls, dd, data, sl⟩, ho, hc, n, hd⟩, hs⟩ := I.tuple hT
    simp only at hc hd
    subst hc hd
    have hle : its.length = xs.length := r.length.symm
    have hn : its ≠ [] := fun e => hne (by
      rw [e] at hle
      exact List.eq_nil_of_length_eq_zero hle.symm)
    have hi : its.toArray.isEmpty = false := by
      cases its with
      | nil => exact absurd rfl hn
      | cons a b => rfl
    rcases (show k = 0 ∨ k = 1 by omega) with rfl | rfl
    · refine wpAny_binaryOp_repeat_ref (T := "tuple") (U := "int") (by decide) ⟨_, ho, rfl⟩ (fun s' => typeIs_int s' 0 t) noFill_tuple_mul F.fills_int_mul F.slot_int_rmul repeat_tuple F.slot_int_index.lookup
        (call_meets F.slot_int_rmul (typeIs_int s 0 t) F.entry_int_rmul (F.args_int_rmul_2 _ _) (int_rmul_tuple 0 t l its.toArray n dd sl)
          ⟨ho, rfl, ⟨_, ho, rfl⟩, call_meets F.slot_tuple_mul ⟨_, ho, rfl⟩ F.entry_tuple_mul (F.args_tuple_mul_2 _ _) (tuple_mul0 l its.toArray n dd sl t hi) ⟨ho, ?_⟩⟩)
      refine ⟨.ref s.heap.objs.size, _, I.laid (t' := s.toks) (o := .tup []) (fun b ob q => Heap.get?_push_of_some _ q) (Nat.le_refl _) ?_, rfl, q (by decide) _ (I.hok.fresh (Nat.le_refl _))⟩
      exact ⟨by simp [sizeLine_eq], [], .nil, IsTup.new _ _⟩
    · refine wpAny_binaryOp_repeat_ref (T := "tuple") (U := "int") (by decide) ⟨_, ho, rfl⟩ (fun s' => typeIs_int s' 1 t) noFill_tuple_mul F.fills_int_mul F.slot_int_rmul repeat_tuple F.slot_int_index.lookup
        (call_meets F.slot_int_rmul (typeIs_int s 1 t) F.entry_int_rmul (F.args_int_rmul_2 _ _) (int_rmul_tuple 1 t l its.toArray n dd sl)
          ⟨ho, rfl, ⟨_, ho, rfl⟩, call_meets F.slot_tuple_mul ⟨_, ho, rfl⟩ F.entry_tuple_mul (F.args_tuple_mul_2 _ _) (tuple_mul1 l its.toArray n dd sl t) ⟨ho, ?_⟩⟩)
      exact ⟨.ref l, H, I, rfl, q1 rfl⟩
end
end Gx
set_option linter.all false
namespace Lin
/-! rows as functions Nat → Int, round a prime p: spans, and what clearing by leads tells -/
def Cg (p a b : Int) : Prop := ∃ c, a = b + p * c
theorem Cg.rfl' {p a : Int} : Cg p a a := ⟨0, by simp⟩
theorem Cg.mod {p : Int} (a : Int) : Cg p (a % p) a := ⟨-(a / p), by have := Int.emod_def a p; rw [Int.mul_neg]; omega⟩
theorem Cg.add {p a b c d : Int} (h : Cg p a b) (k : Cg p c d) : Cg p (a + c) (b + d) := by
  obtain ⟨x, rfl⟩ := h
  obtain ⟨y, rfl⟩ := k
  exact ⟨x + y, by grind⟩
theorem Cg.sub {p a b c d : Int} (h : Cg p a b) (k : Cg p c d) : Cg p (a - c) (b - d) := by
  obtain ⟨x, rfl⟩ := h
  obtain ⟨y, rfl⟩ := k
  exact ⟨x - y, by grind⟩
theorem Cg.mul {p a b c d : Int} (h : Cg p a b) (k : Cg p c d) : Cg p (a * c) (b * d) := by
  obtain ⟨x, rfl⟩ := h
  obtain ⟨y, rfl⟩ := k
  exact ⟨b * y + x * d + p * x * y, by grind⟩
theorem Cg.trans {p a b c : Int} (h : Cg p a b) (k : Cg p b c) : Cg p a c := by
  obtain ⟨x, rfl⟩ := h
  obtain ⟨y, rfl⟩ := k
  exact ⟨x + y, by grind⟩
theorem Cg.symm {p a b : Int} (h : Cg p a b) : Cg p b a := by
  obtain ⟨x, rfl⟩ := h
  exact ⟨-x, by grind⟩
abbrev Vc := Nat → Int
/-- alike round p -/
def Eqv (p : Int) (u v : Vc) : Prop := ∀ i, Cg p (u i) (v i)
theorem Eqv.refl {p : Int} {u : Vc} : Eqv p u u := fun _ => Cg.rfl'
theorem Eqv.symm {p : Int} {u v : Vc} (h : Eqv p u v) : Eqv p v u := fun i => (h i).symm
theorem Eqv.trans {p : Int} {u v w : Vc} (h : Eqv p u v) (k : Eqv p v w) : Eqv p u w := fun i => (h i).trans (k i)
/-- the lot of some rows: whatever sums of multiples make -/
inductive Lot (p : Int) (R : Vc → Prop) : Vc → Prop
  | zero : Lot p R fun _ => 0
  | add {u v : Vc} (c : Int) : Lot p R u → R v → Lot p R fun i => u i + c * v i
  | eqv {u v : Vc} : Lot p R u → Eqv p u v → Lot p R v
theorem Lot.of {p : Int} {R : Vc → Prop} {v : Vc} (h : R v) : Lot p R v := .eqv (.add 1 .zero h) fun i => ⟨0, by grind⟩
theorem Lot.comb {p : Int} {R : Vc → Prop} {u v : Vc} (c : Int) (h : Lot p R u) (k : Lot p R v) : Lot p R fun i => u i + c * v i := by
  induction k with
  | zero => exact .eqv h fun i => ⟨0, by grind⟩
  | add d _ r ih => exact .eqv (.add (c * d) ih r) fun i => ⟨0, by grind⟩
  | eqv _ e ih => exact .eqv ih fun i => Cg.rfl'.add (Cg.rfl'.mul (e i))
/-- a lot in another -/
theorem Lot.sub {p : Int} {R S : Vc → Prop} (h : ∀ v, R v → Lot p S v) {u : Vc} (k : Lot p R u) : Lot p S u := by
  induction k with
  | zero => exact .zero
  | add d _ r ih => exact Lot.comb d ih (h _ r)
  | eqv _ e ih => exact .eqv ih e
/-- leads: each place's row has 1 there and 0 at the other places -/
structure Leads (p : Int) (L : List (Nat × Vc)) : Prop where
  self : ∀ x ∈ L, Cg p (x.2 x.1) 1
  other : ∀ x ∈ L, ∀ y ∈ L, x.1 ≠ y.1 → Cg p (x.2 y.1) 0
def rowsOf (L : List (Nat × Vc)) : Vc → Prop := fun v => ∃ x ∈ L, x.2 = v
/-- the sum of the leads by a row's own numbers at their places -/
def own (u : Vc) : List (Nat × Vc) → Vc
  | [] => fun _ => 0
  | x :: L => fun i => u x.1 * x.2 i + own u L i
theorem own_lot {p : Int} {u : Vc} : ∀ (L : List (Nat × Vc)) {R : Vc → Prop}, (∀ x ∈ L, R x.2) → Lot p R (own u L)
  | [], _, _ => .zero
  | x :: L, _, h => .eqv (Lot.comb (u x.1) (own_lot (u := u) L fun y hy => h y (List.mem_cons_of_mem _ hy)) (Lot.of (h x (by simp)))) fun i => ⟨0, by simp only [own]; grind⟩
theorem own_comb {u v : Vc} {c : Int} : ∀ (L : List (Nat × Vc)) (i : Nat), own (fun j => u j + c * v j) L i = own u L i + c * own v L i
  | [], _ => by simp [own]
  | x :: L, i => by
    simp only [own]
    rw [own_comb L i]
    grind
theorem own_eqv {p : Int} {u v : Vc} (h : Eqv p u v) : ∀ L : List (Nat × Vc), Eqv p (own u L) (own v L)
  | [], _ => Cg.rfl'
  | x :: L, i => ((h x.1).mul Cg.rfl').add (own_eqv h L i)
theorem own_none {p : Int} {u : Vc} : ∀ {L : List (Nat × Vc)}, (∀ x ∈ L, Cg p (u x.1) 0) → Eqv p (own u L) fun _ => 0
  | [], _, _ => Cg.rfl'
  | x :: L, h, i => by
    have a := ((h x (by simp)).mul (Cg.rfl' (a := x.2 i))).add (own_none (L := L) (fun y hy => h y (List.mem_cons_of_mem _ hy)) i)
    have e : (0 : Int) * x.2 i + 0 = 0 := by simp
    rw [e] at a
    exact a
theorem own_lead {p : Int} {L : List (Nat × Vc)} (h : Leads p L) (nd : (L.map (·.1)).Nodup) {x : Nat × Vc} (hx : x ∈ L) : Eqv p (own x.2 L) x.2 := by
  induction L with
  | nil => cases hx
  | cons y L ih =>
    have nd' := List.nodup_cons.mp (by simpa using nd : (y.1 :: L.map (·.1)).Nodup)
    have hL : Leads p L := ⟨fun z hz => h.self z (List.mem_cons_of_mem _ hz), fun z hz w hw => h.other z (List.mem_cons_of_mem _ hz) w (List.mem_cons_of_mem _ hw)⟩
    intro i
    show Cg p (x.2 y.1 * y.2 i + own x.2 L i) (x.2 i)
    rcases List.mem_cons.mp hx with rfl | hx'
    · have a := (h.self x (by simp)).mul (Cg.rfl' (a := x.2 i))
      have b := own_none (p := p) (u := x.2) (L := L) (fun z hz => h.other x (by simp) z (List.mem_cons_of_mem _ hz) fun e => nd'.1 (by rw [e]; exact List.mem_map.mpr ⟨z, hz, rfl⟩)) i
      have c := a.add b
      have e : (1 : Int) * x.2 i + 0 = x.2 i := by simp
      rw [e] at c
      exact c
    · have ne : x.1 ≠ y.1 := fun e => nd'.1 (by rw [← e]; exact List.mem_map.mpr ⟨x, hx', rfl⟩)
      have a := (h.other x hx y (by simp) ne).mul (Cg.rfl' (a := y.2 i))
      have b := ih hL nd'.2 hx' i
      have c := a.add b
      have e : (0 : Int) * y.2 i + x.2 i = x.2 i := by simp
      rw [e] at c
      exact c
/-- a row is in the lot of the leads just where it is the sum by its own numbers -/
theorem lot_iff {p : Int} {L : List (Nat × Vc)} (h : Leads p L) (nd : (L.map (·.1)).Nodup) {u : Vc} : Lot p (rowsOf L) u ↔ Eqv p (own u L) u := by
  constructor
  · intro k
    induction k with
    | zero => exact own_none fun _ _ => Cg.rfl'
    | @add a v c _ r ih =>
      obtain ⟨x, hx, rfl⟩ := r
      intro i
      rw [own_comb]
      exact (ih i).add (Cg.rfl'.mul (own_lead h nd hx i))
    | eqv _ e ih => exact ((own_eqv e L).symm.trans ih).trans e
  · intro k
    exact .eqv (own_lot L fun x hx => ⟨x, hx, rfl⟩) k
/-- what is left of a row behind clearing -/
def left (u : Vc) (L : List (Nat × Vc)) : Vc := fun i => u i - own u L i
theorem own_at {p : Int} {L : List (Nat × Vc)} (h : Leads p L) (nd : (L.map (·.1)).Nodup) {u : Vc} {x : Nat × Vc} (hx : x ∈ L) : Cg p (own u L x.1) (u x.1) := by
  induction L with
  | nil => cases hx
  | cons y L ih =>
    have nd' := List.nodup_cons.mp (by simpa using nd : (y.1 :: L.map (·.1)).Nodup)
    have hL : Leads p L := ⟨fun z hz => h.self z (List.mem_cons_of_mem _ hz), fun z hz w hw => h.other z (List.mem_cons_of_mem _ hz) w (List.mem_cons_of_mem _ hw)⟩
    show Cg p (u y.1 * y.2 x.1 + own u L x.1) (u x.1)
    rcases List.mem_cons.mp hx with rfl | hx'
    · have far : ∀ M : List (Nat × Vc), (∀ z ∈ M, Cg p (z.2 x.1) 0) → Cg p (own u M x.1) 0 := by
        intro M hM
        induction M with
        | nil => exact Cg.rfl'
        | cons z M ihM =>
          have a := ((Cg.rfl' (a := u z.1)).mul (hM z (by simp))).add (ihM fun w hw => hM w (List.mem_cons_of_mem _ hw))
          have e : u z.1 * 0 + 0 = 0 := by simp
          rw [e] at a
          exact a
      have a := ((Cg.rfl' (a := u x.1)).mul (h.self x (by simp))).add (far L fun z hz => h.other z (List.mem_cons_of_mem _ hz) x (by simp) fun e => nd'.1 (by rw [← e]; exact List.mem_map.mpr ⟨z, hz, rfl⟩))
      have e : u x.1 * 1 + 0 = u x.1 := by simp
      rw [e] at a
      exact a
    · have ne : y.1 ≠ x.1 := fun e => nd'.1 (by rw [e]; exact List.mem_map.mpr ⟨x, hx', rfl⟩)
      have a := ((Cg.rfl' (a := u y.1)).mul (h.other y (by simp) x hx ne)).add (ih hL nd'.2 hx')
      have e : u y.1 * 0 + u x.1 = u x.1 := by simp
      rw [e] at a
      exact a
theorem left_at {p : Int} {L : List (Nat × Vc)} (h : Leads p L) (nd : (L.map (·.1)).Nodup) {u : Vc} {x : Nat × Vc} (hx : x ∈ L) : Cg p (left u L x.1) 0 := by
  have a := (Cg.rfl' (a := u x.1)).sub (own_at h nd (u := u) hx)
  have e : u x.1 - u x.1 = 0 := by omega
  rw [e] at a
  exact a
/-- a row is in the lot of the leads just where nothing is left of it -/
theorem lot_left {p : Int} {L : List (Nat × Vc)} (h : Leads p L) (nd : (L.map (·.1)).Nodup) {u : Vc} : Lot p (rowsOf L) u ↔ Eqv p (left u L) fun _ => 0 := by
  rw [lot_iff h nd]
  constructor
  · intro k i
    have a := (Cg.rfl' (a := u i)).sub (k i)
    have e : u i - u i = 0 := by omega
    rw [e] at a
    exact a
  · intro k i
    have a := (Cg.rfl' (a := u i)).sub (k i)
    have e : u i - left u L i = own u L i := by
      show u i - (u i - own u L i) = own u L i
      omega
    have e2 : u i - 0 = u i := by omega
    rw [e, e2] at a
    exact a
/-- one more lead at q -/
def more (q : Nat) (l : Vc) (L : List (Nat × Vc)) : List (Nat × Vc) := L.map fun x => (x.1, fun i => x.2 i - x.2 q * l i)
theorem more_places {q : Nat} {l : Vc} {L : List (Nat × Vc)} : (more q l L).map (·.1) = L.map (·.1) := by
  unfold more
  rw [List.map_map]
  rfl
theorem leads_more {p : Int} {L : List (Nat × Vc)} {q : Nat} {l : Vc} (h : Leads p L) (nd : (L.map (·.1)).Nodup) (h1 : Cg p (l q) 1) (h0 : ∀ x ∈ L, Cg p (l x.1) 0) (hq : ∀ x ∈ L, x.1 ≠ q) : Leads p (more q l L ++ [(q, l)]) := by
  have key : ∀ x ∈ L, ∀ y ∈ L, Cg p (x.2 y.1 - x.2 q * l y.1) (x.2 y.1) := fun x _ y hy => by
    have a := (Cg.rfl' (a := x.2 y.1)).sub ((Cg.rfl' (a := x.2 q)).mul (h0 y hy))
    have e : x.2 y.1 - x.2 q * 0 = x.2 y.1 := by simp
    rw [e] at a
    exact a
  have atq : ∀ x ∈ L, Cg p (x.2 q - x.2 q * l q) 0 := fun x _ => by
    have a := (Cg.rfl' (a := x.2 q)).sub ((Cg.rfl' (a := x.2 q)).mul h1)
    have e : x.2 q - x.2 q * 1 = 0 := by rw [Int.mul_one]; omega
    rw [e] at a
    exact a
  refine ⟨fun x hx => ?_, fun x hx y hy ne => ?_⟩
  · rcases List.mem_append.mp hx with hx | hx
    · obtain ⟨z, hz, rfl⟩ := List.mem_map.mp hx
      exact (key z hz z hz).trans (h.self z hz)
    · rw [List.mem_singleton.mp hx]
      exact h1
  · rcases List.mem_append.mp hx with hx | hx
    · obtain ⟨z, hz, rfl⟩ := List.mem_map.mp hx
      rcases List.mem_append.mp hy with hy | hy
      · obtain ⟨w, hw, rfl⟩ := List.mem_map.mp hy
        exact (key z hz w hw).trans (h.other z hz w hw ne)
      · rw [List.mem_singleton.mp hy]
        exact atq z hz
    · rw [List.mem_singleton.mp hx] at ne ⊢
      rcases List.mem_append.mp hy with hy | hy
      · obtain ⟨w, hw, rfl⟩ := List.mem_map.mp hy
        exact h0 w hw
      · rw [List.mem_singleton.mp hy] at ne
        exact absurd rfl ne
/-- the lot with a new lead is that of the old leads and the row out of which it was made -/
theorem lot_more {p c d : Int} {L : List (Nat × Vc)} {q : Nat} {f l : Vc} (hl : Eqv p l fun i => c * left f L i) (hd : Cg p (d * c) 1) {u : Vc} : Lot p (rowsOf (more q l L ++ [(q, l)])) u ↔ Lot p (fun v => rowsOf L v ∨ v = f) u := by
  have lIn : Lot p (fun v => rowsOf L v ∨ v = f) l := by
    have a : Lot p (fun v => rowsOf L v ∨ v = f) (own f L) := own_lot L fun x hx => .inl ⟨x, hx, rfl⟩
    have b : Lot p (fun v => rowsOf L v ∨ v = f) f := Lot.of (.inr rfl)
    have e := Lot.comb c Lot.zero (Lot.comb (-1) b a)
    exact .eqv e fun i => Cg.trans ⟨0, by simp only [left]; grind⟩ (hl i).symm
  have newl : Lot p (rowsOf (more q l L ++ [(q, l)])) l := Lot.of ⟨(q, l), by simp, rfl⟩
  have old : ∀ x ∈ L, Lot p (rowsOf (more q l L ++ [(q, l)])) x.2 := fun x hx => by
    have a : Lot p (rowsOf (more q l L ++ [(q, l)])) (fun i => x.2 i - x.2 q * l i) := Lot.of ⟨(x.1, fun i => x.2 i - x.2 q * l i), List.mem_append.mpr (.inl (List.mem_map.mpr ⟨x, hx, rfl⟩)), rfl⟩
    exact .eqv (Lot.comb (x.2 q) a newl) fun i => ⟨0, by grind⟩
  constructor
  · refine Lot.sub fun v hv => ?_
    obtain ⟨x, hx, rfl⟩ := hv
    rcases List.mem_append.mp hx with hx | hx
    · obtain ⟨z, hz, rfl⟩ := List.mem_map.mp hx
      exact .eqv (Lot.comb (-(z.2 q)) (Lot.of (.inl ⟨z, hz, rfl⟩)) lIn) fun i => ⟨0, by grind⟩
    · rw [List.mem_singleton.mp hx]
      exact lIn
  · refine Lot.sub fun v hv => ?_
    rcases hv with ⟨x, hx, rfl⟩ | rfl
    · exact old x hx
    · have a : Lot p (rowsOf (more q l L ++ [(q, l)])) (own v L) := Lot.sub (R := rowsOf L) (fun w ⟨x, hx, e⟩ => e ▸ old x hx) (own_lot L fun x hx => ⟨x, hx, rfl⟩)
      refine .eqv (Lot.comb d a newl) fun i => ?_
      have e1 := (Cg.rfl' (p := p) (a := own v L i)).add ((Cg.rfl' (a := d)).mul (hl i))
      have e2 := (Cg.rfl' (p := p) (a := own v L i)).add (hd.mul (Cg.rfl' (a := left v L i)))
      have e3 : own v L i + d * (c * left v L i) = own v L i + d * c * left v L i := by grind
      have e4 : own v L i + 1 * left v L i = v i := by simp only [left]; grind
      rw [e3] at e1
      rw [e4] at e2
      exact e1.trans e2
/-- clearing, one lead behind another -/
def clear (u : Vc) : List (Nat × Vc) → Vc
  | [] => u
  | x :: L => clear (fun i => u i - u x.1 * x.2 i) L
theorem clear_eqv {p : Int} : ∀ (L : List (Nat × Vc)) {u v : Vc}, Eqv p u v → Eqv p (clear u L) (clear v L)
  | [], _, _, h => h
  | x :: L, _, _, h => clear_eqv L fun i => (h i).sub ((h x.1).mul Cg.rfl')
theorem clear_left {p : Int} : ∀ {L : List (Nat × Vc)} {u : Vc}, Leads p L → (L.map (·.1)).Nodup → Eqv p (clear u L) (left u L)
  | [], u, _, _ => fun i => ⟨0, by simp [clear, left, own]⟩
  | x :: L, u, h, nd => by
    have nd' := List.nodup_cons.mp (by simpa using nd : (x.1 :: L.map (·.1)).Nodup)
    have hL : Leads p L := ⟨fun z hz => h.self z (List.mem_cons_of_mem _ hz), fun z hz w hw => h.other z (List.mem_cons_of_mem _ hz) w (List.mem_cons_of_mem _ hw)⟩
    intro i
    have ih := clear_left (u := fun i => u i - u x.1 * x.2 i) hL nd'.2 i
    have e1 : own (fun j => u j - u x.1 * x.2 j) L i = own u L i - u x.1 * own x.2 L i := by
      have z := own_comb (u := u) (v := x.2) (c := -(u x.1)) L i
      have z2 : (fun j => u j + -(u x.1) * x.2 j) = fun j => u j - u x.1 * x.2 j := by
        funext j
        grind
      rw [z2] at z
      rw [z]
      grind
    have z : Cg p (own x.2 L i) 0 := own_none (fun y hy => h.other x (by simp) y (List.mem_cons_of_mem _ hy) fun e => nd'.1 (by rw [e]; exact List.mem_map.mpr ⟨y, hy, rfl⟩)) i
    have a : Cg p (u i - u x.1 * x.2 i - (own u L i - u x.1 * own x.2 L i)) (u i - u x.1 * x.2 i - (own u L i - u x.1 * 0)) := Cg.rfl'.sub (Cg.rfl'.sub (Cg.rfl'.mul z))
    have e2 : left (fun i => u i - u x.1 * x.2 i) L i = u i - u x.1 * x.2 i - (own u L i - u x.1 * own x.2 L i) := by
      show u i - u x.1 * x.2 i - own (fun j => u j - u x.1 * x.2 j) L i = _
      rw [e1]
    have e3 : left u (x :: L) i = u i - u x.1 * x.2 i - (own u L i - u x.1 * 0) := by
      show u i - (u x.1 * x.2 i + own u L i) = _
      grind
    show Cg p (clear (fun i => u i - u x.1 * x.2 i) L i) (left u (x :: L) i)
    rw [e3]
    rw [e2] at ih
    exact ih.trans a
/-- nothing stands ahead of a lead's place -/
def Ahead (p : Int) (L : List (Nat × Vc)) : Prop := ∀ x ∈ L, ∀ i, i < x.1 → Cg p (x.2 i) 0
theorem own_zero {p : Int} {u : Vc} {i : Nat} : ∀ {L : List (Nat × Vc)}, (∀ y ∈ L, Cg p (u y.1) 0 ∨ Cg p (y.2 i) 0) → Cg p (own u L i) 0
  | [], _ => Cg.rfl'
  | y :: L, h => by
    have b := own_zero (L := L) fun z hz => h z (List.mem_cons_of_mem _ hz)
    show Cg p (u y.1 * y.2 i + own u L i) 0
    have e0 : (0 : Int) + 0 = 0 := rfl
    rw [← e0]
    refine Cg.add ?_ b
    rcases h y (by simp) with k | k
    · have a := k.mul (Cg.rfl' (a := y.2 i))
      rw [Int.zero_mul] at a
      exact a
    · have a := (Cg.rfl' (a := u y.1)).mul k
      rw [Int.mul_zero] at a
      exact a
theorem one_zero {p : Int} (h : 1 < p) : ¬ Cg p 1 0 := by
  rintro ⟨c, e⟩
  have e2 : (1 : Int) = p * c := by omega
  have d : p ∣ 1 := ⟨c, e2⟩
  have := Int.le_of_dvd (by decide) d
  omega
theorem place_in {p : Int} {L M : List (Nat × Vc)} (h1 : 1 < p) (hL : Leads p L) (aL : Ahead p L) (hM : Leads p M) (aM : Ahead p M) (ndM : (M.map (·.1)).Nodup) (sub : ∀ x ∈ L, Lot p (rowsOf M) x.2) {x : Nat × Vc} (hx : x ∈ L) : ∃ y ∈ M, y.1 = x.1 := by
  refine Classical.byContradiction fun no => ?_
  have k := (lot_iff hM ndM).mp (sub x hx) x.1
  have z : Cg p (own x.2 M x.1) 0 := own_zero fun y hy => by
    rcases Nat.lt_trichotomy y.1 x.1 with l | l | l
    · exact .inl (aL x hx y.1 l)
    · exact absurd ⟨y, hy, l⟩ no
    · exact .inr (aM y hy x.1 l)
  exact one_zero h1 (((hL.self x hx).symm.trans k.symm).trans z)
/-- plain sets of one lot have the same rows at the same places -/
theorem plain_same {p : Int} {L M : List (Nat × Vc)} (h1 : 1 < p) (hL : Leads p L) (aL : Ahead p L) (ndL : (L.map (·.1)).Nodup) (hM : Leads p M) (aM : Ahead p M) (ndM : (M.map (·.1)).Nodup) (sub : ∀ x ∈ L, Lot p (rowsOf M) x.2) (sup : ∀ y ∈ M, Lot p (rowsOf L) y.2)
    {x y : Nat × Vc} (hx : x ∈ L) (hy : y ∈ M) (e : y.1 = x.1) : Eqv p x.2 y.2 := by
  have k := (lot_iff hM ndM).mp (sub x hx)
  have k2 := own_lead hM ndM hy
  refine fun i => ((k i).symm.trans ?_).trans (k2 i)
  have d : ∀ z ∈ M, Cg p (x.2 z.1 - y.2 z.1) 0 := fun z hz => by
    by_cases e2 : z.1 = x.1
    · have a := (hL.self x hx).sub (hM.self y hy)
      rw [e2]
      rw [e] at a
      exact a
    · obtain ⟨w, hw, ew⟩ := place_in h1 hM aM hL aL ndL sup hz
      have a := (hL.other x hx w hw fun q => e2 (by rw [← ew, q])).sub (hM.other y hy z hz fun q => e2 (by rw [← q, e]))
      rw [ew] at a
      exact a
  have o := own_none (u := fun j => x.2 j - y.2 j) d i
  have e3 : own (fun j => x.2 j - y.2 j) M i = own x.2 M i - own y.2 M i := by
    have z := own_comb (u := x.2) (v := y.2) (c := -1) M i
    have z2 : (fun j => x.2 j + -1 * y.2 j) = fun j => x.2 j - y.2 j := by
      funext j
      grind
    rw [z2] at z
    rw [z]
    grind
  have o2 : Cg p (own x.2 M i - own y.2 M i) 0 := by
    rw [← e3]
    exact o
  have a := o2.add (Cg.rfl' (a := own y.2 M i))
  have e4 : own x.2 M i - own y.2 M i + own y.2 M i = own x.2 M i := by omega
  rw [e4, Int.zero_add] at a
  exact a
/-! ### lists of numbers as such rows -/
def vec (us : List Int) : Vc := fun i => us.getD i 0
def vecs (L : List (Nat × List Int)) : List (Nat × Vc) := L.map fun x => (x.1, vec x.2)
def Rg (p : Int) (us : List Int) : Prop := ∀ u ∈ us, 0 ≤ u ∧ u < p
theorem vec_some {us : List Int} {i : Nat} {u : Int} (h : us[i]? = some u) : vec us i = u := by
  show us.getD i 0 = u
  rw [List.getD_eq_getElem?_getD, h]
  rfl
theorem vec_out {us : List Int} {i : Nat} (h : us.length ≤ i) : vec us i = 0 := by
  show us.getD i 0 = 0
  rw [List.getD_eq_getElem?_getD, List.getElem?_eq_none h]
  rfl
theorem Rg.vec {p : Int} {us : List Int} (p0 : 0 < p) (h : Rg p us) (i : Nat) : 0 ≤ vec us i ∧ vec us i < p := by
  by_cases hi : i < us.length
  · rw [vec_some (List.getElem?_eq_getElem hi)]
    exact h _ (List.getElem_mem hi)
  · rw [vec_out (by omega)]
    omega
theorem cg_eq {p a b : Int} (ha : 0 ≤ a ∧ a < p) (hb : 0 ≤ b ∧ b < p) (h : Cg p a b) : a = b := by
  obtain ⟨c, rfl⟩ := h
  have e : (b + p * c) % p = b % p := Int.add_mul_emod_self_left b p c
  rw [Int.emod_eq_of_lt ha.1 ha.2, Int.emod_eq_of_lt hb.1 hb.2] at e
  exact e
theorem list_eq {p : Int} {us vs : List Int} (p0 : 0 < p) (hl : us.length = vs.length) (hu : Rg p us) (hv : Rg p vs) (e : Eqv p (vec us) (vec vs)) : us = vs := by
  apply List.ext_getElem hl
  intro i h1 h2
  have a := cg_eq (hu.vec p0 i) (hv.vec p0 i) (e i)
  rw [vec_some (List.getElem?_eq_getElem h1), vec_some (List.getElem?_eq_getElem h2)] at a
  exact a
theorem zero_iff {p : Int} {us : List Int} (p0 : 0 < p) (hu : Rg p us) : (∀ x ∈ us, x = 0) ↔ Eqv p (vec us) fun _ => 0 := by
  constructor
  · intro h i
    by_cases hi : i < us.length
    · rw [vec_some (List.getElem?_eq_getElem hi), h _ (List.getElem_mem hi)]
      exact Cg.rfl'
    · rw [vec_out (by omega)]
      exact Cg.rfl'
  · intro h x hx
    obtain ⟨i, hi, rfl⟩ := List.mem_iff_getElem.mp hx
    have a := cg_eq (hu.vec p0 i) ⟨by decide, p0⟩ (h i)
    rw [vec_some (List.getElem?_eq_getElem hi)] at a
    exact a
def lessZ (p n : Int) (us vs : List Int) : List Int := List.zipWith (fun x y => (x - n * y) % p) us vs
def lessL (p : Int) (us : List Int) (n : Int) (vs : List Int) : List Int := if n = 0 then us else lessZ p n us vs
theorem less_len {p n : Int} {us vs : List Int} (h : us.length = vs.length) : (lessL p us n vs).length = us.length := by
  unfold lessL
  split
  · rfl
  · unfold lessZ
    rw [List.length_zipWith]
    omega
theorem less_rg {p n : Int} {us vs : List Int} (p0 : 0 < p) (h : Rg p us) : Rg p (lessL p us n vs) := by
  unfold lessL
  split
  · exact h
  · intro u hu
    unfold lessZ at hu
    obtain ⟨i, hi, rfl⟩ := List.mem_iff_getElem.mp hu
    rw [List.getElem_zipWith]
    exact ⟨Int.emod_nonneg _ (by omega), Int.emod_lt_of_pos _ p0⟩
theorem vec_less {p n : Int} {us vs : List Int} (h : us.length = vs.length) : Eqv p (vec (lessL p us n vs)) fun i => vec us i - n * vec vs i := by
  intro i
  show Cg p (vec (lessL p us n vs) i) (vec us i - n * vec vs i)
  unfold lessL
  split
  · rename_i e
    rw [e]
    exact ⟨0, by simp⟩
  · by_cases hi : i < us.length
    · have h2 : i < vs.length := by omega
      rw [vec_some (us := us) (List.getElem?_eq_getElem hi), vec_some (us := vs) (List.getElem?_eq_getElem h2)]
      have e : (lessZ p n us vs)[i]? = some ((us[i] - n * vs[i]) % p) := by
        unfold lessZ
        rw [List.getElem?_zipWith, List.getElem?_eq_getElem hi, List.getElem?_eq_getElem h2]
      rw [vec_some e]
      exact Cg.mod _
    · have e : (lessZ p n us vs).length ≤ i := by
        unfold lessZ
        rw [List.length_zipWith]
        omega
      rw [vec_out e, vec_out (us := us) (by omega), vec_out (us := vs) (by omega)]
      exact ⟨0, by simp⟩
def clearL (p : Int) (us : List Int) : List (Nat × List Int) → List Int
  | [] => us
  | x :: L => clearL p (lessL p us (us.getD x.1 0) x.2) L
theorem clear_snoc {p : Int} {x : Nat × List Int} : ∀ (L : List (Nat × List Int)) (us : List Int), clearL p us (L ++ [x]) = lessL p (clearL p us L) ((clearL p us L).getD x.1 0) x.2
  | [], _ => rfl
  | y :: L, us => clear_snoc L _
theorem clear_len {p : Int} {n : Nat} : ∀ (L : List (Nat × List Int)) {us : List Int}, (∀ x ∈ L, x.2.length = n) → us.length = n → (clearL p us L).length = n
  | [], _, _, h => h
  | x :: L, us, hL, h => clear_len L (fun y hy => hL y (List.mem_cons_of_mem _ hy)) (by rw [less_len (by rw [h, hL x (by simp)])]; exact h)
theorem clear_rg {p : Int} (p0 : 0 < p) : ∀ (L : List (Nat × List Int)) {us : List Int}, Rg p us → Rg p (clearL p us L)
  | [], _, h => h
  | _ :: L, _, h => clear_rg p0 L (less_rg p0 h)
theorem vec_clear {p : Int} {n : Nat} : ∀ (L : List (Nat × List Int)) {us : List Int}, (∀ x ∈ L, x.2.length = n) → us.length = n → Eqv p (vec (clearL p us L)) (clear (vec us) (vecs L))
  | [], _, _, _ => Eqv.refl
  | x :: L, us, hL, h => by
    have e : us.length = x.2.length := by rw [h, hL x (by simp)]
    refine (vec_clear L (fun y hy => hL y (List.mem_cons_of_mem _ hy)) (by rw [less_len e]; exact h)).trans ?_
    exact clear_eqv _ (vec_less e)
/-- the rows that a list of lists of numbers spans -/
def spn (fs : List (List Int)) : Vc → Prop := fun v => ∃ f ∈ fs, vec f = v
structure PL (p : Int) (n : Nat) (fs : List (List Int)) (L : List (Nat × List Int)) : Prop where
  len : ∀ x ∈ L, x.2.length = n
  rg : ∀ x ∈ L, Rg p x.2
  plc : ∀ x ∈ L, x.1 < n
  nd : (L.map (·.1)).Nodup
  leads : Leads p (vecs L)
  ahead : Ahead p (vecs L)
  lot : ∀ u, Lot p (rowsOf (vecs L)) u ↔ Lot p (spn fs) u
theorem vecs_places {L : List (Nat × List Int)} : (vecs L).map (·.1) = L.map (·.1) := by
  unfold vecs
  rw [List.map_map]
  rfl
theorem mem_vecs {L : List (Nat × List Int)} {y : Nat × Vc} : y ∈ vecs L ↔ ∃ x ∈ L, (x.1, vec x.2) = y := List.mem_map
theorem PL.ndv {p : Int} {n : Nat} {fs : List (List Int)} {L : List (Nat × List Int)} (h : PL p n fs L) : ((vecs L).map (·.1)).Nodup := by
  rw [vecs_places]
  exact h.nd
theorem PL.nil {p : Int} {n : Nat} : PL p n [] [] := by
  refine ⟨fun x hx => by simp at hx, fun x hx => by simp at hx, fun x hx => by simp at hx, by simp, ⟨fun x hx => by simp [vecs] at hx, fun x hx => by simp [vecs] at hx⟩, fun x hx => by simp [vecs] at hx, fun u => ?_⟩
  have e : (rowsOf (vecs [])) = spn [] := by
    funext v
    simp [rowsOf, vecs, spn]
  rw [e]
theorem Lot.iff {p : Int} {R S : Vc → Prop} (h1 : ∀ v, R v → Lot p S v) (h2 : ∀ v, S v → Lot p R v) (u : Vc) : Lot p R u ↔ Lot p S u := ⟨Lot.sub h1, Lot.sub h2⟩
theorem PL.zero {p : Int} {n : Nat} {fs : List (List Int)} {L : List (Nat × List Int)} (p0 : 0 < p) (h : PL p n fs L) {f : List Int} (hl : f.length = n) (hr : Rg p f) : (∀ x ∈ clearL p f L, x = 0) ↔ Lot p (spn fs) (vec f) := by
  rw [zero_iff p0 (clear_rg p0 L hr), ← h.lot, lot_left h.leads h.ndv]
  have a := vec_clear (p := p) L h.len hl
  have b := clear_left (u := vec f) h.leads h.ndv
  exact ⟨fun k => (b.symm.trans a.symm).trans k, fun k => (a.trans b).trans k⟩
theorem spn_snoc {fs : List (List Int)} {f : List Int} {v : Vc} : spn (fs ++ [f]) v ↔ spn fs v ∨ v = vec f := by
  constructor
  · rintro ⟨g, hg, rfl⟩
    rcases List.mem_append.mp hg with hg | hg
    · exact .inl ⟨g, hg, rfl⟩
    · rw [List.mem_singleton.mp hg]
      exact .inr rfl
  · rintro (⟨g, hg, rfl⟩ | rfl)
    · exact ⟨g, by simp [hg], rfl⟩
    · exact ⟨f, by simp, rfl⟩
theorem PL.skip {p : Int} {n : Nat} {fs : List (List Int)} {L : List (Nat × List Int)} (p0 : 0 < p) (h : PL p n fs L) {f : List Int} (hl : f.length = n) (hr : Rg p f) (z : ∀ x ∈ clearL p f L, x = 0) : PL p n (fs ++ [f]) L := by
  refine ⟨h.len, h.rg, h.plc, h.nd, h.leads, h.ahead, fun u => (h.lot u).trans ?_⟩
  have k := (h.zero p0 hl hr).mp z
  refine Lot.iff (fun v hv => Lot.of (spn_snoc.mpr (.inl hv))) (fun v hv => ?_) u
  rcases spn_snoc.mp hv with hv | rfl
  · exact Lot.of hv
  · exact k
def moreL (p : Int) (q : Nat) (l : List Int) (L : List (Nat × List Int)) : List (Nat × List Int) := L.map fun x => (x.1, lessL p x.2 (x.2.getD q 0) l)
def scaled (p c : Int) (us : List Int) : List Int := us.map fun x => c * x % p
theorem vec_scaled {p c : Int} {us : List Int} : Eqv p (vec (scaled p c us)) fun i => c * vec us i := by
  intro i
  show Cg p (vec (scaled p c us) i) (c * vec us i)
  by_cases hi : i < us.length
  · have e : (scaled p c us)[i]? = some (c * us[i] % p) := by
      unfold scaled
      rw [List.getElem?_map, List.getElem?_eq_getElem hi]
      rfl
    rw [vec_some e, vec_some (List.getElem?_eq_getElem hi)]
    exact Cg.mod _
  · rw [vec_out (us := us) (by omega), vec_out (by unfold scaled; rw [List.length_map]; omega)]
    exact ⟨0, by simp⟩
theorem scaled_rg {p c : Int} {us : List Int} (p0 : 0 < p) : Rg p (scaled p c us) := by
  intro u hu
  obtain ⟨x, _, rfl⟩ := List.mem_map.mp hu
  exact ⟨Int.emod_nonneg _ (by omega), Int.emod_lt_of_pos _ p0⟩
/-- leads that are alike round p -/
theorem Leads.eqv {p : Int} {L M : List (Nat × Vc)} (h : Leads p L) (e : ∀ y ∈ M, ∃ x ∈ L, x.1 = y.1 ∧ Eqv p x.2 y.2) : Leads p M := by
  refine ⟨fun y hy => ?_, fun y hy z hz ne => ?_⟩
  · obtain ⟨x, hx, e1, e2⟩ := e y hy
    have a := h.self x hx
    rw [← e1]
    exact (e2 x.1).symm.trans a
  · obtain ⟨x, hx, e1, e2⟩ := e y hy
    obtain ⟨w, hw, e3, _⟩ := e z hz
    rw [← e1, ← e3] at ne
    have a := h.other x hx w hw ne
    rw [← e3]
    exact (e2 w.1).symm.trans a
theorem rows_eqv {p : Int} {L M : List (Nat × Vc)} (e : ∀ y ∈ M, ∃ x ∈ L, x.1 = y.1 ∧ Eqv p x.2 y.2) {v : Vc} (hv : rowsOf M v) : Lot p (rowsOf L) v := by
  obtain ⟨y, hy, rfl⟩ := hv
  obtain ⟨x, hx, _, e2⟩ := e y hy
  exact .eqv (Lot.of ⟨x, hx, rfl⟩) e2
theorem PL.step {p : Int} {n : Nat} {fs : List (List Int)} {L : List (Nat × List Int)} (p1 : 1 < p) (h : PL p n fs L) {f : List Int} (hl : f.length = n) (hr : Rg p f) {q : Nat} {u c : Int} (hu : (clearL p f L)[q]? = some u) (u0 : u ≠ 0) (ah : ∀ j, j < q → (clearL p f L)[j]? = some 0) (hc : c * u % p = 1) :
    PL p n (fs ++ [f]) (moreL p q (scaled p c (clearL p f L)) L ++ [(q, scaled p c (clearL p f L))]) := by
  have p0 : 0 < p := by omega
  have cl := clear_len (p := p) L h.len hl
  have cr := clear_rg p0 L hr
  have hq : q < n := by
    have := (List.getElem?_eq_some_iff.mp hu).1
    omega
  have sl : (scaled p c (clearL p f L)).length = n := by
    unfold scaled
    rw [List.length_map]
    exact cl
  have el : Eqv p (vec (clearL p f L)) (left (vec f) (vecs L)) := (vec_clear L h.len hl).trans (clear_left h.leads h.ndv)
  have lz : Eqv p (vec (scaled p c (clearL p f L))) fun i => c * left (vec f) (vecs L) i := fun i => (vec_scaled i).trans (Cg.rfl'.mul (el i))
  have ur : 0 ≤ u ∧ u < p := cr u (List.mem_of_getElem? hu)
  have vu : vec (clearL p f L) q = u := vec_some hu
  have h1 : Cg p (vec (scaled p c (clearL p f L)) q) 1 := by
    have a : Cg p (vec (scaled p c (clearL p f L)) q) (c * vec (clearL p f L) q) := vec_scaled q
    rw [vu] at a
    refine a.trans ?_
    have b := Cg.mod (p := p) (c * u)
    rw [hc] at b
    exact b.symm
  have h0 : ∀ x ∈ vecs L, Cg p (vec (scaled p c (clearL p f L)) x.1) 0 := fun x hx => by
    have a := (lz x.1).trans (Cg.rfl'.mul (left_at h.leads h.ndv hx))
    rw [Int.mul_zero] at a
    exact a
  have hne : ∀ x ∈ vecs L, x.1 ≠ q := fun x hx e => by
    have a := h0 x hx
    rw [e] at a
    exact one_zero p1 (h1.symm.trans a)
  have ld := leads_more h.leads h.ndv h1 h0 hne
  have al : ∀ y ∈ vecs (moreL p q (scaled p c (clearL p f L)) L ++ [(q, scaled p c (clearL p f L))]), ∃ x ∈ more q (vec (scaled p c (clearL p f L))) (vecs L) ++ [(q, vec (scaled p c (clearL p f L)))], x.1 = y.1 ∧ Eqv p x.2 y.2 := by
    intro y hy
    obtain ⟨z, hz, rfl⟩ := mem_vecs.mp hy
    rcases List.mem_append.mp hz with hz | hz
    · obtain ⟨x, hx, rfl⟩ := List.mem_map.mp hz
      refine ⟨(x.1, fun i => vec x.2 i - vec x.2 q * vec (scaled p c (clearL p f L)) i), List.mem_append.mpr (.inl (List.mem_map.mpr ⟨(x.1, vec x.2), mem_vecs.mpr ⟨x, hx, rfl⟩, rfl⟩)), rfl, ?_⟩
      exact (vec_less (by rw [sl, h.len x hx])).symm
    · rw [List.mem_singleton.mp hz]
      exact ⟨_, List.mem_append.mpr (.inr (List.mem_singleton.mpr rfl)), rfl, Eqv.refl⟩
  have al2 : ∀ x ∈ more q (vec (scaled p c (clearL p f L))) (vecs L) ++ [(q, vec (scaled p c (clearL p f L)))], ∃ y ∈ vecs (moreL p q (scaled p c (clearL p f L)) L ++ [(q, scaled p c (clearL p f L))]), y.1 = x.1 ∧ Eqv p y.2 x.2 := by
    intro x hx
    rcases List.mem_append.mp hx with hx | hx
    · obtain ⟨z, hz, rfl⟩ := List.mem_map.mp hx
      obtain ⟨y, hy, rfl⟩ := mem_vecs.mp hz
      refine ⟨_, mem_vecs.mpr ⟨(y.1, lessL p y.2 (y.2.getD q 0) (scaled p c (clearL p f L))), List.mem_append.mpr (.inl (List.mem_map.mpr ⟨y, hy, rfl⟩)), rfl⟩, rfl, ?_⟩
      exact vec_less (by rw [sl, h.len y hy])
    · rw [List.mem_singleton.mp hx]
      exact ⟨_, mem_vecs.mpr ⟨_, List.mem_append.mpr (.inr (List.mem_singleton.mpr rfl)), rfl⟩, rfl, Eqv.refl⟩
  refine ⟨fun x hx => ?_, fun x hx => ?_, fun x hx => ?_, ?_, ld.eqv al, ?_, fun v => ?_⟩
  · rcases List.mem_append.mp hx with hx | hx
    · obtain ⟨y, hy, rfl⟩ := List.mem_map.mp hx
      show (lessL p y.2 (y.2.getD q 0) (scaled p c (clearL p f L))).length = n
      rw [less_len (by rw [sl, h.len y hy])]
      exact h.len y hy
    · rw [List.mem_singleton.mp hx]
      exact sl
  · rcases List.mem_append.mp hx with hx | hx
    · obtain ⟨y, hy, rfl⟩ := List.mem_map.mp hx
      exact less_rg p0 (h.rg y hy)
    · rw [List.mem_singleton.mp hx]
      exact scaled_rg p0
  · rcases List.mem_append.mp hx with hx | hx
    · obtain ⟨y, hy, rfl⟩ := List.mem_map.mp hx
      exact h.plc y hy
    · rw [List.mem_singleton.mp hx]
      exact hq
  · rw [List.map_append]
    have e : (moreL p q (scaled p c (clearL p f L)) L).map (·.1) = L.map (·.1) := by
      unfold moreL
      rw [List.map_map]
      rfl
    rw [e]
    refine List.nodup_append.mpr ⟨h.nd, by simp, fun a ha b hb => ?_⟩
    obtain ⟨x, hx, rfl⟩ := List.mem_map.mp ha
    have hb' : b = q := by simpa using hb
    rw [hb']
    exact hne (x.1, vec x.2) (mem_vecs.mpr ⟨x, hx, rfl⟩)
  · intro y hy i hi
    obtain ⟨x, hx, e1, e2⟩ := al y hy
    refine (e2 i).symm.trans ?_
    rw [← e1] at hi
    have la : ∀ j, j < q → Cg p (vec (scaled p c (clearL p f L)) j) 0 := fun j hj => by
      have a : Cg p (vec (scaled p c (clearL p f L)) j) (c * vec (clearL p f L) j) := vec_scaled j
      rw [vec_some (ah j hj), Int.mul_zero] at a
      exact a
    rcases List.mem_append.mp hx with hx | hx
    · obtain ⟨z, hz, rfl⟩ := List.mem_map.mp hx
      show Cg p (z.2 i - z.2 q * vec (scaled p c (clearL p f L)) i) 0
      have hi : i < z.1 := hi
      have a := h.ahead z hz i hi
      have b : Cg p (z.2 q * vec (scaled p c (clearL p f L)) i) 0 := by
        by_cases hh : q < z.1
        · have b := (h.ahead z hz q hh).mul (Cg.rfl' (a := vec (scaled p c (clearL p f L)) i))
          rw [Int.zero_mul] at b
          exact b
        · have b := (Cg.rfl' (a := z.2 q)).mul (la i (by omega))
          rw [Int.mul_zero] at b
          exact b
      exact a.sub b
    · rw [List.mem_singleton.mp hx] at hi ⊢
      exact la i hi
  · have k := lot_more (q := q) (f := vec f) (L := vecs L) (c := c) (d := u) lz (by
      have b := Cg.mod (p := p) (c * u)
      rw [hc] at b
      rw [Int.mul_comm]
      exact b.symm) (u := v)
    have k1 : Lot p (rowsOf (vecs (moreL p q (scaled p c (clearL p f L)) L ++ [(q, scaled p c (clearL p f L))]))) v ↔ Lot p (rowsOf (more q (vec (scaled p c (clearL p f L))) (vecs L) ++ [(q, vec (scaled p c (clearL p f L)))])) v := Lot.iff (fun w hw => rows_eqv al hw) (fun w hw => rows_eqv al2 hw) v
    refine (k1.trans k).trans (Lot.iff (fun w hw => ?_) (fun w hw => ?_) v)
    · rcases hw with hw | rfl
      · exact Lot.sub (fun x hx => Lot.of (spn_snoc.mpr (.inl hx))) ((h.lot w).mp (Lot.of hw))
      · exact Lot.of (spn_snoc.mpr (.inr rfl))
    · rcases spn_snoc.mp hw with hw | rfl
      · exact Lot.sub (fun x hx => Lot.of (.inl hx)) ((h.lot w).mpr (Lot.of hw))
      · exact Lot.of (.inr rfl)
theorem PL.perm {p : Int} {n : Nat} {fs : List (List Int)} {L M : List (Nat × List Int)} (h : PL p n fs L) (e : L.Perm M) : PL p n fs M := by
  have ev : (vecs L).Perm (vecs M) := e.map _
  refine ⟨fun x hx => h.len x (e.mem_iff.mpr hx), fun x hx => h.rg x (e.mem_iff.mpr hx), fun x hx => h.plc x (e.mem_iff.mpr hx), (e.map (·.1)).nodup_iff.mp h.nd, ⟨fun x hx => h.leads.self x (ev.mem_iff.mpr hx), fun x hx y hy => h.leads.other x (ev.mem_iff.mpr hx) y (ev.mem_iff.mpr hy)⟩, fun x hx => h.ahead x (ev.mem_iff.mpr hx), fun u => ?_⟩
  rw [← h.lot]
  have e2 : rowsOf (vecs M) = rowsOf (vecs L) := by
    funext v
    apply propext
    exact ⟨fun ⟨x, hx, e⟩ => ⟨x, ev.mem_iff.mpr hx, e⟩, fun ⟨x, hx, e⟩ => ⟨x, ev.mem_iff.mp hx, e⟩⟩
  rw [e2]
/-- rising places -/
def Up (L : List (Nat × List Int)) : Prop := (L.map (·.1)).Pairwise (· < ·)
theorem up_ext : ∀ {xs ys : List Nat}, xs.Pairwise (· < ·) → ys.Pairwise (· < ·) → (∀ a, a ∈ xs ↔ a ∈ ys) → xs = ys
  | [], [], _, _, _ => rfl
  | [], y :: ys, _, _, h => by have := (h y).mpr (by simp); simp at this
  | x :: xs, [], _, _, h => by have := (h x).mp (by simp); simp at this
  | x :: xs, y :: ys, hx, hy, h => by
    have hx' := List.pairwise_cons.mp hx
    have hy' := List.pairwise_cons.mp hy
    have e : x = y := by
      rcases List.mem_cons.mp ((h x).mp (by simp)) with e | e
      · exact e
      · rcases List.mem_cons.mp ((h y).mpr (by simp)) with e2 | e2
        · exact e2.symm
        · have := hx'.1 y e2
          have := hy'.1 x e
          omega
    subst e
    rw [up_ext hx'.2 hy'.2 fun a => ?_]
    constructor
    · intro ha
      rcases List.mem_cons.mp ((h a).mp (List.mem_cons_of_mem _ ha)) with e | e
      · have := hx'.1 a ha
        omega
      · exact e
    · intro ha
      rcases List.mem_cons.mp ((h a).mpr (List.mem_cons_of_mem _ ha)) with e | e
      · have := hy'.1 a ha
        omega
      · exact e
/-- plain sets of one lot are one -/
theorem PL.one {p : Int} {n : Nat} {fs gs : List (List Int)} {L M : List (Nat × List Int)} (p1 : 1 < p) (hL : PL p n fs L) (hM : PL p n gs M) (uL : Up L) (uM : Up M) (e : ∀ u, Lot p (spn fs) u ↔ Lot p (spn gs) u) : L = M := by
  have p0 : 0 < p := by omega
  have sub : ∀ x ∈ vecs L, Lot p (rowsOf (vecs M)) x.2 := fun x hx => (hM.lot _).mpr ((e _).mp ((hL.lot _).mp (Lot.of ⟨x, hx, rfl⟩)))
  have sup : ∀ x ∈ vecs M, Lot p (rowsOf (vecs L)) x.2 := fun x hx => (hL.lot _).mpr ((e _).mpr ((hM.lot _).mp (Lot.of ⟨x, hx, rfl⟩)))
  have pl : L.map (·.1) = M.map (·.1) := by
    apply up_ext uL uM
    intro a
    rw [← vecs_places, ← vecs_places (L := M)]
    constructor
    · intro ha
      obtain ⟨x, hx, rfl⟩ := List.mem_map.mp ha
      obtain ⟨y, hy, ey⟩ := place_in p1 hL.leads hL.ahead hM.leads hM.ahead hM.ndv sub hx
      exact List.mem_map.mpr ⟨y, hy, ey⟩
    · intro ha
      obtain ⟨x, hx, rfl⟩ := List.mem_map.mp ha
      obtain ⟨y, hy, ey⟩ := place_in p1 hM.leads hM.ahead hL.leads hL.ahead hL.ndv sup hx
      exact List.mem_map.mpr ⟨y, hy, ey⟩
  have ll : L.length = M.length := by
    have := congrArg List.length pl
    simpa using this
  apply List.ext_getElem ll
  intro i h1 h2
  have ei : (L[i]).1 = (M[i]).1 := by
    have a : (L.map (·.1))[i]? = (M.map (·.1))[i]? := by rw [pl]
    rw [List.getElem?_map, List.getElem?_map, List.getElem?_eq_getElem h1, List.getElem?_eq_getElem h2] at a
    exact Option.some.inj a
  have m1 := List.getElem_mem h1
  have m2 := List.getElem_mem h2
  have k := plain_same p1 hL.leads hL.ahead hL.ndv hM.leads hM.ahead hM.ndv sub sup (mem_vecs.mpr ⟨_, m1, rfl⟩) (mem_vecs.mpr ⟨_, m2, rfl⟩) ei.symm
  have e2 : (L[i]).2 = (M[i]).2 := list_eq p0 (by rw [hL.len _ m1, hM.len _ m2]) (hL.rg _ m1) (hM.rg _ m2) k
  exact Prod.ext ei e2
/-! ### rows of pairs -/
def flatR (r : List (Int × Int)) : List Int := r.flatMap fun u => [u.1, u.2]
theorem flat_cons (u : Int × Int) (r : List (Int × Int)) : flatR (u :: r) = u.1 :: u.2 :: flatR r := rfl
theorem flat_len : ∀ r : List (Int × Int), (flatR r).length = 2 * r.length
  | [] => rfl
  | u :: r => by
    rw [flat_cons, List.length_cons, List.length_cons, flat_len r, List.length_cons]
    omega
theorem flat_snoc (r : List (Int × Int)) (u : Int × Int) : flatR (r ++ [u]) = flatR r ++ [u.1, u.2] := by
  unfold flatR
  rw [List.flatMap_append]
  rfl
theorem flat_inj : ∀ {r s : List (Int × Int)}, flatR r = flatR s → r = s
  | [], [], _ => rfl
  | [], _ :: _, h => by simp [flatR] at h
  | _ :: _, [], h => by simp [flatR] at h
  | u :: r, v :: s, h => by
    rw [flat_cons, flat_cons] at h
    obtain ⟨h1, h⟩ := List.cons.inj h
    obtain ⟨h2, h⟩ := List.cons.inj h
    rw [flat_inj h, Prod.ext h1 h2]
theorem vec_zero {a : Int} {us : List Int} : vec (a :: us) 0 = a := rfl
theorem vec_succ {a : Int} {us : List Int} {i : Nat} : vec (a :: us) (i + 1) = vec us i := by
  show (a :: us).getD (i + 1) 0 = us.getD i 0
  rw [List.getD_eq_getElem?_getD, List.getD_eq_getElem?_getD]
  rfl
def addP (p : Int) (r s : List (Int × Int)) : List (Int × Int) := List.zipWith (fun u v => ((u.1 + v.1) % p, (u.2 + v.2) % p)) r s
def timP (p n : Int) (r : List (Int × Int)) : List (Int × Int) := r.map fun u => (n * u.1 % p, n * u.2 % p)
theorem vec_addP {p : Int} : ∀ {r s : List (Int × Int)}, r.length = s.length → Eqv p (vec (flatR (addP p r s))) fun i => vec (flatR r) i + vec (flatR s) i
  | [], [], _ => fun i => ⟨0, by simp [addP, flatR, vec]⟩
  | [], _ :: _, h => by simp at h
  | _ :: _, [], h => by simp at h
  | u :: r, v :: s, h => fun i => by
    have e : addP p (u :: r) (v :: s) = ((u.1 + v.1) % p, (u.2 + v.2) % p) :: addP p r s := rfl
    rw [e, flat_cons]
    show Cg p (vec ((u.1 + v.1) % p :: (u.2 + v.2) % p :: flatR (addP p r s)) i) (vec (flatR (u :: r)) i + vec (flatR (v :: s)) i)
    rw [flat_cons, flat_cons]
    match i with
    | 0 => exact Cg.mod _
    | 1 => exact Cg.mod _
    | i + 2 =>
      rw [vec_succ, vec_succ, vec_succ, vec_succ, vec_succ, vec_succ]
      exact vec_addP (by simpa using h) i
theorem vec_timP {p n : Int} : ∀ {r : List (Int × Int)}, Eqv p (vec (flatR (timP p n r))) fun i => n * vec (flatR r) i
  | [] => fun i => ⟨0, by simp [timP, flatR, vec]⟩
  | u :: r => fun i => by
    have e : timP p n (u :: r) = (n * u.1 % p, n * u.2 % p) :: timP p n r := rfl
    rw [e, flat_cons]
    show Cg p (vec (n * u.1 % p :: n * u.2 % p :: flatR (timP p n r)) i) (n * vec (flatR (u :: r)) i)
    rw [flat_cons]
    match i with
    | 0 => exact Cg.mod _
    | 1 => exact Cg.mod _
    | i + 2 =>
      rw [vec_succ, vec_succ, vec_succ, vec_succ]
      exact vec_timP i
theorem vec_noP {i : Nat} : ∀ n : Nat, vec (flatR (List.replicate n ((0 : Int), (0 : Int)))) i = 0
  | 0 => rfl
  | n + 1 => by
    rw [List.replicate_succ, flat_cons]
    match i with
    | 0 => rfl
    | 1 => rfl
    | i + 2 =>
      rw [vec_succ, vec_succ]
      exact vec_noP n
theorem add_lenP {p : Int} {r s : List (Int × Int)} (h : r.length = s.length) : (addP p r s).length = r.length := by
  unfold addP
  rw [List.length_zipWith]
  omega
theorem tim_lenP {p n : Int} {r : List (Int × Int)} : (timP p n r).length = r.length := by
  unfold timP
  rw [List.length_map]
/-- sums of multiples of rows -/
def sumP (p : Int) (acc : List (Int × Int)) : List (Int × List (Int × Int)) → List (Int × Int)
  | [] => acc
  | x :: l => sumP p (addP p acc (timP p x.1 x.2)) l
theorem sum_snoc {p : Int} {x : Int × List (Int × Int)} : ∀ (l : List (Int × List (Int × Int))) (acc : List (Int × Int)), sumP p acc (l ++ [x]) = addP p (sumP p acc l) (timP p x.1 x.2)
  | [], _ => rfl
  | _ :: l, _ => sum_snoc l _
theorem sum_lenP {p : Int} {n : Nat} : ∀ (l : List (Int × List (Int × Int))) {acc : List (Int × Int)}, (∀ x ∈ l, x.2.length = n) → acc.length = n → (sumP p acc l).length = n
  | [], _, _, h => h
  | x :: l, acc, hl, h => sum_lenP l (fun y hy => hl y (List.mem_cons_of_mem _ hy)) (by rw [add_lenP (by rw [tim_lenP, h, hl x (by simp)])]; exact h)
def combV : List (Int × Vc) → Vc
  | [] => fun _ => 0
  | x :: l => fun i => x.1 * x.2 i + combV l i
def pairV (l : List (Int × List (Int × Int))) : List (Int × Vc) := l.map fun x => (x.1, vec (flatR x.2))
theorem vec_sumP {p : Int} {n : Nat} : ∀ (l : List (Int × List (Int × Int))) {acc : List (Int × Int)}, (∀ x ∈ l, x.2.length = n) → acc.length = n → Eqv p (vec (flatR (sumP p acc l))) fun i => vec (flatR acc) i + combV (pairV l) i
  | [], _, _, _ => fun i => ⟨0, by simp [sumP, pairV, combV]⟩
  | x :: l, acc, hl, h => fun i => by
    have e : acc.length = (timP p x.1 x.2).length := by rw [tim_lenP, h, hl x (by simp)]
    have a := vec_sumP (p := p) l (acc := addP p acc (timP p x.1 x.2)) (fun y hy => hl y (List.mem_cons_of_mem _ hy)) (by rw [add_lenP e]; exact h) i
    refine a.trans ?_
    have b := (vec_addP (p := p) e i).trans (Cg.rfl'.add (vec_timP i))
    have c := Cg.add b (Cg.rfl' (a := combV (pairV l) i))
    have d : vec (flatR acc) i + x.1 * vec (flatR x.2) i + combV (pairV l) i = vec (flatR acc) i + combV (pairV (x :: l)) i := by
      show _ = vec (flatR acc) i + (x.1 * vec (flatR x.2) i + combV (pairV l) i)
      omega
    rw [d] at c
    exact c
theorem comb_lot {p : Int} {R : Vc → Prop} : ∀ {l : List (Int × Vc)}, (∀ x ∈ l, R x.2) → Lot p R (combV l)
  | [], _ => .zero
  | x :: l, h => .eqv (Lot.comb x.1 (comb_lot (l := l) fun y hy => h y (List.mem_cons_of_mem _ hy)) (Lot.of (h x (by simp)))) fun i => ⟨0, by simp only [combV]; grind⟩
/-- the sum of rows is in their lot -/
theorem sum_lot {p : Int} {n : Nat} {l : List (Int × List (Int × Int))} {rs : List (List (Int × Int))} (hl : ∀ x ∈ l, x.2.length = n) (hm : ∀ x ∈ l, x.2 ∈ rs) : Lot p (spn (rs.map flatR)) (vec (flatR (sumP p (List.replicate n ((0 : Int), (0 : Int))) l))) := by
  have a : Lot p (spn (rs.map flatR)) (combV (pairV l)) := comb_lot fun y hy => by
    obtain ⟨x, hx, rfl⟩ := List.mem_map.mp hy
    exact ⟨flatR x.2, List.mem_map.mpr ⟨x.2, hm x hx, rfl⟩, rfl⟩
  refine .eqv a fun i => Cg.symm ?_
  have b := vec_sumP (p := p) l (acc := List.replicate n ((0 : Int), (0 : Int))) hl (by simp) i
  have e : vec (flatR (List.replicate n ((0 : Int), (0 : Int)))) i + combV (pairV l) i = combV (pairV l) i := by
    rw [vec_noP]
    omega
  dsimp only at b
  rw [e] at b
  exact b
theorem own_comb_eq {u : Vc} : ∀ {L : List (Nat × List Int)} {i : Nat}, own u (vecs L) i = combV (L.map fun x => (u x.1, vec x.2)) i
  | [], _ => rfl
  | x :: L, i => by
    show u x.1 * vec x.2 i + own u (vecs L) i = u x.1 * vec x.2 i + combV (L.map fun x => (u x.1, vec x.2)) i
    rw [own_comb_eq (L := L)]
/-- a row is the sum by its own numbers at the places of a plain set just where it is in the lot -/
theorem is_sum_iff {p : Int} {n : Nat} {rs : List (List (Int × Int))} {qs : List Nat} {r : List (Int × Int)} (p0 : 0 < p) (hl : ∀ x ∈ rs, x.length = n) (hq : qs.length = rs.length) (pl : PL p (2 * n) (rs.map flatR) (qs.zip (rs.map flatR))) (hr : r.length = n) (rg : Rg p (flatR r)) (srg : Rg p (flatR (sumP p (List.replicate n ((0 : Int), (0 : Int))) ((qs.map (vec (flatR r))).zip rs)))) :
    sumP p (List.replicate n ((0 : Int), (0 : Int))) ((qs.map (vec (flatR r))).zip rs) = r ↔ Lot p (spn (rs.map flatR)) (vec (flatR r)) := by
  have mem : ∀ x ∈ (qs.map (vec (flatR r))).zip rs, x.2.length = n := fun x hx => hl _ (List.of_mem_zip hx).2
  have key : Eqv p (vec (flatR (sumP p (List.replicate n ((0 : Int), (0 : Int))) ((qs.map (vec (flatR r))).zip rs)))) (own (vec (flatR r)) (vecs (qs.zip (rs.map flatR)))) := fun i => by
    have b := vec_sumP (p := p) ((qs.map (vec (flatR r))).zip rs) (acc := List.replicate n ((0 : Int), (0 : Int))) mem (by simp) i
    have e : vec (flatR (List.replicate n ((0 : Int), (0 : Int)))) i + combV (pairV ((qs.map (vec (flatR r))).zip rs)) i = own (vec (flatR r)) (vecs (qs.zip (rs.map flatR))) i := by
      rw [vec_noP, own_comb_eq]
      have e2 : pairV ((qs.map (vec (flatR r))).zip rs) = (qs.zip (rs.map flatR)).map fun x => (vec (flatR r) x.1, vec x.2) := by
        unfold pairV
        apply List.ext_getElem?
        intro j
        simp only [List.getElem?_map, List.getElem?_zip_eq_some, List.zip, List.getElem?_zipWith]
        cases qs[j]? with
        | none => rfl
        | some a =>
          cases rs[j]? with
          | none => rfl
          | some b => rfl
      rw [e2]
      omega
    dsimp only at b
    rw [e] at b
    exact b
  rw [← pl.lot, lot_iff pl.leads pl.ndv]
  constructor
  · intro h
    rw [h] at key
    exact key.symm
  · intro h
    apply flat_inj
    exact list_eq p0 (by rw [flat_len, flat_len, sum_lenP _ mem (by simp), hr]) srg rg (key.trans h)
/-! ### rows stirred -/
theorem lot_set_add {p c : Int} {fs : List (List Int)} {i j : Nat} {f g h : List Int} (ne : i ≠ j) (hi : fs[i]? = some f) (hj : fs[j]? = some g) (e : Eqv p (vec h) fun k => vec f k + c * vec g k) (u : Vc) : Lot p (spn (fs.set i h)) u ↔ Lot p (spn fs) u := by
  have il : i < fs.length := (List.getElem?_eq_some_iff.mp hi).1
  have gin : g ∈ fs.set i h := List.mem_of_getElem? (i := j) (by rw [List.getElem?_set_ne ne]; exact hj)
  have hin : h ∈ fs.set i h := List.mem_set il h
  refine Lot.iff (fun v hv => ?_) (fun v hv => ?_) u
  · obtain ⟨k, hk, rfl⟩ := hv
    rcases List.mem_or_eq_of_mem_set hk with m | m
    · exact Lot.of ⟨k, m, rfl⟩
    · rw [m]
      exact .eqv (Lot.comb c (Lot.of ⟨f, List.mem_of_getElem? hi, rfl⟩) (Lot.of ⟨g, List.mem_of_getElem? hj, rfl⟩)) e.symm
  · obtain ⟨k, hk, rfl⟩ := hv
    obtain ⟨m, hm, rfl⟩ := List.mem_iff_getElem.mp hk
    by_cases e2 : m = i
    · subst e2
      have z : fs[m] = f := by
        rw [List.getElem?_eq_getElem hm] at hi
        exact Option.some.inj hi
      rw [z]
      refine .eqv (Lot.comb (-c) (Lot.of ⟨h, hin, rfl⟩) (Lot.of ⟨g, gin, rfl⟩)) fun k => ?_
      have a := (e k).add (Cg.rfl' (a := -c * vec g k))
      have b : vec f k + c * vec g k + -c * vec g k = vec f k := by grind
      rw [b] at a
      exact a
    · exact Lot.of ⟨fs[m], List.mem_of_getElem? (i := m) (by rw [List.getElem?_set_ne (fun z => e2 z.symm), List.getElem?_eq_getElem hm]), rfl⟩
theorem lot_set_mul {p c d : Int} {fs : List (List Int)} {i : Nat} {f h : List Int} (hi : fs[i]? = some f) (e : Eqv p (vec h) fun k => c * vec f k) (hd : Cg p (d * c) 1) (u : Vc) : Lot p (spn (fs.set i h)) u ↔ Lot p (spn fs) u := by
  have il : i < fs.length := (List.getElem?_eq_some_iff.mp hi).1
  have hin : h ∈ fs.set i h := List.mem_set il h
  refine Lot.iff (fun v hv => ?_) (fun v hv => ?_) u
  · obtain ⟨k, hk, rfl⟩ := hv
    rcases List.mem_or_eq_of_mem_set hk with m | m
    · exact Lot.of ⟨k, m, rfl⟩
    · rw [m]
      refine .eqv (Lot.comb c .zero (Lot.of ⟨f, List.mem_of_getElem? hi, rfl⟩)) fun k => ?_
      have z : (0 : Int) + c * vec f k = c * vec f k := by omega
      show Cg p (0 + c * vec f k) _
      rw [z]
      exact (e k).symm
  · obtain ⟨k, hk, rfl⟩ := hv
    obtain ⟨m, hm, rfl⟩ := List.mem_iff_getElem.mp hk
    by_cases e2 : m = i
    · subst e2
      have z : fs[m] = f := by
        rw [List.getElem?_eq_getElem hm] at hi
        exact Option.some.inj hi
      rw [z]
      refine .eqv (Lot.comb d .zero (Lot.of ⟨h, hin, rfl⟩)) fun k => ?_
      have a := (Cg.rfl' (p := p) (a := d)).mul (e k)
      have b := hd.mul (Cg.rfl' (a := vec f k))
      have z1 : d * (c * vec f k) = d * c * vec f k := by grind
      have z2 : (1 : Int) * vec f k = vec f k := by omega
      have z3 : (0 : Int) + d * vec h k = d * vec h k := by omega
      show Cg p (0 + d * vec h k) _
      rw [z3]
      have a' : Cg p (d * vec h k) (d * (c * vec f k)) := a
      rw [z1] at a'
      rw [z2] at b
      exact a'.trans b
    · exact Lot.of ⟨fs[m], List.mem_of_getElem? (i := m) (by rw [List.getElem?_set_ne (fun z => e2 z.symm), List.getElem?_eq_getElem hm]), rfl⟩
/-- a row of the lot put in anywhere -/
theorem lot_more_rows {p : Int} {fs gs : List (List Int)} {f : List Int} (hf : Lot p (spn fs) (vec f)) (hg : ∀ g, g ∈ gs ↔ g ∈ fs ∨ g = f) (u : Vc) : Lot p (spn gs) u ↔ Lot p (spn fs) u := by
  refine Lot.iff (fun v hv => ?_) (fun v hv => ?_) u
  · obtain ⟨k, hk, rfl⟩ := hv
    rcases (hg k).mp hk with m | m
    · exact Lot.of ⟨k, m, rfl⟩
    · rw [m]
      exact hf
  · obtain ⟨k, hk, rfl⟩ := hv
    exact Lot.of ⟨k, (hg k).mpr (.inl hk), rfl⟩
/-! ### a plain set that is drawn -/
structure Pln (p : Int) (n : Nat) (qs : List Nat) (fs : List (List Int)) : Prop where
  len : fs.length = qs.length
  up : qs.Pairwise (· < ·)
  lt : ∀ q ∈ qs, q < n
  row : ∀ (i q : Nat) (f : List Int), qs[i]? = some q → fs[i]? = some f → f.length = n ∧ Rg p f ∧ (∀ j, j < q → vec f j = 0) ∧ vec f q = 1 ∧ ∀ o ∈ qs, q < o → vec f o = 0
theorem mem_zip_get {qs : List Nat} {fs : List (List Int)} {x : Nat × List Int} (h : x ∈ qs.zip fs) : ∃ i : Nat, qs[i]? = some x.1 ∧ fs[i]? = some x.2 := by
  obtain ⟨i, hi, e⟩ := List.mem_iff_getElem.mp h
  have hi' : i < qs.length ∧ i < fs.length := by
    rw [List.length_zip] at hi
    omega
  refine ⟨i, ?_, ?_⟩
  · rw [← e, List.getElem_zip, List.getElem?_eq_getElem hi'.1]
  · rw [← e, List.getElem_zip, List.getElem?_eq_getElem hi'.2]
theorem zip_places : ∀ {qs : List Nat} {fs : List (List Int)}, fs.length = qs.length → (qs.zip fs).map (·.1) = qs
  | [], _, _ => rfl
  | _ :: _, [], h => by simp at h
  | q :: qs, f :: fs, h => by
    rw [List.zip_cons_cons, List.map_cons, zip_places (by simpa using h)]
theorem Pln.pl {p : Int} {n : Nat} {qs : List Nat} {fs : List (List Int)} (h : Pln p n qs fs) : PL p n fs (qs.zip fs) ∧ Up (qs.zip fs) := by
  have pls := zip_places h.len
  refine ⟨⟨fun x hx => ?_, fun x hx => ?_, fun x hx => ?_, ?_, ⟨fun y hy => ?_, fun y hy z hz ne => ?_⟩, fun y hy i hi => ?_, fun u => ?_⟩, ?_⟩
  · obtain ⟨i, h1, h2⟩ := mem_zip_get hx
    exact (h.row i _ _ h1 h2).1
  · obtain ⟨i, h1, h2⟩ := mem_zip_get hx
    exact (h.row i _ _ h1 h2).2.1
  · exact h.lt _ (List.of_mem_zip hx).1
  · rw [pls]
    exact h.up.imp fun {a b} h => Nat.ne_of_lt h
  · obtain ⟨x, hx, rfl⟩ := mem_vecs.mp hy
    obtain ⟨i, h1, h2⟩ := mem_zip_get hx
    show Cg p (vec x.2 x.1) 1
    rw [(h.row i _ _ h1 h2).2.2.2.1]
    exact Cg.rfl'
  · obtain ⟨x, hx, rfl⟩ := mem_vecs.mp hy
    obtain ⟨w, hw, rfl⟩ := mem_vecs.mp hz
    obtain ⟨i, h1, h2⟩ := mem_zip_get hx
    have r := h.row i _ _ h1 h2
    show Cg p (vec x.2 w.1) 0
    have ne' : x.1 ≠ w.1 := ne
    rcases Nat.lt_or_ge w.1 x.1 with l | l
    · rw [r.2.2.1 _ l]
      exact Cg.rfl'
    · rw [r.2.2.2.2 w.1 (List.of_mem_zip hw).1 (by omega)]
      exact Cg.rfl'
  · obtain ⟨x, hx, rfl⟩ := mem_vecs.mp hy
    obtain ⟨j, h1, h2⟩ := mem_zip_get hx
    show Cg p (vec x.2 i) 0
    rw [(h.row j _ _ h1 h2).2.2.1 i hi]
    exact Cg.rfl'
  · have e : rowsOf (vecs (qs.zip fs)) = spn fs := by
      funext v
      apply propext
      constructor
      · rintro ⟨y, hy, rfl⟩
        obtain ⟨x, hx, rfl⟩ := mem_vecs.mp hy
        exact ⟨x.2, (List.of_mem_zip hx).2, rfl⟩
      · rintro ⟨f, hf, rfl⟩
        obtain ⟨i, hi, rfl⟩ := List.mem_iff_getElem.mp hf
        have hq : i < qs.length := by rw [← h.len]; exact hi
        refine ⟨(qs[i], vec fs[i]), mem_vecs.mpr ⟨(qs[i], fs[i]), ?_, rfl⟩, rfl⟩
        exact List.mem_iff_getElem.mpr ⟨i, by rw [List.length_zip]; omega, by rw [List.getElem_zip]⟩
    rw [e]
  · show ((qs.zip fs).map (·.1)).Pairwise (· < ·)
    rw [pls]
    exact h.up
/-! ### a list of numbers as a row -/
def ev2 {α : Type} : List α → List α
  | [] => []
  | [a] => [a]
  | a :: _ :: r => a :: ev2 r
theorem ev2_cons {α : Type} (b : α) : ∀ r : List α, ev2 (b :: r) = b :: ev2 (r.drop 1)
  | [] => rfl
  | _ :: _ => rfl
def rowL (us : List Int) : List (Int × Int) := (ev2 us).zip (ev2 (us.drop 1))
theorem rowL_flat : ∀ (m : Nat) (us : List Int), us.length = 2 * m → flatR (rowL us) = us ∧ (rowL us).length = m
  | 0, [], _ => ⟨rfl, rfl⟩
  | 0, _ :: _, h => by simp at h
  | m + 1, [], h => by simp at h
  | m + 1, [_], h => by simp at h; omega
  | m + 1, a :: b :: r, h => by
    have hr : r.length = 2 * m := by
      simp only [List.length_cons] at h
      omega
    obtain ⟨h1, h2⟩ := rowL_flat m r hr
    have e : rowL (a :: b :: r) = (a, b) :: rowL r := by
      show (a :: ev2 r).zip (ev2 (b :: r)) = _
      rw [ev2_cons]
      rfl
    rw [e]
    exact ⟨by rw [flat_cons, h1], by rw [List.length_cons, h2]⟩
theorem erase_perm {α : Type} {ps : List α} {k : Nat} {x : α} (h : ps[k]? = some x) (qs : List α) : (ps.eraseIdx k ++ (qs ++ [x])).Perm (ps ++ qs) := by
  have hk := (List.getElem?_eq_some_iff.mp h).1
  have e1 : ps.eraseIdx k = ps.take k ++ ps.drop (k + 1) := List.eraseIdx_eq_take_drop_succ ps k
  have e2 : ps = ps.take k ++ x :: ps.drop (k + 1) := by
    have z : x = ps[k] := by
      rw [List.getElem?_eq_getElem hk] at h
      exact (Option.some.inj h).symm
    rw [z, ← List.drop_eq_getElem_cons hk, List.take_append_drop]
  rw [e1]
  conv => rhs; rw [e2]
  rw [List.append_assoc, List.append_assoc]
  refine List.Perm.append_left _ ?_
  rw [List.cons_append, ← List.append_assoc]
  exact List.perm_append_singleton x _
/-! ### mirrors -/
def shf (u : Vc) : Vc := fun i => u (i + 1)
/-- the sum of products, place by place -/
def dot : Vc → Vc → Nat → Int
  | _, _, 0 => 0
  | u, v, n + 1 => u 0 * v 0 + dot (shf u) (shf v) n
theorem dot_comb {c : Int} : ∀ (n : Nat) (u v w : Vc), dot u (fun i => v i + c * w i) n = dot u v n + c * dot u w n
  | 0, _, _, _ => by simp [dot]
  | n + 1, u, v, w => by
    have ih := dot_comb (c := c) n (shf u) (shf v) (shf w)
    show u 0 * (v 0 + c * w 0) + dot (shf u) (fun i => shf v i + c * shf w i) n = u 0 * v 0 + dot (shf u) (shf v) n + c * (u 0 * w 0 + dot (shf u) (shf w) n)
    rw [ih]
    grind
theorem dot_combL {c : Int} : ∀ (n : Nat) (u v w : Vc), dot (fun i => u i + c * v i) w n = dot u w n + c * dot v w n
  | 0, _, _, _ => by simp [dot]
  | n + 1, u, v, w => by
    have ih := dot_combL (c := c) n (shf u) (shf v) (shf w)
    show (u 0 + c * v 0) * w 0 + dot (fun i => shf u i + c * shf v i) (shf w) n = u 0 * w 0 + dot (shf u) (shf w) n + c * (v 0 * w 0 + dot (shf v) (shf w) n)
    rw [ih]
    grind
theorem dot_eqv {p : Int} : ∀ (n : Nat) {u v w x : Vc}, Eqv p u v → Eqv p w x → Cg p (dot u w n) (dot v x n)
  | 0, _, _, _, _, _, _ => Cg.rfl'
  | n + 1, _, _, _, _, h, k => ((h 0).mul (k 0)).add (dot_eqv n (fun i => h (i + 1)) fun i => k (i + 1))
theorem dot_zero : ∀ (n : Nat) (u : Vc), dot u (fun _ => 0) n = 0
  | 0, _ => rfl
  | n + 1, u => by
    show u 0 * 0 + dot (shf u) (fun _ => 0) n = 0
    rw [dot_zero n]
    simp
theorem dot_zeroL : ∀ (n : Nat) (u : Vc), dot (fun _ => 0) u n = 0
  | 0, _ => rfl
  | n + 1, u => by
    show 0 * u 0 + dot (fun _ => 0) (shf u) n = 0
    rw [dot_zeroL n]
    simp
theorem dot_comm : ∀ (n : Nat) (u v : Vc), dot u v n = dot v u n
  | 0, _, _ => rfl
  | n + 1, u, v => by
    show u 0 * v 0 + dot (shf u) (shf v) n = v 0 * u 0 + dot (shf v) (shf u) n
    rw [dot_comm n, Int.mul_comm]
def un (j : Nat) : Vc := fun i => if i = j then 1 else 0
theorem shf_un0 : shf (un 0) = fun _ => 0 := by
  funext i
  show (if i + 1 = 0 then (1 : Int) else 0) = 0
  rw [if_neg (by omega)]
theorem shf_unS {j : Nat} : shf (un (j + 1)) = un j := by
  funext i
  show (if i + 1 = j + 1 then (1 : Int) else 0) = if i = j then 1 else 0
  by_cases h : i = j
  · rw [if_pos h, if_pos (by omega)]
  · rw [if_neg h, if_neg (by omega)]
theorem dot_un : ∀ (n j : Nat) (u : Vc), j < n → dot u (un j) n = u j
  | 0, _, _, h => absurd h (Nat.not_lt_zero _)
  | n + 1, 0, u, _ => by
    show u 0 * 1 + dot (shf u) (shf (un 0)) n = u 0
    rw [shf_un0, dot_zero]
    omega
  | n + 1, j + 1, u, h => by
    show u 0 * 0 + dot (shf u) (shf (un (j + 1))) n = u (j + 1)
    rw [shf_unS, dot_un n j (shf u) (by omega)]
    show u 0 * 0 + u (j + 1) = u (j + 1)
    omega
/-- sums of units -/
def cu (a : Nat × Vc → Int) : List (Nat × Vc) → Vc
  | [] => fun _ => 0
  | x :: L => fun i => a x * un x.1 i + cu a L i
theorem dot_cu {a : Nat × Vc → Int} {n : Nat} {u : Vc} : ∀ {L : List (Nat × Vc)}, (∀ x ∈ L, x.1 < n) → dot u (cu a L) n = combV (L.map fun x => (u x.1, fun _ => a x)) 0
  | [], _ => dot_zero n u
  | x :: L, h => by
    have ih := dot_cu (a := a) (u := u) (L := L) fun y hy => h y (List.mem_cons_of_mem _ hy)
    have e : cu a (x :: L) = fun i => cu a L i + a x * un x.1 i := by
      funext i
      show a x * un x.1 i + cu a L i = _
      omega
    rw [e, dot_comb, ih, dot_un n x.1 u (h x (by simp))]
    show combV (L.map fun x => (u x.1, fun _ => a x)) 0 + a x * u x.1 = u x.1 * a x + combV (L.map fun x => (u x.1, fun _ => a x)) 0
    rw [Int.mul_comm]
    omega
theorem own_as {u : Vc} {f : Nat} : ∀ {L : List (Nat × Vc)}, combV (L.map fun x => (u x.1, fun _ => x.2 f)) 0 = own u L f
  | [] => rfl
  | x :: L => by
    show u x.1 * x.2 f + combV (L.map fun x => (u x.1, fun _ => x.2 f)) 0 = u x.1 * x.2 f + own u L f
    rw [own_as]
/-- the row that is free at f -/
def frV (f : Nat) (L : List (Nat × Vc)) : Vc := fun i => un f i + -1 * cu (fun x => x.2 f) L i
theorem dot_fr {n f : Nat} {L : List (Nat × Vc)} {u : Vc} (hf : f < n) (hL : ∀ x ∈ L, x.1 < n) : dot u (frV f L) n = left u L f := by
  show dot u (fun i => un f i + -1 * cu (fun x => x.2 f) L i) n = u f - own u L f
  rw [dot_comb, dot_un n f u hf, dot_cu hL, own_as]
  omega
theorem cu_out {a : Nat × Vc → Int} {i : Nat} : ∀ {L : List (Nat × Vc)}, (∀ x ∈ L, x.1 ≠ i) → cu a L i = 0
  | [], _ => rfl
  | x :: L, h => by
    show a x * un x.1 i + cu a L i = 0
    rw [cu_out fun y hy => h y (List.mem_cons_of_mem _ hy)]
    have e : un x.1 i = 0 := if_neg fun z => h x (by simp) z.symm
    rw [e]
    simp
theorem cu_at {a : Nat × Vc → Int} : ∀ {L : List (Nat × Vc)}, (L.map (·.1)).Nodup → ∀ {x : Nat × Vc}, x ∈ L → cu a L x.1 = a x
  | [], _, _, h => by cases h
  | y :: L, nd, x, h => by
    have nd' := List.nodup_cons.mp (by simpa using nd : (y.1 :: L.map (·.1)).Nodup)
    show a y * un y.1 x.1 + cu a L x.1 = a x
    rcases List.mem_cons.mp h with rfl | h
    · rw [cu_out fun z hz e => nd'.1 (by rw [← e]; exact List.mem_map.mpr ⟨z, hz, rfl⟩)]
      have e : un x.1 x.1 = 1 := if_pos rfl
      rw [e]
      omega
    · have ne : x.1 ≠ y.1 := fun e => nd'.1 (by rw [← e]; exact List.mem_map.mpr ⟨x, h, rfl⟩)
      have e : un y.1 x.1 = 0 := if_neg ne
      rw [e, cu_at nd'.2 h]
      omega
theorem fr_self {f : Nat} {L : List (Nat × Vc)} (h : ∀ x ∈ L, x.1 ≠ f) : frV f L f = 1 := by
  show un f f + -1 * cu (fun x => x.2 f) L f = 1
  rw [cu_out h]
  have e : un f f = 1 := if_pos rfl
  rw [e]
  omega
theorem fr_other {f g : Nat} {L : List (Nat × Vc)} (h : ∀ x ∈ L, x.1 ≠ g) (ne : f ≠ g) : frV f L g = 0 := by
  show un f g + -1 * cu (fun x => x.2 f) L g = 0
  rw [cu_out h]
  have e : un f g = 0 := if_neg fun z => ne z.symm
  rw [e]
  omega
/-- nothing from n on -/
def Sup (n : Nat) (u : Vc) : Prop := ∀ i, n ≤ i → u i = 0
theorem sup_vec {n : Nat} {us : List Int} (h : us.length = n) : Sup n (vec us) := fun i hi => vec_out (by omega)
theorem dot_lotR {p : Int} {n : Nat} {R : Vc → Prop} {u v : Vc} (h : Lot p R v) (k : ∀ w, R w → Cg p (dot u w n) 0) : Cg p (dot u v n) 0 := by
  induction h with
  | zero =>
    rw [dot_zero]
    exact Cg.rfl'
  | add c _ r ih =>
    rw [dot_comb]
    have a := ih.add ((Cg.rfl' (a := c)).mul (k _ r))
    rw [Int.mul_zero] at a
    exact a
  | eqv _ e ih => exact (dot_eqv n Eqv.refl e).symm.trans ih
theorem dot_lotL {p : Int} {n : Nat} {R : Vc → Prop} {u v : Vc} (h : Lot p R u) (k : ∀ w, R w → Cg p (dot w v n) 0) : Cg p (dot u v n) 0 := by
  rw [dot_comm]
  exact dot_lotR h fun w hw => by
    rw [dot_comm]
    exact k w hw
/-- free rows of leads: what they span is just what all the leads make 0 with -/
theorem fr_ker {p : Int} {n : Nat} {L : List (Nat × Vc)} {fs : List Nat} (hL : Leads p L) (nd : (L.map (·.1)).Nodup) (pl : ∀ x ∈ L, x.1 < n) (hf : ∀ f, f ∈ fs ↔ f < n ∧ ∀ x ∈ L, x.1 ≠ f) (ndf : fs.Nodup) {w : Vc} (sw : Sup n w) :
    Lot p (fun v => ∃ f ∈ fs, v = frV f L) w ↔ ∀ x ∈ L, Cg p (dot x.2 w n) 0 := by
  have z : ∀ f ∈ fs, ∀ x ∈ L, Cg p (dot x.2 (frV f L) n) 0 := fun f h x hx => by
    rw [dot_fr ((hf f).mp h).1 pl]
    exact (lot_left hL nd).mp (Lot.of ⟨x, hx, rfl⟩) f
  constructor
  · intro h x hx
    exact dot_lotR h fun v ⟨f, hf', e⟩ => by
      rw [e]
      exact z f hf' x hx
  · intro h
    have M : Leads p (fs.map fun f => (f, frV f L)) := by
      refine ⟨fun y hy => ?_, fun y hy y' hy' ne => ?_⟩
      · obtain ⟨f, h1, rfl⟩ := List.mem_map.mp hy
        show Cg p (frV f L f) 1
        rw [fr_self ((hf f).mp h1).2]
        exact Cg.rfl'
      · obtain ⟨f, h1, rfl⟩ := List.mem_map.mp hy
        obtain ⟨g, h2, rfl⟩ := List.mem_map.mp hy'
        show Cg p (frV f L g) 0
        rw [fr_other ((hf g).mp h2).2 ne]
        exact Cg.rfl'
    have ndM : ((fs.map fun f => (f, frV f L)).map (·.1)).Nodup := by
      rw [List.map_map]
      have e : ((fun x : Nat × Vc => x.1) ∘ fun f => (f, frV f L)) = id := rfl
      rw [e, List.map_id]
      exact ndf
    have key : Eqv p (left w (fs.map fun f => (f, frV f L))) fun _ => 0 := by
      have atf : ∀ f ∈ fs, Cg p (left w (fs.map fun f => (f, frV f L)) f) 0 := fun f h1 => left_at M ndM (x := (f, frV f L)) (List.mem_map.mpr ⟨f, h1, rfl⟩)
      have ownz : ∀ i, n ≤ i → own w (fs.map fun f => (f, frV f L)) i = 0 := fun i hi => by
        have all : ∀ gs : List Nat, (∀ g ∈ gs, g < n) → own w (gs.map fun f => (f, frV f L)) i = 0 := by
          intro gs
          induction gs with
          | nil => intro _; rfl
          | cons g gs ih =>
            intro hg
            show w g * frV g L i + own w (gs.map fun f => (f, frV f L)) i = 0
            have e0 : frV g L i = 0 := fr_other (fun x hx e => by have := pl x hx; omega) (by have := hg g (by simp); omega)
            rw [ih fun g' h' => hg g' (List.mem_cons_of_mem _ h'), e0]
            simp
        exact all fs fun g h1 => ((hf g).mp h1).1
      have out : ∀ i, (∀ x ∈ L, x.1 ≠ i) → Cg p (left w (fs.map fun f => (f, frV f L)) i) 0 := fun i hi => by
        by_cases h1 : i < n
        · exact atf i ((hf i).mpr ⟨h1, hi⟩)
        · show Cg p (w i - own w (fs.map fun f => (f, frV f L)) i) 0
          rw [sw i (by omega), ownz i (by omega)]
          exact ⟨0, by simp⟩
      -- made of units at the leads' places
      have asu : Eqv p (left w (fs.map fun f => (f, frV f L))) (cu (fun x => left w (fs.map fun f => (f, frV f L)) x.1) L) := fun i => by
        by_cases h1 : ∃ x ∈ L, x.1 = i
        · obtain ⟨x, hx, rfl⟩ := h1
          rw [cu_at nd hx]
          exact Cg.rfl'
        · have h2 : ∀ x ∈ L, x.1 ≠ i := fun x hx e => h1 ⟨x, hx, e⟩
          rw [cu_out h2]
          exact out i h2
      have lead0 : ∀ x ∈ L, Cg p (left w (fs.map fun f => (f, frV f L)) x.1) 0 := fun x hx => by
        have d1 : Cg p (dot x.2 (left w (fs.map fun f => (f, frV f L))) n) 0 := by
          have e : left w (fs.map fun f => (f, frV f L)) = fun i => w i + -1 * own w (fs.map fun f => (f, frV f L)) i := by
            funext i
            show w i - own w (fs.map fun f => (f, frV f L)) i = _
            omega
          rw [e, dot_comb]
          have o : Cg p (dot x.2 (own w (fs.map fun f => (f, frV f L))) n) 0 := dot_lotR (R := fun v => ∃ f ∈ fs, v = frV f L) (own_lot _ fun y hy => by
            obtain ⟨f, h1, rfl⟩ := List.mem_map.mp hy
            exact ⟨f, h1, rfl⟩) fun v ⟨f, h1, e⟩ => by
              rw [e]
              exact z f h1 x hx
          have a := (h x hx).add ((Cg.rfl' (a := -1)).mul o)
          rw [Int.mul_zero] at a
          exact a
        have d2 := (dot_eqv n (Eqv.refl (u := x.2)) asu).symm.trans d1
        rw [dot_cu pl] at d2
        -- only x itself counts
        have d4 : ∀ (M : List (Nat × Vc)) (a : Nat × Vc → Int), (∀ y ∈ M, y ∈ L) → (M.map (·.1)).Nodup → Cg p (combV (M.map fun y => (x.2 y.1, fun _ => a y)) 0) (if x.1 ∈ M.map (·.1) then cu a M x.1 else 0) := by
          intro M a
          induction M with
          | nil =>
            intro _ _
            exact Cg.rfl'
          | cons y M ih =>
            intro hM ndM'
            have nd' := List.nodup_cons.mp (by simpa using ndM' : (y.1 :: M.map (·.1)).Nodup)
            have ih' := ih (fun z hz => hM z (List.mem_cons_of_mem _ hz)) nd'.2
            show Cg p (x.2 y.1 * a y + combV (M.map fun y => (x.2 y.1, fun _ => a y)) 0) _
            by_cases e : x.1 = y.1
            · have n1 : x.1 ∉ M.map (·.1) := by rw [e]; exact nd'.1
              rw [if_neg n1] at ih'
              have m1 : x.1 ∈ (y :: M).map (·.1) := by rw [e]; simp
              rw [if_pos m1]
              show Cg p _ (a y * un y.1 x.1 + cu a M x.1)
              have c0 : cu a M x.1 = 0 := cu_out fun z hz e2 => n1 (List.mem_map.mpr ⟨z, hz, e2⟩)
              have u1 : un y.1 x.1 = 1 := if_pos e
              rw [c0, u1]
              have s1 := hL.self x hx
              rw [e] at s1
              have a1 := (s1.mul (Cg.rfl' (a := a y))).add ih'
              have e3 : (1 : Int) * a y + 0 = a y * 1 + 0 := by omega
              rw [e3] at a1
              exact a1
            · have o1 := hL.other x hx y (hM y (by simp)) e
              have u0 : un y.1 x.1 = 0 := if_neg e
              by_cases m : x.1 ∈ M.map (·.1)
              · rw [if_pos m] at ih'
                have m1 : x.1 ∈ (y :: M).map (·.1) := by
                  rw [List.map_cons]
                  exact List.mem_cons_of_mem _ m
                rw [if_pos m1]
                show Cg p _ (a y * un y.1 x.1 + cu a M x.1)
                rw [u0]
                have a1 := (o1.mul (Cg.rfl' (a := a y))).add ih'
                have e3 : (0 : Int) * a y + cu a M x.1 = a y * 0 + cu a M x.1 := by simp
                rw [e3] at a1
                exact a1
              · rw [if_neg m] at ih'
                have m1 : x.1 ∉ (y :: M).map (·.1) := by
                  rw [List.map_cons]
                  intro mm
                  rcases List.mem_cons.mp mm with q | q
                  · exact e q
                  · exact m q
                rw [if_neg m1]
                have a1 := (o1.mul (Cg.rfl' (a := a y))).add ih'
                have e3 : (0 : Int) * a y + 0 = 0 := by simp
                rw [e3] at a1
                exact a1
        have d5 := d4 L (fun y => left w (fs.map fun f => (f, frV f L)) y.1) (fun _ h => h) nd
        rw [if_pos (List.mem_map.mpr ⟨x, hx, rfl⟩), cu_at nd hx] at d5
        exact d5.symm.trans d2
      intro i
      by_cases h1 : ∃ x ∈ L, x.1 = i
      · obtain ⟨x, hx, rfl⟩ := h1
        exact lead0 x hx
      · exact out i fun x hx e => h1 ⟨x, hx, e⟩
    refine Lot.sub (fun v hv => ?_) ((lot_left M ndM).mpr key)
    obtain ⟨y, hy, rfl⟩ := hv
    obtain ⟨f, h1, rfl⟩ := List.mem_map.mp hy
    exact Lot.of ⟨f, h1, rfl⟩
/-- what makes 0 with all free rows is in the lot of the leads -/
theorem fr_back {p : Int} {n : Nat} {L : List (Nat × Vc)} {fs : List Nat} (hL : Leads p L) (nd : (L.map (·.1)).Nodup) (pl : ∀ x ∈ L, x.1 < n) (hf : ∀ f, f ∈ fs ↔ f < n ∧ ∀ x ∈ L, x.1 ≠ f) (sL : ∀ x ∈ L, Sup n x.2) {u : Vc} (su : Sup n u) (h : ∀ f ∈ fs, Cg p (dot u (frV f L) n) 0) : Lot p (rowsOf L) u := by
  refine (lot_left hL nd).mpr fun i => ?_
  by_cases h1 : ∃ x ∈ L, x.1 = i
  · obtain ⟨x, hx, rfl⟩ := h1
    exact left_at hL nd hx
  · have h2 : ∀ x ∈ L, x.1 ≠ i := fun x hx e => h1 ⟨x, hx, e⟩
    by_cases h3 : i < n
    · have a := h i ((hf i).mpr ⟨h3, h2⟩)
      rw [dot_fr h3 pl] at a
      exact a
    · have o : own u L i = 0 := by
        have all : ∀ M : List (Nat × Vc), (∀ x ∈ M, x ∈ L) → own u M i = 0 := by
          intro M
          induction M with
          | nil => intro _; rfl
          | cons y M ih =>
            intro hM
            show u y.1 * y.2 i + own u M i = 0
            rw [ih fun z hz => hM z (List.mem_cons_of_mem _ hz), sL y (hM y (by simp)) i (by omega)]
            simp
        exact all L fun _ h => h
      show Cg p (u i - own u L i) 0
      rw [su i (by omega), o]
      exact ⟨0, by simp⟩
/-! ### rows crossed -/
def crs (u : Vc) : Vc := fun i => if i % 2 = 0 then -u (i + 1) else u (i - 1)
theorem crs_comb {u v : Vc} {c : Int} (i : Nat) : crs (fun j => u j + c * v j) i = crs u i + c * crs v i := by
  unfold crs
  split
  · grind
  · rfl
theorem crs_eqv {p : Int} {u v : Vc} (h : Eqv p u v) : Eqv p (crs u) (crs v) := fun i => by
  unfold crs
  split
  · have a := (Cg.rfl' (p := p) (a := 0)).sub (h (i + 1))
    rw [Int.zero_sub, Int.zero_sub] at a
    exact a
  · exact h (i - 1)
theorem crs_crs (u : Vc) (i : Nat) : crs (crs u) i = -u i := by
  unfold crs
  by_cases h : i % 2 = 0
  · rw [if_pos h, if_neg (by omega)]
    rfl
  · rw [if_neg h, if_pos (by omega)]
    have e : i - 1 + 1 = i := by omega
    rw [e]
def crsR (R : Vc → Prop) : Vc → Prop := fun v => ∃ w, R w ∧ v = crs w
theorem crs_lot {p : Int} {R : Vc → Prop} {u : Vc} (h : Lot p R u) : Lot p (crsR R) (crs u) := by
  induction h with
  | zero => exact .eqv .zero fun i => ⟨0, by unfold crs; split <;> simp⟩
  | @add u v c _ r ih => exact .eqv (.add c ih ⟨v, r, rfl⟩) fun i => ⟨0, by rw [crs_comb]; omega⟩
  | eqv _ e ih => exact .eqv ih (crs_eqv e)
theorem crs_back {p : Int} {R : Vc → Prop} {u : Vc} (h : Lot p (crsR R) (crs u)) : Lot p R u := by
  have a : Lot p R (crs (crs u)) := Lot.sub (fun v hv => by
    obtain ⟨w, ⟨x, hx, rfl⟩, rfl⟩ := hv
    exact .eqv (Lot.comb (-1) .zero (Lot.of hx)) fun i => ⟨0, by rw [crs_crs]; omega⟩) (crs_lot h)
  exact .eqv (Lot.comb (-1) .zero a) fun i => ⟨0, by rw [crs_crs]; omega⟩
def crsP (p : Int) (r : List (Int × Int)) : List (Int × Int) := r.map fun u => (-u.2 % p, u.1)
theorem vec_crs {p : Int} : ∀ {r : List (Int × Int)}, Eqv p (vec (flatR (crsP p r))) (crs (vec (flatR r)))
  | [] => fun i => ⟨0, by simp [crsP, flatR, vec, crs]⟩
  | u :: r => fun i => by
    have e : crsP p (u :: r) = (-u.2 % p, u.1) :: crsP p r := rfl
    rw [e, flat_cons]
    show Cg p (vec (-u.2 % p :: u.1 :: flatR (crsP p r)) i) (crs (vec (flatR (u :: r))) i)
    rw [flat_cons]
    match i with
    | 0 =>
      show Cg p (-u.2 % p) (-u.2)
      exact Cg.mod _
    | 1 => exact Cg.rfl'
    | i + 2 =>
      rw [vec_succ, vec_succ]
      have ih := vec_crs (p := p) (r := r) i
      have e2 : crs (vec (u.1 :: u.2 :: flatR r)) (i + 2) = crs (vec (flatR r)) i := by
        unfold crs
        by_cases h : i % 2 = 0
        · rw [if_pos h, if_pos (by omega)]
          rw [vec_succ, vec_succ]
        · rw [if_neg h, if_neg (by omega)]
          have e3 : i + 2 - 1 = i - 1 + 1 + 1 := by omega
          rw [e3, vec_succ, vec_succ]
      rw [e2]
      exact ih
theorem crs_flat {u : Int × Int} {r : List (Int × Int)} : shf (shf (crs (vec (flatR (u :: r))))) = crs (vec (flatR r)) := by
  funext i
  show crs (vec (flatR (u :: r))) (i + 1 + 1) = _
  rw [flat_cons]
  unfold crs
  by_cases h : i % 2 = 0
  · rw [if_pos h, if_pos (by omega), vec_succ, vec_succ]
  · rw [if_neg h, if_neg (by omega)]
    have e3 : i + 1 + 1 - 1 = i - 1 + 1 + 1 := by omega
    rw [e3, vec_succ, vec_succ]
theorem shf_flat {u : Int × Int} {r : List (Int × Int)} : shf (shf (vec (flatR (u :: r)))) = vec (flatR r) := by
  funext i
  show vec (flatR (u :: r)) (i + 1 + 1) = _
  rw [flat_cons, vec_succ, vec_succ]
/-- the meet of two rows is the dot of the one crossed and the other -/
theorem meet_dot : ∀ {r s : List (Int × Int)}, r.length = s.length → (List.zipWith (fun u v => u.1 * v.2 - v.1 * u.2) r s).sum = dot (crs (vec (flatR r))) (vec (flatR s)) (2 * r.length)
  | [], [], _ => rfl
  | [], _ :: _, h => by simp at h
  | _ :: _, [], h => by simp at h
  | u :: r, v :: s, h => by
    have ih := meet_dot (r := r) (s := s) (by simpa using h)
    have e : 2 * (u :: r).length = 2 * r.length + 1 + 1 := by rw [List.length_cons]; omega
    rw [e]
    show (u.1 * v.2 - v.1 * u.2) + (List.zipWith (fun u v => u.1 * v.2 - v.1 * u.2) r s).sum = crs (vec (flatR (u :: r))) 0 * vec (flatR (v :: s)) 0 + (crs (vec (flatR (u :: r))) 1 * vec (flatR (v :: s)) 1 + dot (shf (shf (crs (vec (flatR (u :: r)))))) (shf (shf (vec (flatR (v :: s))))) (2 * r.length))
    rw [crs_flat, shf_flat, ih]
    have c0 : crs (vec (flatR (u :: r))) 0 = -u.2 := rfl
    have c1 : crs (vec (flatR (u :: r))) 1 = u.1 := rfl
    have v0 : vec (flatR (v :: s)) 0 = v.1 := rfl
    have v1 : vec (flatR (v :: s)) 1 = v.2 := rfl
    rw [c0, c1, v0, v1]
    grind
/-- the dot crossed on the one side is that crossed on the other, less -/
theorem dot_crs : ∀ (m : Nat) (u v : Vc), dot (crs u) v (2 * m) = -dot (crs v) u (2 * m)
  | 0, _, _ => rfl
  | m + 1, u, v => by
    have e : 2 * (m + 1) = 2 * m + 1 + 1 := by omega
    have sh : ∀ w : Vc, shf (shf (crs w)) = crs (shf (shf w)) := fun w => by
      funext i
      show crs w (i + 1 + 1) = crs (shf (shf w)) i
      unfold crs
      by_cases h : i % 2 = 0
      · rw [if_pos h, if_pos (by omega)]
        rfl
      · rw [if_neg h, if_neg (by omega)]
        show w (i + 1 + 1 - 1) = w (i - 1 + 1 + 1)
        congr 1
        omega
    have ih := dot_crs m (shf (shf u)) (shf (shf v))
    rw [e]
    show crs u 0 * v 0 + (crs u 1 * v 1 + dot (shf (shf (crs u))) (shf (shf v)) (2 * m)) = -(crs v 0 * u 0 + (crs v 1 * u 1 + dot (shf (shf (crs v))) (shf (shf u)) (2 * m)))
    rw [sh u, sh v, ih]
    have a0 : crs u 0 = -u 1 := rfl
    have a1 : crs u 1 = u 0 := rfl
    have b0 : crs v 0 = -v 1 := rfl
    have b1 : crs v 1 = v 0 := rfl
    rw [a0, a1, b0, b1]
    grind
/-! ### how many leads -/
theorem PL.len_eq {p : Int} {n : Nat} {fs gs : List (List Int)} {L M : List (Nat × List Int)} (p1 : 1 < p) (hL : PL p n fs L) (hM : PL p n gs M) (e : ∀ u, Lot p (spn fs) u ↔ Lot p (spn gs) u) : L.length = M.length := by
  have sub : ∀ x ∈ vecs L, Lot p (rowsOf (vecs M)) x.2 := fun x hx => (hM.lot _).mpr ((e _).mp ((hL.lot _).mp (Lot.of ⟨x, hx, rfl⟩)))
  have sup : ∀ x ∈ vecs M, Lot p (rowsOf (vecs L)) x.2 := fun x hx => (hL.lot _).mpr ((e _).mpr ((hM.lot _).mp (Lot.of ⟨x, hx, rfl⟩)))
  have pm : (L.map (·.1)).Perm (M.map (·.1)) := by
    refine (List.perm_ext_iff_of_nodup hL.nd hM.nd).mpr fun a => ?_
    rw [← vecs_places, ← vecs_places (L := M)]
    constructor
    · intro ha
      obtain ⟨x, hx, rfl⟩ := List.mem_map.mp ha
      obtain ⟨y, hy, ey⟩ := place_in p1 hL.leads hL.ahead hM.leads hM.ahead hM.ndv sub hx
      exact List.mem_map.mpr ⟨y, hy, ey⟩
    · intro ha
      obtain ⟨x, hx, rfl⟩ := List.mem_map.mp ha
      obtain ⟨y, hy, ey⟩ := place_in p1 hM.leads hM.ahead hL.leads hL.ahead hL.ndv sup hx
      exact List.mem_map.mpr ⟨y, hy, ey⟩
  have := pm.length_eq
  simpa using this
/-- each has a place at which those ahead of it have 0, and it not -/
inductive Fresh (p : Int) : List (List Int) → Prop
  | nil : Fresh p []
  | snoc {fs : List (List Int)} {f : List Int} (q : Nat) : Fresh p fs → (∀ g ∈ fs, Cg p (vec g q) 0) → ¬ Cg p (vec f q) 0 → Fresh p (fs ++ [f])
theorem Lot.at0 {p : Int} {R : Vc → Prop} {u : Vc} {q : Nat} (h : Lot p R u) (k : ∀ v, R v → Cg p (v q) 0) : Cg p (u q) 0 := by
  induction h with
  | zero => exact Cg.rfl'
  | add c _ r ih =>
    have a := ih.add ((Cg.rfl' (a := c)).mul (k _ r))
    rw [Int.mul_zero] at a
    exact a
  | eqv _ e ih => exact (e q).symm.trans ih
theorem Fresh.pl {p : Int} {n : Nat} (p1 : 1 < p) (inv : ∀ u, 0 < u → u < p → ∃ c, c * u % p = 1) {fs : List (List Int)} (h : Fresh p fs) (hf : ∀ f ∈ fs, f.length = n ∧ Rg p f) : ∃ L, PL p n fs L ∧ L.length = fs.length := by
  induction h with
  | nil => exact ⟨[], PL.nil, rfl⟩
  | @snoc fs f q _ z nz ih =>
    obtain ⟨L, pl, ll⟩ := ih fun g hg => hf g (List.mem_append.mpr (.inl hg))
    obtain ⟨fl, fr⟩ := hf f (by simp)
    have p0 : 0 < p := by omega
    have notz : ¬ ∀ x ∈ clearL p f L, x = 0 := fun hz => nz (((pl.zero p0 fl fr).mp hz).at0 fun v hv => by
      obtain ⟨g, hg, rfl⟩ := hv
      exact z g hg)
    -- the first place that isn't 0
    have first : ∀ us : List Int, (¬ ∀ x ∈ us, x = 0) → ∃ (j : Nat) (u : Int), us[j]? = some u ∧ u ≠ 0 ∧ ∀ i, i < j → us[i]? = some 0 := by
      intro us
      induction us with
      | nil => intro h; exact absurd (fun x hx => by cases hx) h
      | cons a us ih2 =>
        intro h
        by_cases ha : a = 0
        · have h' : ¬ ∀ x ∈ us, x = 0 := fun k => h fun x hx => by
            rcases List.mem_cons.mp hx with rfl | hx
            · exact ha
            · exact k x hx
          obtain ⟨j, u, e1, e2, e3⟩ := ih2 h'
          refine ⟨j + 1, u, e1, e2, fun i hi => ?_⟩
          cases i with
          | zero => rw [ha]; rfl
          | succ i => exact e3 i (by omega)
        · exact ⟨0, a, rfl, ha, fun i hi => absurd hi (Nat.not_lt_zero _)⟩
    obtain ⟨j, u, e1, e2, e3⟩ := first _ notz
    have ur := clear_rg p0 L fr u (List.mem_of_getElem? e1)
    obtain ⟨c, hc⟩ := inv u (by omega) ur.2
    refine ⟨_, pl.step p1 fl fr e1 e2 e3 hc, ?_⟩
    rw [List.length_append, List.length_append]
    have e : (moreL p j (scaled p c (clearL p f L)) L).length = L.length := by simp [moreL]
    rw [e, ll]
    rfl
/-! ### the mirror of rows -/
structure Mir (p : Int) (n : Nat) (rs : List (List (Int × Int))) (vs : List (List Int)) : Prop where
  ker : ∀ w, Sup (2 * n) w → (Lot p (spn vs) w ↔ ∀ r ∈ rs, Cg p (dot (crs (vec (flatR r))) w (2 * n)) 0)
  bi : ∀ w, Sup (2 * n) w → (∀ v ∈ vs, Cg p (dot (crs w) (vec v) (2 * n)) 0) → Lot p (spn (rs.map flatR)) w
  cnt : ∀ K L, PL p (2 * n) (rs.map flatR) K → PL p (2 * n) vs L → L.length + K.length = 2 * n
theorem lot_both {p : Int} {R S : Vc → Prop} (h1 : ∀ v, R v → ∃ w, S w ∧ Eqv p w v) (h2 : ∀ v, S v → ∃ w, R w ∧ Eqv p w v) (u : Vc) : Lot p R u ↔ Lot p S u :=
  Lot.iff (fun v hv => let ⟨w, hw, e⟩ := h1 v hv; .eqv (Lot.of hw) e) (fun v hv => let ⟨w, hw, e⟩ := h2 v hv; .eqv (Lot.of hw) e) u
def crsF (p : Int) (rs : List (List (Int × Int))) : List (List Int) := rs.map fun r => flatR (crsP p r)
theorem crs_spn {p : Int} {rs : List (List (Int × Int))} (u : Vc) : Lot p (spn (crsF p rs)) u ↔ Lot p (crsR (spn (rs.map flatR))) u := by
  refine lot_both (fun v hv => ?_) (fun v hv => ?_) u
  · obtain ⟨f, hf, rfl⟩ := hv
    obtain ⟨r, hr, rfl⟩ := List.mem_map.mp hf
    exact ⟨_, ⟨vec (flatR r), ⟨flatR r, List.mem_map.mpr ⟨r, hr, rfl⟩, rfl⟩, rfl⟩, vec_crs.symm⟩
  · obtain ⟨w, ⟨f, hf, rfl⟩, rfl⟩ := hv
    obtain ⟨r, hr, rfl⟩ := List.mem_map.mp hf
    exact ⟨_, ⟨flatR (crsP p r), List.mem_map.mpr ⟨r, hr, rfl⟩, rfl⟩, vec_crs⟩
/-- the other number of the same pair -/
def mate (q : Nat) : Nat := if q % 2 = 0 then q + 1 else q - 1
theorem crs_mate {p : Int} (u : Vc) (q : Nat) : (Cg p (crs u (mate q)) 0 ↔ Cg p (u q) 0) := by
  unfold crs mate
  by_cases h : q % 2 = 0
  · rw [if_pos h, if_neg (by omega)]
    exact Iff.rfl
  · rw [if_neg h, if_pos (by omega)]
    have e : q - 1 + 1 = q := by omega
    rw [e]
    constructor
    · intro k
      have a := (Cg.rfl' (p := p) (a := 0)).sub k
      have e2 : (0 : Int) - -u q = u q := by omega
      rw [e2] at a
      exact a
    · intro k
      have a := (Cg.rfl' (p := p) (a := 0)).sub k
      have e2 : (0 : Int) - u q = -u q := by omega
      rw [e2] at a
      exact a
theorem crs_count {p : Int} {n : Nat} {rs : List (List (Int × Int))} {K L : List (Nat × List Int)} (p1 : 1 < p) (inv : ∀ u, 0 < u → u < p → ∃ c, c * u % p = 1) (hK : PL p (2 * n) (rs.map flatR) K) (hL : PL p (2 * n) (crsF p rs) L) : L.length = K.length := by
  have p0 : 0 < p := by omega
  have gv : ∀ x ∈ K, Eqv p (vec (flatR (crsP p (rowL x.2)))) (crs (vec x.2)) := fun x hx => by
    have e := (rowL_flat n x.2 (hK.len x hx)).1
    have a := vec_crs (p := p) (r := rowL x.2)
    rw [e] at a
    exact a
  have fresh : ∀ i, i ≤ K.length → Fresh p ((K.take i).map fun x => flatR (crsP p (rowL x.2))) := by
    intro i
    induction i with
    | zero => intro _; exact Fresh.nil
    | succ i ih =>
      intro hi
      have hi' : i < K.length := by omega
      have e : (K.take (i + 1)).map (fun x => flatR (crsP p (rowL x.2))) = (K.take i).map (fun x => flatR (crsP p (rowL x.2))) ++ [flatR (crsP p (rowL (K[i]).2))] := by
        rw [← List.take_append_getElem hi', List.map_append]
        rfl
      rw [e]
      have mi := List.getElem_mem hi'
      refine .snoc (mate (K[i]).1) (ih (by omega)) (fun g hg => ?_) ?_
      · obtain ⟨y, hy, rfl⟩ := List.mem_map.mp hg
        have my := List.mem_of_mem_take hy
        refine (gv y my _).trans ((crs_mate _ _).mpr ?_)
        have ne : y.1 ≠ (K[i]).1 := by
          have nd := hK.nd
          rw [← List.take_append_drop i K, List.map_append] at nd
          have z := (List.nodup_append.mp nd).2.2 y.1 (List.mem_map.mpr ⟨y, hy, rfl⟩) (K[i]).1 (List.mem_map.mpr ⟨K[i], List.mem_of_getElem? (i := 0) (by rw [List.getElem?_drop]; simp [hi']), rfl⟩)
          exact z
        exact hK.leads.other (y.1, vec y.2) (mem_vecs.mpr ⟨y, my, rfl⟩) ((K[i]).1, vec (K[i]).2) (mem_vecs.mpr ⟨K[i], mi, rfl⟩) ne
      · intro z
        have a := (crs_mate _ _).mp ((gv _ mi _).symm.trans z)
        exact one_zero p1 ((hK.leads.self ((K[i]).1, vec (K[i]).2) (mem_vecs.mpr ⟨K[i], mi, rfl⟩)).symm.trans a)
  have fr := fresh K.length (Nat.le_refl _)
  rw [List.take_length] at fr
  obtain ⟨M, hM, ml⟩ := fr.pl (n := 2 * n) p1 inv fun f hf => by
    obtain ⟨x, hx, rfl⟩ := List.mem_map.mp hf
    obtain ⟨e1, e2⟩ := rowL_flat n x.2 (hK.len x hx)
    refine ⟨by rw [flat_len]; unfold crsP; rw [List.length_map, e2], fun u hu => ?_⟩
    obtain ⟨w, hw, hm⟩ := List.mem_flatMap.mp hu
    obtain ⟨v, hv, rfl⟩ := List.mem_map.mp hw
    have m1 : v.1 ∈ flatR (rowL x.2) := List.mem_flatMap.mpr ⟨v, hv, by simp⟩
    rw [e1] at m1
    have m : u = -v.2 % p ∨ u = v.1 := by simpa using hm
    rcases m with e | e
    · rw [e]
      exact ⟨Int.emod_nonneg _ (by omega), Int.emod_lt_of_pos _ p0⟩
    · rw [e]
      exact hK.rg x hx _ m1
  rw [List.length_map] at ml
  rw [← ml]
  refine hL.len_eq p1 hM fun u => ?_
  rw [crs_spn]
  constructor
  · refine Lot.sub fun v hv => ?_
    obtain ⟨w, hw, rfl⟩ := hv
    have a := crs_lot ((hK.lot w).mpr (Lot.of hw))
    refine Lot.sub (fun y hy => ?_) a
    obtain ⟨x, ⟨z, hz, rfl⟩, rfl⟩ := hy
    obtain ⟨k, hk, rfl⟩ := mem_vecs.mp hz
    exact .eqv (Lot.of ⟨_, List.mem_map.mpr ⟨k, hk, rfl⟩, rfl⟩) (gv k hk)
  · refine Lot.sub fun v hv => ?_
    obtain ⟨f, hf, rfl⟩ := hv
    obtain ⟨k, hk, rfl⟩ := List.mem_map.mp hf
    refine .eqv (crs_lot ((hK.lot (vec k.2)).mp (Lot.of ⟨(k.1, vec k.2), mem_vecs.mpr ⟨k, hk, rfl⟩, rfl⟩))) (gv k hk).symm
theorem sup_crs {n : Nat} {w : Vc} (h : Sup (2 * n) w) : Sup (2 * n) (crs w) := fun i hi => by
  unfold crs
  split
  · rw [h (i + 1) (by omega)]
    rfl
  · exact h (i - 1) (by omega)
theorem mir_of {p : Int} {n : Nat} {rs : List (List (Int × Int))} {vs : List (List Int)} {L : List (Nat × List Int)} {fs : List Nat} (p1 : 1 < p) (inv : ∀ u, 0 < u → u < p → ∃ c, c * u % p = 1) (hL : PL p (2 * n) (crsF p rs) L) (hf : ∀ f, f ∈ fs ↔ f < 2 * n ∧ f ∉ L.map (·.1)) (ndf : fs.Nodup)
    (vl : vs.length = fs.length) (hv : ∀ (i f : Nat) (v : List Int), fs[i]? = some f → vs[i]? = some v → Eqv p (vec v) (frV f (vecs L)) ∧ v.length = 2 * n ∧ Rg p v) : Mir p n rs vs := by
  have hf' : ∀ f, f ∈ fs ↔ f < 2 * n ∧ ∀ x ∈ vecs L, x.1 ≠ f := fun f => by
    rw [hf f]
    constructor
    · rintro ⟨a, b⟩
      refine ⟨a, fun x hx e => b ?_⟩
      obtain ⟨y, hy, rfl⟩ := mem_vecs.mp hx
      exact List.mem_map.mpr ⟨y, hy, e⟩
    · rintro ⟨a, b⟩
      refine ⟨a, fun m => ?_⟩
      obtain ⟨y, hy, e⟩ := List.mem_map.mp m
      exact b (y.1, vec y.2) (mem_vecs.mpr ⟨y, hy, rfl⟩) e
  have plc : ∀ x ∈ vecs L, x.1 < 2 * n := fun x hx => by
    obtain ⟨y, hy, rfl⟩ := mem_vecs.mp hx
    exact hL.plc y hy
  have supL : ∀ x ∈ vecs L, Sup (2 * n) x.2 := fun x hx => by
    obtain ⟨y, hy, rfl⟩ := mem_vecs.mp hx
    exact sup_vec (hL.len y hy)
  have same : ∀ u, Lot p (spn vs) u ↔ Lot p (fun v => ∃ f ∈ fs, v = frV f (vecs L)) u := fun u => by
    refine lot_both (fun v hv' => ?_) (fun v hv' => ?_) u
    · obtain ⟨f, hf1, rfl⟩ := hv'
      obtain ⟨i, hi, rfl⟩ := List.mem_iff_getElem.mp hf1
      have hi2 : i < fs.length := by omega
      exact ⟨_, ⟨fs[i], List.getElem_mem hi2, rfl⟩, ((hv i _ _ (List.getElem?_eq_getElem hi2) (List.getElem?_eq_getElem hi)).1).symm⟩
    · obtain ⟨f, hf1, rfl⟩ := hv'
      obtain ⟨i, hi, rfl⟩ := List.mem_iff_getElem.mp hf1
      have hi2 : i < vs.length := by omega
      exact ⟨_, ⟨vs[i], List.getElem_mem hi2, rfl⟩, (hv i _ _ (List.getElem?_eq_getElem hi) (List.getElem?_eq_getElem hi2)).1⟩
  refine ⟨fun w sw => ?_, fun w sw h => ?_, fun K M hK hM => ?_⟩
  · rw [same w, fr_ker hL.leads hL.ndv plc hf' ndf sw]
    constructor
    · intro h r hr
      refine dot_lotL (R := rowsOf (vecs L)) ((hL.lot _).mpr ((crs_spn _).mpr (Lot.of ⟨vec (flatR r), ⟨flatR r, List.mem_map.mpr ⟨r, hr, rfl⟩, rfl⟩, rfl⟩))) fun v hv' => ?_
      obtain ⟨x, hx, rfl⟩ := hv'
      exact h x hx
    · intro h x hx
      refine dot_lotL (R := crsR (spn (rs.map flatR))) ((crs_spn _).mp ((hL.lot _).mp (Lot.of ⟨x, hx, rfl⟩))) fun v hv' => ?_
      obtain ⟨w', ⟨f, hf1, rfl⟩, rfl⟩ := hv'
      obtain ⟨r, hr, rfl⟩ := List.mem_map.mp hf1
      exact h r hr
  · have a := fr_back (u := crs w) hL.leads hL.ndv plc hf' supL (sup_crs sw) fun f hf1 => by
      obtain ⟨i, hi, rfl⟩ := List.mem_iff_getElem.mp hf1
      have hi2 : i < vs.length := by omega
      exact (dot_eqv _ Eqv.refl (hv i _ _ (List.getElem?_eq_getElem hi) (List.getElem?_eq_getElem hi2)).1).symm.trans (h _ (List.getElem_mem hi2))
    exact crs_back ((crs_spn _).mp ((hL.lot _).mp a))
  · have lk := crs_count p1 inv hK hL
    have fresh : ∀ i, i ≤ vs.length → Fresh p (vs.take i) := by
      intro i
      induction i with
      | zero => intro _; exact Fresh.nil
      | succ i ih =>
        intro hi
        have hi' : i < vs.length := by omega
        have hi2 : i < fs.length := by omega
        rw [← List.take_append_getElem hi']
        have mi := (hf' _).mp (List.getElem_mem hi2)
        refine .snoc fs[i] (ih (by omega)) (fun g hg => ?_) ?_
        · obtain ⟨j, hj, rfl⟩ := List.mem_iff_getElem.mp hg
          rw [List.length_take] at hj
          have hj1 : j < vs.length := by omega
          have hj2 : j < fs.length := by omega
          rw [List.getElem_take]
          refine ((hv j _ _ (List.getElem?_eq_getElem hj2) (List.getElem?_eq_getElem hj1)).1 _).trans ?_
          rw [fr_other mi.2 ((List.pairwise_iff_getElem.mp ndf) j i hj2 hi2 (by omega))]
          exact Cg.rfl'
        · intro z
          have a := ((hv i _ _ (List.getElem?_eq_getElem hi2) (List.getElem?_eq_getElem hi')).1 fs[i]).symm.trans z
          rw [fr_self mi.2] at a
          exact one_zero p1 a
    have fr := fresh vs.length (Nat.le_refl _)
    rw [List.take_length] at fr
    obtain ⟨N, hN, nl⟩ := fr.pl (n := 2 * n) p1 inv fun v hv' => by
      obtain ⟨i, hi, rfl⟩ := List.mem_iff_getElem.mp hv'
      have hi2 : i < fs.length := by omega
      exact (hv i _ _ (List.getElem?_eq_getElem hi2) (List.getElem?_eq_getElem hi)).2
    have lm := hM.len_eq p1 hN fun u => Iff.rfl
    -- free places and places of leads are all places
    have pm : (fs ++ L.map (·.1)).Perm (List.range (2 * n)) := by
      refine (List.perm_ext_iff_of_nodup ?_ List.nodup_range).mpr fun a => ?_
      · exact List.nodup_append.mpr ⟨ndf, hL.nd, fun a ha b hb e => ((hf a).mp ha).2 (by rw [e]; exact hb)⟩
      · rw [List.mem_append, List.mem_range]
        constructor
        · rintro (h | h)
          · exact ((hf a).mp h).1
          · obtain ⟨y, hy, rfl⟩ := List.mem_map.mp h
            exact hL.plc y hy
        · intro h
          by_cases m : a ∈ L.map (·.1)
          · exact .inr m
          · exact .inl ((hf a).mpr ⟨h, m⟩)
    have le := pm.length_eq
    rw [List.length_append, List.length_map, List.length_range] at le
    omega
/-- the mirror of the mirror is the lot -/
theorem mir_mir {p : Int} {n : Nat} {rs ss : List (List (Int × Int))} {vs ws : List (List Int)} (h1 : Mir p n rs vs) (h2 : Mir p n ss ws) (e : ∀ u, Lot p (spn (ss.map flatR)) u ↔ Lot p (spn vs) u) (hr : ∀ r ∈ rs, r.length = n) (hs : ∀ r ∈ ss, r.length = n) (hw : ∀ w ∈ ws, w.length = 2 * n) (u : Vc) : Lot p (spn ws) u ↔ Lot p (spn (rs.map flatR)) u := by
  have key : ∀ w, Sup (2 * n) w → (Lot p (spn ws) w ↔ Lot p (spn (rs.map flatR)) w) := fun w sw => by
    rw [h2.ker w sw]
    have neg : ∀ a : Int, Cg p a 0 → Cg p (-a) 0 := fun a k => by
      have b := (Cg.rfl' (p := p) (a := 0)).sub k
      have e2 : (0 : Int) - a = -a := by omega
      rw [e2] at b
      exact b
    constructor
    · intro h
      refine h1.bi w sw fun v hv => ?_
      refine dot_lotR ((e (vec v)).mpr (Lot.of ⟨v, hv, rfl⟩)) fun x hx => ?_
      obtain ⟨f, hf, rfl⟩ := hx
      obtain ⟨r, hr', rfl⟩ := List.mem_map.mp hf
      rw [dot_crs]
      exact neg _ (h r hr')
    · intro h r hr'
      rw [dot_crs]
      refine neg _ ?_
      have sr : Sup (2 * n) (vec (flatR r)) := sup_vec (by rw [flat_len, hs r hr'])
      have k := (h1.ker (vec (flatR r)) sr).mp ((e _).mp (Lot.of ⟨flatR r, List.mem_map.mpr ⟨r, hr', rfl⟩, rfl⟩))
      refine dot_lotL (R := crsR (spn (rs.map flatR))) (crs_lot h) fun x hx => ?_
      obtain ⟨y, ⟨f, hf, rfl⟩, rfl⟩ := hx
      obtain ⟨r2, hr2, rfl⟩ := List.mem_map.mp hf
      exact k r2 hr2
  refine Lot.iff (fun v hv => ?_) (fun v hv => ?_) u
  · obtain ⟨f, hf, rfl⟩ := hv
    exact (key _ (sup_vec (hw f hf))).mp (Lot.of ⟨f, hf, rfl⟩)
  · obtain ⟨f, hf, rfl⟩ := hv
    obtain ⟨r, hr', rfl⟩ := List.mem_map.mp hf
    exact (key _ (sup_vec (by rw [flat_len, hr r hr']))).mpr (Lot.of ⟨_, hf, rfl⟩)
end Lin
set_option linter.all false
/-! zip of two or three things, each a list or a tuple, of one length -/
namespace Zm
open PySem PySem.Spec PyProof.Rows L2
inductive Kd where
  | l
  | t
def Sq (k : Kd) (K : PySem.W.Frag) (H : Hp) (a : Addr) (xs : List V) : Prop := match k with
  | .l => SqL K H a xs
  | .t => SqT K H a xs
def Itr (k : Kd) (h : Heap) (it a : Addr) (i : Nat) : Prop := match k with
  | .l => h.IsListIter it a i
  | .t => h.IsTupleIter it a i
def Sqh (k : Kd) (h : Heap) (a : Addr) (its : Array Value) : Prop := match k with
  | .l => h.IsList a its
  | .t => h.IsTuple a its
theorem drw {pr : Program} {w : World} {A : Around} (k : Kd) (hh : A.handled = none) {it a : Addr} (ne : a ≠ it) (its : Array Value) :
    Draws pr w A it [it, a] its.size (fun i v => its[i]? = some v) (fun i h => Itr k h it a i ∧ Sqh k h a its) := match k with
  | .l => Draws.list hh it a ne its
  | .t => Draws.tuple hh it a ne its
theorem bgn (k : Kd) (a : Addr) (its : Array Value) : ∃ o, Begins (.ref a) o (fun h => Sqh k h a its) ∧ ∀ (h : Heap) (it : Addr), h.get? it = some o → Itr k h it a 0 := match k with
  | .l => ⟨_, begins_list a its, fun h it e => ⟨_, e, rfl, rfl⟩⟩
  | .t => ⟨_, begins_tuple a its, fun h it e => ⟨_, e, rfl, rfl⟩⟩
section
variable {X : Cx} {pn : List (Addr × Obj)} {σ : L2.St} {H : Hp} {s : Shared} {a : Addr} {xs ys : List V} {k : Kd}
theorem at_ (I : Inv X pn σ H s) (q : Sq k X.K H a xs) : ∃ its : List Value, Vals xs its ∧ Sqh k s.heap a its.toArray ∧ a < s.heap.objs.size := by
  cases k with
  | l =>
    obtain ⟨its, r, p, _⟩ := I.list q
    exact ⟨its, r, p.isList, p.lt⟩
  | t =>
    obtain ⟨its, r, p, _⟩ := I.tuple q
    obtain ⟨o, ho, _⟩ := id p
    exact ⟨its, r, p, Heap.lt_size ho⟩
theorem inj (I : Inv X pn σ H s) (q : Sq k X.K H a xs) (q' : Sq k X.K H a ys) : xs = ys := by
  cases k with
  | l => exact I.list_inj q q'
  | t => exact I.tuple_inj q q'
theorem itr_keep {h h' : Heap} {it : Addr} {i : Nat} (x : Itr k h it a i) (kp : ∀ o, h.get? it = some o → h'.get? it = some o) : Itr k h' it a i := by
  cases k with
  | l => exact x.at kp
  | t => exact x.at kp
theorem itr_obj {h : Heap} {it : Addr} {i : Nat} (x : Itr k h it a i) : ∃ o, h.get? it = some o ∧ ∀ v, o.data ≠ .cell v := by
  cases k with
  | l =>
    obtain ⟨o, e, _, d⟩ := x
    exact ⟨o, e, fun v q => by rw [d] at q; cases q⟩
  | t =>
    obtain ⟨o, e, _, d⟩ := x
    exact ⟨o, e, fun v q => by rw [d] at q; cases q⟩
end
/-! ### two -/
def It2 (j k : Kd) (K : PySem.W.Frag) (a b : Addr) : It where
  go i H := ∃ (xs ys : List V) (x y : V), Sq j K H a xs ∧ Sq k K H b ys ∧ xs[i]? = some x ∧ ys[i]? = some y
  yld i H v H' := ∃ T x y, v = .ref T ∧ H T = none ∧ H' = upd H T (.tup [x, y]) ∧ (∀ xs, Sq j K H a xs → xs[i]? = some x) ∧ ∀ ys, Sq k K H b ys → ys[i]? = some y
  stop i H := ∃ xs ys : List V, Sq j K H a xs ∧ Sq k K H b ys ∧ xs.length = i ∧ ys.length = i
theorem mem5 {z a b c d x : Addr} (h : x ∈ [z, a, b, c, d]) : x = z ∨ x = a ∨ x = b ∨ x = c ∨ x = d := by simpa using h
theorem trn2 {P : Program} {w : World} {K : PySem.W.Frag} {j k : Kd} {es : List Expr} {kk : Nat} {tp : Pos} {a b z TI TO i1 i2 : Addr} (S : ZipSep2 z TI TO i1 i2 [i1, a] [i2, b]) (n1 : a ≠ i1) (n2 : b ≠ i2) :
    Turn P w K (.Tuple es kk tp) (It2 j k K a b) [z, TI, TO, i1, i2] z (fun i h => IsZip h z TI TO .none ∧ IsTupOf2 h TI (.ref i1) (.ref i2) ∧ (∃ x y, IsTupOf2 h TO x y) ∧ Itr j h i1 a i ∧ Itr k h i2 b i) where
  mem := by simp
  obj := fun i h st c hc => by
    obtain ⟨hz, hTI, ⟨x, y, hTO⟩, h1, h2⟩ := st
    rcases mem5 hc with rfl | rfl | rfl | rfl | rfl
    · exact ⟨_, hz, fun v e => nomatch e⟩
    · exact ⟨_, hTI, fun v e => nomatch e⟩
    · exact ⟨_, hTO, fun v e => nomatch e⟩
    · exact itr_obj h1
    · exact itr_obj h2
  keep := fun i h h' st kp => by
    obtain ⟨hz, hTI, ⟨x, y, hTO⟩, h1, h2⟩ := st
    exact ⟨kp z (by simp) _ hz, kp TI (by simp) _ hTI, ⟨x, y, kp TO (by simp) _ hTO⟩, itr_keep h1 fun o e => kp i1 (by simp) o e, itr_keep h2 fun o e => kp i2 (by simp) o e⟩
  item := by
    intro X eP ew eK calm i pn s σ H E I hf st gg
    subst eP ew eK
    obtain ⟨hz, hTI, hTO, h1, h2⟩ := st
    obtain ⟨xs, ys, x, y, qx, qy, hx, hy⟩ := gg
    obtain ⟨us, rv, p1, _⟩ := at_ I qx
    obtain ⟨vs, rv2, p2, _⟩ := at_ I qy
    have hh : X.A.in1.handled = none := I.ok.hd calm
    have l1 : i < us.toArray.size := by
      have := (List.getElem?_eq_some_iff.mp hx).1
      rw [List.size_toArray, ← rv.length]
      exact this
    have l2 : i < vs.toArray.size := by
      have := (List.getElem?_eq_some_iff.mp hy).1
      rw [List.size_toArray, ← rv2.length]
      exact this
    refine (GoesN.zip2 S (drw j hh n1 us.toArray) (drw k hh n2 vs.toArray)).goes i s (fun u s2 => ∃ x H', Inv X pn σ H' s2 ∧ RelV x u ∧ (It2 j k X.K a b).yld i H x H' ∧ _ ∧ ∀ c ∈ _, H' c = none) E (by omega) ⟨hz, hTI, hTO, ⟨h1, p1⟩, h2, p2⟩ fun v h' tk Y st' kp _ => ?_
    obtain ⟨T, u, u2, rfl, le, hu, hu2, hT⟩ := Y
    obtain ⟨hz', hTI', hTO', ⟨h1', _⟩, h2', _⟩ := st'
    obtain ⟨w1, e1, r1⟩ := rv.get hx
    obtain ⟨w2, e2, r2⟩ := rv2.get hy
    have c1 : w1 = u := by
      have z1 : us[i]? = some u := by simpa using hu
      rw [e1] at z1
      exact Option.some.inj z1
    have c2 : w2 = u2 := by
      have z2 : vs[i]? = some u2 := by simpa using hu2
      rw [e2] at z2
      exact Option.some.inj z2
    subst c1 c2
    have fresh : H T = none := I.hok.fresh le
    have new : ObjOk X.prog X.w (upd H T (.tup [x, y])) h' T (.tup [x, y]) := ⟨by show 2 ≤ sizeLine; decide, [w1, w2], .cons r1 (.cons r2 .nil), hT⟩
    have I1 := I.turnedNew (t' := tk) (ch := [z, TI, TO, i1, i2]) (fun c o n e => kp c o (fun m => n (by
      have m' : c = z ∨ c = TO ∨ c = i1 ∨ c = i2 := by simpa using m
      rcases m' with q | q | q | q <;> (rw [q]; simp))) e) hf le new
    refine ⟨.ref T, _, I1, rfl, ⟨T, x, y, rfl, fresh, rfl, fun l hl => by rw [inj I hl qx]; exact hx, fun l hl => by rw [inj I hl qy]; exact hy⟩, ⟨hz', hTI', hTO', h1', h2'⟩, fun c hc => ?_⟩
    have lt : c < s.heap.objs.size := by
      rcases mem5 hc with rfl | rfl | rfl | rfl | rfl
      · exact Heap.lt_size hz
      · exact Heap.lt_size hTI
      · obtain ⟨_, _, e⟩ := hTO
        exact Heap.lt_size e
      · obtain ⟨_, e, _⟩ := itr_obj h1
        exact Heap.lt_size e
      · obtain ⟨_, e, _⟩ := itr_obj h2
        exact Heap.lt_size e
    rw [upd_ne (Nat.ne_of_lt (Nat.lt_of_lt_of_le lt le))]
    exact (hf c hc).1
  done := by
    intro X eP ew eK calm i pn s σ H E I hf st gg
    subst eP ew eK
    obtain ⟨hz, hTI, hTO, h1, h2⟩ := st
    obtain ⟨xs, ys, qx, qy, hx, hy⟩ := gg
    obtain ⟨us, rv, p1, _⟩ := at_ I qx
    obtain ⟨vs, rv2, p2, _⟩ := at_ I qy
    have hh : X.A.in1.handled = none := I.ok.hd calm
    have e : i = min us.toArray.size vs.toArray.size := by
      have l1 := rv.length
      have l2 := rv2.length
      simp
      omega
    subst e
    exact (GoesN.zip2 (elts := es) (x1 := kk) (pos := tp) S (drw j hh n1 us.toArray) (drw k hh n2 vs.toArray)).stops s (fun s1 => Inv X pn σ H s1) E ⟨hz, hTI, hTO, ⟨h1, p1⟩, h2, p2⟩ fun h' tk kp _ => I.turnedL (t' := tk) (ch := [z, TI, TO, i1, i2]) (fun c o n e => kp c o (fun m => n (by
      have m' : c = z ∨ c = TO ∨ c = i1 ∨ c = i2 := by simpa using m
      rcases m' with q | q | q | q <;> (rw [q]; simp))) e) hf
  self := fun A i s Q E st h => wpAny_pyIter_zip st.1 h
def iZip2 (j k : Kd) (K : PySem.W.Frag) (ta : TA) : TI := fun σ H R => ta σ H fun vs H1 => ∃ a b xs ys, vs = [.ref a, .ref b] ∧ Sq j K H1 a xs ∧ Sq k K H1 b ys ∧ R (It2 j k K a b) H1
theorem pi_zip2 {X : Cx} {e e2 : Expr} {ta : TA} {p pos tp : Pos} {es : List Expr} {kk : Nat} (j k : Kd) (hg : Gl X "zip") (hm : X.mg "zip" = none) (ha : PA X [e, e2] ta)
    (hs : starEach [e, e2] X.env = (false, eval e X.env) :: starEach [e2] X.env := by rfl) (hpl : (backTo pos (starEach [e2] X.env)).any (·.1) = false := by rfl) :
    PI X (.Tuple es kk tp) (.Call (.Name "zip" p) [e, e2] [] pos) (iZip2 j k X.K ta) := by
  refine ⟨fun pn s σ H R I h => ?_⟩
  refine Call_ (ld_blt I hg hm PyProof.Rows.boot_zip (PyProof.Rows.callWith_type1 (thn (ha.run pos pn s σ H _ I h) fun us s1 ⟨vs, H1, I1, r1, q1⟩ => ?_) hs hpl))
  obtain ⟨a, b, xs, ys, ex, qx, qy, q⟩ := q1
  subst ex
  cases r1 with
  | cons r rr =>
   cases rr with
   | cons r' rr =>
    cases rr
    cases r
    cases r'
    obtain ⟨us, rv, p1, la⟩ := at_ I1 qx
    obtain ⟨vs, rv2, p2, lb⟩ := at_ I1 qy
    obtain ⟨o1, B1, f1⟩ := bgn j a us.toArray
    obtain ⟨o2, B2, f2⟩ := bgn k b vs.toArray
    refine zip_begins2 B1 B2 p1 p2 fun h' hz hTI hTO g1 g2 hsz kp => wpAny_pyIter_zip hz ?_
    have S := zip_sep2 (N := s1.heap.objs.size) (fp1 := [a]) (fp2 := [b]) (fun c hc => by rw [List.mem_singleton.mp hc]; exact la) (fun c hc => by rw [List.mem_singleton.mp hc]; exact lb)
    have ne1 : a ≠ s1.heap.objs.size := Nat.ne_of_lt la
    have ne2 : b ≠ s1.heap.objs.size + 1 := Nat.ne_of_lt (Nat.lt_succ_of_lt lb)
    refine ⟨_, _, _, _, H1, rfl, I1.kept (t' := s1.toks) kp, trn2 (j := j) (k := k) S ne1 ne2, ⟨hz, hTI, ⟨_, _, hTO⟩, f1 _ _ g1, f2 _ _ g2⟩, fun c hc => ?_, q⟩
    have le : s1.heap.objs.size ≤ c := by
      rcases mem5 hc with rfl | rfl | rfl | rfl | rfl
      · exact Nat.le_add_right _ _
      · exact Nat.le_add_right _ _
      · exact Nat.le_add_right _ _
      · exact Nat.le_refl _
      · exact Nat.le_add_right _ _
    exact I1.fpOk le (I1.hok.fresh le)
def iZipK (K : PySem.W.Frag) (ta : TA) : TI := fun σ H R => ta σ H fun vs H1 => ∃ j k a b xs ys, vs = [.ref a, .ref b] ∧ Sq j K H1 a xs ∧ Sq k K H1 b ys ∧ R (It2 j k K a b) H1
theorem pi_zipK {X : Cx} {e e2 : Expr} {ta : TA} {p pos tp : Pos} {es : List Expr} {kk : Nat} (hg : Gl X "zip") (hm : X.mg "zip" = none) (ha : PA X [e, e2] ta)
    (hs : starEach [e, e2] X.env = (false, eval e X.env) :: starEach [e2] X.env := by rfl) (hpl : (backTo pos (starEach [e2] X.env)).any (·.1) = false := by rfl) :
    PI X (.Tuple es kk tp) (.Call (.Name "zip" p) [e, e2] [] pos) (iZipK X.K ta) := by
  refine ⟨fun pn s σ H R I h => ?_⟩
  refine Call_ (ld_blt I hg hm PyProof.Rows.boot_zip (PyProof.Rows.callWith_type1 (thn (ha.run pos pn s σ H _ I h) fun us s1 ⟨vs, H1, I1, r1, q1⟩ => ?_) hs hpl))
  obtain ⟨j, k, a, b, xs, ys, ex, qx, qy, q⟩ := q1
  subst ex
  cases r1 with
  | cons r rr =>
   cases rr with
   | cons r' rr =>
    cases rr
    cases r
    cases r'
    obtain ⟨us, rv, p1, la⟩ := at_ I1 qx
    obtain ⟨vs, rv2, p2, lb⟩ := at_ I1 qy
    obtain ⟨o1, B1, f1⟩ := bgn j a us.toArray
    obtain ⟨o2, B2, f2⟩ := bgn k b vs.toArray
    refine zip_begins2 B1 B2 p1 p2 fun h' hz hTI hTO g1 g2 hsz kp => wpAny_pyIter_zip hz ?_
    have S := zip_sep2 (N := s1.heap.objs.size) (fp1 := [a]) (fp2 := [b]) (fun c hc => by rw [List.mem_singleton.mp hc]; exact la) (fun c hc => by rw [List.mem_singleton.mp hc]; exact lb)
    have ne1 : a ≠ s1.heap.objs.size := Nat.ne_of_lt la
    have ne2 : b ≠ s1.heap.objs.size + 1 := Nat.ne_of_lt (Nat.lt_succ_of_lt lb)
    refine ⟨_, _, _, _, H1, rfl, I1.kept (t' := s1.toks) kp, trn2 (j := j) (k := k) S ne1 ne2, ⟨hz, hTI, ⟨_, _, hTO⟩, f1 _ _ g1, f2 _ _ g2⟩, fun c hc => ?_, q⟩
    have le : s1.heap.objs.size ≤ c := by
      rcases mem5 hc with rfl | rfl | rfl | rfl | rfl
      · exact Nat.le_add_right _ _
      · exact Nat.le_add_right _ _
      · exact Nat.le_add_right _ _
      · exact Nat.le_refl _
      · exact Nat.le_add_right _ _
    exact I1.fpOk le (I1.hok.fresh le)
/-! ### walks -/
section
variable {K : PySem.W.Frag} {a b : Addr} {xs ys : List V} {j k : Kd}
theorem walk2 (hl : xs.length = ys.length) : Walk (It2 j k K a b) xs.length (fun H => Sq j K H a xs ∧ Sq k K H b ys) (YPair (fun i => xs[i]?) (fun i => ys[i]?)) := by
  refine ⟨fun i _ hi q => ?_, fun _ q => ⟨xs, ys, q.1, q.2, rfl, hl.symm⟩, fun i H v H' _ q y => ?_⟩
  · have h2 : i < ys.length := by omega
    exact ⟨xs, ys, xs[i], ys[i], q.1, q.2, by simp [hi], by simp [h2]⟩
  · obtain ⟨T, x, z, h1, h2, h3, h4, h5⟩ := y
    exact ⟨T, x, z, h1, h2, h3, h4 xs q.1, h5 ys q.2⟩
/-- a list or a tuple, item by item -/
def Itq (k : Kd) (K : PySem.W.Frag) (a : Addr) : It := match k with
  | .l => Itl K a
  | .t => Itt K a
theorem walkq : Walk (Itq k K a) xs.length (fun H => Sq k K H a xs) (YAt xs) := match k with
  | .l => walk_list
  | .t => walk_tup
end
def iKd (K : PySem.W.Frag) (te : TE) : TI := fun σ H R => te σ H fun x H1 => ∃ a k xs, x = .ref a ∧ Sq k K H1 a xs ∧ R (Itq k K a) H1
theorem pi_kd {X : Cx} {tg e : Expr} {te : TE} (he : PE X e te) : PI X tg e (iKd X.K te) := by
  refine ⟨fun pn s σ H R I h => ?_⟩
  refine thn (he.run pn s σ H _ I h) fun u s1 ⟨x, H1, I1, r, a, k, xs, ex, q, R1⟩ => ?_
  subst ex
  obtain rfl : u = Value.ref a := r
  obtain ⟨us, rv, p, la⟩ := at_ I1 q
  obtain ⟨o, B, f⟩ := bgn k a us.toArray
  refine B.iter _ _ _ _ s1 _ p ?_
  have up : ∀ c ob, s1.heap.get? c = some ob → (s1.heap.push o).get? c = some ob := fun c ob e => Heap.get?_push_of_some _ e
  have fp : ∀ c ∈ [s1.heap.objs.size], FpOk X pn H1 c := fun c hc => by
    rw [List.mem_singleton.mp hc]
    exact I1.fpOk (Nat.le_refl _) (I1.hok.fresh (Nat.le_refl _))
  have g := f _ _ (Heap.get?_push_size s1.heap B.free)
  cases k with
  | l => exact ⟨_, _, _, _, H1, rfl, I1.kept (t' := s1.toks) up, turn_list a _, g, fp, R1⟩
  | t => exact ⟨_, _, _, _, H1, rfl, I1.kept (t' := s1.toks) up, turn_tuple a _, g, fp, R1⟩
section
variable {J : It} {n : Nat} {G : Hp → Prop} {Y : Nat → Hp → V → Hp → Prop}
/-- a dict comprehension over a walk -/
theorem dc_it (w : Walk J n G Y) {g : TG} {tt : TT} {tk tv : TE} {vs : List Nat} {σ : L2.St} {H1 : Hp} {D : Addr} {Qd : Hp → Prop} (Pv : Nat → Hp → Prop) (h0 : Pv 0 (upd H1 D (.dK []))) (hG : ∀ i H, i ≤ n → Pv i H → G H)
    (hs : ∀ i x H H', i < n → Pv i H → Y i H x H' → g x (wipe σ vs) H' fun σ2 H2 => wipe σ2 vs = wipe σ vs ∧ tt σ2 H2 fun b H3 =>
      if b = true then tk σ2 H3 fun y H4 => tv σ2 H4 fun z H5 => ∃ kvs k, y = kV k ∧ H5 D = some (.dK kvs) ∧ kvs.length < sizeLine ∧ Pv (i + 1) (upd H5 D (.dK (putK kvs k z))) else Pv (i + 1) H3) (hd : ∀ H, Pv n H → Qd H) :
    ∃ W : Nat → Nat → Hp → Prop, (∃ m, W 0 m (upd H1 D (.dK []))) ∧ ∀ i m H, W i m H →
      (J.stop i H ∧ Qd H) ∨ (J.go i H ∧ ∃ Nx : Hp → Prop, (∀ H', Nx H' → ∃ m', m' < m ∧ W (i + 1) m' H') ∧ ∀ x H', J.yld i H x H' → g x (wipe σ vs) H' fun σ2 H2 => wipe σ2 vs = wipe σ vs ∧ tt σ2 H2 fun b H3 =>
        if b = true then tk σ2 H3 fun y H4 => tv σ2 H4 fun z H5 => ∃ kvs k, y = kV k ∧ H5 D = some (.dK kvs) ∧ kvs.length < sizeLine ∧ Nx (upd H5 D (.dK (putK kvs k z))) else Nx H3) := by
  refine ⟨fun i m H => m + i = n ∧ Pv i H, ⟨n, rfl, h0⟩, ?_⟩
  rintro i m H ⟨e, p⟩
  have q := hG i H (by omega) p
  cases m with
  | zero =>
    have e' : i = n := by omega
    subst e'
    exact .inl ⟨w.stops H q, hd H p⟩
  | succ m => exact .inr ⟨w.goes i H (by omega) q, Pv (i + 1), fun H' p' => ⟨m, by omega, by omega, p'⟩, fun x H' y => hs i x H H' (by omega) p (w.yields i H x H' (by omega) q y)⟩
end
end Zm
set_option linter.all false
/-! zip of three things, each a list or a tuple, of one length -/
namespace Z3
open PySem PySem.Spec PyProof.Rows L2 Zm
def It3 (j k l : Kd) (K : PySem.W.Frag) (a b c : Addr) : It where
  go i H := ∃ (xs ys zs : List V) (x y z : V), Sq j K H a xs ∧ Sq k K H b ys ∧ Sq l K H c zs ∧ xs[i]? = some x ∧ ys[i]? = some y ∧ zs[i]? = some z
  yld i H v H' := ∃ T x y z, v = .ref T ∧ H T = none ∧ H' = upd H T (.tup [x, y, z]) ∧ (∀ xs, Sq j K H a xs → xs[i]? = some x) ∧ (∀ ys, Sq k K H b ys → ys[i]? = some y) ∧ ∀ zs, Sq l K H c zs → zs[i]? = some z
  stop i H := ∃ xs ys zs : List V, Sq j K H a xs ∧ Sq k K H b ys ∧ Sq l K H c zs ∧ xs.length = i ∧ ys.length = i ∧ zs.length = i
theorem mem6 {z a b c d e x : Addr} (h : x ∈ [z, a, b, c, d, e]) : x = z ∨ x = a ∨ x = b ∨ x = c ∨ x = d ∨ x = e := by simpa using h
theorem old6 {z TI TO i1 i2 i3 q : Addr} (h : q ∈ [z, TO, i1, i2, i3]) : q ∈ [z, TI, TO, i1, i2, i3] := by
  simp at h ⊢
  rcases h with q | q | q | q | q <;> simp [q]
set_option maxHeartbeats 1000000 in
theorem trn3 {P : Program} {w : World} {K : PySem.W.Frag} {j k l : Kd} {es : List Expr} {kk : Nat} {tp : Pos} {a b c z TI TO i1 i2 i3 : Addr} (S : ZipSep3 z TI TO i1 i2 i3 [i1, a] [i2, b] [i3, c]) (n1 : a ≠ i1) (n2 : b ≠ i2) (n3 : c ≠ i3) :
    Turn P w K (.Tuple es kk tp) (It3 j k l K a b c) [z, TI, TO, i1, i2, i3] z (fun i h => IsZip h z TI TO .none ∧ IsTupOf3 h TI (.ref i1) (.ref i2) (.ref i3) ∧ (∃ x y u, IsTupOf3 h TO x y u) ∧ Itr j h i1 a i ∧ Itr k h i2 b i ∧ Itr l h i3 c i) where
  mem := by simp
  obj := fun i h st q hq => by
    obtain ⟨hz, hTI, ⟨x, y, u, hTO⟩, h1, h2, h3⟩ := st
    rcases mem6 hq with rfl | rfl | rfl | rfl | rfl | rfl
    · exact ⟨_, hz, fun v e => nomatch e⟩
    · exact ⟨_, hTI, fun v e => nomatch e⟩
    · exact ⟨_, hTO, fun v e => nomatch e⟩
    · exact itr_obj h1
    · exact itr_obj h2
    · exact itr_obj h3
  keep := fun i h h' st kp => by
    obtain ⟨hz, hTI, ⟨x, y, u, hTO⟩, h1, h2, h3⟩ := st
    exact ⟨kp z (by simp) _ hz, kp TI (by simp) _ hTI, ⟨x, y, u, kp TO (by simp) _ hTO⟩, itr_keep h1 fun o e => kp i1 (by simp) o e, itr_keep h2 fun o e => kp i2 (by simp) o e, itr_keep h3 fun o e => kp i3 (by simp) o e⟩
  item := by
    intro X eP ew eK calm i pn s σ H E I hf st gg
    subst eP ew eK
    obtain ⟨hz, hTI, hTO, h1, h2, h3⟩ := st
    obtain ⟨xs, ys, zs, x, y, u, qx, qy, qu, hx, hy, hu0⟩ := gg
    obtain ⟨us, rv, p1, _⟩ := at_ I qx
    obtain ⟨vs, rv2, p2, _⟩ := at_ I qy
    obtain ⟨ws, rv3, p3, _⟩ := at_ I qu
    have hh : X.A.in1.handled = none := I.ok.hd calm
    have l1 : i < us.toArray.size := by
      have := (List.getElem?_eq_some_iff.mp hx).1
      rw [List.size_toArray, ← rv.length]
      exact this
    have l2 : i < vs.toArray.size := by
      have := (List.getElem?_eq_some_iff.mp hy).1
      rw [List.size_toArray, ← rv2.length]
      exact this
    have l3 : i < ws.toArray.size := by
      have := (List.getElem?_eq_some_iff.mp hu0).1
      rw [List.size_toArray, ← rv3.length]
      exact this
    refine (GoesN.zip3 S (drw j hh n1 us.toArray) (drw k hh n2 vs.toArray) (drw l hh n3 ws.toArray)).goes i s (fun u s2 => ∃ x H', Inv X pn σ H' s2 ∧ RelV x u ∧ (It3 j k l X.K a b c).yld i H x H' ∧ _ ∧ ∀ q ∈ _, H' q = none) E (by omega) ⟨hz, hTI, hTO, ⟨h1, p1⟩, ⟨h2, p2⟩, h3, p3⟩ fun v h' tk Y st' kp _ => ?_
    obtain ⟨T, u1, u2, u3, rfl, le, hu, hu2, hu3, hT⟩ := Y
    obtain ⟨hz', hTI', hTO', ⟨h1', _⟩, ⟨h2', _⟩, h3', _⟩ := st'
    obtain ⟨w1, e1, r1⟩ := rv.get hx
    obtain ⟨w2, e2, r2⟩ := rv2.get hy
    obtain ⟨w3, e3, r3⟩ := rv3.get hu0
    have c1 : w1 = u1 := by
      have z1 : us[i]? = some u1 := by simpa using hu
      rw [e1] at z1
      exact Option.some.inj z1
    have c2 : w2 = u2 := by
      have z2 : vs[i]? = some u2 := by simpa using hu2
      rw [e2] at z2
      exact Option.some.inj z2
    have c3 : w3 = u3 := by
      have z3 : ws[i]? = some u3 := by simpa using hu3
      rw [e3] at z3
      exact Option.some.inj z3
    subst c1 c2 c3
    have fresh : H T = none := I.hok.fresh le
    have new : ObjOk X.prog X.w (upd H T (.tup [x, y, u])) h' T (.tup [x, y, u]) := ⟨by show 3 ≤ sizeLine; decide, [w1, w2, w3], .cons r1 (.cons r2 (.cons r3 .nil)), hT⟩
    have I1 := I.turnedNew (t' := tk) (ch := [z, TI, TO, i1, i2, i3]) (fun q o n e => kp q o (fun m => n (old6 m)) e) hf le new
    refine ⟨.ref T, _, I1, rfl, ⟨T, x, y, u, rfl, fresh, rfl, fun l hl => by rw [inj I hl qx]; exact hx, fun l hl => by rw [inj I hl qy]; exact hy, fun l hl => by rw [inj I hl qu]; exact hu0⟩, ⟨hz', hTI', hTO', h1', h2', h3'⟩, fun q hq => ?_⟩
    have lt : q < s.heap.objs.size := by
      rcases mem6 hq with rfl | rfl | rfl | rfl | rfl | rfl
      · exact Heap.lt_size hz
      · exact Heap.lt_size hTI
      · obtain ⟨_, _, _, e⟩ := hTO
        exact Heap.lt_size e
      · obtain ⟨_, e, _⟩ := itr_obj h1
        exact Heap.lt_size e
      · obtain ⟨_, e, _⟩ := itr_obj h2
        exact Heap.lt_size e
      · obtain ⟨_, e, _⟩ := itr_obj h3
        exact Heap.lt_size e
    rw [upd_ne (Nat.ne_of_lt (Nat.lt_of_lt_of_le lt le))]
    exact (hf q hq).1
  done := by
    intro X eP ew eK calm i pn s σ H E I hf st gg
    subst eP ew eK
    obtain ⟨hz, hTI, hTO, h1, h2, h3⟩ := st
    obtain ⟨xs, ys, zs, qx, qy, qu, hx, hy, hu⟩ := gg
    obtain ⟨us, rv, p1, _⟩ := at_ I qx
    obtain ⟨vs, rv2, p2, _⟩ := at_ I qy
    obtain ⟨ws, rv3, p3, _⟩ := at_ I qu
    have hh : X.A.in1.handled = none := I.ok.hd calm
    have e : i = min (min us.toArray.size vs.toArray.size) ws.toArray.size := by
      have l1 := rv.length
      have l2 := rv2.length
      have l3 := rv3.length
      simp
      omega
    subst e
    exact (GoesN.zip3 (elts := es) (x1 := kk) (pos := tp) S (drw j hh n1 us.toArray) (drw k hh n2 vs.toArray) (drw l hh n3 ws.toArray)).stops s (fun s1 => Inv X pn σ H s1) E ⟨hz, hTI, hTO, ⟨h1, p1⟩, ⟨h2, p2⟩, h3, p3⟩ fun h' tk kp _ => I.turnedL (t' := tk) (ch := [z, TI, TO, i1, i2, i3]) (fun q o n e => kp q o (fun m => n (old6 m)) e) hf
  self := fun A i s Q E st h => wpAny_pyIter_zip st.1 h
def iZip3 (K : PySem.W.Frag) (ta : TA) : TI := fun σ H R => ta σ H fun vs H1 => ∃ j k l a b c xs ys zs, vs = [.ref a, .ref b, .ref c] ∧ Sq j K H1 a xs ∧ Sq k K H1 b ys ∧ Sq l K H1 c zs ∧ R (It3 j k l K a b c) H1
theorem pi_zip3 {X : Cx} {e e2 e3 : Expr} {ta : TA} {p pos tp : Pos} {es : List Expr} {kk : Nat} (hg : Gl X "zip") (hm : X.mg "zip" = none) (ha : PA X [e, e2, e3] ta)
    (hs : starEach [e, e2, e3] X.env = (false, eval e X.env) :: starEach [e2, e3] X.env := by rfl) (hpl : (backTo pos (starEach [e2, e3] X.env)).any (·.1) = false := by rfl) :
    PI X (.Tuple es kk tp) (.Call (.Name "zip" p) [e, e2, e3] [] pos) (iZip3 X.K ta) := by
  refine ⟨fun pn s σ H R I h => ?_⟩
  refine Call_ (ld_blt I hg hm PyProof.Rows.boot_zip (PyProof.Rows.callWith_type1 (thn (ha.run pos pn s σ H _ I h) fun us s1 ⟨vs, H1, I1, r1, q1⟩ => ?_) hs hpl))
  obtain ⟨j, k, l, a, b, c, xs, ys, zs, ex, qx, qy, qu, q⟩ := q1
  subst ex
  cases r1 with
  | cons r rr =>
   cases rr with
   | cons r' rr =>
    cases rr with
    | cons r'' rr =>
    cases rr
    cases r
    cases r'
    cases r''
    obtain ⟨us, rv, p1, la⟩ := at_ I1 qx
    obtain ⟨vs, rv2, p2, lb⟩ := at_ I1 qy
    obtain ⟨ws, rv3, p3, lc⟩ := at_ I1 qu
    obtain ⟨o1, B1, f1⟩ := bgn j a us.toArray
    obtain ⟨o2, B2, f2⟩ := bgn k b vs.toArray
    obtain ⟨o3, B3, f3⟩ := bgn l c ws.toArray
    refine zip_begins3 B1 B2 B3 p1 p2 p3 fun h' hz hTI hTO g1 g2 g3 hsz kp => wpAny_pyIter_zip hz ?_
    have S := zip_sep3 (N := s1.heap.objs.size) (fp1 := [a]) (fp2 := [b]) (fp3 := [c]) (fun q hq => by rw [List.mem_singleton.mp hq]; exact la) (fun q hq => by rw [List.mem_singleton.mp hq]; exact lb) (fun q hq => by rw [List.mem_singleton.mp hq]; exact lc)
    have ne1 : a ≠ s1.heap.objs.size := Nat.ne_of_lt la
    have ne2 : b ≠ s1.heap.objs.size + 1 := Nat.ne_of_lt (Nat.lt_succ_of_lt lb)
    have ne3 : c ≠ s1.heap.objs.size + 2 := Nat.ne_of_lt (Nat.lt_succ_of_lt (Nat.lt_succ_of_lt lc))
    refine ⟨_, _, _, _, H1, rfl, I1.kept (t' := s1.toks) kp, trn3 (j := j) (k := k) (l := l) S ne1 ne2 ne3, ⟨hz, hTI, ⟨_, _, _, hTO⟩, f1 _ _ g1, f2 _ _ g2, f3 _ _ g3⟩, fun q hq => ?_, q⟩
    have le : s1.heap.objs.size ≤ q := by
      rcases mem6 hq with rfl | rfl | rfl | rfl | rfl | rfl
      · exact Nat.le_add_right _ _
      · exact Nat.le_add_right _ _
      · exact Nat.le_add_right _ _
      · exact Nat.le_refl _
      · exact Nat.le_add_right _ _
      · exact Nat.le_add_right _ _
    exact I1.fpOk le (I1.hok.fresh le)
def Y3 (xs ys zs : List V) : Nat → Hp → V → Hp → Prop := fun i H v H' => ∃ T x y z, v = .ref T ∧ H T = none ∧ H' = upd H T (.tup [x, y, z]) ∧ xs[i]? = some x ∧ ys[i]? = some y ∧ zs[i]? = some z
theorem walk3 {K : PySem.W.Frag} {a b c : Addr} {xs ys zs : List V} {j k l : Kd} (h1 : xs.length = ys.length) (h2 : xs.length = zs.length) : Walk (It3 j k l K a b c) xs.length (fun H => Sq j K H a xs ∧ Sq k K H b ys ∧ Sq l K H c zs) (Y3 xs ys zs) := by
  refine ⟨fun i _ hi q => ?_, fun _ q => ⟨xs, ys, zs, q.1, q.2.1, q.2.2, rfl, h1.symm, h2.symm⟩, fun i H v H' _ q y => ?_⟩
  · have g1 : i < ys.length := by omega
    have g2 : i < zs.length := by omega
    exact ⟨xs, ys, zs, xs[i], ys[i], zs[i], q.1, q.2.1, q.2.2, by simp [hi], by simp [g1], by simp [g2]⟩
  · obtain ⟨T, x, z, u, h1, h2, h3, h4, h5, h6⟩ := y
    exact ⟨T, x, z, u, h1, h2, h3, h4 xs q.1, h5 ys q.2.1, h6 zs q.2.2⟩
end Z3
set_option linter.all false
/-! list(zip(a, b)) of two lists; xs[::2], xs[1::2] of a list -/
namespace Lz
open PySem PySem.Spec PyProof.Rows L2
/-! ### every second item -/
def ev2 {α : Type} : List α → List α
  | [] => []
  | [a] => [a]
  | a :: _ :: r => a :: ev2 r
theorem ev2_get {α : Type} : ∀ (xs : List α) (k : Nat), (ev2 xs)[k]? = xs[2 * k]?
  | [], k => by simp [ev2]
  | [a], 0 => rfl
  | [a], k + 1 => by
    have e : 2 * (k + 1) = 2 * k + 1 + 1 := by omega
    simp [ev2, e]
  | a :: b :: r, 0 => rfl
  | a :: b :: r, k + 1 => by
    have e : 2 * (k + 1) = 2 * k + 1 + 1 := by omega
    show (ev2 r)[k]? = _
    rw [ev2_get r k, e]
    rfl
theorem ev2_len {α : Type} : ∀ xs : List α, (ev2 xs).length = (xs.length + 1) / 2
  | [] => by simp [ev2]
  | [_] => by simp [ev2]
  | _ :: _ :: r => by
    show (ev2 r).length + 1 = (r.length + 1 + 1 + 1) / 2
    rw [ev2_len r]
    omega
theorem ev2_map {α β : Type} (f : α → β) : ∀ xs : List α, ev2 (xs.map f) = (ev2 xs).map f
  | [] => rfl
  | [_] => rfl
  | a :: b :: r => by
    show f a :: ev2 (r.map f) = f a :: (ev2 r).map f
    rw [ev2_map f r]
theorem vals_ev2 : ∀ {xs : List V} {us : List Value}, Vals xs us → Vals (ev2 xs) (ev2 us)
  | _, _, .nil => .nil
  | _, _, .cons r .nil => .cons r .nil
  | _, _, .cons r (.cons _ rr) => .cons r (vals_ev2 rr)
theorem fm_get {α : Type} {f : Nat → Nat} {us ws : List α} {m : Nat} (hm : ws.length = m) (h : ∀ k, k < m → ws[k]? = us[f k]?) : ((List.range m).map f).filterMap (us[·]?) = ws := by
  induction m generalizing ws with
  | zero =>
    cases ws with
    | nil => rfl
    | cons _ _ => simp at hm
  | succ m ih =>
    have e : ws = ws.take m ++ [ws[m]'(by omega)] := by
      rw [List.take_append_getElem]
      exact (List.take_of_length_le (by omega)).symm
    have a := ih (ws := ws.take m) (by rw [List.length_take]; omega) fun k hk => by rw [List.getElem?_take, if_pos hk]; exact h k (by omega)
    have b := h m (by omega)
    rw [List.range_succ, List.map_append, List.filterMap_append, a]
    rw [List.getElem?_eq_getElem (by omega)] at b
    conv => rhs; rw [e]
    congr 1
    show [f m].filterMap (us[·]?) = _
    rw [List.filterMap_cons, ← b]
    rfl
theorem pick0 (us : List Value) : slicePick us.toArray none none (some 2) = (ev2 us).toArray := by
  unfold slicePick
  congr 1
  have e : sliceBounds none none (some 2) us.toArray.size = (0, (us.length : Int), 2) := by simp [sliceBounds]
  rw [e]
  show (sliceRange 0 (us.length : Int) 2).filterMap (us.toArray[·]?) = ev2 us
  have e2 : sliceRange 0 (us.length : Int) 2 = (List.range ((us.length + 1) / 2)).map fun k => 2 * k := by
    unfold sliceRange
    by_cases h : us.length = 0
    · rw [h]
      rfl
    · have z : ((us.length : Int) - 0 + 2 - 1) / 2 = (((us.length + 1) / 2 : Nat) : Int) := by omega
      have hp : (2 : Int) > 0 := by decide
      have hl : (0 : Int) < (us.length : Int) := by omega
      simp only [hp, hl, if_true, z, Int.toNat_natCast]
      apply List.map_congr_left
      intro k _
      omega
  rw [e2]
  have g : (fun i : Nat => us.toArray[i]?) = fun i : Nat => us[i]? := by
    funext i
    simp
  rw [g]
  exact fm_get (ev2_len us) fun k _ => ev2_get us k
theorem pick1 (us : List Value) : slicePick us.toArray (some 1) none (some 2) = (ev2 (us.drop 1)).toArray := by
  unfold slicePick
  congr 1
  by_cases h : us.length = 0
  · have e : us = [] := List.length_eq_zero_iff.mp h
    subst e
    rfl
  · have e : sliceBounds (some 1) none (some 2) us.toArray.size = (1, (us.length : Int), 2) := by
      simp [sliceBounds]
      omega
    rw [e]
    show (sliceRange 1 (us.length : Int) 2).filterMap (us.toArray[·]?) = _
    have e2 : sliceRange 1 (us.length : Int) 2 = (List.range (us.length / 2)).map fun k => 1 + 2 * k := by
      unfold sliceRange
      by_cases h1 : us.length = 1
      · rw [h1]
        rfl
      · have z : ((us.length : Int) - 1 + 2 - 1) / 2 = ((us.length / 2 : Nat) : Int) := by omega
        have hp : (2 : Int) > 0 := by decide
        have hl : (1 : Int) < (us.length : Int) := by omega
        simp only [hp, hl, if_true, z, Int.toNat_natCast]
        apply List.map_congr_left
        intro k _
        omega
    rw [e2]
    have g : (fun i : Nat => us.toArray[i]?) = fun i : Nat => us[i]? := by
      funext i
      simp
    rw [g]
    refine fm_get (by rw [ev2_len, List.length_drop]; omega) fun k _ => ?_
    rw [ev2_get, List.getElem?_drop]
section
variable {X : Cx}
def tEv (K : PySem.W.Frag) (n : Nat) (te : TE) : TE := fun σ H Q => te σ H fun x H1 => ∃ a xs, x = .ref a ∧ SqL K H1 a xs ∧ ∀ p, H1 p = none → Q (.ref p) (upd H1 p (.lst (ev2 (xs.drop n))))
theorem pe_ev0 {e : Expr} {te : TE} {k : Nat} {p1 p3 pos : Pos} (he : PE X e te) : PE X (.Subscript e (.Slice none none (some (.Constant (.int 2) k p1)) p3) pos) (tEv X.K 0 te) := by
  refine ⟨fun pn s σ H Q I h => Subscript_ (thn (he.run pn s σ H _ I h) fun v s1 ⟨x, H1, I1, r1, a, xs, ex, hx, q⟩ => ?_)⟩
  subst ex
  cases r1
  have two : PO X (some (.Constant (.int 2) k p1)) (tPart (tC (.int 2))) := po_some pe_int
  refine wpAny_Slice (thn (po_none.run pn s1 σ H1 (fun o G => o = none ∧ G = H1) I1 ⟨rfl, rfl⟩) fun v1 s2 ⟨o1, G1, I2, part1, e1, g1⟩ => ?_)
  subst e1 g1
  refine thn (po_none.run pn s2 σ G1 (fun o G => o = none ∧ G = G1) I2 ⟨rfl, rfl⟩) fun v2 s3 ⟨o2, G2, I3, part2, e2, g2⟩ => ?_
  subst e2 g2
  refine thn (two.run pn s3 σ G2 (fun o G => o = some 2 ∧ G = G2) I3 ⟨2, rfl, rfl, rfl⟩) fun v3 s4 ⟨o3, G3, I4, part3, e3, g3⟩ => ?_
  subst e3 g3
  have I5 : L2.Inv X pn σ G3 { s4 with heap := s4.heap.push { cls := .type "slice", data := .fields #[v1, v2, v3] } } := I4.kept (t' := s4.toks) fun b ob z => Heap.get?_push_of_some _ z
  obtain ⟨its, r, ht, hz⟩ := I5.list hx
  have hlen := r.length
  show wpAny (model X.prog X.w) X.A (subscriptTail e _ (.ref a) (.ref s4.heap.objs.size)) (EP X pn σ Q) X.xe _
  refine tail_any (ops := [.ref a, .ref s4.heap.objs.size]) ht.isList.typeIs slot_list_getitem.lookup ?_ (by with_unfolding_all rfl)
  refine wpAny_getItem_list_slice ht.isList (Heap.IsSliceOf.new ..) part1 part2 part3 (by simp) ?_ (by rw [List.size_toArray]; omega)
  rw [pick0]
  refine ⟨.ref _, _, I5.laid (t' := s4.toks) (o := .lst (ev2 xs)) (fun b ob z => Heap.get?_push_of_some _ z) (Nat.le_refl _) ?_, rfl, q _ (I5.hok.fresh (Nat.le_refl _))⟩
  exact ⟨by rw [ev2_len]; omega, ev2 its, 0, vals_ev2 r, Heap.get?_push_size _ rfl⟩
theorem pe_ev1 {e : Expr} {te : TE} {k j : Nat} {p1 p2 p3 pos : Pos} (he : PE X e te) : PE X (.Subscript e (.Slice (some (.Constant (.int 1) j p2)) none (some (.Constant (.int 2) k p1)) p3) pos) (tEv X.K 1 te) := by
  refine ⟨fun pn s σ H Q I h => Subscript_ (thn (he.run pn s σ H _ I h) fun v s1 ⟨x, H1, I1, r1, a, xs, ex, hx, q⟩ => ?_)⟩
  subst ex
  cases r1
  have one : PO X (some (.Constant (.int 1) j p2)) (tPart (tC (.int 1))) := po_some pe_int
  have two : PO X (some (.Constant (.int 2) k p1)) (tPart (tC (.int 2))) := po_some pe_int
  refine wpAny_Slice (thn (one.run pn s1 σ H1 (fun o G => o = some 1 ∧ G = H1) I1 ⟨1, rfl, rfl, rfl⟩) fun v1 s2 ⟨o1, G1, I2, part1, e1, g1⟩ => ?_)
  subst e1 g1
  refine thn (po_none.run pn s2 σ G1 (fun o G => o = none ∧ G = G1) I2 ⟨rfl, rfl⟩) fun v2 s3 ⟨o2, G2, I3, part2, e2, g2⟩ => ?_
  subst e2 g2
  refine thn (two.run pn s3 σ G2 (fun o G => o = some 2 ∧ G = G2) I3 ⟨2, rfl, rfl, rfl⟩) fun v3 s4 ⟨o3, G3, I4, part3, e3, g3⟩ => ?_
  subst e3 g3
  have I5 : L2.Inv X pn σ G3 { s4 with heap := s4.heap.push { cls := .type "slice", data := .fields #[v1, v2, v3] } } := I4.kept (t' := s4.toks) fun b ob z => Heap.get?_push_of_some _ z
  obtain ⟨its, r, ht, hz⟩ := I5.list hx
  have hlen := r.length
  show wpAny (model X.prog X.w) X.A (subscriptTail e _ (.ref a) (.ref s4.heap.objs.size)) (EP X pn σ Q) X.xe _
  refine tail_any (ops := [.ref a, .ref s4.heap.objs.size]) ht.isList.typeIs slot_list_getitem.lookup ?_ (by with_unfolding_all rfl)
  refine wpAny_getItem_list_slice ht.isList (Heap.IsSliceOf.new ..) part1 part2 part3 (by simp) ?_ (by rw [List.size_toArray]; omega)
  rw [pick1]
  refine ⟨.ref _, _, I5.laid (t' := s4.toks) (o := .lst (ev2 (xs.drop 1))) (fun b ob z => Heap.get?_push_of_some _ z) (Nat.le_refl _) ?_, rfl, q _ (I5.hok.fresh (Nat.le_refl _))⟩
  exact ⟨by rw [ev2_len, List.length_drop]; omega, ev2 (its.drop 1), 0, vals_ev2 (r.drop 1), Heap.get?_push_size _ rfl⟩
end
/-! ### list(zip(a, b)) -/
structure Zst (h : Heap) (z TI TO i1 i2 : Addr) (i : Nat) : Prop where
  zp : (i = 0 ∧ IsZip h z TI TO .none) ∨ ∃ T f o, IsZipHeld h z TI TO T f ∧ h.get? T = some o ∧ T ≠ z ∧ T ≠ TO ∧ T ≠ i1 ∧ T ≠ i2
  ti : IsPair h TI (.ref i1) (.ref i2)
  to : ∃ a b, IsPair h TO a b
theorem Zst.lz {h : Heap} {z TI TO i1 i2 : Addr} {i : Nat} (Z : Zst h z TI TO i1 i2 i) : z < h.objs.size := by
  rcases Z.zp with ⟨_, e⟩ | ⟨_, _, _, e, _⟩
  · exact Heap.lt_size e
  · exact Heap.lt_size e
theorem Zst.ty {s : Shared} {z TI TO i1 i2 : Addr} {i : Nat} (Z : Zst s.heap z TI TO i1 i2 i) : s.TypeIs (.ref z) "zip" := by
  rcases Z.zp with ⟨_, e⟩ | ⟨_, _, _, e, _⟩
  · exact ⟨_, e, rfl⟩
  · exact ⟨_, e, rfl⟩
theorem zip_no_len : typeLookup (.type "zip") "__len__" = pure none := by rw [typeLookup_type, builtinLookup_eq_fast]; kernel_rfl
theorem zip_no_hint : typeLookup (.type "zip") "__length_hint__" = pure none := by rw [typeLookup_type, builtinLookup_eq_fast]; kernel_rfl
section
variable {pr : Program} {w : World} {A : Around} {E : Value → Shared → Prop} {s : Shared} {z TI TO i1 i2 l1 l2 : Addr} {i : Nat} {xs ys : Array Value}
theorem next_ {x y : Value} {Q : Option Value → Shared → Prop} (D : ZipApart z TI TO i1 i2 l1 l2) (Z : Zst s.heap z TI TO i1 i2 i)
    (h1 : s.heap.IsListIter i1 l1 i) (h2 : s.heap.IsListIter i2 l2 i) (hl1 : s.heap.IsList l1 xs) (hl2 : s.heap.IsList l2 ys) (hx : xs[i]? = some x) (hy : ys[i]? = some y)
    (hQ : ∀ h', Zst h' z TI TO i1 i2 (i + 1) → h'.IsListIter i1 l1 (i + 1) → h'.IsListIter i2 l2 (i + 1) → IsPair h' s.heap.objs.size x y → (∀ c o, c ≠ z → c ≠ TO → c ≠ i1 → c ≠ i2 → s.heap.get? c = some o → h'.get? c = some o) → Q (some (.ref s.heap.objs.size)) { s with heap := h' }) :
    wpAny (model pr w) A (pyNext (.ref z)) Q E s := by
  have lz := Z.lz
  obtain ⟨zp, hTI, a, b, hTO⟩ := Z
  have lT : TO < s.heap.objs.size := Heap.lt_size hTO
  have g1 : i1 < s.heap.objs.size := by obtain ⟨_, e, _⟩ := h1; exact Heap.lt_size e
  have g2 : i2 < s.heap.objs.size := by obtain ⟨_, e, _⟩ := h2; exact Heap.lt_size e
  rcases zp with ⟨_, hz⟩ | ⟨T, f, o, hz, hT, t1, t2, t3, t4⟩
  · refine wpAny_pyNext_zip_item D hz hTI hTO h1 h2 hl1 hl2 hx hy fun h' b1 b2 b3 b4 b5 _ b7 => hQ h' ⟨.inr ⟨_, false, _, b1, b5, Nat.ne_of_gt lz, Nat.ne_of_gt lT, Nat.ne_of_gt g1, Nat.ne_of_gt g2⟩, b7 _ _ D.TIz D.TITO D.TIi1 D.TIi2 hTI, _, _, b2⟩ b3 b4 b5 b7
  · exact wpAny_pyNext_zip_item_held D hz hT hTI h1 h2 hl1 hl2 hx hy fun h' b1 b3 b4 b5 _ b7 => hQ h' ⟨.inr ⟨T, true, o, b1, b7 _ _ t1 t3 t4 hT, t1, t2, t3, t4⟩, b7 _ _ D.TIz D.TIi1 D.TIi2 hTI, _, _, b7 _ _ D.TOz D.TOi1 D.TOi2 hTO⟩ b3 b4 b5 fun c o' c1 _ c3 c4 e => b7 c o' c1 c3 c4 e
theorem last_ {Q : Option Value → Shared → Prop} (hh : A.handled = none) (D : ZipApart z TI TO i1 i2 l1 l2) (Z : Zst s.heap z TI TO i1 i2 i)
    (h1 : s.heap.IsListIter i1 l1 i) (h2 : s.heap.IsListIter i2 l2 i) (hl1 : s.heap.IsList l1 xs) (hl2 : s.heap.IsList l2 ys) (hx : xs[i]? = none)
    (hQ : ∀ h', (∀ c o, c ≠ z → c ≠ TO → c ≠ i1 → c ≠ i2 → s.heap.get? c = some o → h'.get? c = some o) → Q none { s with heap := h' }) :
    wpAny (model pr w) A (pyNext (.ref z)) Q E s := by
  obtain ⟨zp, hTI, a, b, hTO⟩ := Z
  rcases zp with ⟨_, hz⟩ | ⟨T, f, o, hz, hT, t1, t2, t3, t4⟩
  · exact wpAny_pyNext_zip_end hh D hz hTI hTO h1 h2 hl1 hl2 (.inl hx) hQ
  · exact wpAny_pyNext_zip_end_held hh D hz hT hTI h1 h2 hl1 hl2 (.inl hx) fun h' b7 => hQ h' fun c o' c1 _ c3 c4 e => b7 c o' c1 c3 c4 e
end
/-- what stands behind list(zip(a, b)): new pairs, a new list of them -/
structure Zipped (H0 H : Hp) (S : Addr) (ts : List Addr) (xs ys : List V) : Prop where
  same : Same H0 H
  new : H0 S = none
  lst : H S = some (.lst (ts.map V.ref))
  len : ts.length = xs.length
  get : ∀ (j : Nat) (t : Addr) (x y : V), ts[j]? = some t → xs[j]? = some x → ys[j]? = some y → H t = some (.tup [x, y])
section
variable {X : Cx} {A : Around} {pn : List (Addr × Obj)} {σ : L2.St} {R : Result → Shared → Prop} {z TI TO i1 i2 a b S : Addr} {xs ys : List V} {H0 : Hp}
theorem loop (hh : A.in1.handled = none) (D : ZipApart z TI TO i1 i2 a b) (res : Value) (hle : xs.length = ys.length) (hn : xs.length < sizeLine) (qa : SqL X.K H0 a xs) (qb : SqL X.K H0 b ys) (h0S : H0 S = none) (nS : S ≠ z ∧ S ≠ TI ∧ S ≠ TO ∧ S ≠ i1 ∧ S ≠ i2) :
    ∀ (k i : Nat) (s : Shared) (H : Hp) (ts : List Addr), xs.length - i = k → i ≤ xs.length → L2.Inv X pn σ H s → (∀ c ∈ [z, TI, TO, i1, i2], FpOk X pn H c) → Zst s.heap z TI TO i1 i2 i → s.heap.IsListIter i1 a i → s.heap.IsListIter i2 b i →
      Same H0 H → H S = some (.lst (ts.map V.ref)) → ts.length = i → (∀ (j : Nat) (t : Addr) (x y : V), ts[j]? = some t → xs[j]? = some x → ys[j]? = some y → H t = some (.tup [x, y])) →
      (∀ (s' : Shared) (H' : Hp) (ts' : List Addr), L2.Inv X pn σ H' s' → Zipped H0 H' S ts' xs ys → R (.ok (.ret res)) s') →
      codeAny (model X.prog X.w) A (.builtin "list.extend.loop" ⟨[.ref S, .ref z, res], []⟩) R s := by
  intro k
  induction k with
  | zero =>
    intro i s H ts hk hi I hf Z h1 h2 sm hS ht hg fin
    have e : i = xs.length := by omega
    obtain ⟨us, rv, p1, _⟩ := I.list (sm.seq qa)
    obtain ⟨vs, rv2, p2, _⟩ := I.list (sm.seq qb)
    refine codeAny_builtin F.entry_extend_loop ?_
    rw [Around.under_plainId F.plain_extend_loop _]
    show wpAny _ A.in1 (pyNext (.ref z) >>= _) _ _ s
    refine wpAny_bind (last_ hh D Z h1 h2 p1.isList p2.isList (by
      have := rv.length
      simp
      omega) fun h' kp => ?_)
    refine wpAny_pure (fin _ H ts (I.turnedL (t' := s.toks) (ch := [z, TI, TO, i1, i2]) (fun c o n q => kp c o (fun e => n (by rw [e]; simp)) (fun e => n (by rw [e]; simp)) (fun e => n (by rw [e]; simp)) (fun e => n (by rw [e]; simp)) q) hf) ⟨sm, h0S, hS, by omega, hg⟩)
  | succ k ih =>
    intro i s H ts hk hi I hf Z h1 h2 sm hS ht hg fin
    have hlt : i < xs.length := by omega
    obtain ⟨us, rv, p1, _⟩ := I.list (sm.seq qa)
    obtain ⟨vs, rv2, p2, _⟩ := I.list (sm.seq qb)
    have hx : xs[i]? = some xs[i] := List.getElem?_eq_getElem hlt
    have hy : ys[i]? = some (ys[i]'(by omega)) := List.getElem?_eq_getElem (by omega)
    obtain ⟨u, eu, ru⟩ := rv.get hx
    obtain ⟨v, ev, rv'⟩ := rv2.get hy
    refine codeAny_builtin F.entry_extend_loop ?_
    rw [Around.under_plainId F.plain_extend_loop _]
    show wpAny _ A.in1 (pyNext (.ref z) >>= _) _ _ s
    refine wpAny_bind (next_ D Z h1 h2 p1.isList p2.isList (x := u) (y := v) (by simpa using eu) (by simpa using ev) fun h' Z' h1' h2' hT kp => ?_)
    have new : ObjOk X.prog X.w (upd H s.heap.objs.size (.tup [xs[i], ys[i]'(by omega)])) h' s.heap.objs.size (.tup [xs[i], ys[i]'(by omega)]) := ⟨by show 2 ≤ sizeLine; decide, [u, v], .cons ru (.cons rv' .nil), ⟨_, hT, rfl, _, rfl⟩⟩
    have I1 := I.turnedNew (t' := s.toks) (ch := [z, TI, TO, i1, i2]) (fun c o n q => kp c o (fun e => n (by rw [e]; simp)) (fun e => n (by rw [e]; simp)) (fun e => n (by rw [e]; simp)) (fun e => n (by rw [e]; simp)) q) hf (Nat.le_refl _) new
    have hT0 : H s.heap.objs.size = none := I.hok.fresh (Nat.le_refl _)
    have neS : S ≠ s.heap.objs.size := ne_of_none hS hT0
    have hS1 : upd H s.heap.objs.size (.tup [xs[i], ys[i]'(by omega)]) S = some (.lst (ts.map V.ref)) := by
      rw [upd_ne neS]
      exact hS
    obtain ⟨_, its, n, ri, eS⟩ := I1.hok S _ hS1
    have il := ri.length
    rw [List.length_map] at il
    show wpAny _ A.in1 (updateSeq S (·.push (.ref s.heap.objs.size)) >>= _) _ _ _
    refine wpAny_bind (wpAny_updateSeq eS rfl (wpAny_pure ?_) (by rw [List.size_toArray]; omega) (by show (its.toArray.push _).size ≤ _; rw [Array.size_push, List.size_toArray]; omega))
    have oth : ∀ c o, c ≠ S → h'.get? c = some o → (h'.update S (Obj.mapSeq (·.push (.ref s.heap.objs.size)))).get? c = some o := fun c o n e => (Heap.get?_update_other _ _ (Ne.symm n)).trans e
    have eS2 := Heap.get?_update_self (Obj.mapSeq (·.push (Value.ref s.heap.objs.size))) eS rfl
    have I2 := I1.write (x := S) (e := S) (o := .lst ((ts ++ [s.heap.objs.size]).map V.ref)) (t' := s.toks) (by rw [hS1]; trivial) (.inl rfl) (fun c o n e => oth c o n e) ⟨_, eS2⟩ ⟨by rw [List.length_map, List.length_append, List.length_singleton]; omega, its ++ [.ref s.heap.objs.size], n + 1, by rw [List.map_append]; exact ri.append (.cons rfl .nil), by rw [eS2]; simp [Obj.mapSeq]⟩
    refine ⟨plainId_quiet F.plain_extend_loop _, ih (i + 1) _ _ (ts ++ [s.heap.objs.size]) (by omega) (by omega) I2 (fun c hc => ?_) ?_ ?_ ?_ ?_ upd_same (by rw [List.length_append, ht]; rfl) ?_ fin⟩
    · have f := hf c hc
      have lt : c ≠ s.heap.objs.size := by
        have q : c = z ∨ c = TI ∨ c = TO ∨ c = i1 ∨ c = i2 := by simpa using hc
        rcases q with q | q | q | q | q
        · rw [q]; exact Nat.ne_of_lt Z.lz
        · rw [q]; exact Nat.ne_of_lt (Heap.lt_size Z.ti)
        · rw [q]; obtain ⟨_, _, e⟩ := Z.to; exact Nat.ne_of_lt (Heap.lt_size e)
        · rw [q]; obtain ⟨_, e, _⟩ := h1; exact Nat.ne_of_lt (Heap.lt_size e)
        · rw [q]; obtain ⟨_, e, _⟩ := h2; exact Nat.ne_of_lt (Heap.lt_size e)
      have nc : c ≠ S := by
        have q : c = z ∨ c = TI ∨ c = TO ∨ c = i1 ∨ c = i2 := by simpa using hc
        rcases q with q | q | q | q | q
        · rw [q]; exact nS.1.symm
        · rw [q]; exact nS.2.1.symm
        · rw [q]; exact nS.2.2.1.symm
        · rw [q]; exact nS.2.2.2.1.symm
        · rw [q]; exact nS.2.2.2.2.symm
      refine ⟨?_, f.2⟩
      rw [upd_ne nc, upd_ne lt]
      exact f.1
    · obtain ⟨zp, t1, a1, b1, t2⟩ := Z'
      refine ⟨?_, oth _ _ nS.2.1.symm t1, a1, b1, oth _ _ nS.2.2.1.symm t2⟩
      rcases zp with ⟨q, _⟩ | ⟨T, f, o, q1, q2, q3⟩
      · omega
      · by_cases eT : T = S
        · exact .inr ⟨T, f, _, oth _ _ nS.1.symm q1, by rw [eT]; exact eS2, q3⟩
        · exact .inr ⟨T, f, o, oth _ _ nS.1.symm q1, oth _ _ eT q2, q3⟩
    · exact h1'.at fun o e => oth _ o nS.2.2.2.1.symm e
    · exact h2'.at fun o e => oth _ o nS.2.2.2.2.symm e
    · intro c o e
      rw [upd_ne (ne_of_none e h0S), upd_ne (ne_of_none (sm _ _ e) hT0)]
      exact sm _ _ e
    · intro j t x y hj hx' hy'
      by_cases hji : j < ts.length
      · rw [List.getElem?_append_left hji] at hj
        have q := hg j t x y hj hx' hy'
        rw [upd_ne (ne_of q hS (by intro z; cases z)), upd_ne (ne_of_none q hT0)]
        exact q
      · have ej : j = i := by
          have := (List.getElem?_eq_some_iff.mp hj).1
          rw [List.length_append, List.length_singleton] at this
          omega
        subst ej
        rw [List.getElem?_append_right (by omega), ht, Nat.sub_self] at hj
        cases hj
        rw [hx] at hx'
        rw [hy] at hy'
        cases hx'
        cases hy'
        rw [upd_ne neS.symm]
        exact upd_same
def tLZ (K : PySem.W.Frag) (ta : TA) : TE := fun σ H Q => ta σ H fun vs H1 => ∃ a b xs ys, vs = [.ref a, .ref b] ∧ SqL K H1 a xs ∧ SqL K H1 b ys ∧ xs.length = ys.length ∧ xs.length < sizeLine ∧ ∀ S ts H', Zipped H1 H' S ts xs ys → Q (.ref S) H'
theorem pe_LZ {e e2 : Expr} {ta : TA} {p p2 pos pos2 : Pos} (hc : X.calm = true) (hg : Gl X "list") (hm : X.mg "list" = none) (hg2 : Gl X "zip") (hm2 : X.mg "zip" = none) (ha : PA X [e, e2] ta)
    (hs : starEach [e, e2] X.env = (false, eval e X.env) :: starEach [e2] X.env := by rfl) (hpl : (backTo pos2 (starEach [e2] X.env)).any (·.1) = false := by rfl)
    (hs2 : starEach [.Call (.Name "zip" p2) [e, e2] [] pos2] X.env = (false, eval (.Call (.Name "zip" p2) [e, e2] [] pos2) X.env) :: starEach [] X.env := by rfl) :
    PE X (.Call (.Name "list" p) [.Call (.Name "zip" p2) [e, e2] [] pos2] [] pos) (tLZ X.K ta) := by
  refine ⟨fun pn s σ H Q I h => ?_⟩
  refine Call_ (ld_blt I hg hm boot_list (PyProof.Rows.callWith_type1 (args_cons (Call_ (ld_blt I hg2 hm2 boot_zip (PyProof.Rows.callWith_type1 (thn (ha.run pos2 pn s σ H _ I h) fun us s1 ⟨vs, H1, I1, r1, q1⟩ => ?_) hs hpl))) hs2) hs2 rfl))
  obtain ⟨a, b, xs, ys, ex, qx, qy, hle, hn, q⟩ := q1
  subst ex
  cases r1 with
  | cons r rr =>
   cases rr with
   | cons r' rr =>
    cases rr
    cases r
    cases r'
    obtain ⟨us, rv, p1, _⟩ := I1.list qx
    obtain ⟨vs, rv2, p2, _⟩ := I1.list qy
    have la := p1.lt
    have lb := p2.lt
    refine call_zip_2 p1.isList p2.isList fun h' hz hTI hTO h1 h2 hsz kp => args_nil ?_
    have I2 : L2.Inv X pn σ H1 { s1 with heap := h' } := I1.kept (t' := s1.toks) kp
    have D := PySem.W.ktu_apart s1.heap.objs.size a b la lb
    have hh : X.A.in1.in1.handled = none := I1.ok.hd hc
    have fp : ∀ c ∈ [s1.heap.objs.size + 4, s1.heap.objs.size + 2, s1.heap.objs.size + 3, s1.heap.objs.size, s1.heap.objs.size + 1], FpOk X pn H1 c := fun c hcm => by
      have le : s1.heap.objs.size ≤ c := by
        have e' : c = s1.heap.objs.size + 4 ∨ c = s1.heap.objs.size + 2 ∨ c = s1.heap.objs.size + 3 ∨ c = s1.heap.objs.size ∨ c = s1.heap.objs.size + 1 := by simpa using hcm
        rcases e' with q | q | q | q | q <;> (rw [q]; first | exact Nat.le_refl _ | exact Nat.le_add_right _ _)
      exact I1.fpOk le (I1.hok.fresh le)
    generalize s1.heap.objs.size + 4 = z at *
    generalize s1.heap.objs.size + 2 = TI at *
    generalize s1.heap.objs.size + 3 = TO at *
    generalize s1.heap.objs.size + 1 = i2 at *
    generalize s1.heap.objs.size = i1 at *
    have Z0 : Zst h' z TI TO i1 i2 0 := ⟨.inl ⟨rfl, hz⟩, hTI, _, _, hTO⟩
    have l1 : i1 < h'.objs.size := by obtain ⟨_, e, _⟩ := h1; exact Heap.lt_size e
    have l2 : i2 < h'.objs.size := by obtain ⟨_, e, _⟩ := h2; exact Heap.lt_size e
    refine callType_codes (Q₁ := fun obj t => obj = .ref h'.objs.size ∧ t = { s1 with heap := h'.push { cls := .type "list", data := .seq #[] } }) F.called_list (F.typeCall_list_1 _) F.entry_list_init (code_list_new _ ⟨rfl, rfl⟩) fun obj t ht => ?_
    obtain ⟨rfl, rfl⟩ := ht
    have eS : (h'.push { cls := .type "list", data := .seq #[] }).get? h'.objs.size = some { cls := .type "list", data := .seq #[] } := Heap.get?_push_size _ rfl
    have up : ∀ c o, h'.get? c = some o → (h'.push { cls := .type "list", data := .seq #[] }).get? c = some o := fun c o e => Heap.get?_push_of_some _ e
    refine ⟨⟨_, eS, rfl⟩, F.args_list_init_2 _ _, ?_⟩
    generalize h'.push { cls := .type "list", data := .seq #[] } = g at eS up ⊢
    have nS : h'.objs.size ≠ z ∧ h'.objs.size ≠ TI ∧ h'.objs.size ≠ TO ∧ h'.objs.size ≠ i1 ∧ h'.objs.size ≠ i2 := ⟨Nat.ne_of_gt Z0.lz, Nat.ne_of_gt (Heap.lt_size hTI), Nat.ne_of_gt (Heap.lt_size hTO), Nat.ne_of_gt l1, Nat.ne_of_gt l2⟩
    have h0S : H1 h'.objs.size = none := I2.hok.fresh (Nat.le_refl _)
    have lS : h'.objs.size ≤ h'.objs.size := Nat.le_refl _
    generalize eN : h'.objs.size = S at eS nS h0S lS ⊢
    show wpAny _ _ (do let old ← Builtin.List.listItems (.ref S); Builtin.List.listUpdate (.ref S) (fun _ => #[]); letGo old.toList.reverse; Builtin.List.listExtendWith (.ref S) (.ref z) .none) _ _ _
    unfold Builtin.List.listItems
    refine wpAny_bind (wpAny_bind (wpAny_seqItems eS rfl (wpAny_pure ?_)))
    show wpAny _ _ (updateSeq S (fun _ => #[]) >>= fun _ => letGo (#[] : Array Value).toList.reverse >>= fun _ => Builtin.List.listExtendWith (.ref S) (.ref z) .none) _ _ _
    refine wpAny_bind (wpAny_updateSeq eS rfl ?_)
    have eS2 := Heap.get?_update_self (Obj.mapSeq (fun _ => (#[] : Array Value))) eS rfl
    have o2 : ∀ c o, c ≠ S → g.get? c = some o → (g.update S (Obj.mapSeq (fun _ => (#[] : Array Value)))).get? c = some o := fun c o n e => (Heap.get?_update_other _ _ (Ne.symm n)).trans e
    refine wpAny_bind (wpAny_letGo ?_)
    generalize g.update S (Obj.mapSeq (fun _ => (#[] : Array Value))) = g2 at eS2 o2 ⊢
    have Z2 : Zst g2 z TI TO i1 i2 0 := ⟨.inl ⟨rfl, o2 _ _ nS.1.symm (up _ _ hz)⟩, o2 _ _ nS.2.1.symm (up _ _ hTI), _, _, o2 _ _ nS.2.2.1.symm (up _ _ hTO)⟩
    have ty2 : Shared.TypeIs { s1 with heap := g2 } (.ref z) "zip" := Zst.ty (s := { s1 with heap := g2 }) Z2
    unfold Builtin.List.listExtendWith
    refine wpAny_bind (wpAny_typeOf ty2 ?_)
    have c1 : Builtin.List.listSameRef (.ref S) (.ref z) = false := by simp [Builtin.List.listSameRef, nS.1]
    have c2 : (Value.type "zip" == Value.type "list") = false := by decide
    have c3 : (Value.type "zip" == Value.type "tuple") = false := by decide
    simp only [c1, c2, c3, Bool.or_false, Bool.false_eq_true, if_false]
    refine wpAny_bind (wpAny_pyIter_zip (o2 _ _ nS.1.symm (up _ _ hz)) ?_)
    refine wpAny_bind (wpAny_holding ?_)
    unfold Builtin.List.listLengthHint
    refine wpAny_bind (wpAny_specialOf ty2 zip_no_len ?_)
    show wpAny _ _ (specialOf (Value.ref z) (Str.ofString "__length_hint__") >>= _) _ _ _
    refine wpAny_bind (wpAny_specialOf ty2 zip_no_hint (wpAny_pure ?_))
    show wpAny _ _ (rule "list.extend.makes-room" >>= fun _ => Builtin.List.listTouch (.ref S) >>= fun _ => again (.builtin "list.extend.loop" ⟨[.ref S, .ref z, .none], []⟩)) _ _ _
    refine wpAny_bind (wpAny_rule (wpAny_bind ?_))
    show wpAny _ _ (updateSeq S (·.push .none) >>= fun _ => updateSeq S (·.pop)) _ _ _
    refine wpAny_bind (wpAny_updateSeq eS2 rfl ?_)
    have eS3 := Heap.get?_update_self (Obj.mapSeq (·.push Value.none)) eS2 rfl
    refine wpAny_updateSeq (hz := by seq_fits) eS3 rfl ?_
    have eS4 := Heap.get?_update_self (Obj.mapSeq (·.pop)) eS3 rfl
    have o4 : ∀ c o, c ≠ S → g2.get? c = some o → ((g2.update S (Obj.mapSeq (·.push Value.none))).update S (Obj.mapSeq (·.pop))).get? c = some o := fun c o n e => (Heap.get?_update_other _ _ (Ne.symm n)).trans ((Heap.get?_update_other _ _ (Ne.symm n)).trans e)
    refine wpAny_pure ⟨plainId_quiet F.plain_extend_loop _, ?_⟩
    generalize (g2.update S (Obj.mapSeq (·.push Value.none))).update S (Obj.mapSeq (·.pop)) = g4 at eS4 o4 ⊢
    have kp4 : ∀ c o, h'.get? c = some o → g4.get? c = some o := fun c o e => by
      have n : c ≠ S := by
        rw [← eN]
        exact Nat.ne_of_lt (Heap.lt_size e)
      exact o4 c o n (o2 c o n (up c o e))
    have I4 := I2.laid (t' := s1.toks) (o := .lst (([] : List Addr).map V.ref)) kp4 (Nat.le_of_eq eN) ⟨by simp, [], _, .nil, eS4⟩
    refine loop hh D .none hle hn qx qy h0S nS xs.length 0 _ _ [] (by omega) (Nat.zero_le _) I4 (fun c hcm => ?_) ⟨.inl ⟨rfl, kp4 _ _ hz⟩, kp4 _ _ hTI, _, _, kp4 _ _ hTO⟩ (h1.at fun o e => kp4 _ o e) (h2.at fun o e => kp4 _ o e) (fun c o e => by rw [upd_ne (ne_of_none e h0S)]; exact e) upd_same rfl (fun j t x y hj => by simp at hj) ?_
    · have f := fp c hcm
      refine ⟨?_, f.2⟩
      have n : c ≠ S := by
        have e' : c = z ∨ c = TI ∨ c = TO ∨ c = i1 ∨ c = i2 := by simpa using hcm
        rcases e' with q | q | q | q | q
        · rw [q]; exact nS.1.symm
        · rw [q]; exact nS.2.1.symm
        · rw [q]; exact nS.2.2.1.symm
        · rw [q]; exact nS.2.2.2.1.symm
        · rw [q]; exact nS.2.2.2.2.symm
      rw [upd_ne n]
      exact f.1
    · intro s' H' ts' I' Z'
      exact ⟨rfl, ⟨.ref S, H', I', rfl, q S ts' H' Z'⟩⟩
end
end Lz
set_option linter.all false
/-! set(xs) of a list of ints, as sorted() asks for it -/
namespace Si
open PySem PySem.Spec PyProof.Rows L2
abbrev nw (w : World) : Obj := { cls := .type "set", dict := none, data := .set #[] 0 (.fresh 0 0 (!w.params.followText "set-order")) }
section
variable {P : Program} {w : World} {A : Around} {E : Value → Shared → Prop} {s : Shared}
set_option maxHeartbeats 3200000 in
theorem set_list {l : Addr} {items : Array Value} (ns : List Int) {Q : Value → Shared → Prop} (hh : A.handled = none) (hl : s.heap.IsList l items) (hit : IntsAre items.toList ns) (hb : ns.length + 1 < scanBound)
    (h : ∀ (h' : Heap) (tk c : Nat), SetR w h' s.heap.objs.size (fun j => decide (j ∈ ns)) c → c ≤ ns.length → (∀ b o, s.heap.get? b = some o → h'.get? b = some o) → Q (.ref s.heap.objs.size) { s with heap := h', toks := tk }) :
    wpAny (model P w) A (call (.type "set") [.ref l]) Q E s := by
  have isz : items.size = ns.length := by
    have q := IntsAre.length hit
    rwa [Array.length_toList] at q
  obtain ⟨c, tl, hmro⟩ := F.called_set.mro
  have hmade := F.called_set.made
  have hsub := F.called_set.sub
  refine wpAny_call (codeAny_of_tree ?_)
  show wpAny _ _ (callAny (.type "set") _) _ _ _
  refine wpAny_pure ⟨Code.quiet_builtin _ (by decide +kernel), codeAny_builtin F.entry_type_call ?_⟩
  rw [Around.under_plain (weight_type_call_type "set" [.ref l] []) rfl]
  have h1 := F.called_set.notType
  have h2 := F.called_set.canCreate
  have hct := F.typeCall_set_1 (.ref l)
  repeat (any_goals (first | assumption | wp_step))
  refine codeAny_mono (code_set_led1 (.ref l) (E := E) (Q₁ := fun obj s₁ => obj = .ref s.heap.objs.size ∧ s₁ = { s with heap := s.heap.push (nw w) }) ⟨rfl, rfl⟩) fun r s₁ hr => ?_
  cases r with
  | error e => exact hr
  | ok fl =>
    cases fl with
    | ret obj =>
      obtain ⟨rfl, rfl⟩ := hr
      have hS : (s.heap.push (nw w)).get? s.heap.objs.size = some (nw w) := Heap.get?_push_size _ rfl
      have hT : Shared.TypeIs { s with heap := s.heap.push (nw w) } (.ref s.heap.objs.size) "set" := ⟨_, hS, rfl⟩
      have hli := F.called_set.init.lookup
      have hbi := F.called_set.init.bind (.ref s.heap.objs.size)
      repeat (any_goals (first | assumption | wp_step))
      refine codeAny_mono (codeAny_call_builtin (R := wants (fun r s₂ => r = .none ∧ ∃ h' tk c, s₂ = { s with heap := h', toks := tk } ∧ SetR w h' s.heap.objs.size (fun j => decide (j ∈ ns)) c ∧ c ≤ ns.length ∧
          (∀ b o, s.heap.get? b = some o → h'.get? b = some o)) E) F.called_set.init.plain F.entry_set_init (check_set_init_1 hT ?_)) fun r₂ s₂ hr₂ => ?_
      · obtain ⟨ol, hol, hcl, nl, hdl⟩ := hl
        obtain ⟨ocls, odict, odata, oslots⟩ := ol
        simp only at hcl hdl
        subst hcl; subst hdl
        have hol' : (s.heap.push (nw w)).get? l = some { cls := .type "list", dict := odict, data := .seq items nl, slots := oslots } := Heap.get?_push_of_some _ hol
        have hsls := F.sub_list_set
        have hslf := F.sub_list_frozenset
        have hne : (Value.type "list" == Value.type "dict") = false := by decide
        have hl1 : (s.heap.push (nw w)).IsList l items := ⟨_, hol', rfl, nl, rfl⟩
        unfold Builtin.«set.__init__» noKeywords Builtin.Frozenset.updateFrom
        generalize hPI : pyIter = PI
        wp_walk
        subst hPI
        refine wpAny_pyIter_list hl1 ?_
        refine wpAny_bind (wpAny_runValue ?_)
        have lS : l < s.heap.objs.size := Heap.lt_size hol
        have hh3 : A.in1.in1.in1.handled = none := by simp [hh]
        have neI : l ≠ (s.heap.push (nw w)).objs.size := by
          rw [Heap.size_push]
          exact Nat.ne_of_lt (Nat.lt_succ_of_lt lS)
        have notF : s.heap.objs.size ∉ [(s.heap.push (nw w)).objs.size, l] := by
          rw [Heap.size_push]
          simp only [List.mem_cons, List.mem_singleton, List.not_mem_nil, or_false, not_or]
          exact ⟨Nat.ne_of_lt (Nat.lt_succ_self _), Nat.ne_of_gt lS⟩
        have val : ∀ (i : Nat) (v : Value), items[i]? = some v → ∃ k t, ns[i]? = some k ∧ v = .int k t := fun i v hv => by
          have hi : i < ns.length := by rw [← isz]; exact (Array.getElem?_eq_some_iff.mp hv).1
          obtain ⟨t, e⟩ := IntsAre.int_at hit i v (by rw [Array.getElem?_toList]; exact hv)
          exact ⟨ns[i], t, List.getElem?_eq_getElem hi, by rw [e, List.getD_eq_getElem?_getD, List.getElem?_eq_getElem hi] <;> rfl⟩
        refine set_update_ints ((Walks.list hh3 _ l neI items).toS) s.heap.objs.size notF ns isz hb val (items.size - 0) 0 _ (by omega) (Nat.zero_le _) ⟨⟨_, Heap.get?_push_size _ rfl, rfl, rfl⟩, (hl1.push _)⟩ ⟨0, Nat.le_refl 0, setR_new_at (Heap.get?_push_of_some _ hS)⟩ ?_
        intro s' c' hm hc' hS'
        obtain ⟨h', g2, d', tk', os'⟩ := s'
        have eg : g2 = s.gens := hm.gens
        have ed : d' = s.drawn := hm.drawn
        have eo : os' = s.os := hm.os
        subst eg; subst ed; subst eo
        show wpAny _ _ _ _ _ _
        refine wpAny_pure ?_
        show wpAny _ _ (ret Value.none) _ _ _
        rw [isz] at hc'
        refine wpAny_pure ⟨rfl, h', tk', c', rfl, hS', hc', fun b o e => ?_⟩
        have b0 : b < s.heap.objs.size := Heap.lt_size e
        have b2 : b ≠ (s.heap.push (nw w)).objs.size := by
          rw [Heap.size_push]
          exact Nat.ne_of_lt (Nat.lt_succ_of_lt b0)
        exact hm.heap b o (by simp only [List.mem_cons, List.mem_singleton, List.not_mem_nil, or_false, not_or]; exact ⟨Nat.ne_of_lt b0, b2⟩) (Heap.get?_push_of_some _ (Heap.get?_push_of_some _ e))
      · cases r₂ with
        | error e => exact hr₂
        | ok fl₂ =>
          cases fl₂ with
          | ret r =>
            obtain ⟨rfl, h', tk, c', rfl, hS', hc', hk'⟩ := hr₂
            repeat (any_goals (first | assumption | wp_step))
            exact h _ _ _ hS' hc' hk'
          | _ => exact hr₂.elim
    | _ => exact hr.elim
end
/-- set(xs), a list of ints -/
def rSetL (K : PySem.W.Frag) (w : World) : List V → Hp → VK → Prop := fun xs H Q => ∃ (l : Addr) (ns : List Int), xs = [V.ref l] ∧ SqL K H l (ns.map V.int) ∧ ns.length ≤ 1000 ∧
  ∀ a c, H a = none → c ≤ ns.length → Q (.ref a) (upd H a (SetO w a (fun j => decide (j ∈ ns)) c))
theorem cr_setL {X : Cx} (hc : X.calm = true) : CallR X (.type "set") (rSetL X.K X.w) := by
  intro pins s σ H xs us Q I r h
  obtain ⟨l, ns, rfl, hl, hf, q⟩ := h
  rw [Vals.ref1 r]
  obtain ⟨its, rv, pl, hz⟩ := I.list hl
  refine set_list (P := X.prog) (w := X.w) ns (I.ok.hd hc) pl.isList (by simpa using rv.ints) (by unfold scanBound; omega) fun h' tk c R g k => ?_
  exact ⟨.ref s.heap.objs.size, upd H s.heap.objs.size (SetO X.w s.heap.objs.size (fun j => decide (j ∈ ns)) c), I.laid (t' := tk) k (Nat.le_refl _) (setO_new R), rfl, q _ _ (I.hok.fresh (Nat.le_refl _)) g⟩
end Si
set_option linter.all false
/-! zip(*xs): any number of lists, or of tuples, of one length -/
namespace Zn
open PySem PySem.Spec PyProof.Rows L2 Zm
section
variable {pr : Program} {w : World} {A : Around} {E : Value → Shared → Prop} {s : Shared}
theorem nx_item (k : Kd) {it a : Addr} {i : Nat} {items : Array Value} {x : Value} {Q : Value → Shared → Prop} (hit : Itr k s.heap it a i) (hl : Sqh k s.heap a items) (hx : items[i]? = some x)
    (hQ : ∀ h', Itr k h' it a (i + 1) → Heap.SameBut it s.heap h' → Q x { s with heap := h' }) : wpAny (model pr w) A (Builtin.SmallTypes.nextOf (.ref it)) Q E s := match k, hit, hl, hQ with
  | .l, hit, hl, hQ => wpAny_nextOf_list_item hit hl hx hQ
  | .t, hit, hl, hQ => wpAny_nextOf_tuple_item hit hl hx hQ
theorem nx_end (k : Kd) {it a : Addr} {i : Nat} {items : Array Value} {Q : Value → Shared → Prop} (hh : A.handled = none) (hit : Itr k s.heap it a i) (hl : Sqh k s.heap a items) (hx : items[i]? = none)
    (hE : ∀ h' e, Heap.ExtBut it s.heap h' → (∃ o, h'.get? e = some o ∧ o.cls = .type "StopIteration") → E (.ref e) { s with heap := h' }) : wpAny (model pr w) A (Builtin.SmallTypes.nextOf (.ref it)) Q E s := match k, hit, hl with
  | .l, hit, hl => wpAny_nextOf_list_end hh hit hl hx hE
  | .t, hit, hl => wpAny_nextOf_tuple_end hh hit hl hx hE
theorem steps {α σ : Type} {B : α → σ → Sem (ForInStep σ)} (J : Nat → σ → Shared → Prop) : ∀ (is : List α) (o : Nat) (st : σ) (s : Shared), J o st s →
    (∀ j it st s, is[j]? = some it → J (o + j) st s → wpAny (model pr w) A (B it st) (fun r s' => ∃ st', r = .yield st' ∧ J (o + j + 1) st' s') E s) →
    wpAny (model pr w) A (forIn is st B) (fun st s' => J (o + is.length) st s') E s
  | [], o, st, s, h0, _ => by
    rw [List.forIn_nil]
    exact wpAny_pure h0
  | it :: is, o, st, s, h0, hs => by
    rw [List.forIn_cons]
    refine wpAny_bind (wpAny_mono (hs 0 it st s rfl h0) (fun r s' h => ?_) fun _ _ x => x)
    obtain ⟨st', rfl, h1⟩ := h
    have z := steps J is (o + 1) st' s' h1 fun j it' st s e h => by
      have e1 : o + 1 + j = o + (j + 1) := by omega
      rw [e1] at h ⊢
      exact hs (j + 1) it' st s e h
    have e2 : o + (it :: is).length = o + 1 + is.length := by rw [List.length_cons]; omega
    rw [e2]
    exact z
/-- a zip of iterators -/
abbrev IsTup (h : Heap) (T : Addr) (vs : List Value) : Prop := h.get? T = some { cls := .type "tuple", data := .seq vs.toArray }
structure Apart (z TI TO : Addr) (is as : List Addr) : Prop where
  nd : is.Nodup
  zi : z ∉ is
  TIi : TI ∉ is
  TOi : TO ∉ is
  TIz : TI ≠ z
  TOz : TO ≠ z
  TITO : TI ≠ TO
  ai : ∀ a ∈ as, a ∉ is
  az : ∀ a ∈ as, a ≠ z
  aTO : ∀ a ∈ as, a ≠ TO
def Its (k : Kd) (h : Heap) (is as : List Addr) (lo hi i : Nat) : Prop := ∀ (j : Nat) (it a : Addr), lo ≤ j → j < hi → is[j]? = some it → as[j]? = some a → Itr k h it a i
def Sqs (k : Kd) (h : Heap) (as : List Addr) (xss : List (List Value)) : Prop := ∀ (j : Nat) (a : Addr) (xs : List Value), as[j]? = some a → xss[j]? = some xs → Sqh k h a xs.toArray
theorem sqh_keep {k : Kd} {h h' : Heap} {a : Addr} {its : Array Value} (x : Sqh k h a its) (kp : ∀ o, h.get? a = some o → h'.get? a = some o) : Sqh k h' a its := by
  cases k with
  | l => exact x.at kp
  | t => exact x.at kp
theorem nd_inj {as : List Addr} (h : as.Nodup) {i j : Nat} {a : Addr} (h1 : as[i]? = some a) (h2 : as[j]? = some a) : i = j := by
  obtain ⟨hi, e1⟩ := List.getElem?_eq_some_iff.mp h1
  obtain ⟨hj, e2⟩ := List.getElem?_eq_some_iff.mp h2
  have pw := List.pairwise_iff_getElem.mp h
  rcases Nat.lt_trichotomy i j with l | l | l
  · exact absurd (e1.trans e2.symm) (pw i j hi hj l)
  · exact l
  · exact absurd (e2.trans e1.symm) (pw j i hj hi l)
/-- the i-th items of all -/
structure Col (xss : List (List Value)) (i : Nat) (row : List Value) : Prop where
  len : row.length = xss.length
  get : ∀ {j : Nat} {xs : List Value}, xss[j]? = some xs → ∃ v, xs[i]? = some v ∧ row[j]? = some v
theorem take_one {α : Type} {l : List α} {j : Nat} {v : α} (h : l[j]? = some v) : l.take (j + 1) = l.take j ++ [v] := by
  rw [List.take_add_one, h]
  rfl
theorem not_empty {is : List Addr} (h : is ≠ []) : (is.map Value.ref).toArray.isEmpty = false := by
  cases is with
  | nil => exact absurd rfl h
  | cons a b => rfl
theorem next_held {z TI TO T : Addr} {f : Bool} {oT : Obj} {i : Nat} {k : Kd} {is as : List Addr} {xss : List (List Value)} {row : List Value} {Q : Value → Shared → Prop} (D : Apart z TI TO is as)
    (hz : IsZipHeld s.heap z TI TO T f) (hT : s.heap.get? T = some oT) (hTI : IsTup s.heap TI (is.map Value.ref)) (hit : Its k s.heap is as 0 is.length i) (hsq : Sqs k s.heap as xss) (la : as.length = is.length) (lx : xss.length = is.length) (col : Col xss i row) (hne : is ≠ []) (hsz : row.length ≤ sizeLine)
    (hQ : ∀ h', IsZipHeld h' z TI TO T true → Its k h' is as 0 is.length (i + 1) → IsTup h' s.heap.objs.size row → h'.objs.size = s.heap.objs.size + 1 → (∀ c o, c ≠ z → c ∉ is → s.heap.get? c = some o → h'.get? c = some o) → Q (.ref s.heap.objs.size) { s with heap := h' }) :
    wpAny (model pr w) A (Builtin.«zip.__next__» ⟨[.ref z], []⟩) (fun fin s' => ∃ v, fin = .done (.ret v) ∧ Q v s') E s := by
  show wpAny _ _ (field (.ref z) 2 >>= _) _ _ _
  refine wpAny_bind (wpAny_field hz rfl (x := .bool false) rfl ?_)
  show wpAny _ _ (field (.ref z) 3 >>= _) _ _ _
  refine wpAny_bind (wpAny_field hz rfl (x := .ref TI) rfl ?_)
  refine wpAny_bind (wpAny_seqItems hTI rfl ?_)
  dsimp only
  rw [not_empty hne]
  simp only [Bool.false_eq_true, if_false]
  refine wpAny_bind (wpAny_tupleHeld_zip hz hT fun h₁ hz₁ hs₁ => ?_)
  simp only [Bool.false_eq_true, if_false]
  refine wpAny_bind ?_
  rw [← Array.forIn_toList]
  have rl := col.len
  refine wpAny_mono (steps (fun j (st : Option PySem.Fin × Array Value) s' => st.1 = none ∧ st.2.toList = row.take j ∧ ∃ h', s' = { s with heap := h' } ∧ h'.objs.size = s.heap.objs.size ∧ IsZipHeld h' z TI TO T true ∧ Its k h' is as 0 j (i + 1) ∧ Its k h' is as j is.length i ∧ ∀ c o, c ≠ z → c ∉ is → s.heap.get? c = some o → h'.get? c = some o)
    _ 0 _ _ ⟨rfl, rfl, h₁, rfl, hs₁.1, hz₁, fun j it a _ h2 => absurd h2 (Nat.not_lt_zero _), fun j it a h1 h2 e1 e2 => itr_keep (hit j it a h1 h2 e1 e2) fun o e => hs₁.extBut _ _ (fun q => D.zi (by rw [← q]; exact List.mem_of_getElem? e1)) e, fun c o c1 _ e => hs₁.extBut _ _ c1 e⟩ ?_) ?_ fun _ _ x => x
  · rintro j it ⟨r, items⟩ s' ej ⟨rfl, hi, h', rfl, hsz', hz', d1, d2, kp⟩
    rw [Nat.zero_add] at *
    dsimp only at hi
    have ej' : (is.map Value.ref)[j]? = some it := by simpa using ej
    rw [List.getElem?_map] at ej'
    obtain ⟨q, eq, rfl⟩ := Option.map_eq_some_iff.mp ej'
    have hj : j < is.length := (List.getElem?_eq_some_iff.mp eq).1
    have ea : as[j]? = some (as[j]'(by omega)) := List.getElem?_eq_getElem (by omega)
    have ex : xss[j]? = some (xss[j]'(by omega)) := List.getElem?_eq_getElem (by omega)
    obtain ⟨v, ev, er⟩ := col.get ex
    have ma := List.mem_of_getElem? ea
    have mq := List.mem_of_getElem? eq
    refine wpAny_bind (wpAny_holding ?_)
    show wpAny _ _ (Builtin.SmallTypes.nextOf (.ref q) >>= _) _ _ _
    refine wpAny_bind (nx_item k (s := { s with heap := h' }) (x := v) (d2 j q _ (Nat.le_refl _) hj eq ea) (sqh_keep (hsq j _ _ ea ex) fun o e => kp _ o (D.az _ ma) (D.ai _ ma) e) (by simpa using ev) fun h₂ hq₂ hs₂ => wpAny_pure ?_)
    refine wpAny_pure ⟨_, rfl, rfl, ?_, h₂, rfl, by rw [hs₂.1]; exact hsz', hs₂.extBut _ _ (fun e => D.zi (by rw [e]; exact mq)) hz', fun j' it' a' l1 l2 e1 e2 => ?_, fun j' it' a' l1 l2 e1 e2 => ?_, fun c o c1 c2 e => hs₂.extBut _ _ (fun e' => c2 (by rw [e']; exact mq)) (kp c o c1 c2 e)⟩
    · show (items.push v).toList = _
      rw [Array.toList_push, hi, take_one er]
    · by_cases e : j' = j
      · subst e
        rw [eq] at e1
        rw [ea] at e2
        cases e1
        cases e2
        exact hq₂
      · exact itr_keep (d1 j' it' a' l1 (by omega) e1 e2) fun o eo => hs₂.extBut _ _ (fun e' => e (nd_inj D.nd e1 (by rw [e']; exact eq))) eo
    · exact itr_keep (d2 j' it' a' (by omega) l2 e1 e2) fun o eo => hs₂.extBut _ _ (fun e' => absurd (nd_inj D.nd e1 (by rw [e']; exact eq)) (by omega)) eo
  · rintro ⟨r, items⟩ s' ⟨rfl, hi, h', rfl, hsz', hz', d1, d2, kp⟩
    have el : 0 + (List.map Value.ref is).toArray.toList.length = is.length := by simp
    rw [el] at hi d1
    dsimp only at hi
    rw [List.take_of_length_le (by omega)] at hi
    dsimp only
    rw [hi]
    refine wpAny_bind (wpAny_newTuple ?_ hsz)
    refine wpAny_pure ⟨_, rfl, ?_⟩
    have hp : IsTup (h'.push { cls := .type "tuple", data := .seq row.toArray }) h'.objs.size row := Heap.get?_push_size _ rfl
    have hz4 : (h'.push { cls := .type "tuple", data := .seq row.toArray }).objs.size = h'.objs.size + 1 := Heap.size_push ..
    show Q (.ref h'.objs.size) _
    rw [hsz'] at hp hz4 ⊢
    exact hQ _ (Heap.get?_push_of_some _ hz') (fun j it a l1 l2 e1 e2 => itr_keep (d1 j it a l1 l2 e1 e2) fun o e => Heap.get?_push_of_some _ e) hp hz4 fun c o c1 c2 e => Heap.get?_push_of_some _ (kp c o c1 c2 e)
theorem end_held {z TI TO T : Addr} {f : Bool} {oT : Obj} {i : Nat} {k : Kd} {is as : List Addr} {xss : List (List Value)} {Q : PySem.Fin → Shared → Prop} (hh : A.handled = none) (D : Apart z TI TO is as)
    (hz : IsZipHeld s.heap z TI TO T f) (hT : s.heap.get? T = some oT) (hTI : IsTup s.heap TI (is.map Value.ref)) (hit : Its k s.heap is as 0 is.length i) (hsq : Sqs k s.heap as xss) (la : as.length = is.length) (lx : xss.length = is.length) (hne : is ≠ []) (hend : ∀ xs ∈ xss, xs.length ≤ i)
    (hE : ∀ h' e, (∀ c o, c ≠ z → c ∉ is → s.heap.get? c = some o → h'.get? c = some o) → (∃ o, h'.get? e = some o ∧ o.cls = .type "StopIteration") → E (.ref e) { s with heap := h' }) :
    wpAny (model pr w) A (Builtin.«zip.__next__» ⟨[.ref z], []⟩) Q E s := by
  show wpAny _ _ (field (.ref z) 2 >>= _) _ _ _
  refine wpAny_bind (wpAny_field hz rfl (x := .bool false) rfl ?_)
  show wpAny _ _ (field (.ref z) 3 >>= _) _ _ _
  refine wpAny_bind (wpAny_field hz rfl (x := .ref TI) rfl ?_)
  refine wpAny_bind (wpAny_seqItems hTI rfl ?_)
  dsimp only
  rw [not_empty hne]
  simp only [Bool.false_eq_true, if_false]
  refine wpAny_bind (wpAny_tupleHeld_zip hz hT fun h₁ hz₁ hs₁ => ?_)
  simp only [Bool.false_eq_true, if_false]
  refine wpAny_bind ?_
  rw [← Array.forIn_toList]
  cases is with
  | nil => exact absurd rfl hne
  | cons q is =>
    cases as with
    | nil => simp at la
    | cons a as =>
      cases xss with
      | nil => simp at lx
      | cons xs xss =>
        have hq := hit 0 q a (Nat.le_refl _) (by simp) rfl rfl
        have ha := hsq 0 a xs rfl rfl
        have na := D.az a (by simp)
        have nq := D.ai a (by simp)
        show wpAny _ _ (forIn (Value.ref q :: is.map Value.ref) _ _) _ _ _
        rw [List.forIn_cons]
        refine wpAny_bind (wpAny_bind (wpAny_holding ?_))
        show wpAny _ _ (Builtin.SmallTypes.nextOf (.ref q) >>= _) _ _ _
        refine wpAny_bind (nx_end k (s := { s with heap := h₁ }) hh (itr_keep hq fun o e => hs₁.extBut _ _ (fun e' => D.zi (by rw [← e']; simp)) e) (sqh_keep ha fun o e => hs₁.extBut _ _ na e) (by
          have := hend xs (by simp)
          simpa using this) fun h₂ e hs₂ he => ?_)
        exact hE h₂ e (fun c o c1 c2 x => hs₂ _ _ (fun e' => c2 (by rw [e']; simp)) (hs₁.extBut _ _ c1 x)) he
theorem upd_tup {T : Addr} {os : List Value} {x : Value} {j : Nat} {Q : Unit → Shared → Prop} (hT : IsTup s.heap T os) (hz : os.length ≤ sizeLine)
    (h : ∀ h', IsTup h' T (os.set j x) → Heap.SameBut T s.heap h' → Q () { s with heap := h' }) : wpAny (model pr w) A (updateSeq T (·.setIfInBounds j x)) Q E s := by
  refine wpAny_updateSeq hT rfl (h _ ?_ (Heap.SameBut.update ..)) (by simp; omega) (by simp; omega)
  show Heap.get? (s.heap.update T _) T = _
  rw [Heap.get?_update_self _ hT rfl]
  simp [Obj.mapSeq]
theorem next_owned {z TI TO : Addr} {i : Nat} {k : Kd} {is as : List Addr} {xss : List (List Value)} {row os : List Value} {Q : Value → Shared → Prop} (D : Apart z TI TO is as)
    (hz : IsZip s.heap z TI TO .none) (hTI : IsTup s.heap TI (is.map Value.ref)) (hTO : IsTup s.heap TO os) (lo : os.length = is.length) (hit : Its k s.heap is as 0 is.length i) (hsq : Sqs k s.heap as xss) (la : as.length = is.length) (lx : xss.length = is.length) (col : Col xss i row) (hne : is ≠ []) (hsz : row.length ≤ sizeLine)
    (hQ : ∀ h', IsZip h' z TI TO (rawInt s.heap.objs.size) → IsTup h' TO row → Its k h' is as 0 is.length (i + 1) → IsTup h' s.heap.objs.size row → h'.objs.size = s.heap.objs.size + 1 → (∀ c o, c ≠ z → c ≠ TO → c ∉ is → s.heap.get? c = some o → h'.get? c = some o) → Q (.ref s.heap.objs.size) { s with heap := h' }) :
    wpAny (model pr w) A (Builtin.«zip.__next__» ⟨[.ref z], []⟩) (fun fin s' => ∃ v, fin = .done (.ret v) ∧ Q v s') E s := by
  show wpAny _ _ (field (.ref z) 2 >>= _) _ _ _
  refine wpAny_bind (wpAny_field hz rfl (x := .bool false) rfl ?_)
  show wpAny _ _ (field (.ref z) 3 >>= _) _ _ _
  refine wpAny_bind (wpAny_field hz rfl (x := .ref TI) rfl ?_)
  refine wpAny_bind (wpAny_seqItems hTI rfl ?_)
  dsimp only
  rw [not_empty hne]
  simp only [Bool.false_eq_true, if_false]
  refine wpAny_bind ?_
  unfold Builtin.SmallTypes.ownedTupleIsFree
  refine wpAny_bind (wpAny_field hz rfl (x := .none) rfl (wpAny_pure ?_))
  simp only [if_true]
  refine wpAny_bind (wpAny_rule ?_)
  refine wpAny_bind (wpAny_field hz rfl (x := .ref TO) rfl ?_)
  refine wpAny_bind (wpAny_setField_rec hz (by simp) fun h₁ hz₁ hs₁ => ?_)
  replace hz₁ : IsZip h₁ z TI TO .ellipsis := hz₁
  refine wpAny_bind ?_
  have rl := col.len
  refine wpAny_mono (steps (fun j (st : Option PySem.Fin × Unit) s' => st.1 = none ∧ ∃ h' os', s' = { s with heap := h' } ∧ h'.objs.size = s.heap.objs.size ∧ IsZip h' z TI TO .ellipsis ∧ IsTup h' TO os' ∧ os'.length = is.length ∧ os'.take j = row.take j ∧ Its k h' is as 0 j (i + 1) ∧ Its k h' is as j is.length i ∧ ∀ c o, c ≠ z → c ≠ TO → c ∉ is → s.heap.get? c = some o → h'.get? c = some o)
    _ 0 _ _ ⟨rfl, h₁, os, rfl, hs₁.1, hz₁, hs₁.extBut _ _ D.TOz hTO, lo, rfl, fun j it a _ h2 => absurd h2 (Nat.not_lt_zero _), fun j it a h1 h2 e1 e2 => itr_keep (hit j it a h1 h2 e1 e2) fun o e => hs₁.extBut _ _ (fun q => D.zi (by rw [← q]; exact List.mem_of_getElem? e1)) e, fun c o c1 _ _ e => hs₁.extBut _ _ c1 e⟩ ?_) ?_ fun _ _ x => x
  · rintro j ⟨it, jj⟩ ⟨r, u⟩ s' ej ⟨rfl, h', os', rfl, hsz', hz', ht', lo', hto, d1, d2, kp⟩
    rw [Nat.zero_add] at *
    have ej' : (is.map Value.ref).zipIdx[j]? = some (it, jj) := by simpa using ej
    rw [List.getElem?_zipIdx, List.getElem?_map] at ej'
    obtain ⟨y, ey, e2⟩ := Option.map_eq_some_iff.mp ej'
    obtain ⟨q, eq, rfl⟩ := Option.map_eq_some_iff.mp ey
    cases e2
    rw [Nat.zero_add]
    have hj : j < is.length := (List.getElem?_eq_some_iff.mp eq).1
    have ea : as[j]? = some (as[j]'(by omega)) := List.getElem?_eq_getElem (by omega)
    have ex : xss[j]? = some (xss[j]'(by omega)) := List.getElem?_eq_getElem (by omega)
    obtain ⟨v, ev, er⟩ := col.get ex
    have ma := List.mem_of_getElem? ea
    have mq := List.mem_of_getElem? eq
    refine wpAny_bind (wpAny_onRaise ?_)
    show wpAny _ _ (Builtin.SmallTypes.nextOf (.ref q) >>= _) _ _ _
    refine wpAny_bind (nx_item k (s := { s with heap := h' }) (x := v) (d2 j q _ (Nat.le_refl _) hj eq ea) (sqh_keep (hsq j _ _ ea ex) fun o e => kp _ o (D.az _ ma) (D.aTO _ ma) (D.ai _ ma) e) (by simpa using ev) fun h₂ hq₂ hs₂ => wpAny_pure ?_)
    have nTq : TO ≠ q := fun e => D.TOi (by rw [e]; exact mq)
    have nzq : z ≠ q := fun e => D.zi (by rw [e]; exact mq)
    have ht₂ : IsTup h₂ TO os' := hs₂.extBut _ _ nTq ht'
    dsimp only
    refine wpAny_bind (wpAny_seqItems ht₂ rfl ?_)
    refine wpAny_bind (upd_tup (s := { s with heap := h₂ }) ht₂ (by omega) fun h₃ ht₃ hs₃ => ?_)
    refine wpAny_bind (wpAny_letGo (wpAny_pure ?_))
    refine ⟨_, rfl, rfl, h₃, _, rfl, by rw [hs₃.1]; show h₂.objs.size = _; rw [hs₂.1]; exact hsz', hs₃.extBut _ _ D.TOz.symm (hs₂.extBut _ _ nzq hz'), ht₃, by rw [List.length_set]; exact lo', ?_, fun j' it' a' l1 l2 e1 e2 => ?_, fun j' it' a' l1 l2 e1 e2 => ?_, fun c o c1 c2 c3 e => hs₃.extBut _ _ c2 (hs₂.extBut _ _ (fun e' => c3 (by rw [e']; exact mq)) (kp c o c1 c2 c3 e))⟩
    · have e3 : (os'.set j v)[j]? = some v := by
        rw [List.getElem?_set_self (by omega)]
      rw [take_one e3, take_one er, List.take_set_of_le (Nat.le_refl _), hto]
    · have n' : it' ≠ TO := fun e => D.TOi (by rw [← e]; exact List.mem_of_getElem? e1)
      by_cases e : j' = j
      · subst e
        rw [eq] at e1
        rw [ea] at e2
        cases e1
        cases e2
        exact itr_keep hq₂ fun o eo => hs₃.extBut _ _ n' eo
      · exact itr_keep (d1 j' it' a' l1 (by omega) e1 e2) fun o eo => hs₃.extBut _ _ n' (hs₂.extBut _ _ (fun e' => e (nd_inj D.nd e1 (by rw [e']; exact eq))) eo)
    · have n' : it' ≠ TO := fun e => D.TOi (by rw [← e]; exact List.mem_of_getElem? e1)
      exact itr_keep (d2 j' it' a' (by omega) l2 e1 e2) fun o eo => hs₃.extBut _ _ n' (hs₂.extBut _ _ (fun e' => absurd (nd_inj D.nd e1 (by rw [e']; exact eq)) (by omega)) eo)
  · rintro ⟨r, u⟩ s' ⟨rfl, h', os', rfl, hsz', hz', ht', lo', hto, d1, d2, kp⟩
    have el : 0 + ((List.map Value.ref is).toArray.toList.zipIdx).length = is.length := by simp
    rw [el] at hto d1
    rw [List.take_of_length_le (by omega), List.take_of_length_le (by omega)] at hto
    subst hto
    dsimp only
    refine wpAny_bind (wpAny_seqItems ht' rfl ?_)
    dsimp only
    refine wpAny_bind (wpAny_newTuple ?_ hsz)
    have hzlt : z < h'.objs.size := Heap.lt_size hz'
    show wpAny _ _ (Builtin.SmallTypes.ownedTupleHandOut (.ref z) (.ref h'.objs.size) >>= _) _ _ _
    refine wpAny_bind ?_
    unfold Builtin.SmallTypes.ownedTupleHandOut
    have hz₆ : IsZip (h'.push { cls := .type "tuple", data := .seq os'.toArray }) z TI TO .ellipsis := Heap.get?_push_of_some _ hz'
    refine wpAny_bind (wpAny_setField_rec hz₆ (by simp) fun h₇ hz₇ hs₇ => ?_)
    replace hz₇ : IsZip h₇ z TI TO (rawInt h'.objs.size) := hz₇
    refine wpAny_setField_rec hz₇ (by simp) fun h₈ hz₈ hs₈ => ?_
    replace hz₈ : IsZip h₈ z TI TO (rawInt h'.objs.size) := hz₈
    have up : ∀ c o, c ≠ z → h'.get? c = some o → h₈.get? c = some o := fun c o c1 e => hs₈.extBut _ _ c1 (hs₇.extBut _ _ c1 (Heap.get?_push_of_some _ e))
    have hT₈ : IsTup h₈ h'.objs.size os' := hs₈.extBut _ _ (Nat.ne_of_gt hzlt) (hs₇.extBut _ _ (Nat.ne_of_gt hzlt) (Heap.get?_push_size _ rfl))
    have hz8 : h₈.objs.size = h'.objs.size + 1 := by rw [hs₈.1, hs₇.1, Heap.size_push]
    rw [hsz'] at hz₈ hT₈ hz8
    refine wpAny_pure ⟨_, rfl, ?_⟩
    show Q (.ref h'.objs.size) _
    rw [hsz']
    exact hQ h₈ hz₈ (up _ _ D.TOz ht') (fun j it a l1 l2 e1 e2 => itr_keep (d1 j it a l1 l2 e1 e2) fun o e => up _ o (fun q => D.zi (by rw [← q]; exact List.mem_of_getElem? e1)) e) hT₈ hz8 fun c o c1 c2 c3 e => up c o c1 (kp c o c1 c2 c3 e)
theorem end_owned {z TI TO : Addr} {i : Nat} {k : Kd} {is as : List Addr} {xss : List (List Value)} {Q : PySem.Fin → Shared → Prop} (hh : A.handled = none) (D : Apart z TI TO is as)
    (hz : IsZip s.heap z TI TO .none) (hTI : IsTup s.heap TI (is.map Value.ref)) (hit : Its k s.heap is as 0 is.length i) (hsq : Sqs k s.heap as xss) (la : as.length = is.length) (lx : xss.length = is.length) (hne : is ≠ []) (hend : ∀ xs ∈ xss, xs.length ≤ i)
    (hE : ∀ h' e, (∀ c o, c ≠ z → c ∉ is → s.heap.get? c = some o → h'.get? c = some o) → (∃ o, h'.get? e = some o ∧ o.cls = .type "StopIteration") → E (.ref e) { s with heap := h' }) :
    wpAny (model pr w) A (Builtin.«zip.__next__» ⟨[.ref z], []⟩) Q E s := by
  show wpAny _ _ (field (.ref z) 2 >>= _) _ _ _
  refine wpAny_bind (wpAny_field hz rfl (x := .bool false) rfl ?_)
  show wpAny _ _ (field (.ref z) 3 >>= _) _ _ _
  refine wpAny_bind (wpAny_field hz rfl (x := .ref TI) rfl ?_)
  refine wpAny_bind (wpAny_seqItems hTI rfl ?_)
  dsimp only
  rw [not_empty hne]
  simp only [Bool.false_eq_true, if_false]
  refine wpAny_bind ?_
  unfold Builtin.SmallTypes.ownedTupleIsFree
  refine wpAny_bind (wpAny_field hz rfl (x := .none) rfl (wpAny_pure ?_))
  simp only [if_true]
  refine wpAny_bind (wpAny_rule ?_)
  refine wpAny_bind (wpAny_field hz rfl (x := .ref TO) rfl ?_)
  refine wpAny_bind (wpAny_setField_rec hz (by simp) fun h₁ hz₁ hs₁ => ?_)
  replace hz₁ : IsZip h₁ z TI TO .ellipsis := hz₁
  refine wpAny_bind ?_
  cases is with
  | nil => exact absurd rfl hne
  | cons q is =>
    cases as with
    | nil => simp at la
    | cons a as =>
      cases xss with
      | nil => simp at lx
      | cons xs xss =>
        have hq := hit 0 q a (Nat.le_refl _) (by simp) rfl rfl
        have ha := hsq 0 a xs rfl rfl
        have na := D.az a (by simp)
        have nzq : z ≠ q := fun e => D.zi (by rw [e]; simp)
        show wpAny _ _ (forIn ((Value.ref q :: is.map Value.ref).zipIdx) _ _) _ _ _
        rw [List.zipIdx_cons, List.forIn_cons]
        refine wpAny_bind (wpAny_bind (wpAny_onRaise ?_))
        show wpAny _ _ (Builtin.SmallTypes.nextOf (.ref q) >>= _) _ _ _
        refine wpAny_bind (nx_end k (s := { s with heap := h₁ }) hh (itr_keep hq fun o e => hs₁.extBut _ _ nzq.symm e) (sqh_keep ha fun o e => hs₁.extBut _ _ na e) (by
          have := hend xs (by simp)
          simpa using this) fun h₂ e hs₂ he => ?_)
        obtain ⟨oe, hoe, hce⟩ := he
        have hz₂ : IsZip h₂ z TI TO .ellipsis := hs₂ _ _ nzq hz₁
        have hez : e ≠ z := fun x => by subst x; rw [hz₂] at hoe; cases hoe; simp at hce
        refine wpAny_setField_rec hz₂ (by simp) fun h₃ _ hs₃ => hE h₃ e (fun c o c1 c2 x => hs₃.extBut _ _ c1 (hs₂ _ _ (fun e' => c2 (by rw [e']; simp)) (hs₁.extBut _ _ c1 x))) ⟨oe, hs₃.extBut _ _ hez hoe, hce⟩
end
theorem it_of (k : Kd) {pr : Program} {w : World} {A : Around} {E : Value → Shared → Prop} {s : Shared} {a : Addr} {items : Array Value} {Q : Value → Shared → Prop} (hl : Sqh k s.heap a items)
    (hQ : ∀ h', Itr k h' s.heap.objs.size a 0 → h'.objs.size = s.heap.objs.size + 1 → (∀ c o, s.heap.get? c = some o → h'.get? c = some o) → Q (.ref s.heap.objs.size) { s with heap := h' }) : wpAny (model pr w) A (pyIter (.ref a)) Q E s := match k, hl, hQ with
  | .l, hl, hQ => wpAny_pyIter_list hl (hQ _ ⟨_, Heap.get?_push_size _ rfl, rfl, rfl⟩ (Heap.size_push ..) fun c o e => Heap.get?_push_of_some _ e)
  | .t, hl, hQ => wpAny_pyIter_tuple hl (hQ _ ⟨_, Heap.get?_push_size _ rfl, rfl, rfl⟩ (Heap.size_push ..) fun c o e => Heap.get?_push_of_some _ e)
def isF (n0 n : Nat) : List Addr := (List.range n).map fun j => n0 + j
theorem isF_get {n0 n j : Nat} (h : j < n) : (isF n0 n)[j]? = some (n0 + j) := by
  unfold isF
  rw [List.getElem?_map, List.getElem?_range h]
  rfl
theorem isF_len {n0 n : Nat} : (isF n0 n).length = n := by
  unfold isF
  rw [List.length_map, List.length_range]
theorem isF_succ {n0 n : Nat} : isF n0 (n + 1) = isF n0 n ++ [n0 + n] := by
  unfold isF
  rw [List.range_succ, List.map_append]
  rfl
section
variable {pr : Program} {w : World} {A : Around} {E : Value → Shared → Prop} {s : Shared}
theorem all_ (k : Kd) {as : List Addr} {xss : List (List Value)} {Q : List Value → Shared → Prop} (hsq : Sqs k s.heap as xss) (lx : xss.length = as.length)
    (hQ : ∀ h', Its k h' (isF s.heap.objs.size as.length) as 0 as.length 0 → h'.objs.size = s.heap.objs.size + as.length → (∀ c o, s.heap.get? c = some o → h'.get? c = some o) → Q ((isF s.heap.objs.size as.length).map Value.ref) { s with heap := h' }) :
    wpAny (model pr w) A (Builtin.SmallTypes.iterAll (as.map Value.ref)) Q E s := by
  unfold Builtin.SmallTypes.iterAll
  refine wpAny_bind (wpAny_mono (steps (fun j (st : Array Value) s' => st.toList = (isF s.heap.objs.size j).map Value.ref ∧ ∃ h', s' = { s with heap := h' } ∧ h'.objs.size = s.heap.objs.size + j ∧ Its k h' (isF s.heap.objs.size as.length) as 0 j 0 ∧ ∀ c o, s.heap.get? c = some o → h'.get? c = some o)
    _ 0 _ _ ⟨rfl, s.heap, rfl, rfl, fun j it a _ h2 => absurd h2 (Nat.not_lt_zero _), fun _ _ e => e⟩ ?_) ?_ fun _ _ x => x)
  · rintro j x st s' ej ⟨hi, h', rfl, hs, d1, kp⟩
    rw [Nat.zero_add] at *
    rw [List.getElem?_map] at ej
    obtain ⟨a, ea, rfl⟩ := Option.map_eq_some_iff.mp ej
    have hj : j < as.length := (List.getElem?_eq_some_iff.mp ea).1
    have ex : xss[j]? = some (xss[j]'(by omega)) := List.getElem?_eq_getElem (by omega)
    refine wpAny_bind (wpAny_holding (it_of k (s := { s with heap := h' }) (sqh_keep (hsq j a _ ea ex) fun o e => kp _ o e) fun h₂ i₂ s₂ k₂ => wpAny_pure ⟨_, rfl, ?_, h₂, rfl, ?_, fun j' it' a' l1 l2 e1 e2 => ?_, fun c o e => k₂ c o (kp c o e)⟩))
    · rw [Array.toList_push, hi, isF_succ, List.map_append]
      show _ ++ [Value.ref h'.objs.size] = _
      rw [hs]
      rfl
    · rw [s₂]
      show h'.objs.size + 1 = _
      omega
    · by_cases e : j' = j
      · subst e
        rw [isF_get hj] at e1
        rw [ea] at e2
        cases e1
        cases e2
        rw [← hs]
        exact i₂
      · exact itr_keep (d1 j' it' a' l1 (by omega) e1 e2) fun o eo => k₂ _ o eo
  · rintro st s' ⟨hi, h', rfl, hs, d1, kp⟩
    have el : 0 + (as.map Value.ref).length = as.length := by simp
    rw [el] at hi hs d1
    refine wpAny_pure ?_
    rw [hi]
    exact hQ h' d1 hs kp
end
theorem meets_new (k : Kd) (as : List Addr) (xss : List (List Value)) :
    Meets (Builtin.«zip.__new__» ⟨.type "zip" :: as.map Value.ref, []⟩) (fun _ R s => Sqs k s.heap as xss ∧ xss.length = as.length ∧ as.length ≤ sizeLine ∧ ∀ h', IsZip h' (s.heap.objs.size + as.length + 2) (s.heap.objs.size + as.length) (s.heap.objs.size + as.length + 1) .none → IsTup h' (s.heap.objs.size + as.length) ((isF s.heap.objs.size as.length).map Value.ref) → IsTup h' (s.heap.objs.size + as.length + 1) (List.replicate as.length .none) →
      Its k h' (isF s.heap.objs.size as.length) as 0 as.length 0 → (∀ c o, s.heap.get? c = some o → h'.get? c = some o) → h'.objs.size = s.heap.objs.size + as.length + 3 → R (.ok (.ret (.ref (s.heap.objs.size + as.length + 2)))) { s with heap := h' }) :=
  .of_wp fun prog w A R s h => by
    have hsub := sub_zip
    obtain ⟨hsq, lx, ln, hR⟩ := h
    unfold Builtin.«zip.__new__»
    have e1 : Builtin.SmallTypes.newClass "zip" ⟨.type "zip" :: as.map Value.ref, []⟩ = pure (.type "zip", as.map Value.ref) := by
      unfold Builtin.SmallTypes.newClass
      simp [isType, hsub]
    rw [e1]
    refine wpAny_bind (wpAny_pure ?_)
    dsimp only
    simp only [List.length_nil, Nat.not_lt_zero, gt_iff_lt, if_false]
    refine wpAny_bind (all_ k hsq lx fun h₁ d1 z1 k1 => ?_)
    have lm : ((isF s.heap.objs.size as.length).map Value.ref).length = as.length := by rw [List.length_map, isF_len]
    refine wpAny_bind (wpAny_newTuple ?_ (by rw [lm]; exact ln))
    have em : ((isF s.heap.objs.size as.length).map Value.ref).map (fun _ => Value.none) = List.replicate as.length Value.none := by
      rw [List.map_const', lm]
    rw [em]
    refine wpAny_bind (wpAny_newTuple ?_ (by rw [List.length_replicate]; exact ln))
    have zs1 : (h₁.push { cls := Value.type "tuple", data := Data.seq ((isF s.heap.objs.size as.length).map Value.ref).toArray }).objs.size = s.heap.objs.size + as.length + 1 := by rw [Heap.size_push, z1]
    have g1 : (h₁.push { cls := Value.type "tuple", data := Data.seq ((isF s.heap.objs.size as.length).map Value.ref).toArray }).get? h₁.objs.size = some { cls := Value.type "tuple", data := Data.seq ((isF s.heap.objs.size as.length).map Value.ref).toArray } := Heap.get?_push_size _ rfl
    have k2 : ∀ c o, h₁.get? c = some o → (h₁.push { cls := Value.type "tuple", data := Data.seq ((isF s.heap.objs.size as.length).map Value.ref).toArray }).get? c = some o := fun c o e => Heap.get?_push_of_some _ e
    dsimp only
    generalize h₁.push { cls := Value.type "tuple", data := Data.seq ((isF s.heap.objs.size as.length).map Value.ref).toArray } = h₂ at zs1 g1 k2 ⊢
    have zs2 : (h₂.push { cls := Value.type "tuple", data := Data.seq (List.replicate as.length Value.none).toArray }).objs.size = s.heap.objs.size + as.length + 2 := by rw [Heap.size_push, zs1]
    have g2 : (h₂.push { cls := Value.type "tuple", data := Data.seq (List.replicate as.length Value.none).toArray }).get? h₂.objs.size = some { cls := Value.type "tuple", data := Data.seq (List.replicate as.length Value.none).toArray } := Heap.get?_push_size _ rfl
    have k3 : ∀ c o, h₂.get? c = some o → (h₂.push { cls := Value.type "tuple", data := Data.seq (List.replicate as.length Value.none).toArray }).get? c = some o := fun c o e => Heap.get?_push_of_some _ e
    generalize h₂.push { cls := Value.type "tuple", data := Data.seq (List.replicate as.length Value.none).toArray } = h₃ at zs2 g2 k3 ⊢
    have g3 : (h₃.push { cls := Value.type "zip", data := .fields #[.none, .bool false, .bool false, .ref h₁.objs.size, .ref h₂.objs.size] }).get? h₃.objs.size = some { cls := Value.type "zip", data := .fields #[.none, .bool false, .bool false, .ref h₁.objs.size, .ref h₂.objs.size] } := Heap.get?_push_size _ rfl
    have k4 : ∀ c o, h₃.get? c = some o → (h₃.push { cls := Value.type "zip", data := .fields #[.none, .bool false, .bool false, .ref h₁.objs.size, .ref h₂.objs.size] }).get? c = some o := fun c o e => Heap.get?_push_of_some _ e
    have zs3 : (h₃.push { cls := Value.type "zip", data := .fields #[.none, .bool false, .bool false, .ref h₁.objs.size, .ref h₂.objs.size] }).objs.size = s.heap.objs.size + as.length + 3 := by rw [Heap.size_push, zs2]
    show wpAny _ _ (newObj (.type "zip") (.fields #[.none, .bool false, .bool false, .ref h₁.objs.size, .ref h₂.objs.size]) >>= _) _ _ _
    refine wpAny_bind (wpAny_newObj_type (wpAny_pure ⟨_, rfl, ?_⟩) ?_)
    · rw [z1, zs1, zs2] at g3
      rw [z1] at g1
      rw [zs1] at g2
      dsimp only
      rw [zs2]
      rw [z1, zs1] at k4 zs3 ⊢
      exact hR _ g3 (k4 _ _ (k3 _ _ g1)) (k4 _ _ g2) (fun j it a l1 l2 e1 e2 => itr_keep (d1 j it a l1 l2 e1 e2) fun o e => k4 _ _ (k3 _ _ (k2 _ _ e))) (fun c o e => k4 _ _ (k3 _ _ (k2 _ _ (k1 c o e)))) zs3
    · show 5 ≤ sizeLine + 2
      decide
theorem typeCall (vs : List Value) : checkTypeCall "zip" ⟨vs, []⟩ = pure () := by kernel_rfl
theorem newCall : ∀ vs : List Value, checkBuiltinCall "zip.__new__" ⟨.type "zip" :: vs, []⟩ = pure ()
  | [] => by kernel_rfl
  | a :: vs => by kernel_rfl
theorem args_init (a : Value) (vs : List Value) : argsOk "object.__init__" ⟨a :: vs, []⟩ := by
  unfold argsOk; rw [signature?_of (id := "object.__init__") (n := ['_', '_', 't', 'i', 'n', 'i', '_', '_']) (o := ['t', 'c', 'e', 'j', 'b', 'o']) (by kernel_rfl) F.owner_object]; kernel_rfl
section
variable {pr : Program} {w : World} {A : Around} {E : Value → Shared → Prop} {s : Shared}
theorem call_zip_n (k : Kd) {as : List Addr} {xss : List (List Value)} {Q : Value → Shared → Prop} (hsq : Sqs k s.heap as xss) (lx : xss.length = as.length) (ln : as.length ≤ sizeLine)
    (h : ∀ h', IsZip h' (s.heap.objs.size + as.length + 2) (s.heap.objs.size + as.length) (s.heap.objs.size + as.length + 1) .none → IsTup h' (s.heap.objs.size + as.length) ((isF s.heap.objs.size as.length).map Value.ref) → IsTup h' (s.heap.objs.size + as.length + 1) (List.replicate as.length .none) →
      Its k h' (isF s.heap.objs.size as.length) as 0 as.length 0 → (∀ c o, s.heap.get? c = some o → h'.get? c = some o) → h'.objs.size = s.heap.objs.size + as.length + 3 → Q (.ref (s.heap.objs.size + as.length + 2)) { s with heap := h' }) :
    wpAny (model pr w) A (call (.type "zip") (as.map Value.ref)) Q E s := by
  refine callType_new F.called_zip (by decide) (typeCall _) (newCall _) (fun obj => args_init obj _) F.entry_zip_new (meets_new k as xss) ⟨hsq, lx, ln, fun h' z ti to it kp sz => ?_⟩
  exact ⟨⟨_, z, rfl⟩, h h' z ti to it kp sz⟩
/-! ### next of it -/
structure Zst (k : Kd) (h : Heap) (z TI TO : Addr) (is as : List Addr) (i : Nat) : Prop where
  zp : (i = 0 ∧ IsZip h z TI TO .none) ∨ ∃ T f o, IsZipHeld h z TI TO T f ∧ h.get? T = some o ∧ T ≠ z ∧ T ≠ TO ∧ T ∉ is
  ti : IsTup h TI (is.map Value.ref)
  to : ∃ os : List Value, IsTup h TO os ∧ os.length = is.length
  it : Its k h is as 0 is.length i
theorem Zst.lz {k : Kd} {h : Heap} {z TI TO : Addr} {is as : List Addr} {i : Nat} (Z : Zst k h z TI TO is as i) : z < h.objs.size := by
  rcases Z.zp with ⟨_, e⟩ | ⟨_, _, _, e, _⟩
  · exact Heap.lt_size e
  · exact Heap.lt_size e
theorem Zst.ty {k : Kd} {z TI TO : Addr} {is as : List Addr} {i : Nat} (Z : Zst k s.heap z TI TO is as i) : s.TypeIs (.ref z) "zip" := by
  rcases Z.zp with ⟨_, e⟩ | ⟨_, _, _, e, _⟩
  · exact ⟨_, e, rfl⟩
  · exact ⟨_, e, rfl⟩
theorem itr_lt {k : Kd} {h : Heap} {it a : Addr} {i : Nat} (x : Itr k h it a i) : it < h.objs.size := by
  obtain ⟨o, e, _⟩ := itr_obj x
  exact Heap.lt_size e
theorem next_ {k : Kd} {z TI TO : Addr} {is as : List Addr} {xss : List (List Value)} {row : List Value} {i : Nat} {Q : Option Value → Shared → Prop} (D : Apart z TI TO is as) (Z : Zst k s.heap z TI TO is as i) (hsq : Sqs k s.heap as xss) (la : as.length = is.length) (lx : xss.length = is.length) (col : Col xss i row) (hne : is ≠ []) (hsz : row.length ≤ sizeLine)
    (hQ : ∀ h', Zst k h' z TI TO is as (i + 1) → IsTup h' s.heap.objs.size row → (∀ c o, c ≠ z → c ≠ TO → c ∉ is → s.heap.get? c = some o → h'.get? c = some o) → Q (some (.ref s.heap.objs.size)) { s with heap := h' }) :
    wpAny (model pr w) A (pyNext (.ref z)) Q E s := by
  have ty := Z.ty
  have lz := Z.lz
  obtain ⟨zp, hTI, ⟨os, hTO, lo⟩, hit⟩ := Z
  have lT : TO < s.heap.objs.size := Heap.lt_size hTO
  have nis : s.heap.objs.size ∉ is := fun m => by
    obtain ⟨j, hj, e⟩ := List.mem_iff_getElem.mp m
    have := itr_lt (hit j is[j] (as[j]'(by omega)) (Nat.zero_le _) hj (List.getElem?_eq_getElem hj) (List.getElem?_eq_getElem (by omega)))
    rw [e] at this
    exact Nat.lt_irrefl _ this
  unfold pyNext
  rcases zp with ⟨_, hz⟩ | ⟨T, f, o, hz, hT, t1, t2, t3⟩
  · exact wpAny_bind (wpAny_attempt (wpAny_callSpecial?_slot (name := Str.ofString "__next__") ty F.slot_zip_next
      (wpAny_call_entry F.slot_zip_next ty F.entry_zip_next
        (next_owned D hz hTI hTO lo hit hsq la lx col hne hsz fun h' a1 a2 a3 a4 a5 a6 => wpAny_pure (hQ h' ⟨.inr ⟨_, false, _, a1, a4, Nat.ne_of_gt lz, Nat.ne_of_gt lT, nis⟩, a6 _ _ D.TIz D.TITO D.TIi hTI, ⟨_, a2, by rw [col.len]; exact lx⟩, a3⟩ a4 a6)) (F.args_zip_next_1 _))))
  · exact wpAny_bind (wpAny_attempt (wpAny_callSpecial?_slot (name := Str.ofString "__next__") ty F.slot_zip_next
      (wpAny_call_entry F.slot_zip_next ty F.entry_zip_next
        (next_held D hz hT hTI hit hsq la lx col hne hsz fun h' a1 a3 a4 a5 a6 => wpAny_pure (hQ h' ⟨.inr ⟨T, true, o, a1, a6 _ _ t1 t3 hT, t1, t2, t3⟩, a6 _ _ D.TIz D.TIi hTI, ⟨os, a6 _ _ D.TOz D.TOi hTO, lo⟩, a3⟩ a4 fun c o c1 _ c3 e => a6 c o c1 c3 e)) (F.args_zip_next_1 _))))
theorem last_ {k : Kd} {z TI TO : Addr} {is as : List Addr} {xss : List (List Value)} {i : Nat} {Q : Option Value → Shared → Prop} (hh : A.handled = none) (D : Apart z TI TO is as) (Z : Zst k s.heap z TI TO is as i) (hsq : Sqs k s.heap as xss) (la : as.length = is.length) (lx : xss.length = is.length) (hne : is ≠ []) (hend : ∀ xs ∈ xss, xs.length ≤ i)
    (hQ : ∀ h', (∀ c o, c ≠ z → c ∉ is → s.heap.get? c = some o → h'.get? c = some o) → Q none { s with heap := h' }) : wpAny (model pr w) A (pyNext (.ref z)) Q E s := by
  have ty := Z.ty
  obtain ⟨zp, hTI, _, hit⟩ := Z
  unfold pyNext
  refine wpAny_bind (wpAny_attempt (wpAny_callSpecial?_slot (name := Str.ofString "__next__") ty F.slot_zip_next (wpAny_call_entry F.slot_zip_next ty F.entry_zip_next ?_ (F.args_zip_next_1 _))))
  rcases zp with ⟨_, hz⟩ | ⟨T, f, o, hz, hT, t1, t2, t3⟩
  · refine end_owned hh D hz hTI hit hsq la lx hne hend fun h' e hk he => ?_
    obtain ⟨o, ho, hc⟩ := he
    refine wpAny_bind (wpAny_isInstance (T := "StopIteration") (b := true) ⟨o, ho, hc⟩ isSubtype_stop ?_)
    exact wpAny_pure (hQ _ hk)
  · refine end_held hh D hz hT hTI hit hsq la lx hne hend fun h' e hk he => ?_
    obtain ⟨o, ho, hc⟩ := he
    refine wpAny_bind (wpAny_isInstance (T := "StopIteration") (b := true) ⟨o, ho, hc⟩ isSubtype_stop ?_)
    exact wpAny_pure (hQ _ hk)
end
/-! ### list(zip(*xs)) -/
section
variable {M : Model} {A : Around} {E : Value → Shared → Prop} {s : Shared} {env : Env} {pos p : Pos} {Q : Value → Shared → Prop} {e : Expr}
theorem callWith_SType {T : String} (h : wpAny M A (eval e env) (fun v s₁ => PySem.W.StarOf M A E v (fun vs s₂ => wpAny M A (call (.type T) vs) Q E s₂) s₁) E s)
    (he : starEach [.Starred e p] env = [(true, eval e env)] := by rfl) : wpAny M A (callWith pos (.type T) [] (backTo pos (starEach [.Starred e p] env)) []) Q E s := by
  rw [he]
  refine PySem.W.ks_call (P := fun _ => True) rfl (fun h _ => ⟨.machine, .inr (.inl rfl), PySem.W.Looks.of_pure rfl⟩) (PySem.W.ks_lone ?_)
  have e2 : (fun vs s₂ => True ∧ wpAny M A (call (Value.type T) ([] ++ (⟨vs, []⟩ : Args).pos) (⟨vs, []⟩ : Args).kw) Q E s₂) = fun vs s₂ => wpAny M A (call (.type T) vs) Q E s₂ := by
    funext vs s₂
    exact propext ⟨fun h => h.2, fun h => ⟨trivial, h⟩⟩
  rw [e2]
  exact h
end
/-- the i-th items, as values told -/
def colV (xss : List (List V)) (i : Nat) : List V := xss.map fun xs => xs.getD i .non
/-- what stands behind list(zip(*xs)): new tuples, a new list of them -/
structure Zipped (H0 H : Hp) (S : Addr) (ts : List Addr) (xss : List (List V)) (m : Nat) : Prop where
  same : Same H0 H
  new : H0 S = none
  lst : H S = some (.lst (ts.map V.ref))
  len : ts.length = m
  get : ∀ (j : Nat) (t : Addr), ts[j]? = some t → H t = some (.tup (colV xss j))
def SqsV (k : Kd) (K : PySem.W.Frag) (H : Hp) (as : List Addr) (xss : List (List V)) : Prop := ∀ (j : Nat) (a : Addr) (xs : List V), as[j]? = some a → xss[j]? = some xs → Sq k K H a xs
theorem SqsV.tail {k : Kd} {K : PySem.W.Frag} {H : Hp} {a : Addr} {as : List Addr} {xs : List V} {xss : List (List V)} (h : SqsV k K H (a :: as) (xs :: xss)) : SqsV k K H as xss := fun j b ys e1 e2 => h (j + 1) b ys e1 e2
theorem sq_same {k : Kd} {K : PySem.W.Frag} {H H' : Hp} {a : Addr} {xs : List V} (s : Same H H') (q : Sq k K H a xs) : Sq k K H' a xs := by
  cases k with
  | l => exact s.seq q
  | t =>
    rcases q with q | q
    · rcases q with q | ⟨o, q⟩
      · exact .inl (.inl (s _ _ q))
      · exact .inl (.inr ⟨o, s _ _ q⟩)
    · exact .inr q
section
variable {X : Cx} {A : Around} {pn : List (Addr × Obj)} {σ : L2.St} {R : Result → Shared → Prop} {H H0 : Hp} {s : Shared}
theorem vals_all {k : Kd} (I : L2.Inv X pn σ H s) : ∀ {as : List Addr} {xss : List (List V)}, xss.length = as.length → SqsV k X.K H as xss → ∃ uss : List (List Value), uss.length = xss.length ∧ (∀ (j : Nat) (xs : List V), xss[j]? = some xs → ∃ us, uss[j]? = some us ∧ Vals xs us) ∧ Sqs k s.heap as uss ∧ ∀ a ∈ as, a < s.heap.objs.size
  | [], [], _, _ => ⟨[], rfl, fun j xs e => by simp at e, fun j a xs e => by simp at e, fun a ha => by cases ha⟩
  | [], _ :: _, e, _ => by simp at e
  | _ :: _, [], e, _ => by simp at e
  | a :: as, xs :: xss, e, q => by
    obtain ⟨us, r, sq, lt⟩ := at_ I (q 0 a xs rfl rfl)
    obtain ⟨uss, l1, l2, l3, l4⟩ := vals_all I (as := as) (xss := xss) (by simpa using e) q.tail
    refine ⟨us :: uss, by rw [List.length_cons, List.length_cons, l1], fun j ys ey => ?_, fun j b ys e1 e2 => ?_, fun b hb => ?_⟩
    · cases j with
      | zero => cases ey; exact ⟨us, rfl, r⟩
      | succ j => exact l2 j ys ey
    · cases j with
      | zero => cases e1; cases e2; exact sq
      | succ j => exact l3 j b ys e1 e2
    · rcases List.mem_cons.mp hb with rfl | hb
      · exact lt
      · exact l4 b hb
theorem col_of : ∀ {xss : List (List V)} {uss : List (List Value)} {m i : Nat}, uss.length = xss.length → (∀ (j : Nat) (xs : List V), xss[j]? = some xs → ∃ us, uss[j]? = some us ∧ Vals xs us) → (∀ xs ∈ xss, xs.length = m) → i < m → ∃ row, Col uss i row ∧ Vals (colV xss i) row
  | [], [], _, _, _, _, _, _ => ⟨[], ⟨rfl, fun e => by simp at e⟩, .nil⟩
  | [], _ :: _, _, _, e, _, _, _ => by simp at e
  | _ :: _, [], _, _, e, _, _, _ => by simp at e
  | xs :: xss, us :: uss, m, i, e, h, hm, hi => by
    obtain ⟨us', e1, r⟩ := h 0 xs rfl
    cases e1
    obtain ⟨row, c, v⟩ := col_of (xss := xss) (uss := uss) (m := m) (i := i) (by simpa using e) (fun j ys ey => h (j + 1) ys ey) (fun ys hy => hm ys (List.mem_cons_of_mem _ hy)) hi
    have hl := hm xs (by simp)
    have hx : xs[i]? = some (xs[i]'(by omega)) := List.getElem?_eq_getElem (by omega)
    obtain ⟨u, eu, ru⟩ := r.get hx
    have ed : xs.getD i V.non = xs[i]'(by omega) := by rw [List.getD_eq_getElem?_getD, hx]; rfl
    refine ⟨u :: row, ⟨by rw [List.length_cons, List.length_cons, c.len], fun {j ys} ej => ?_⟩, ?_⟩
    · cases j with
      | zero => cases ej; exact ⟨u, eu, rfl⟩
      | succ j => exact c.get (j := j) ej
    · show Vals (xs.getD i V.non :: colV xss i) (u :: row)
      rw [ed]
      exact .cons ru v
variable {z TI TO S : Addr} {is as : List Addr} {xss : List (List V)} {m : Nat} {k : Kd}
theorem loop (hh : A.in1.handled = none) (D : Apart z TI TO is as) (res : Value) (la : as.length = is.length) (lx : xss.length = as.length) (hm : ∀ xs ∈ xss, xs.length = m) (hn : m < sizeLine) (ha : as.length ≤ sizeLine) (hne : is ≠ []) (qs : SqsV k X.K H0 as xss) (h0S : H0 S = none) (nS : S ≠ z ∧ S ≠ TI ∧ S ≠ TO ∧ S ∉ is) :
    ∀ (n i : Nat) (s : Shared) (H : Hp) (ts : List Addr), m - i = n → i ≤ m → L2.Inv X pn σ H s → (∀ c ∈ z :: TI :: TO :: is, FpOk X pn H c) → Zst k s.heap z TI TO is as i →
      Same H0 H → H S = some (.lst (ts.map V.ref)) → ts.length = i → (∀ (j : Nat) (t : Addr), ts[j]? = some t → H t = some (.tup (colV xss j))) →
      (∀ (s' : Shared) (H' : Hp) (ts' : List Addr), L2.Inv X pn σ H' s' → Zipped H0 H' S ts' xss m → R (.ok (.ret res)) s') →
      codeAny (model X.prog X.w) A (.builtin "list.extend.loop" ⟨[.ref S, .ref z, res], []⟩) R s := by
  intro n
  induction n with
  | zero =>
    intro i s H ts hk hi I hf Z sm hS ht hg fin
    have e : i = m := by omega
    obtain ⟨uss, l1, l2, l3, l4⟩ := vals_all I lx (fun j a xs e1 e2 => sq_same sm (qs j a xs e1 e2))
    refine codeAny_builtin F.entry_extend_loop ?_
    rw [Around.under_plainId F.plain_extend_loop _]
    show wpAny _ A.in1 (pyNext (.ref z) >>= _) _ _ s
    refine wpAny_bind (last_ hh D Z l3 la (by omega) hne (fun us hu => ?_) fun h' kp => ?_)
    · obtain ⟨j, hj, ej⟩ := List.mem_iff_getElem.mp hu
      obtain ⟨us', e1, r⟩ := l2 j _ (List.getElem?_eq_getElem (by omega))
      rw [List.getElem?_eq_getElem hj, ej] at e1
      cases e1
      have := hm _ (List.getElem_mem (l := xss) (n := j) (by omega))
      have := r.length
      omega
    · refine wpAny_pure (fin _ H ts (I.turnedL (t' := s.toks) (ch := z :: TI :: TO :: is) (fun c o n q => kp c o (fun e => n (by rw [e]; simp)) (fun e => n (by simp [e])) q) hf) ⟨sm, h0S, hS, by omega, hg⟩)
  | succ n ih =>
    intro i s H ts hk hi I hf Z sm hS ht hg fin
    have hlt : i < m := by omega
    obtain ⟨uss, l1, l2, l3, l4⟩ := vals_all I lx (fun j a xs e1 e2 => sq_same sm (qs j a xs e1 e2))
    obtain ⟨row, col, rv⟩ := col_of l1 l2 hm hlt
    have rl := col.len
    refine codeAny_builtin F.entry_extend_loop ?_
    rw [Around.under_plainId F.plain_extend_loop _]
    show wpAny _ A.in1 (pyNext (.ref z) >>= _) _ _ s
    refine wpAny_bind (next_ D Z l3 la (by omega) col hne (by omega) fun h' Z' hT kp => ?_)
    have cl : (colV xss i).length = xss.length := by unfold colV; rw [List.length_map]
    have new : ObjOk X.prog X.w (upd H s.heap.objs.size (.tup (colV xss i))) h' s.heap.objs.size (.tup (colV xss i)) := ⟨by omega, row, rv, ⟨_, hT, rfl, _, rfl⟩⟩
    have I1 := I.turnedNew (t' := s.toks) (ch := z :: TI :: TO :: is) (fun c o n q => kp c o (fun e => n (by rw [e]; simp)) (fun e => n (by rw [e]; simp)) (fun e => n (by simp [e])) q) hf (Nat.le_refl _) new
    have hT0 : H s.heap.objs.size = none := I.hok.fresh (Nat.le_refl _)
    have neS : S ≠ s.heap.objs.size := ne_of_none hS hT0
    have hS1 : upd H s.heap.objs.size (.tup (colV xss i)) S = some (.lst (ts.map V.ref)) := by
      rw [upd_ne neS]
      exact hS
    obtain ⟨_, its, n', ri, eS⟩ := I1.hok S _ hS1
    have il := ri.length
    rw [List.length_map] at il
    show wpAny _ A.in1 (updateSeq S (·.push (.ref s.heap.objs.size)) >>= _) _ _ _
    refine wpAny_bind (wpAny_updateSeq eS rfl (wpAny_pure ?_) (by rw [List.size_toArray]; omega) (by show (its.toArray.push _).size ≤ _; rw [Array.size_push, List.size_toArray]; omega))
    have oth : ∀ c o, c ≠ S → h'.get? c = some o → (h'.update S (Obj.mapSeq (·.push (.ref s.heap.objs.size)))).get? c = some o := fun c o n e => (Heap.get?_update_other _ _ (Ne.symm n)).trans e
    have eS2 := Heap.get?_update_self (Obj.mapSeq (·.push (Value.ref s.heap.objs.size))) eS rfl
    have I2 := I1.write (x := S) (e := S) (o := .lst ((ts ++ [s.heap.objs.size]).map V.ref)) (t' := s.toks) (by rw [hS1]; trivial) (.inl rfl) (fun c o n e => oth c o n e) ⟨_, eS2⟩ ⟨by rw [List.length_map, List.length_append, List.length_singleton]; omega, its ++ [.ref s.heap.objs.size], n' + 1, by rw [List.map_append]; exact ri.append (.cons rfl .nil), by rw [eS2]; simp [Obj.mapSeq]⟩
    have lti : ∀ c ∈ is, c < s.heap.objs.size := fun c hc => by
      obtain ⟨j, hj, e⟩ := List.mem_iff_getElem.mp hc
      have := itr_lt (Z.it j is[j] (as[j]'(by omega)) (Nat.zero_le _) hj (List.getElem?_eq_getElem hj) (List.getElem?_eq_getElem (by omega)))
      rwa [e] at this
    refine ⟨plainId_quiet F.plain_extend_loop _, ih (i + 1) _ _ (ts ++ [s.heap.objs.size]) (by omega) (by omega) I2 (fun c hc => ?_) ?_ ?_ upd_same (by rw [List.length_append, ht]; rfl) ?_ fin⟩
    · have f := hf c hc
      have q : c = z ∨ c = TI ∨ c = TO ∨ c ∈ is := by simpa using hc
      have lt : c ≠ s.heap.objs.size := by
        rcases q with q | q | q | q
        · rw [q]; exact Nat.ne_of_lt Z.lz
        · rw [q]; exact Nat.ne_of_lt (Heap.lt_size Z.ti)
        · rw [q]; obtain ⟨_, e, _⟩ := Z.to; exact Nat.ne_of_lt (Heap.lt_size e)
        · exact Nat.ne_of_lt (lti c q)
      have nc : c ≠ S := by
        rcases q with q | q | q | q
        · rw [q]; exact nS.1.symm
        · rw [q]; exact nS.2.1.symm
        · rw [q]; exact nS.2.2.1.symm
        · exact fun e => nS.2.2.2 (by rw [← e]; exact q)
      refine ⟨?_, f.2⟩
      rw [upd_ne nc, upd_ne lt]
      exact f.1
    · obtain ⟨zp, t1, ⟨os, t2, t3⟩, t4⟩ := Z'
      refine ⟨?_, oth _ _ nS.2.1.symm t1, ⟨os, oth _ _ nS.2.2.1.symm t2, t3⟩, fun j it a l1 l2 e1 e2 => itr_keep (t4 j it a l1 l2 e1 e2) fun o e => oth _ o (fun q => nS.2.2.2 (by rw [← q]; exact List.mem_of_getElem? e1)) e⟩
      rcases zp with ⟨q, _⟩ | ⟨T, f, o, q1, q2, q3⟩
      · omega
      · by_cases eT : T = S
        · exact .inr ⟨T, f, _, oth _ _ nS.1.symm q1, by rw [eT]; exact eS2, q3⟩
        · exact .inr ⟨T, f, o, oth _ _ nS.1.symm q1, oth _ _ eT q2, q3⟩
    · intro c o e
      rw [upd_ne (ne_of_none e h0S), upd_ne (ne_of_none (sm _ _ e) hT0)]
      exact sm _ _ e
    · intro j t hj
      by_cases hji : j < ts.length
      · rw [List.getElem?_append_left hji] at hj
        have q := hg j t hj
        rw [upd_ne (ne_of q hS (by intro z; cases z)), upd_ne (ne_of_none q hT0)]
        exact q
      · have ej : j = i := by
          have := (List.getElem?_eq_some_iff.mp hj).1
          rw [List.length_append, List.length_singleton] at this
          omega
        subst ej
        rw [List.getElem?_append_right (by omega), ht, Nat.sub_self] at hj
        cases hj
        rw [upd_ne neS.symm]
        exact upd_same
def tLZn (K : PySem.W.Frag) (te : TE) : TE := fun σ H Q => te σ H fun x H1 => ∃ (p : Addr) (as : List Addr) (k : Kd) (xss : List (List V)) (m : Nat), x = .ref p ∧ (SqT K H1 p (as.map V.ref) ∨ SqL K H1 p (as.map V.ref)) ∧ as ≠ [] ∧ SqsV k K H1 as xss ∧ xss.length = as.length ∧ (∀ xs ∈ xss, xs.length = m) ∧ m < sizeLine ∧ as.length ≤ sizeLine ∧ ∀ S ts H', Zipped H1 H' S ts xss m → Q (.ref S) H'
theorem vals_refs : ∀ {as : List Addr} {us : List Value}, Vals (as.map V.ref) us → us = as.map Value.ref
  | [], _, .nil => rfl
  | a :: as, _, .cons r rr => by
    cases r
    rw [vals_refs rr]
    rfl
theorem mem_isF {n0 n c : Nat} (h : c ∈ isF n0 n) : n0 ≤ c ∧ c < n0 + n := by
  obtain ⟨j, hj, rfl⟩ := List.mem_map.mp h
  have := List.mem_range.mp hj
  omega
theorem nd_isF {n0 n : Nat} : (isF n0 n).Nodup := by
  unfold isF
  rw [List.nodup_iff_pairwise_ne, List.pairwise_map]
  exact (List.nodup_range (n := n)).imp fun {a b} h e => h (Nat.add_left_cancel e)
theorem pe_LZn {e : Expr} {te : TE} {p p2 pos pos2 sp : Pos} (hc : X.calm = true) (hg : Gl X "list") (hm : X.mg "list" = none) (hg2 : Gl X "zip") (hm2 : X.mg "zip" = none) (he : PE X e te)
    (hs : starEach [.Starred e sp] X.env = [(true, eval e X.env)] := by rfl)
    (hs2 : starEach [.Call (.Name "zip" p2) [.Starred e sp] [] pos2] X.env = (false, eval (.Call (.Name "zip" p2) [.Starred e sp] [] pos2) X.env) :: starEach [] X.env := by rfl) :
    PE X (.Call (.Name "list" p) [.Call (.Name "zip" p2) [.Starred e sp] [] pos2] [] pos) (tLZn X.K te) := by
  refine ⟨fun pn s σ H Q I h => ?_⟩
  refine Call_ (ld_blt I hg hm boot_list (PyProof.Rows.callWith_type1 (args_cons (Call_ (ld_blt I hg2 hm2 boot_zip (callWith_SType (thn (he.run pn s σ H _ I h) fun v s0 ⟨x, H1, I0, rx, q1⟩ => ?_) hs))) hs2) hs2 rfl))
  obtain ⟨pp, as, k, xss, m, ex, hp, hne, qs, lx, hm', hn, ha, q⟩ := q1
  subst ex
  obtain rfl : v = Value.ref pp := rx
  refine StX.star_any I0 hp fun us s1 I1 rv => ?_
  obtain rfl := vals_refs rv
  obtain ⟨uss, l1, l2, l3, l4⟩ := vals_all I1 lx qs
  refine call_zip_n k l3 (by omega) ha fun h' hz hTI hTO hit kp hsz => args_nil ?_
  have I2 : L2.Inv X pn σ H1 { s1 with heap := h' } := I1.kept (t' := s1.toks) kp
  have D : Apart (s1.heap.objs.size + as.length + 2) (s1.heap.objs.size + as.length) (s1.heap.objs.size + as.length + 1) (isF s1.heap.objs.size as.length) as := by
    refine ⟨nd_isF, fun m => ?_, fun m => ?_, fun m => ?_, Nat.ne_of_lt (Nat.lt_add_of_pos_right (by decide)), Nat.ne_of_lt (Nat.lt_succ_self _), Nat.ne_of_lt (Nat.lt_succ_self _), fun a ha m => ?_, fun a ha => Nat.ne_of_lt ?_, fun a ha => Nat.ne_of_lt ?_⟩
    · have := (mem_isF m).2
      omega
    · have := (mem_isF m).2
      omega
    · have := (mem_isF m).2
      omega
    · exact Nat.lt_irrefl _ (Nat.lt_of_lt_of_le (l4 a ha) (mem_isF m).1)
    · exact Nat.lt_of_lt_of_le (l4 a ha) (by omega)
    · exact Nat.lt_of_lt_of_le (l4 a ha) (by omega)
  have hh : X.A.in1.in1.handled = none := I1.ok.hd hc
  have hni : isF s1.heap.objs.size as.length ≠ [] := fun e => hne (by
    have := congrArg List.length e
    rw [isF_len] at this
    exact List.eq_nil_of_length_eq_zero this)
  have lis : as.length = (isF s1.heap.objs.size as.length).length := isF_len.symm
  have fp : ∀ c ∈ (s1.heap.objs.size + as.length + 2) :: (s1.heap.objs.size + as.length) :: (s1.heap.objs.size + as.length + 1) :: isF s1.heap.objs.size as.length, FpOk X pn H1 c := fun c hcm => by
    have le : s1.heap.objs.size ≤ c := by
      have e' : c = s1.heap.objs.size + as.length + 2 ∨ c = s1.heap.objs.size + as.length ∨ c = s1.heap.objs.size + as.length + 1 ∨ c ∈ isF s1.heap.objs.size as.length := by simpa using hcm
      rcases e' with q | q | q | q
      · rw [q]
        exact Nat.le_trans (Nat.le_add_right _ _) (Nat.le_add_right _ _)
      · rw [q]
        exact Nat.le_add_right _ _
      · rw [q]
        exact Nat.le_trans (Nat.le_add_right _ _) (Nat.le_add_right _ _)
      · exact (mem_isF q).1
    exact I1.fpOk le (I1.hok.fresh le)
  have lto : (List.replicate as.length Value.none).length = (isF s1.heap.objs.size as.length).length := by rw [List.length_replicate, isF_len]
  have lti : ∀ c ∈ isF s1.heap.objs.size as.length, c < h'.objs.size := fun c hc => by
    refine Nat.lt_of_lt_of_le (mem_isF hc).2 ?_
    rw [hsz]
    exact Nat.le_add_right _ _
  have hit2 : Its k h' (isF s1.heap.objs.size as.length) as 0 (isF s1.heap.objs.size as.length).length 0 := by
    rw [isF_len]
    exact hit
  clear hit
  generalize s1.heap.objs.size + as.length + 2 = z at *
  generalize s1.heap.objs.size + as.length + 1 = TO at *
  generalize s1.heap.objs.size + as.length = TI at *
  generalize isF s1.heap.objs.size as.length = is at *
  have Z0 : Zst k h' z TI TO is as 0 := ⟨.inl ⟨rfl, hz⟩, hTI, ⟨_, hTO, lto⟩, hit2⟩
  refine callType_codes (Q₁ := fun obj t => obj = .ref h'.objs.size ∧ t = { s1 with heap := h'.push { cls := .type "list", data := .seq #[] } }) F.called_list (F.typeCall_list_1 _) F.entry_list_init (code_list_new _ ⟨rfl, rfl⟩) fun obj t ht => ?_
  obtain ⟨rfl, rfl⟩ := ht
  have eS : (h'.push { cls := .type "list", data := .seq #[] }).get? h'.objs.size = some { cls := .type "list", data := .seq #[] } := Heap.get?_push_size _ rfl
  have up : ∀ c o, h'.get? c = some o → (h'.push { cls := .type "list", data := .seq #[] }).get? c = some o := fun c o e => Heap.get?_push_of_some _ e
  refine ⟨⟨_, eS, rfl⟩, F.args_list_init_2 _ _, ?_⟩
  generalize h'.push { cls := .type "list", data := .seq #[] } = g at eS up ⊢
  have nS : h'.objs.size ≠ z ∧ h'.objs.size ≠ TI ∧ h'.objs.size ≠ TO ∧ h'.objs.size ∉ is := ⟨Nat.ne_of_gt Z0.lz, Nat.ne_of_gt (Heap.lt_size hTI), Nat.ne_of_gt (Heap.lt_size hTO), fun m => Nat.lt_irrefl _ (lti _ m)⟩
  have h0S : H1 h'.objs.size = none := I2.hok.fresh (Nat.le_refl _)
  generalize eN : h'.objs.size = S at eS nS h0S ⊢
  show wpAny _ _ (do let old ← Builtin.List.listItems (.ref S); Builtin.List.listUpdate (.ref S) (fun _ => #[]); letGo old.toList.reverse; Builtin.List.listExtendWith (.ref S) (.ref z) .none) _ _ _
  unfold Builtin.List.listItems
  refine wpAny_bind (wpAny_bind (wpAny_seqItems eS rfl (wpAny_pure ?_)))
  show wpAny _ _ (updateSeq S (fun _ => #[]) >>= fun _ => letGo (#[] : Array Value).toList.reverse >>= fun _ => Builtin.List.listExtendWith (.ref S) (.ref z) .none) _ _ _
  refine wpAny_bind (wpAny_updateSeq eS rfl ?_)
  have eS2 := Heap.get?_update_self (Obj.mapSeq (fun _ => (#[] : Array Value))) eS rfl
  have o2 : ∀ c o, c ≠ S → g.get? c = some o → (g.update S (Obj.mapSeq (fun _ => (#[] : Array Value)))).get? c = some o := fun c o n e => (Heap.get?_update_other _ _ (Ne.symm n)).trans e
  refine wpAny_bind (wpAny_letGo ?_)
  generalize g.update S (Obj.mapSeq (fun _ => (#[] : Array Value))) = g2 at eS2 o2 ⊢
  have hz2 : IsZip g2 z TI TO .none := o2 _ _ nS.1.symm (up _ _ hz)
  have ty2 : Shared.TypeIs { s1 with heap := g2 } (.ref z) "zip" := ⟨_, hz2, rfl⟩
  unfold Builtin.List.listExtendWith
  refine wpAny_bind (wpAny_typeOf ty2 ?_)
  have c1 : Builtin.List.listSameRef (.ref S) (.ref z) = false := by simp [Builtin.List.listSameRef, nS.1]
  have c2 : (Value.type "zip" == Value.type "list") = false := by decide
  have c3 : (Value.type "zip" == Value.type "tuple") = false := by decide
  simp only [c1, c2, c3, Bool.or_false, Bool.false_eq_true, if_false]
  refine wpAny_bind (wpAny_pyIter_zip hz2 ?_)
  refine wpAny_bind (wpAny_holding ?_)
  unfold Builtin.List.listLengthHint
  refine wpAny_bind (wpAny_specialOf ty2 Lz.zip_no_len ?_)
  show wpAny _ _ (specialOf (Value.ref z) (Str.ofString "__length_hint__") >>= _) _ _ _
  refine wpAny_bind (wpAny_specialOf ty2 Lz.zip_no_hint (wpAny_pure ?_))
  show wpAny _ _ (rule "list.extend.makes-room" >>= fun _ => Builtin.List.listTouch (.ref S) >>= fun _ => again (.builtin "list.extend.loop" ⟨[.ref S, .ref z, .none], []⟩)) _ _ _
  refine wpAny_bind (wpAny_rule (wpAny_bind ?_))
  show wpAny _ _ (updateSeq S (·.push .none) >>= fun _ => updateSeq S (·.pop)) _ _ _
  refine wpAny_bind (wpAny_updateSeq eS2 rfl ?_)
  have eS3 := Heap.get?_update_self (Obj.mapSeq (·.push Value.none)) eS2 rfl
  refine wpAny_updateSeq (hz := by seq_fits) eS3 rfl ?_
  have eS4 := Heap.get?_update_self (Obj.mapSeq (·.pop)) eS3 rfl
  have o4 : ∀ c o, c ≠ S → g2.get? c = some o → ((g2.update S (Obj.mapSeq (·.push Value.none))).update S (Obj.mapSeq (·.pop))).get? c = some o := fun c o n e => (Heap.get?_update_other _ _ (Ne.symm n)).trans ((Heap.get?_update_other _ _ (Ne.symm n)).trans e)
  refine wpAny_pure ⟨plainId_quiet F.plain_extend_loop _, ?_⟩
  generalize (g2.update S (Obj.mapSeq (·.push Value.none))).update S (Obj.mapSeq (·.pop)) = g4 at eS4 o4 ⊢
  have kp4 : ∀ c o, h'.get? c = some o → g4.get? c = some o := fun c o e => by
    have n : c ≠ S := by
      rw [← eN]
      exact Nat.ne_of_lt (Heap.lt_size e)
    exact o4 c o n (o2 c o n (up c o e))
  have I4 := I2.laid (t' := s1.toks) (o := .lst (([] : List Addr).map V.ref)) kp4 (Nat.le_of_eq eN) ⟨by simp, [], _, .nil, eS4⟩
  refine loop hh D .none lis lx hm' hn ha hni qs h0S nS m 0 _ _ [] (by omega) (Nat.zero_le _) I4 (fun c hcm => ?_) ⟨.inl ⟨rfl, kp4 _ _ hz⟩, kp4 _ _ hTI, ⟨_, kp4 _ _ hTO, lto⟩, fun j it a l1 l2 e1 e2 => itr_keep (Z0.it j it a l1 l2 e1 e2) fun o e => kp4 _ _ e⟩ (fun c o e => by rw [upd_ne (ne_of_none e h0S)]; exact e) upd_same rfl (fun j t hj => by simp at hj) ?_
  · have f := fp c hcm
    refine ⟨?_, f.2⟩
    have n : c ≠ S := by
      have e' : c = z ∨ c = TI ∨ c = TO ∨ c ∈ is := by simpa using hcm
      rcases e' with q | q | q | q
      · rw [q]; exact nS.1.symm
      · rw [q]; exact nS.2.1.symm
      · rw [q]; exact nS.2.2.1.symm
      · exact fun e => nS.2.2.2 (by rw [← e]; exact q)
    rw [upd_ne n]
    exact f.1
  · intro s' H' ts' I' Z'
    exact ⟨rfl, ⟨.ref S, H', I', rfl, q S ts' H' Z'⟩⟩
end
end Zn
set_option linter.all false
/-! enumerate(x), x a list or a tuple -/
namespace En
open PySem PySem.Spec PyProof.Rows L2 Zm
set_option maxHeartbeats 1000000 in
theorem meets_new {v : Value} {o : Obj} {H : Heap → Prop} (B : Begins v o H) :
    Meets (Builtin.«enumerate.__new__» ⟨[.type "enumerate", v], []⟩) (fun _ R s => H s.heap ∧
      R (.ok (.ret (.ref (s.heap.push o).objs.size))) { s with heap := (s.heap.push o).push { cls := .type "enumerate", data := .fields #[.none, .bool false, .ref s.heap.objs.size, rawInt 0, .none, .none] } }) :=
  .of_wp fun prog w A R s h => by
    obtain ⟨hp, g, d, tk, os⟩ := s; obtain ⟨h1, h⟩ := h
    have hsub := sub_enumerate
    have q1 : ∀ {A' : Around} {E : Value → Shared → Prop} {Q : Value → Shared → Prop}, Q (.ref hp.objs.size) ⟨hp.push o, g, d, tk, os⟩ → wpAny (model prog w) A' (pyIter v) Q E ⟨hp, g, d, tk, os⟩ :=
      fun q => B.iter prog w _ _ ⟨hp, g, d, tk, os⟩ _ h1 q
    wp_walk using q1
    refine wpAny_stack_any fun st => wpAny_pure ?_
    split
    · rename_i c _ _ _ _ _
      cases (c == Value.type "enumerate")
      · wp_walk using q1
        exact ⟨_, rfl, h⟩
      · wp_walk using q1
        exact ⟨_, rfl, h⟩
    · wp_walk using q1
      exact ⟨_, rfl, h⟩
section
variable {prog : Program} {w : World} {A : Around} {E : Value → Shared → Prop} {s : Shared}
theorem begins {v : Value} {o : Obj} {H : Heap → Prop} {Q : Value → Shared → Prop} (B : Begins v o H) (h1 : H s.heap)
    (h : ∀ h', IsEnum h' (s.heap.objs.size + 1) s.heap.objs.size 0 .none → h'.get? s.heap.objs.size = some o → h'.objs.size = s.heap.objs.size + 2 →
      (∀ b o, s.heap.get? b = some o → h'.get? b = some o) → Q (.ref (s.heap.objs.size + 1)) { s with heap := h' }) :
    wpAny (model prog w) A (call (.type "enumerate") [v]) Q E s := by
  refine callType_new F.called_enumerate (by decide) (F.typeCall_enumerate_1 _) (F.newCall_enumerate_1 _) (fun obj => F.args_object_init_2 obj _) F.entry_enumerate_new
    (meets_new B) ⟨h1, ?_⟩
  have hz : (s.heap.push o).objs.size = s.heap.objs.size + 1 := Heap.size_push ..
  show _ ∧ _
  rw [hz]
  have he : IsEnum ((s.heap.push o).push { cls := .type "enumerate", data := .fields #[.none, .bool false, .ref s.heap.objs.size, rawInt 0, .none, .none] }) (s.heap.objs.size + 1) s.heap.objs.size 0 .none := by
    have := Heap.get?_push_size (s.heap.push o) (o := { cls := .type "enumerate", data := .fields #[.none, .bool false, .ref s.heap.objs.size, rawInt 0, .none, .none] }) rfl
    rw [hz] at this; exact this
  refine ⟨⟨_, he, rfl⟩, h _ he (Heap.get?_push_of_some _ (Heap.get?_push_size _ B.free)) (by rw [Heap.size_push, hz]) fun b o x => Heap.get?_push_of_some _ (Heap.get?_push_of_some _ x)⟩
end
def ItE (k : Kd) (K : PySem.W.Frag) (a : Addr) : It where
  go i H := ∃ (xs : List V) (x : V), Sq k K H a xs ∧ xs[i]? = some x
  yld i H v H' := ∃ T x, v = .ref T ∧ H T = none ∧ H' = upd H T (.tup [.int (i : Nat), x]) ∧ ∀ xs, Sq k K H a xs → xs[i]? = some x
  stop i H := ∃ xs : List V, Sq k K H a xs ∧ xs.length = i
theorem trn {P : Program} {w : World} {K : PySem.W.Frag} {k : Kd} {es : List Expr} {kk : Nat} {tp : Pos} {a e it : Addr} (ne : e ≠ it) (na : a ≠ it) (nea : e ≠ a) :
    Turn P w K (.Tuple es kk tp) (ItE k K a) [e, it] e (fun i h => (∃ old, IsEnum h e it (0 + ((i : Nat) : Int)) old) ∧ Itr k h it a i) where
  mem := by simp
  obj := fun i h st c hc => by
    obtain ⟨⟨old, he⟩, h1⟩ := st
    have e' : c = e ∨ c = it := by simpa using hc
    rcases e' with z | z
    · rw [z]; exact ⟨_, he, fun v q => nomatch q⟩
    · rw [z]; exact itr_obj h1
  keep := fun i h h' st kp => by
    obtain ⟨⟨old, he⟩, h1⟩ := st
    exact ⟨⟨old, kp e (by simp) _ he⟩, itr_keep h1 fun o q => kp it (by simp) o q⟩
  item := by
    intro X eP ew eK calm i pn s σ H E I hf st gg
    subst eP ew eK
    obtain ⟨hE, h1⟩ := st
    obtain ⟨xs, x, qx, hx⟩ := gg
    obtain ⟨us, rv, p1, _⟩ := at_ I qx
    have hh : X.A.in1.handled = none := I.ok.hd calm
    have l1 : i < us.toArray.size := by
      have := (List.getElem?_eq_some_iff.mp hx).1
      rw [List.size_toArray, ← rv.length]
      exact this
    refine (GoesN.enumFrom 0 (drw k hh na us.toArray) e ne (by simp [ne, nea]) (by simp)).goes i s (fun u s2 => ∃ x H', Inv X pn σ H' s2 ∧ RelV x u ∧ (ItE k X.K a).yld i H x H' ∧ _ ∧ ∀ c ∈ _, H' c = none) E l1 ⟨hE, h1, p1⟩ fun v h' tk Y st' kp _ => ?_
    obtain ⟨T, t, u, rfl, le, hu, hT⟩ := Y
    obtain ⟨hE', h1', _⟩ := st'
    obtain ⟨w1, e1, r1⟩ := rv.get hx
    have c1 : w1 = u := by
      have z1 : us[i]? = some u := by simpa using hu
      rw [e1] at z1
      exact Option.some.inj z1
    subst c1
    have fresh : H T = none := I.hok.fresh le
    have e0 : (0 : Int) + ((i : Nat) : Int) = ((i : Nat) : Int) := by omega
    rw [e0] at hT
    have new : ObjOk X.prog X.w (upd H T (.tup [.int (i : Nat), x])) h' T (.tup [.int (i : Nat), x]) := ⟨by show 2 ≤ sizeLine; decide, [.int (i : Nat) t, w1], .cons ⟨_, rfl⟩ (.cons r1 .nil), hT⟩
    have I1 := I.turnedNew (t' := tk) (ch := [e, it]) (fun c o n q => kp c o n q) hf le new
    refine ⟨.ref T, _, I1, rfl, ⟨T, x, rfl, fresh, rfl, fun l hl => by rw [inj I hl qx]; exact hx⟩, ⟨hE', h1'⟩, fun c hc => ?_⟩
    have lt : c < s.heap.objs.size := by
      have e' : c = e ∨ c = it := by simpa using hc
      rcases e' with z | z
      · obtain ⟨_, he⟩ := hE
        rw [z]; exact Heap.lt_size he
      · obtain ⟨_, q, _⟩ := itr_obj h1
        rw [z]; exact Heap.lt_size q
    rw [upd_ne (Nat.ne_of_lt (Nat.lt_of_lt_of_le lt le))]
    exact (hf c hc).1
  done := by
    intro X eP ew eK calm i pn s σ H E I hf st gg
    subst eP ew eK
    obtain ⟨hE, h1⟩ := st
    obtain ⟨xs, qx, hx⟩ := gg
    obtain ⟨us, rv, p1, _⟩ := at_ I qx
    have hh : X.A.in1.handled = none := I.ok.hd calm
    have e0 : i = us.toArray.size := by
      have l1 := rv.length
      simp
      omega
    subst e0
    exact (GoesN.enumFrom (elts := es) (x1 := kk) (pos := tp) 0 (drw k hh na us.toArray) e ne (by simp [ne, nea]) (by simp)).stops s (fun s1 => Inv X pn σ H s1) E ⟨hE, h1, p1⟩ fun h' tk kp _ => I.turnedL (t' := tk) (ch := [e, it]) (fun c o n q => kp c o n q) hf
  self := fun A i s Q E st h => let ⟨⟨_, he⟩, _⟩ := st; wpAny_pyIter_enum he h
def iEnumK (K : PySem.W.Frag) (ta : TA) : TI := fun σ H R => ta σ H fun vs H1 => ∃ k a xs, vs = [.ref a] ∧ Sq k K H1 a xs ∧ R (ItE k K a) H1
theorem pi_enumK {X : Cx} {e : Expr} {ta : TA} {p pos tp : Pos} {es : List Expr} {kk : Nat} (hg : Gl X "enumerate") (hm : X.mg "enumerate" = none) (ha : PA X [e] ta) (hs : starEach [e] X.env = [(false, eval e X.env)] := by rfl) :
    PI X (.Tuple es kk tp) (.Call (.Name "enumerate" p) [e] [] pos) (iEnumK X.K ta) := by
  refine ⟨fun pn s σ H R I h => ?_⟩
  refine Call_ (ld_blt I hg hm boot_enumerate (PyProof.Rows.callWith_type1 (thn (ha.run pos pn s σ H _ I h) fun us s1 ⟨vs, H1, I1, r1, q1⟩ => ?_) hs rfl))
  obtain ⟨k, a, xs, ex, qx, q⟩ := q1
  subst ex
  cases r1 with
  | cons r rr =>
    cases rr
    cases r
    obtain ⟨us, rv, p1, la⟩ := at_ I1 qx
    obtain ⟨o1, B1, f1⟩ := bgn k a us.toArray
    refine begins B1 p1 fun h' he g1 hsz kp => wpAny_pyIter_enum he ?_
    have ne1 : a ≠ s1.heap.objs.size := Nat.ne_of_lt la
    have ne2 : s1.heap.objs.size + 1 ≠ a := Nat.ne_of_gt (Nat.lt_succ_of_lt la)
    refine ⟨_, _, _, _, H1, rfl, I1.kept (t' := s1.toks) kp, trn (k := k) (Nat.succ_ne_self _) ne1 ne2, ⟨⟨.none, he⟩, f1 _ _ g1⟩, fun c hc => ?_, q⟩
    have e' : c = s1.heap.objs.size + 1 ∨ c = s1.heap.objs.size := by simpa using hc
    have le : s1.heap.objs.size ≤ c := by
      rcases e' with z | z
      · rw [z]; exact Nat.le_add_right _ _
      · rw [z]; exact Nat.le_refl _
    exact I1.fpOk le (I1.hok.fresh le)
theorem walkE {k : Kd} {K : PySem.W.Frag} {a : Addr} {xs : List V} : Walk (ItE k K a) xs.length (fun H => Sq k K H a xs) (YPair (fun i => some (.int (i : Nat))) (fun i => xs[i]?)) := by
  refine ⟨fun i _ hi q => ⟨xs, xs[i], q, by simp [hi]⟩, fun _ q => ⟨xs, q, rfl⟩, fun i H v H' _ q y => ?_⟩
  obtain ⟨T, x, h1, h2, h3, h4⟩ := y
  exact ⟨T, .int (i : Nat), x, h1, h2, h3, rfl, h4 xs q⟩
/-- a subscript of a list or a tuple -/
def rIxK (K : PySem.W.Frag) : R2 := fun x y H Q => ∃ p k xs i v, x = .ref p ∧ y = .int i ∧ Sq k K H p xs ∧ atI xs i = some v ∧ Q v H
theorem ix_kd {X : Cx} : IxR X (rIxK X.K) := by
  intro value slice pins s σ H x y v u Q I rx ry h hs
  obtain ⟨p, k, xs, i, z, rfl, rfl, hq, he, q⟩ := h
  cases k with
  | l => exact ix_list value slice pins s σ H _ _ v u Q I rx ry ⟨p, xs, i, z, rfl, rfl, hq, he, q⟩ hs
  | t => exact ix_tup value slice pins s σ H _ _ v u Q I rx ry ⟨p, xs, i, z, rfl, rfl, hq, he, q⟩ hs
end En
set_option linter.all false
/-! numbers by which rows make a row: leads of their columns -/
namespace Lin
theorem dot_last : ∀ (n : Nat) (u v : Vc), dot u v (n + 1) = dot u v n + u n * v n
  | 0, u, v => by
    show u 0 * v 0 + 0 = 0 + u 0 * v 0
    omega
  | n + 1, u, v => by
    show u 0 * v 0 + dot (shf u) (shf v) (n + 1) = u 0 * v 0 + dot (shf u) (shf v) n + u (n + 1) * v (n + 1)
    rw [dot_last n (shf u) (shf v)]
    show u 0 * v 0 + (dot (shf u) (shf v) n + u (n + 1) * v (n + 1)) = _
    omega
theorem dot_ext : ∀ (n : Nat) {u v w x : Vc}, (∀ i, i < n → u i = v i) → (∀ i, i < n → w i = x i) → dot u w n = dot v x n
  | 0, _, _, _, _, _, _ => rfl
  | n + 1, u, v, w, x, h, k => by
    show u 0 * w 0 + dot (shf u) (shf w) n = v 0 * x 0 + dot (shf v) (shf x) n
    rw [h 0 (by omega), k 0 (by omega), dot_ext n (u := shf u) (v := shf v) (w := shf w) (x := shf x) (fun i hi => h (i + 1) (by omega)) (fun i hi => k (i + 1) (by omega))]
def col (fs : List (List Int)) (j : Nat) : Vc := fun i => vec (fs.getD i []) j
theorem shf_col {f : List Int} {fs : List (List Int)} {j : Nat} : shf (col (f :: fs) j) = col fs j := by
  funext i
  show vec ((f :: fs).getD (i + 1) []) j = vec (fs.getD i []) j
  simp
theorem lot_coef {p : Int} {fs : List (List Int)} {u : Vc} (h : Lot p (spn fs) u) : ∃ a : Vc, ∀ j, Cg p (u j) (dot a (col fs j) fs.length) := by
  induction h with
  | zero => exact ⟨fun _ => 0, fun j => by rw [dot_zeroL]; exact Cg.rfl'⟩
  | @add u v c _ r ih =>
    obtain ⟨a, ha⟩ := ih
    obtain ⟨f, hf, rfl⟩ := r
    obtain ⟨i, hi, rfl⟩ := List.mem_iff_getElem.mp hf
    refine ⟨fun k => a k + c * un i k, fun j => ?_⟩
    rw [dot_combL, dot_comm _ (un i), dot_un _ i _ hi]
    have e : col fs j i = vec fs[i] j := by
      show vec (fs.getD i []) j = _
      rw [List.getD_eq_getElem?_getD, List.getElem?_eq_getElem hi]
      rfl
    rw [e]
    exact (ha j).add Cg.rfl'
  | eqv _ e ih =>
    obtain ⟨a, ha⟩ := ih
    exact ⟨a, fun j => (e j).symm.trans (ha j)⟩
/-- place j of all of them -/
def colI (gs : List (List Int)) (j : Nat) : List Int := gs.map fun g => g.getD j 0
theorem vec_col {gs : List (List Int)} {j i : Nat} : vec (colI gs j) i = col gs j i := by
  show (gs.map fun g => g.getD j 0).getD i 0 = (gs.getD i []).getD j 0
  rw [List.getD_eq_getElem?_getD, List.getD_eq_getElem?_getD (l := gs), List.getElem?_map]
  cases gs[i]? with
  | none => rfl
  | some g => rfl
theorem col_app {fs : List (List Int)} {f : List Int} {j i : Nat} (h : i < fs.length) : col (fs ++ [f]) j i = col fs j i := by
  show vec ((fs ++ [f]).getD i []) j = vec (fs.getD i []) j
  rw [List.getD_eq_getElem?_getD, List.getD_eq_getElem?_getD, List.getElem?_append_left h]
theorem col_end {fs : List (List Int)} {f : List Int} {j : Nat} : col (fs ++ [f]) j fs.length = vec f j := by
  show vec ((fs ++ [f]).getD fs.length []) j = vec f j
  rw [List.getD_eq_getElem?_getD]
  simp
def cols (fs : List (List Int)) (f : List Int) (n : Nat) : List (List Int) := (List.range n).map (colI (fs ++ [f]))
theorem mem_cols {fs : List (List Int)} {f : List Int} {n : Nat} {v : Vc} (h : spn (cols fs f n) v) : ∃ j, j < n ∧ v = col (fs ++ [f]) j := by
  obtain ⟨g, hg, rfl⟩ := h
  obtain ⟨j, hj, rfl⟩ := List.mem_map.mp hg
  exact ⟨j, List.mem_range.mp hj, funext fun i => vec_col⟩
theorem share_yes {p : Int} {n : Nat} {fs : List (List Int)} {f : List Int} {L : List (Nat × List Int)} (pl : PL p (fs.length + 1) (cols fs f n) L) (nk : fs.length ∉ L.map (·.1)) {ns : Vc} (hv : ∀ i, i < fs.length → ns i = cu (fun x => x.2 fs.length) (vecs L) i) {j : Nat} (hj : j < n) :
    Cg p (vec f j) (dot ns (col fs j) fs.length) := by
  have lt : Lot p (rowsOf (vecs L)) (col (fs ++ [f]) j) := (pl.lot _).mpr (.of ⟨colI (fs ++ [f]) j, List.mem_map.mpr ⟨j, List.mem_range.mpr hj, rfl⟩, funext fun i => vec_col⟩)
  have z := (lot_left pl.leads pl.ndv).mp lt fs.length
  have hp : ∀ x ∈ vecs L, x.1 < fs.length + 1 := fun x hx => by
    obtain ⟨y, hy, rfl⟩ := mem_vecs.mp hx
    exact pl.plc y hy
  have hne : ∀ x ∈ vecs L, x.1 ≠ fs.length := fun x hx e => by
    obtain ⟨y, hy, rfl⟩ := mem_vecs.mp hx
    exact nk (List.mem_map.mpr ⟨y, hy, e⟩)
  have e1 : own (col (fs ++ [f]) j) (vecs L) fs.length = dot ns (col fs j) fs.length := by
    rw [← own_as, ← dot_cu (a := fun x => x.2 fs.length) hp, dot_last, cu_out hne, Int.mul_zero, Int.add_zero, dot_comm]
    exact dot_ext _ (fun i hi => (hv i hi).symm) (fun i hi => col_app hi)
  have z' : Cg p (vec f j - dot ns (col fs j) fs.length) 0 := by
    rw [← e1, ← col_end (fs := fs) (f := f) (j := j)]
    exact z
  have a := z'.add (Cg.rfl' (a := dot ns (col fs j) fs.length))
  rw [Int.sub_add_cancel, Int.zero_add] at a
  exact a
theorem share_no {p : Int} {n : Nat} {fs : List (List Int)} {f : List Int} {L : List (Nat × List Int)} (p1 : 1 < p) (pl : PL p (fs.length + 1) (cols fs f n) L) (k : fs.length ∈ L.map (·.1)) : ¬ Lot p (spn fs) (vec f) := by
  intro h
  obtain ⟨a, ha⟩ := lot_coef h
  obtain ⟨x, hx, ex⟩ := List.mem_map.mp k
  have mx : (x.1, vec x.2) ∈ vecs L := mem_vecs.mpr ⟨x, hx, rfl⟩
  have lx : Lot p (spn (cols fs f n)) (vec x.2) := (pl.lot _).mp (.of ⟨_, mx, rfl⟩)
  have z := dot_lotL (n := fs.length + 1) (v := fun i => if i < fs.length then a i else -1) lx fun v hv => by
    obtain ⟨j, hj, rfl⟩ := mem_cols hv
    rw [dot_last, dot_ext fs.length (u := col (fs ++ [f]) j) (v := col fs j) (w := fun i => if i < fs.length then a i else -1) (x := a) (fun i hi => col_app hi) (fun i hi => by simp [hi]), col_end, dot_comm]
    have b := (ha j).symm.sub (Cg.rfl' (a := vec f j))
    rw [Int.sub_self] at b
    have e : dot a (col fs j) fs.length + vec f j * (if fs.length < fs.length then a fs.length else -1) = dot a (col fs j) fs.length - vec f j := by
      rw [if_neg (by omega)]
      omega
    show Cg p (dot a (col fs j) fs.length + vec f j * (if fs.length < fs.length then a fs.length else -1)) 0
    rw [e]
    exact b
  rw [dot_last] at z
  have e0 : Cg p (dot (vec x.2) (fun i => if i < fs.length then a i else -1) fs.length) 0 := by
    rw [dot_ext fs.length (u := vec x.2) (v := fun i => if i < fs.length then vec x.2 i else 0) (w := fun i => if i < fs.length then a i else -1) (x := a) (fun i hi => by simp [hi]) (fun i hi => by simp [hi])]
    have c := dot_eqv (p := p) fs.length (u := fun i => if i < fs.length then vec x.2 i else 0) (v := fun _ => 0) (w := a) (x := a) (fun i => by
      by_cases hi : i < fs.length
      · dsimp only
        rw [if_pos hi]
        exact pl.ahead _ mx i (by rw [ex]; exact hi)
      · dsimp only
        rw [if_neg hi]
        exact Cg.rfl') Eqv.refl
    rw [dot_zeroL] at c
    exact c
  have e1 : Cg p (vec x.2 fs.length) 1 := by
    have s := pl.leads.self _ mx
    rw [← ex]
    exact s
  have c := e0.symm.add (e1.symm.mul (Cg.rfl' (a := (-1 : Int))))
  have z2 : Cg p (0 + 1 * -1) 0 := by
    refine c.trans ?_
    have e : (if fs.length < fs.length then a fs.length else -1) = (-1 : Int) := if_neg (Nat.lt_irrefl _)
    rw [e] at z
    exact z
  obtain ⟨d, hd⟩ := z2
  exact one_zero p1 ⟨-d, by grind⟩
theorem comb_dot {j : Nat} : ∀ {ns : List Int} {rs : List (List (Int × Int))}, ns.length = rs.length → combV (pairV (ns.zip rs)) j = dot (vec ns) (col (rs.map flatR) j) rs.length
  | [], [], _ => rfl
  | [], _ :: _, h => by simp at h
  | _ :: _, [], h => by simp at h
  | n :: ns, r :: rs, h => by
    show n * vec (flatR r) j + combV (pairV (ns.zip rs)) j = vec (n :: ns) 0 * col (flatR r :: rs.map flatR) j 0 + dot (shf (vec (n :: ns))) (shf (col (flatR r :: rs.map flatR) j)) rs.length
    have e : shf (vec (n :: ns)) = vec ns := funext fun i => vec_succ
    rw [comb_dot (by simpa using h), shf_col, e]
    rfl
end Lin
/-! things by a hold and a table: stands, that they are fair, how many free numbers they have -/
namespace Lin
abbrev RowP := List (Int × Int)
theorem vec_flatP : ∀ (r : RowP) (k : Nat), vec (flatR r) (2 * k) = (r.getD k (0, 0)).1 ∧ vec (flatR r) (2 * k + 1) = (r.getD k (0, 0)).2
  | [], _ => ⟨rfl, rfl⟩
  | _ :: _, 0 => ⟨rfl, rfl⟩
  | u :: r, k + 1 => by
    have ih := vec_flatP r k
    rw [flat_cons, show 2 * (k + 1) + 1 = 2 * k + 1 + 1 + 1 by omega, show 2 * (k + 1) = 2 * k + 1 + 1 by omega, vec_succ, vec_succ, vec_succ, vec_succ]
    exact ih
theorem sum_range (u v : Vc) : ∀ m : Nat, ((List.range m).map fun k => u k * v k).sum = dot u v m
  | 0 => rfl
  | m + 1 => by
    rw [List.range_succ, List.map_append, List.sum_append, sum_range u v m, dot_last]
    simp
theorem dot_dotM {a b : Vc} {M : Nat → Vc} {n : Nat} : ∀ N : Nat, dot (fun k => dot a (fun i => M i k) N) b n = dot a (fun i => dot (M i) b n) N
  | 0 => dot_zeroL n b
  | N + 1 => by
    have e : (fun k => dot a (fun i => M i k) (N + 1)) = fun k => dot a (fun i => M i k) N + a N * M N k := funext fun k => dot_last N a _
    rw [e, dot_combL, dot_dotM N, dot_last]
theorem dot_cgN {p : Int} : ∀ (n : Nat) {u v w x : Vc}, (∀ i, i < n → Cg p (u i) (v i)) → (∀ i, i < n → Cg p (w i) (x i)) → Cg p (dot u w n) (dot v x n)
  | 0, _, _, _, _, _, _ => Cg.rfl'
  | n + 1, u, v, w, x, h, k => by
    rw [dot_last, dot_last]
    exact (dot_cgN n (fun i hi => h i (by omega)) fun i hi => k i (by omega)).add ((h n (by omega)).mul (k n (by omega)))
/-- a table that is its own mirror -/
def Sy (gs : List (List Int)) : Prop := ∀ i j, col gs j i = col gs i j
/-- what is told at post j -/
def toldV (gs : List (List Int)) (a : Vc) (m : Nat) : Vc := fun j => dot a (col gs j) m
/-- the stand by a hold, a table and held numbers -/
def stP (p : Int) (hs : List Int) (gs : List (List Int)) (ns : List Int) : RowP :=
  (List.range hs.length).map fun j => if vec hs j = 0 then (vec ns j, toldV gs (vec ns) hs.length j % p) else ((0 - toldV gs (vec ns) hs.length j % p) % p, vec ns j)
def unitL (m k : Nat) : List Int := (List.range m).map fun j => if j = k then 1 else 0
def unitsP (p : Int) (hs : List Int) (gs : List (List Int)) : List RowP := (List.range hs.length).map fun k => stP p hs gs (unitL hs.length k)
theorem st_len {p : Int} {hs : List Int} {gs : List (List Int)} {ns : List Int} : (stP p hs gs ns).length = hs.length := by
  unfold stP
  rw [List.length_map, List.length_range]
theorem st_get {p : Int} {hs : List Int} {gs : List (List Int)} {ns : List Int} {j : Nat} (h : j < hs.length) : (stP p hs gs ns)[j]? = some (if vec hs j = 0 then (vec ns j, toldV gs (vec ns) hs.length j % p) else ((0 - toldV gs (vec ns) hs.length j % p) % p, vec ns j)) := by
  unfold stP
  rw [List.getElem?_map, List.getElem?_range h]
  rfl
def InP (p : Int) (r : RowP) : Prop := ∀ u ∈ r, (0 ≤ u.1 ∧ u.1 < p) ∧ 0 ≤ u.2 ∧ u.2 < p
theorem st_in {p : Int} {hs : List Int} {gs : List (List Int)} {ns : List Int} (p0 : 0 < p) (rg : Rg p ns) : InP p (stP p hs gs ns) := fun u hu => by
  obtain ⟨j, _, rfl⟩ := List.mem_map.mp hu
  have a := rg.vec p0 j
  have b : ∀ x : Int, 0 ≤ x % p ∧ x % p < p := fun x => ⟨Int.emod_nonneg _ (by omega), Int.emod_lt_of_pos _ p0⟩
  split
  · exact ⟨a, b _⟩
  · exact ⟨b _, a⟩
theorem meets_range {p : Int} {F : Int × Int → Int × Int → Int} {G : Nat → Int} {f g : Nat → Int × Int} : ∀ m : Nat, (∀ j, j < m → Cg p (F (f j) (g j)) (G j)) → Cg p (List.zipWith F ((List.range m).map f) ((List.range m).map g)).sum ((List.range m).map G).sum
  | 0, _ => Cg.rfl'
  | m + 1, h => by
    rw [List.range_succ, List.map_append, List.map_append, List.map_append, List.zipWith_append (by simp), List.sum_append, List.sum_append]
    refine (meets_range m fun j hj => h j (by omega)).add ?_
    have a := h m (by omega)
    simpa using a
theorem sum_sub (u v a b : Vc) : ∀ m : Nat, ((List.range m).map fun k => u k * v k - a k * b k).sum = dot u v m - dot a b m
  | 0 => rfl
  | m + 1 => by
    rw [List.range_succ, List.map_append, List.sum_append, sum_sub u v a b m, dot_last, dot_last]
    simp
    omega
/-- two stands meet with 0 -/
theorem st_fair {p : Int} {hs : List Int} {gs : List (List Int)} {ns ms : List Int} (sy : Sy gs) : Cg p (List.zipWith (fun u v => u.1 * v.2 - v.1 * u.2) (stP p hs gs ns) (stP p hs gs ms)).sum 0 := by
  have key := meets_range (p := p) (F := fun u v : Int × Int => u.1 * v.2 - v.1 * u.2) (G := fun j => vec ns j * toldV gs (vec ms) hs.length j - vec ms j * toldV gs (vec ns) hs.length j) (f := fun j => if vec hs j = 0 then (vec ns j, toldV gs (vec ns) hs.length j % p) else ((0 - toldV gs (vec ns) hs.length j % p) % p, vec ns j)) (g := fun j => if vec hs j = 0 then (vec ms j, toldV gs (vec ms) hs.length j % p) else ((0 - toldV gs (vec ms) hs.length j % p) % p, vec ms j)) hs.length fun j _ => by
    have c1 := Cg.mod (p := p) (toldV gs (vec ns) hs.length j)
    have c2 := Cg.mod (p := p) (toldV gs (vec ms) hs.length j)
    split
    · exact ((Cg.rfl' (a := vec ns j)).mul c2).sub ((Cg.rfl' (a := vec ms j)).mul c1)
    · have d1 := (Cg.mod (p := p) (0 - toldV gs (vec ns) hs.length j % p)).trans ((Cg.rfl' (a := 0)).sub c1)
      have d2 := (Cg.mod (p := p) (0 - toldV gs (vec ms) hs.length j % p)).trans ((Cg.rfl' (a := 0)).sub c2)
      have e := (d1.mul (Cg.rfl' (a := vec ms j))).sub (d2.mul (Cg.rfl' (a := vec ns j)))
      have z : (0 - toldV gs (vec ns) hs.length j) * vec ms j - (0 - toldV gs (vec ms) hs.length j) * vec ns j = vec ns j * toldV gs (vec ms) hs.length j - vec ms j * toldV gs (vec ns) hs.length j := by grind
      rw [z] at e
      exact e
  refine key.trans ?_
  rw [sum_sub]
  have x : dot (vec ms) (toldV gs (vec ns) hs.length) hs.length = dot (vec ns) (toldV gs (vec ms) hs.length) hs.length := by
    rw [dot_comm]
    have e := dot_dotM (a := vec ns) (b := vec ms) (M := fun i k => col gs k i) (n := hs.length) hs.length
    refine e.trans ?_
    congr 1
    funext i
    have e2 : (fun k => col gs k i) = col gs i := funext fun k => sy i k
    rw [e2, dot_comm]
    rfl
  rw [x]
  exact ⟨0, by omega⟩
theorem unit_at {m k j : Nat} : vec (unitL m k) j = if j = k ∧ j < m then 1 else 0 := by
  show (unitL m k).getD j 0 = _
  unfold unitL
  rw [List.getD_eq_getElem?_getD, List.getElem?_map]
  by_cases h : j < m
  · rw [List.getElem?_range h]
    by_cases e : j = k
    · rw [if_pos ⟨e, h⟩]
      show (if j = k then (1 : Int) else 0) = 1
      rw [if_pos e]
    · rw [if_neg (fun z => e z.1)]
      show (if j = k then (1 : Int) else 0) = 0
      rw [if_neg e]
  · rw [List.getElem?_eq_none (by simpa using h)]
    rw [if_neg (fun z => h z.2)]
    rfl
theorem unit_rg {p : Int} {m k : Nat} (p1 : 1 < p) : Rg p (unitL m k) := fun u hu => by
  obtain ⟨j, _, rfl⟩ := List.mem_map.mp hu
  split <;> omega
theorem unit_len {m k : Nat} : (unitL m k).length = m := by
  unfold unitL
  rw [List.length_map, List.length_range]
/-- the place of post k's held number -/
def plc (hs : List Int) (k : Nat) : Nat := if vec hs k = 0 then 2 * k else 2 * k + 1
/-- a stand's held number -/
theorem st_held {p : Int} {hs : List Int} {gs : List (List Int)} {ns : List Int} {k : Nat} (h : k < hs.length) : vec (flatR (stP p hs gs ns)) (plc hs k) = vec ns k := by
  obtain ⟨a, b⟩ := vec_flatP (stP p hs gs ns) k
  have e : (stP p hs gs ns).getD k (0, 0) = if vec hs k = 0 then (vec ns k, toldV gs (vec ns) hs.length k % p) else ((0 - toldV gs (vec ns) hs.length k % p) % p, vec ns k) := by
    rw [List.getD_eq_getElem?_getD, st_get h]
    rfl
  rw [e] at a b
  unfold plc
  split
  · rename_i z
    rw [if_pos z] at a
    exact a
  · rename_i z
    rw [if_neg z] at b
    exact b
theorem units_get {p : Int} {hs : List Int} {gs : List (List Int)} {k : Nat} (h : k < hs.length) : (unitsP p hs gs)[k]? = some (stP p hs gs (unitL hs.length k)) := by
  unfold unitsP
  rw [List.getElem?_map, List.getElem?_range h]
  rfl
theorem units_len {p : Int} {hs : List Int} {gs : List (List Int)} : (unitsP p hs gs).length = hs.length := by
  unfold unitsP
  rw [List.length_map, List.length_range]
theorem units_fit {p : Int} {hs : List Int} {gs : List (List Int)} (p1 : 1 < p) : ∀ r ∈ unitsP p hs gs, InP p r ∧ r.length = hs.length := fun r hr => by
  obtain ⟨k, _, rfl⟩ := List.mem_map.mp hr
  exact ⟨st_in (by omega) (unit_rg p1), st_len⟩
theorem units_fresh {p : Int} {hs : List Int} {gs : List (List Int)} (p1 : 1 < p) : ∀ m, m ≤ hs.length → Fresh p (((unitsP p hs gs).take m).map flatR)
  | 0, _ => by
    rw [List.take_zero]
    exact .nil
  | m + 1, h => by
    have ih := units_fresh (p := p) (hs := hs) (gs := gs) p1 m (by omega)
    have e := units_get (p := p) (gs := gs) (hs := hs) (k := m) (by omega)
    rw [List.take_add_one, e, List.map_append]
    refine .snoc (plc hs m) ih (fun f hf => ?_) fun z => ?_
    · obtain ⟨r, hr, rfl⟩ := List.mem_map.mp hf
      obtain ⟨k, hk⟩ := List.mem_iff_getElem?.mp hr
      have hkm : k < m := by
        have := (List.getElem?_eq_some_iff.mp hk).1
        rw [List.length_take] at this
        omega
      rw [List.getElem?_take, if_pos hkm, units_get (p := p) (hs := hs) (gs := gs) (k := k) (by omega)] at hk
      cases hk
      rw [st_held (hs := hs) (k := m) (by omega), unit_at, if_neg (by omega)]
      exact Cg.rfl'
    · rw [st_held (hs := hs) (k := m) (by omega), unit_at, if_pos ⟨rfl, by omega⟩] at z
      have := cg_eq (p := p) ⟨by omega, p1⟩ ⟨Int.le_refl 0, by omega⟩ z
      omega
theorem units_fair {p : Int} {hs : List Int} {gs : List (List Int)} (sy : Sy gs) : ∀ r ∈ unitsP p hs gs, ∀ s ∈ unitsP p hs gs, Cg p (List.zipWith (fun u v => u.1 * v.2 - v.1 * u.2) r s).sum 0 := fun r hr s hs' => by
  obtain ⟨k, _, rfl⟩ := List.mem_map.mp hr
  obtain ⟨j, _, rfl⟩ := List.mem_map.mp hs'
  exact st_fair sy
/-- rows of one lot whose spanning rows meet with 0 meet with 0 -/
theorem lot_fair {p : Int} {m : Nat} {rs : List RowP} (lr : ∀ r ∈ rs, r.length = m) (h : ∀ r ∈ rs, ∀ s ∈ rs, Cg p (List.zipWith (fun u v => u.1 * v.2 - v.1 * u.2) r s).sum 0) {r s : RowP} (l1 : r.length = m) (l2 : s.length = m) (h1 : Lot p (spn (rs.map flatR)) (vec (flatR r))) (h2 : Lot p (spn (rs.map flatR)) (vec (flatR s))) : Cg p (List.zipWith (fun u v => u.1 * v.2 - v.1 * u.2) r s).sum 0 := by
  have met : ∀ r s : RowP, r.length = m → s.length = m → (List.zipWith (fun u v => u.1 * v.2 - v.1 * u.2) r s).sum = dot (crs (vec (flatR r))) (vec (flatR s)) (2 * m) := fun r s a b => by
    have e := meet_dot (r := r) (s := s) (by rw [a, b])
    rw [a] at e
    exact e
  have half : ∀ r ∈ rs, Cg p (dot (crs (vec (flatR r))) (vec (flatR s)) (2 * m)) 0 := fun r hr => dot_lotR h2 fun v hv => by
    obtain ⟨f, hf, rfl⟩ := hv
    obtain ⟨t, ht, rfl⟩ := List.mem_map.mp hf
    rw [← met r t (lr r hr) (lr t ht)]
    exact h r hr t ht
  rw [met r s l1 l2, dot_crs]
  have z : Cg p (dot (crs (vec (flatR s))) (vec (flatR r)) (2 * m)) 0 := dot_lotR h1 fun v hv => by
    obtain ⟨f, hf, rfl⟩ := hv
    obtain ⟨t, ht, rfl⟩ := List.mem_map.mp hf
    rw [dot_crs]
    have a := (Cg.rfl' (p := p) (a := 0)).sub (half t ht)
    have e : (0 : Int) - dot (crs (vec (flatR t))) (vec (flatR s)) (2 * m) = -dot (crs (vec (flatR t))) (vec (flatR s)) (2 * m) := by omega
    rw [e, Int.sub_zero] at a
    exact a
  have a := (Cg.rfl' (p := p) (a := 0)).sub z
  have e : (0 : Int) - dot (crs (vec (flatR s))) (vec (flatR r)) (2 * m) = -dot (crs (vec (flatR s))) (vec (flatR r)) (2 * m) := by omega
  rw [e, Int.sub_zero] at a
  exact a
/-- so many plain rows -/
theorem units_plain {p : Int} {hs : List Int} {gs : List (List Int)} {fs : List (List Int)} {L : List (Nat × List Int)} (p1 : 1 < p) (inv : ∀ u, 0 < u → u < p → ∃ c, c * u % p = 1) (pl : PL p (2 * hs.length) fs L) (e : ∀ u, Lot p (spn fs) u ↔ Lot p (spn ((unitsP p hs gs).map flatR)) u) : L.length = hs.length := by
  have fr := units_fresh (p := p) (hs := hs) (gs := gs) p1 hs.length (Nat.le_refl _)
  have tk : (unitsP p hs gs).take hs.length = unitsP p hs gs := List.take_of_length_le (by rw [units_len]; exact Nat.le_refl _)
  rw [tk] at fr
  obtain ⟨M, pm, lm⟩ := fr.pl (n := 2 * hs.length) p1 inv fun f hf => by
    obtain ⟨r, hr, rfl⟩ := List.mem_map.mp hf
    obtain ⟨i, l⟩ := units_fit p1 r hr
    refine ⟨by rw [flat_len, l], fun u hu => ?_⟩
    obtain ⟨v, hv, hm⟩ := List.mem_flatMap.mp hu
    have := i v hv
    have m : u = v.1 ∨ u = v.2 := by simpa using hm
    rcases m with e | e
    · rw [e]; exact this.1
    · rw [e]; exact this.2
  rw [PL.len_eq p1 pl pm e, lm, List.length_map, units_len]
end Lin
/-! rows by the sides of a hold; the table of a thing by a hold; stands as sums -/
namespace Lin
theorem vec_app (a b : List Int) (i : Nat) : vec (a ++ b) i = if i < a.length then vec a i else vec b (i - a.length) := by
  show (a ++ b).getD i 0 = _
  rw [List.getD_eq_getElem?_getD]
  by_cases h : i < a.length
  · rw [if_pos h, List.getElem?_append_left h]
    show _ = a.getD i 0
    rw [List.getD_eq_getElem?_getD]
  · rw [if_neg h, List.getElem?_append_right (by omega)]
    show _ = b.getD (i - a.length) 0
    rw [List.getD_eq_getElem?_getD]
def sdP (p : Int) (hs : List Int) (r : RowP) : List Int := List.zipWith (fun h u => if h = 0 then u.1 else u.2) hs r ++ List.zipWith (fun h u => if h = 0 then u.2 else -u.1 % p) hs r
def sdV (hs : List Int) (v : Vc) : Vc := fun i => if i < hs.length then v (plc hs i) else if i < 2 * hs.length then (if vec hs (i - hs.length) = 0 then v (2 * (i - hs.length) + 1) else -v (2 * (i - hs.length))) else 0
theorem sd_len {p : Int} {hs : List Int} {r : RowP} (h : r.length = hs.length) : (sdP p hs r).length = 2 * hs.length := by
  unfold sdP
  rw [List.length_append, List.length_zipWith, List.length_zipWith]
  omega
theorem zip_vec {f : Int → Int × Int → Int} {hs : List Int} {r : RowP} {j : Nat} (h : r.length = hs.length) (hj : j < hs.length) : vec (List.zipWith f hs r) j = f (vec hs j) (r.getD j (0, 0)) := by
  have e1 : hs[j]? = some (vec hs j) := by
    have e := List.getElem?_eq_getElem hj
    rw [e, vec_some e]
  have e2 : r[j]? = some (r.getD j (0, 0)) := by
    rw [List.getD_eq_getElem?_getD, List.getElem?_eq_getElem (by omega)]
    rfl
  refine vec_some ?_
  rw [List.getElem?_zipWith, e1, e2]
theorem sd_vec {p : Int} {hs : List Int} {r : RowP} (h : r.length = hs.length) : Eqv p (vec (sdP p hs r)) (sdV hs (vec (flatR r))) := fun i => by
  unfold sdP sdV
  rw [vec_app, List.length_zipWith, h, Nat.min_self]
  by_cases h1 : i < hs.length
  · rw [if_pos h1, if_pos h1, zip_vec h h1]
    obtain ⟨a, b⟩ := vec_flatP r i
    unfold plc
    split
    · rw [a]
      exact Cg.rfl'
    · rw [b]
      exact Cg.rfl'
  · rw [if_neg h1, if_neg h1]
    by_cases h2 : i < 2 * hs.length
    · rw [if_pos h2, zip_vec h (by omega)]
      obtain ⟨a, b⟩ := vec_flatP r (i - hs.length)
      split
      · rw [b]
        exact Cg.rfl'
      · rw [a]
        exact Cg.mod _
    · rw [if_neg h2, vec_out (by rw [List.length_zipWith]; omega)]
      exact Cg.rfl'
theorem sd_rg {p : Int} {hs : List Int} {r : RowP} (p0 : 0 < p) (h : InP p r) : Rg p (sdP p hs r) := fun u hu => by
  unfold sdP at hu
  have b : ∀ x : Int, 0 ≤ x % p ∧ x % p < p := fun x => ⟨Int.emod_nonneg _ (by omega), Int.emod_lt_of_pos _ p0⟩
  rcases List.mem_append.mp hu with m | m
  · obtain ⟨i, hi, rfl⟩ := List.mem_iff_getElem.mp m
    rw [List.getElem_zipWith]
    have := h _ (List.getElem_mem (l := r) (n := i) (by rw [List.length_zipWith] at hi; omega))
    split
    · exact this.1
    · exact this.2
  · obtain ⟨i, hi, rfl⟩ := List.mem_iff_getElem.mp m
    rw [List.getElem_zipWith]
    have := h _ (List.getElem_mem (l := r) (n := i) (by rw [List.length_zipWith] at hi; omega))
    split
    · exact this.2
    · exact b _
theorem sd_comb {hs : List Int} {u v : Vc} {c : Int} (i : Nat) : sdV hs (fun j => u j + c * v j) i = sdV hs u i + c * sdV hs v i := by
  unfold sdV
  split
  · rfl
  · split
    · split
      · rfl
      · grind
    · grind
theorem sd_eqv {p : Int} {hs : List Int} {u v : Vc} (h : Eqv p u v) : Eqv p (sdV hs u) (sdV hs v) := fun i => by
  unfold sdV
  split
  · exact h _
  · split
    · split
      · exact h _
      · have a := (Cg.rfl' (p := p) (a := 0)).sub (h (2 * (i - hs.length)))
        rw [Int.zero_sub, Int.zero_sub] at a
        exact a
    · exact Cg.rfl'
theorem lot_sd {p : Int} {hs : List Int} {R S : Vc → Prop} {u : Vc} (h : Lot p R u) (k : ∀ v, R v → Lot p S (sdV hs v)) : Lot p S (sdV hs u) := by
  induction h with
  | zero =>
    refine .eqv .zero fun i => ?_
    · have e : sdV hs (fun _ => 0) i = 0 := by
        unfold sdV
        split
        · rfl
        · split
          · split <;> rfl
          · rfl
      rw [e]
      exact Cg.rfl'
  | add c _ r ih =>
    refine .eqv (Lot.comb c ih (k _ r)) fun i => ?_
    rw [sd_comb]
    exact Cg.rfl'
  | eqv _ e ih => exact .eqv ih (sd_eqv e)
theorem span_sd {p : Int} {hs : List Int} {ss us : List RowP} (ls : ∀ r ∈ ss, r.length = hs.length) (lu : ∀ r ∈ us, r.length = hs.length) (h : ∀ u, Lot p (spn (ss.map flatR)) u ↔ Lot p (spn (us.map flatR)) u) (u : Vc) : Lot p (spn (ss.map (sdP p hs))) u ↔ Lot p (spn (us.map (sdP p hs))) u := by
  have one : ∀ {xs ys : List RowP}, (∀ r ∈ xs, r.length = hs.length) → (∀ r ∈ ys, r.length = hs.length) → (∀ u, Lot p (spn (xs.map flatR)) u → Lot p (spn (ys.map flatR)) u) → ∀ v, spn (xs.map (sdP p hs)) v → Lot p (spn (ys.map (sdP p hs))) v := by
    intro xs ys lx ly hh v hv
    obtain ⟨f, hf, rfl⟩ := hv
    obtain ⟨r, hr, rfl⟩ := List.mem_map.mp hf
    have a := hh _ (.of ⟨flatR r, List.mem_map.mpr ⟨r, hr, rfl⟩, rfl⟩)
    refine .eqv (lot_sd (hs := hs) a fun w hw => ?_) (sd_vec (lx r hr)).symm
    obtain ⟨f, hf, rfl⟩ := hw
    obtain ⟨s, hs', rfl⟩ := List.mem_map.mp hf
    exact .eqv (.of ⟨sdP p hs s, List.mem_map.mpr ⟨s, hs', rfl⟩, rfl⟩) (sd_vec (ly s hs'))
  exact Lot.iff (one ls lu fun u => (h u).mp) (one lu ls fun u => (h u).mpr) u
/-- what is told at all posts -/
def toldL (p : Int) (gs : List (List Int)) (ns : List Int) (m : Nat) : List Int := (List.range m).map fun j => toldV gs (vec ns) m j % p
theorem sd_st {p : Int} {hs : List Int} {gs : List (List Int)} {ns : List Int} (p0 : 0 < p) (hl : ns.length = hs.length) : sdP p hs (stP p hs gs ns) = ns ++ toldL p gs ns hs.length := by
  unfold sdP
  congr 1
  · apply List.ext_getElem?
    intro j
    rw [List.getElem?_zipWith]
    by_cases h : j < hs.length
    · have e1 := List.getElem?_eq_getElem h
      have en := List.getElem?_eq_getElem (l := ns) (i := j) (by omega)
      rw [st_get h, e1, en]
      show some (if hs[j] = 0 then _ else _) = some ns[j]
      rw [← vec_some e1, ← vec_some en]
      split <;> rfl
    · rw [List.getElem?_eq_none (l := hs) (by omega), List.getElem?_eq_none (l := ns) (by omega)]
  · apply List.ext_getElem?
    intro j
    rw [List.getElem?_zipWith]
    by_cases h : j < hs.length
    · have e1 := List.getElem?_eq_getElem h
      rw [st_get h, e1]
      unfold toldL
      rw [List.getElem?_map, List.getElem?_range h]
      show some (if hs[j] = 0 then _ else _) = some _
      rw [← vec_some e1]
      split
      · rfl
      · dsimp only
        congr 1
        have b : ∀ x : Int, 0 ≤ x % p ∧ x % p < p := fun x => ⟨Int.emod_nonneg _ (by omega), Int.emod_lt_of_pos _ p0⟩
        refine cg_eq (b _) (b _) ?_
        have c := (Cg.mod (p := p) (0 - toldV gs (vec ns) hs.length j % p))
        have d := (Cg.mod (p := p) (-((0 - toldV gs (vec ns) hs.length j % p) % p))).trans (by
          have a := (Cg.rfl' (p := p) (a := 0)).sub c
          rw [Int.zero_sub] at a
          exact a)
        have e : (0 : Int) - (0 - toldV gs (vec ns) hs.length j % p) = toldV gs (vec ns) hs.length j % p := by omega
        rw [e] at d
        exact d
    · rw [List.getElem?_eq_none (l := hs) (by omega)]
      exact (List.getElem?_eq_none (by unfold toldL; rw [List.length_map, List.length_range]; omega)).symm
theorem dot_unit {m k : Nat} {v : Vc} (h : k < m) : dot (vec (unitL m k)) v m = v k := by
  have e := dot_ext m (u := vec (unitL m k)) (v := un k) (w := v) (x := v) (fun i hi => by
    rw [unit_at]
    show _ = if i = k then 1 else 0
    by_cases z : i = k
    · rw [if_pos ⟨z, hi⟩, if_pos z]
    · rw [if_neg (fun w => z w.1), if_neg z]) fun _ _ => rfl
  rw [e, dot_comm, dot_un m k v h]
theorem told_unit {p : Int} {gs : List (List Int)} {m k : Nat} {g : List Int} (h : k < m) (eg : gs[k]? = some g) (gl : g.length = m) (rg : Rg p g) (p0 : 0 < p) : toldL p gs (unitL m k) m = g := by
  unfold toldL
  apply List.ext_getElem?
  intro j
  rw [List.getElem?_map]
  by_cases hj : j < m
  · rw [List.getElem?_range hj]
    have e : col gs j k = vec g j := by
      unfold col
      rw [List.getD_eq_getElem?_getD, eg]
      rfl
    have e2 : g[j]? = some (vec g j) := by
      have e := List.getElem?_eq_getElem (l := g) (i := j) (by omega)
      rw [e, vec_some e]
    show some (toldV gs (vec (unitL m k)) m j % p) = _
    unfold toldV
    rw [dot_unit h, e, e2]
    have := rg.vec p0 j
    rw [Int.emod_eq_of_lt this.1 this.2]
  · rw [List.getElem?_eq_none (by simpa using hj), List.getElem?_eq_none (by omega)]
    rfl
/-- the leads of a thing by a hold that stands: the numbers held alone, then the table -/
theorem lead_table {p : Int} {hs : List Int} {gs : List (List Int)} {fs : List (List Int)} {L : List (Nat × List Int)} (p1 : 1 < p) (gl : gs.length = hs.length) (gok : ∀ g ∈ gs, g.length = hs.length ∧ Rg p g) (pl : PL p (2 * hs.length) fs L) (up : Up L)
    (e : ∀ u, Lot p (spn fs) u ↔ Lot p (spn ((unitsP p hs gs).map (sdP p hs))) u) : L = (List.range hs.length).zip ((List.range hs.length).map fun k => unitL hs.length k ++ gs.getD k []) := by
  have p0 : 0 < p := by omega
  have eu : (unitsP p hs gs).map (sdP p hs) = (List.range hs.length).map fun k => unitL hs.length k ++ gs.getD k [] := by
    unfold unitsP
    rw [List.map_map]
    apply List.map_congr_left
    intro k hk
    have hk' := List.mem_range.mp hk
    have eg : gs[k]? = some (gs.getD k []) := by
      rw [List.getD_eq_getElem?_getD, List.getElem?_eq_getElem (by omega)]
      rfl
    have ok := gok _ (List.mem_of_getElem? eg)
    show sdP p hs (stP p hs gs (unitL hs.length k)) = _
    rw [sd_st p0 unit_len, told_unit hk' eg ok.1 ok.2 p0]
  have pln : Pln p (2 * hs.length) (List.range hs.length) ((List.range hs.length).map fun k => unitL hs.length k ++ gs.getD k []) := by
    refine ⟨by rw [List.length_map], List.pairwise_lt_range, fun q hq => by have := List.mem_range.mp hq; omega, fun i q f hi hf => ?_⟩
    have hil : i < hs.length := by
      have := (List.getElem?_eq_some_iff.mp hi).1
      simpa using this
    rw [List.getElem?_range hil] at hi
    cases hi
    rw [List.getElem?_map, List.getElem?_range hil] at hf
    cases hf
    have eg : gs[i]? = some (gs.getD i []) := by
      rw [List.getD_eq_getElem?_getD, List.getElem?_eq_getElem (by omega)]
      rfl
    have ok := gok _ (List.mem_of_getElem? eg)
    have at_ : ∀ o, o < hs.length → vec (unitL hs.length i ++ gs.getD i []) o = if o = i then 1 else 0 := fun o ho => by
      rw [vec_app, unit_len, if_pos ho, unit_at]
      by_cases z : o = i
      · rw [if_pos ⟨z, ho⟩, if_pos z]
      · rw [if_neg (fun w => z w.1), if_neg z]
    refine ⟨by rw [List.length_append, unit_len, ok.1]; omega, fun u hu => ?_, fun j hj => by rw [at_ j (by omega), if_neg (by omega)], by rw [at_ i hil, if_pos rfl], fun o ho hlt => by rw [at_ o (List.mem_range.mp ho), if_neg (by omega)]⟩
    rcases List.mem_append.mp hu with m | m
    · exact unit_rg p1 u m
    · exact ok.2 u m
  obtain ⟨h1, h2⟩ := pln.pl
  refine pl.one p1 h1 up h2 fun u => ?_
  rw [← eu]
  exact e u
/-! stands as sums of the stands of 1 held alone -/
def stV (hs : List Int) (gs : List (List Int)) (m : Nat) (a : Vc) : Vc := fun i => if i < 2 * m then (if (vec hs (i / 2) = 0) = (i % 2 = 0) then a (i / 2) else if i % 2 = 0 then -toldV gs a m (i / 2) else toldV gs a m (i / 2)) else 0
theorem st_vec {p : Int} {hs : List Int} {gs : List (List Int)} {ns : List Int} : Eqv p (vec (flatR (stP p hs gs ns))) (stV hs gs hs.length (vec ns)) := fun i => by
  unfold stV
  by_cases h : i < 2 * hs.length
  · rw [if_pos h]
    have hj : i / 2 < hs.length := by omega
    obtain ⟨a, b⟩ := vec_flatP (stP p hs gs ns) (i / 2)
    have e : (stP p hs gs ns).getD (i / 2) (0, 0) = if vec hs (i / 2) = 0 then (vec ns (i / 2), toldV gs (vec ns) hs.length (i / 2) % p) else ((0 - toldV gs (vec ns) hs.length (i / 2) % p) % p, vec ns (i / 2)) := by
      rw [List.getD_eq_getElem?_getD, st_get hj]
      rfl
    rw [e] at a b
    have md := Cg.mod (p := p) (toldV gs (vec ns) hs.length (i / 2))
    by_cases z : vec hs (i / 2) = 0
    · rw [if_pos z] at a b
      by_cases q : i % 2 = 0
      · rw [if_pos (by simp [z, q])]
        have ei : 2 * (i / 2) = i := by omega
        rw [ei] at a
        rw [a]
        exact Cg.rfl'
      · rw [if_neg (by simp [z, q]), if_neg q]
        have ei : 2 * (i / 2) + 1 = i := by omega
        rw [ei] at b
        rw [b]
        exact md
    · rw [if_neg z] at a b
      by_cases q : i % 2 = 0
      · rw [if_neg (by simp [z, q]), if_pos q]
        have ei : 2 * (i / 2) = i := by omega
        rw [ei] at a
        rw [a]
        have c := (Cg.mod (p := p) (0 - toldV gs (vec ns) hs.length (i / 2) % p)).trans ((Cg.rfl' (a := 0)).sub md)
        rw [Int.zero_sub (toldV gs (vec ns) hs.length (i / 2))] at c
        exact c
      · rw [if_pos (by simp [z, q])]
        have ei : 2 * (i / 2) + 1 = i := by omega
        rw [ei] at b
        rw [b]
        exact Cg.rfl'
  · rw [if_neg h, vec_out (by rw [flat_len, st_len]; omega)]
    exact Cg.rfl'
theorem dot_neg : ∀ (n : Nat) (a f : Vc), dot a (fun k => -f k) n = -dot a f n
  | 0, _, _ => rfl
  | n + 1, a, f => by
    rw [dot_last, dot_last, dot_neg n a f]
    grind
theorem st_dot {hs : List Int} {gs : List (List Int)} {m : Nat} {a : Vc} {i : Nat} : dot a (fun k => stV hs gs m (vec (unitL m k)) i) m = stV hs gs m a i := by
  have td : ∀ j, dot a (fun k => toldV gs (vec (unitL m k)) m j) m = toldV gs a m j := fun j => by
    unfold toldV
    exact dot_ext m (fun _ _ => rfl) fun k hk => dot_unit hk
  unfold stV
  by_cases h : i < 2 * m
  · have hj : i / 2 < m := by omega
    simp only [if_pos h]
    by_cases z : (vec hs (i / 2) = 0) = (i % 2 = 0)
    · simp only [if_pos z]
      have e := dot_ext m (u := a) (v := a) (w := fun k => vec (unitL m k) (i / 2)) (x := un (i / 2)) (fun _ _ => rfl) fun k hk => by
        rw [unit_at]
        show _ = if k = i / 2 then 1 else 0
        by_cases q : i / 2 = k
        · rw [if_pos ⟨q, hj⟩, if_pos q.symm]
        · rw [if_neg (fun w => q w.1), if_neg (fun w => q w.symm)]
      rw [e, dot_un m (i / 2) a hj]
    · simp only [if_neg z]
      by_cases q : i % 2 = 0
      · simp only [if_pos q]
        rw [dot_neg, td]
      · simp only [if_neg q]
        exact td _
  · simp only [if_neg h]
    exact dot_zero m a
theorem in_sumP {p : Int} (p0 : 0 < p) : ∀ (l : List (Int × RowP)) (acc : RowP), InP p acc → InP p (sumP p acc l)
  | [], _, h => h
  | x :: l, acc, _ => in_sumP p0 l _ fun u hu => by
    unfold addP at hu
    obtain ⟨i, hi, rfl⟩ := List.mem_iff_getElem.mp hu
    rw [List.getElem_zipWith]
    exact ⟨⟨Int.emod_nonneg _ (by omega), Int.emod_lt_of_pos _ p0⟩, Int.emod_nonneg _ (by omega), Int.emod_lt_of_pos _ p0⟩
theorem flat_rgP {p : Int} {r : RowP} (h : InP p r) : Rg p (flatR r) := fun u hu => by
  obtain ⟨v, hv, hm⟩ := List.mem_flatMap.mp hu
  have := h v hv
  have m : u = v.1 ∨ u = v.2 := by simpa using hm
  rcases m with e | e
  · rw [e]; exact this.1
  · rw [e]; exact this.2
theorem stand_sum {p : Int} {hs : List Int} {gs : List (List Int)} {ns : List Int} (p1 : 1 < p) (hl : ns.length = hs.length) (rg : Rg p ns) : sumP p (List.replicate hs.length (0, 0)) (ns.zip (unitsP p hs gs)) = stP p hs gs ns := by
  have p0 : 0 < p := by omega
  have lu : ∀ x ∈ ns.zip (unitsP p hs gs), x.2.length = hs.length := fun x hx => (units_fit p1 _ (List.of_mem_zip hx).2).2
  have ul := units_len (p := p) (hs := hs) (gs := gs)
  apply flat_inj
  refine list_eq p0 (by rw [flat_len, flat_len, sum_lenP _ lu (by simp), st_len]) (flat_rgP (in_sumP p0 _ _ fun u hu => ?_)) (flat_rgP (st_in p0 rg)) fun j => ?_
  · rw [(List.mem_replicate.mp hu).2]
    exact ⟨⟨Int.le_refl 0, p0⟩, Int.le_refl 0, p0⟩
  have b := vec_sumP (p := p) (ns.zip (unitsP p hs gs)) (acc := List.replicate hs.length ((0 : Int), (0 : Int))) lu (by simp) j
  dsimp only at b
  rw [vec_noP, Int.zero_add, comb_dot (by rw [ul]; exact hl), ul] at b
  refine b.trans (Cg.trans ?_ (st_vec (ns := ns) j).symm)
  rw [← st_dot]
  refine dot_cgN hs.length (fun _ _ => Cg.rfl') fun k hk => ?_
  have e : col ((unitsP p hs gs).map flatR) j k = vec (flatR (stP p hs gs (unitL hs.length k))) j := by
    unfold col
    rw [List.getD_eq_getElem?_getD, List.getElem?_map, units_get hk]
    rfl
  rw [e]
  exact st_vec j
end Lin
set_option linter.all false
/-! two lots joined and crossed: their numbers of plain rows add up alike -/
namespace Lin
def FreeOver (p : Int) : List (List Int) → List (List Int) → Prop
  | _, [] => True
  | fs, f :: r => ¬ Lot p (spn fs) (vec f) ∧ FreeOver p (fs ++ [f]) r
theorem spn_sub {p : Int} {fs gs : List (List Int)} (h : ∀ f ∈ fs, f ∈ gs) {u : Vc} (k : Lot p (spn fs) u) : Lot p (spn gs) u :=
  Lot.sub (fun v hv => let ⟨f, hf, e⟩ := hv; Lot.of ⟨f, h f hf, e⟩) k
theorem FreeOver.mono {p : Int} : ∀ {r fs gs : List (List Int)}, (∀ f ∈ gs, f ∈ fs) → FreeOver p fs r → FreeOver p gs r
  | [], _, _, _, _ => trivial
  | f :: r, fs, gs, h, k => ⟨fun z => k.1 (spn_sub h z), FreeOver.mono (fun g hg => by
      rcases List.mem_append.mp hg with m | m
      · exact List.mem_append.mpr (.inl (h g m))
      · exact List.mem_append.mpr (.inr m)) k.2⟩
theorem first_of : ∀ us : List Int, (¬ ∀ x ∈ us, x = 0) → ∃ (j : Nat) (u : Int), us[j]? = some u ∧ u ≠ 0 ∧ ∀ i, i < j → us[i]? = some 0 := by
  intro us
  induction us with
  | nil => intro h; exact absurd (fun x hx => by cases hx) h
  | cons a us ih2 =>
    intro h
    by_cases ha : a = 0
    · have h' : ¬ ∀ x ∈ us, x = 0 := fun k => h fun x hx => by
        rcases List.mem_cons.mp hx with rfl | hx
        · exact ha
        · exact k x hx
      obtain ⟨j, u, e1, e2, e3⟩ := ih2 h'
      refine ⟨j + 1, u, e1, e2, fun i hi => ?_⟩
      cases i with
      | zero => rw [ha]; rfl
      | succ i => exact e3 i (by omega)
    · exact ⟨0, a, rfl, ha, fun i hi => absurd hi (Nat.not_lt_zero _)⟩
theorem FreeOver.pl {p : Int} {n : Nat} (p1 : 1 < p) (inv : ∀ u, 0 < u → u < p → ∃ c, c * u % p = 1) : ∀ {r fs : List (List Int)} {L : List (Nat × List Int)}, PL p n fs L → FreeOver p fs r → (∀ f ∈ r, f.length = n ∧ Rg p f) → ∃ M, PL p n (fs ++ r) M ∧ M.length = L.length + r.length
  | [], fs, L, h, _, _ => ⟨L, by rw [List.append_nil]; exact h, rfl⟩
  | f :: r, fs, L, pl, k, hf => by
    obtain ⟨fl, fr⟩ := hf f (by simp)
    have p0 : 0 < p := by omega
    obtain ⟨j, u, e1, e2, e3⟩ := first_of _ fun hz => k.1 ((pl.zero p0 fl fr).mp hz)
    have ur := clear_rg p0 L fr u (List.mem_of_getElem? e1)
    obtain ⟨c, hc⟩ := inv u (by omega) ur.2
    obtain ⟨M, h1, h2⟩ := FreeOver.pl p1 inv (pl.step p1 fl fr e1 e2 e3 hc) k.2 fun g hg => hf g (List.mem_cons_of_mem _ hg)
    refine ⟨M, by rw [List.append_assoc] at h1; exact h1, ?_⟩
    rw [h2, List.length_append]
    have e : (moreL p j (scaled p c (clearL p f L)) L).length = L.length := by simp [moreL]
    rw [e]
    simp only [List.length_cons, List.length_nil]
    omega
theorem extend {p : Int} : ∀ (gs fs : List (List Int)), ∃ es, (∀ e ∈ es, e ∈ gs) ∧ FreeOver p fs es ∧ ∀ g ∈ gs, Lot p (spn (fs ++ es)) (vec g)
  | [], fs => ⟨[], by simp, trivial, by simp⟩
  | g :: gs, fs => by
    by_cases h : Lot p (spn fs) (vec g)
    · obtain ⟨es, h1, h2, h3⟩ := extend gs fs
      refine ⟨es, fun e he => List.mem_cons_of_mem _ (h1 e he), h2, fun x hx => ?_⟩
      rcases List.mem_cons.mp hx with rfl | hx
      · exact spn_sub (fun f hf => List.mem_append.mpr (.inl hf)) h
      · exact h3 x hx
    · obtain ⟨es, h1, h2, h3⟩ := extend gs (fs ++ [g])
      refine ⟨g :: es, fun e he => ?_, ⟨h, h2⟩, fun x hx => ?_⟩
      · rcases List.mem_cons.mp he with rfl | he
        · simp
        · exact List.mem_cons_of_mem _ (h1 e he)
      · rw [List.append_assoc] at h3
        rcases List.mem_cons.mp hx with rfl | hx
        · exact Lot.of ⟨x, by simp, rfl⟩
        · exact h3 x hx
theorem lot_split {p : Int} {xs ys : List (List Int)} {u : Vc} (h : Lot p (spn (xs ++ ys)) u) : ∃ v w, Lot p (spn xs) v ∧ Lot p (spn ys) w ∧ Eqv p u fun i => v i + w i := by
  induction h with
  | zero => exact ⟨_, _, .zero, .zero, fun i => ⟨0, by simp⟩⟩
  | @add u v c _ r ih =>
    obtain ⟨a, b, ha, hb, e⟩ := ih
    obtain ⟨f, hf, rfl⟩ := r
    rcases List.mem_append.mp hf with m | m
    · refine ⟨fun i => a i + c * vec f i, b, ha.comb c (.of ⟨f, m, rfl⟩), hb, fun i => ?_⟩
      have k := (e i).add (Cg.rfl' (a := c * vec f i))
      have e2 : a i + b i + c * vec f i = a i + c * vec f i + b i := by omega
      rw [e2] at k
      exact k
    · refine ⟨a, fun i => b i + c * vec f i, ha, hb.comb c (.of ⟨f, m, rfl⟩), fun i => ?_⟩
      have k := (e i).add (Cg.rfl' (a := c * vec f i))
      rw [Int.add_assoc] at k
      exact k
  | eqv _ e ih =>
    obtain ⟨a, b, ha, hb, e2⟩ := ih
    exact ⟨a, b, ha, hb, e.symm.trans e2⟩
theorem dim {p : Int} {n : Nat} {fa fb fi : List (List Int)} {KA KB KS KI : List (Nat × List Int)} (p1 : 1 < p) (inv : ∀ u, 0 < u → u < p → ∃ c, c * u % p = 1) (ha : ∀ f ∈ fa, f.length = n ∧ Rg p f) (hb : ∀ f ∈ fb, f.length = n ∧ Rg p f)
    (hA : PL p n fa KA) (hB : PL p n fb KB) (hS : PL p n (fa ++ fb) KS) (hI : PL p n fi KI) (e : ∀ u, Lot p (spn fi) u ↔ Lot p (spn fa) u ∧ Lot p (spn fb) u) : KS.length + KI.length = KA.length + KB.length := by
  obtain ⟨es, a1, a2, a3⟩ := extend (p := p) fa fi
  obtain ⟨ds, b1, b2, b3⟩ := extend (p := p) fb (fi ++ es)
  have inA : ∀ f ∈ fi, Lot p (spn fa) (vec f) := fun f hf => ((e _).mp (.of ⟨f, hf, rfl⟩)).1
  have inB : ∀ f ∈ fi, Lot p (spn fb) (vec f) := fun f hf => ((e _).mp (.of ⟨f, hf, rfl⟩)).2
  have sA : ∀ u, Lot p (spn (fi ++ es)) u ↔ Lot p (spn fa) u := Lot.iff (fun v hv => by
      obtain ⟨f, hf, rfl⟩ := hv
      rcases List.mem_append.mp hf with m | m
      · exact inA f m
      · exact .of ⟨f, a1 f m, rfl⟩) (fun v hv => by
      obtain ⟨f, hf, rfl⟩ := hv
      exact a3 f hf)
  obtain ⟨M1, m1, l1⟩ := FreeOver.pl p1 inv hI a2 fun f hf => ha f (a1 f hf)
  obtain ⟨M2, m2, l2⟩ := FreeOver.pl p1 inv m1 b2 fun f hf => hb f (b1 f hf)
  obtain ⟨M3, m3, l3⟩ := FreeOver.pl p1 inv hI (b2.mono fun f hf => List.mem_append.mpr (.inl hf)) fun f hf => hb f (b1 f hf)
  have k1 := m1.len_eq p1 hA sA
  have k2 := m2.len_eq p1 hS (Lot.iff (fun v hv => by
      obtain ⟨f, hf, rfl⟩ := hv
      rcases List.mem_append.mp hf with m | m
      · exact spn_sub (fun g hg => List.mem_append.mpr (.inl hg)) ((sA _).mp (.of ⟨f, m, rfl⟩))
      · exact .of ⟨f, List.mem_append.mpr (.inr (b1 f m)), rfl⟩) (fun v hv => by
      obtain ⟨f, hf, rfl⟩ := hv
      rcases List.mem_append.mp hf with m | m
      · exact spn_sub (fun g hg => List.mem_append.mpr (.inl hg)) (a3 f m)
      · exact b3 f m))
  have k3 := m3.len_eq p1 hB (Lot.iff (fun v hv => by
      obtain ⟨f, hf, rfl⟩ := hv
      rcases List.mem_append.mp hf with m | m
      · exact inB f m
      · exact .of ⟨f, b1 f m, rfl⟩) (fun v hv => by
      obtain ⟨f, hf, rfl⟩ := hv
      obtain ⟨v, w, hv, hw, ev⟩ := lot_split (b3 f hf)
      have wB : Lot p (spn fb) w := spn_sub b1 hw
      have vB : Lot p (spn fb) v := by
        refine .eqv ((Lot.of (p := p) (R := spn fb) ⟨f, hf, rfl⟩).comb (-1) wB) fun i => ?_
        have k := (ev i).sub (Cg.rfl' (a := w i))
        have e1 : vec f i - w i = vec f i + -1 * w i := by omega
        have e2 : v i + w i - w i = v i := by omega
        rw [e1, e2] at k
        exact k
      have vI := (e v).mpr ⟨(sA v).mp hv, vB⟩
      refine .eqv ((spn_sub (fun g hg => List.mem_append.mpr (.inl hg)) vI).comb 1 (spn_sub (gs := fi ++ ds) (fun g hg => List.mem_append.mpr (.inr hg)) hw)) fun i => ?_
      have k := (ev i).symm
      rw [Int.one_mul]
      exact k))
  omega
end Lin
/-! all sums of multiples of rows that are free of one another -/
namespace Lin
/-- to each of these one multiple of r -/
def allS (p : Int) (acc : List RowP) (r : RowP) : List RowP := acc.flatMap fun a => (List.range p.toNat).map fun k => addP p a (timP p (k : Nat) r)
def allP (p : Int) (acc : List RowP) : List RowP → List RowP
  | [] => acc
  | r :: rs => allP p (allS p acc r) rs
theorem all_snoc {p : Int} {r : RowP} : ∀ (rs : List RowP) (acc : List RowP), allP p acc (rs ++ [r]) = allS p (allP p acc rs) r
  | [], _ => rfl
  | _ :: rs, acc => all_snoc rs _
theorem lot_last {p : Int} {fs : List (List Int)} {f : List Int} {u : Vc} (h : Lot p (spn (fs ++ [f])) u) : ∃ (c : Int) (v : Vc), Lot p (spn fs) v ∧ Eqv p u fun i => v i + c * vec f i := by
  induction h with
  | zero => exact ⟨0, _, .zero, fun i => ⟨0, by simp⟩⟩
  | @add u w c _ hw ih =>
    obtain ⟨d, v, hv, e⟩ := ih
    rcases (spn_snoc).mp hw with hw | rfl
    · refine ⟨d, _, .add c hv hw, fun i => ?_⟩
      obtain ⟨x, hx⟩ := e i
      exact ⟨x, by grind⟩
    · refine ⟨d + c, v, hv, fun i => ?_⟩
      obtain ⟨x, hx⟩ := e i
      exact ⟨x, by grind⟩
  | eqv _ e2 ih =>
    obtain ⟨d, v, hv, e⟩ := ih
    exact ⟨d, v, hv, fun i => (e2 i).symm.trans (e i)⟩
theorem row_eq {p : Int} {m : Nat} {r s : RowP} (p0 : 0 < p) (h1 : InP p r) (h2 : InP p s) (l1 : r.length = m) (l2 : s.length = m) (e : Eqv p (vec (flatR r)) (vec (flatR s))) : r = s :=
  flat_inj (list_eq p0 (by rw [flat_len, flat_len, l1, l2]) (flat_rgP h1) (flat_rgP h2) e)
theorem add_inP {p : Int} (p0 : 0 < p) {r s : RowP} : InP p (addP p r s) := fun u hu => by
  unfold addP at hu
  obtain ⟨i, hi, rfl⟩ := List.mem_iff_getElem.mp hu
  rw [List.getElem_zipWith]
  exact ⟨⟨Int.emod_nonneg _ (by omega), Int.emod_lt_of_pos _ p0⟩, Int.emod_nonneg _ (by omega), Int.emod_lt_of_pos _ p0⟩
/-- each row has a place at which it isn't 0, where all ahead of it are -/
def FreeP (p : Int) (rs : List RowP) : Prop := ∀ i r, rs[i]? = some r → ∃ q, (∀ s ∈ rs.take i, Cg p (vec (flatR s) q) 0) ∧ ¬ Cg p (vec (flatR r) q) 0
structure AllOf (p : Int) (m : Nat) (rs : List RowP) (xs : List RowP) : Prop where
  mem : ∀ x, x ∈ xs ↔ InP p x ∧ x.length = m ∧ Lot p (spn (rs.map flatR)) (vec (flatR x))
  nd : xs.Nodup
  len : xs.length = p.toNat ^ rs.length
theorem cancel {p a b c d : Int} (hc : c * d % p = 1) (h : Cg p (a * d) (b * d)) : Cg p a b := by
  have e : Cg p (c * d) 1 := by
    have := Cg.mod (p := p) (c * d)
    rw [hc] at this
    exact this.symm
  have h2 := (Cg.rfl' (p := p) (a := c)).mul h
  have h3 := (Cg.rfl' (p := p) (a := a)).mul e
  have h4 := (Cg.rfl' (p := p) (a := b)).mul e
  have e1 : c * (a * d) = a * (c * d) := by grind
  have e2 : c * (b * d) = b * (c * d) := by grind
  rw [e1, e2] at h2
  have := h3.symm.trans (h2.trans h4)
  simpa using this
theorem all_step {p : Int} {m : Nat} {rs : List RowP} {xs : List RowP} {r : RowP} (p1 : 1 < p) (inv : ∀ u, 0 < u → u < p → ∃ c, c * u % p = 1) (h : AllOf p m rs xs) (lrs : ∀ s ∈ rs, s.length = m) (lr : r.length = m) {q : Nat} (z : ∀ s ∈ rs, Cg p (vec (flatR s) q) 0) (nz : ¬ Cg p (vec (flatR r) q) 0) : AllOf p m (rs ++ [r]) (allS p xs r) := by
  have p0 : 0 < p := by omega
  have e : (rs ++ [r]).map flatR = rs.map flatR ++ [flatR r] := by rw [List.map_append]; rfl
  have lt : ∀ k : Int, (timP p k r).length = m := fun k => by rw [tim_lenP, lr]
  have va : ∀ (a : RowP) (k : Int), a.length = m → Eqv p (vec (flatR (addP p a (timP p k r)))) fun i => vec (flatR a) i + k * vec (flatR r) i := fun a k la i => (vec_addP (by rw [la, lt]) i).trans (Cg.rfl'.add (vec_timP i))
  have sub : ∀ {v : Vc}, Lot p (spn (rs.map flatR)) v → Lot p (spn (rs.map flatR ++ [flatR r])) v := fun hv => Lot.sub (fun w hw => .of (spn_snoc.mpr (.inl hw))) hv
  have q0 : ∀ x ∈ xs, Cg p (vec (flatR x) q) 0 := fun x hx => ((h.mem x).mp hx).2.2.at0 fun v hv => by
    obtain ⟨f, hf, rfl⟩ := hv
    obtain ⟨s, hs, rfl⟩ := List.mem_map.mp hf
    exact z s hs
  obtain ⟨c, hc⟩ : ∃ c, c * vec (flatR r) q % p = 1 := by
    have a := Int.emod_nonneg (vec (flatR r) q) (b := p) (by omega)
    have b := Int.emod_lt_of_pos (vec (flatR r) q) p0
    have n : vec (flatR r) q % p ≠ 0 := fun e => nz (by
      have := Cg.mod (p := p) (vec (flatR r) q)
      rw [e] at this
      exact this.symm)
    obtain ⟨c, hc⟩ := inv _ (by omega) b
    exact ⟨c, by rw [← hc, Int.mul_emod, Int.mul_emod c (vec (flatR r) q % p), Int.emod_emod]⟩
  have same : ∀ a ∈ xs, ∀ b ∈ xs, ∀ k j : Nat, (k : Int) < p → (j : Int) < p → addP p a (timP p (k : Nat) r) = addP p b (timP p (j : Nat) r) → k = j ∧ a = b := fun a ha b hb k j hk hj eq => by
    obtain ⟨ia, la, _⟩ := (h.mem a).mp ha
    obtain ⟨ib, lb, _⟩ := (h.mem b).mp hb
    have g : ∀ i, Cg p (vec (flatR a) i + (k : Int) * vec (flatR r) i) (vec (flatR b) i + (j : Int) * vec (flatR r) i) := fun i => by
      have x1 := va a k la i
      rw [eq] at x1
      exact x1.symm.trans (va b j lb i)
    have gq := g q
    have g2 : Cg p ((k : Int) * vec (flatR r) q) ((j : Int) * vec (flatR r) q) := by
      have x2 := gq.sub ((q0 a ha).trans (q0 b hb).symm)
      have e1 : vec (flatR a) q + (k : Int) * vec (flatR r) q - vec (flatR a) q = (k : Int) * vec (flatR r) q := by omega
      have e2 : vec (flatR b) q + (j : Int) * vec (flatR r) q - vec (flatR b) q = (j : Int) * vec (flatR r) q := by omega
      rw [e1, e2] at x2
      exact x2
    have ekj : (k : Int) = j := cg_eq ⟨by omega, hk⟩ ⟨by omega, hj⟩ (cancel hc g2)
    have ekj' : k = j := by omega
    refine ⟨ekj', row_eq p0 ia ib la lb fun i => ?_⟩
    have gi := g i
    rw [ekj] at gi
    have x := gi.sub (Cg.rfl' (p := p) (a := (j : Int) * vec (flatR r) i))
    have e1 : ∀ y z : Int, y + z - z = y := fun y z => by omega
    rw [e1, e1] at x
    exact x
  refine ⟨fun x => ?_, ?_, ?_⟩
  · constructor
    · intro hx
      obtain ⟨a, ha, hx⟩ := List.mem_flatMap.mp hx
      obtain ⟨k, hk, rfl⟩ := List.mem_map.mp hx
      obtain ⟨ia, la, ta⟩ := (h.mem a).mp ha
      refine ⟨add_inP p0, by rw [add_lenP (by rw [la, lt]), la], ?_⟩
      rw [e]
      exact .eqv (.add (k : Int) (sub ta) (spn_snoc.mpr (.inr rfl))) fun i => (va a k la i).symm
    · rintro ⟨ix, lx, tx⟩
      rw [e] at tx
      obtain ⟨d, v, hv, ev⟩ := lot_last tx
      have dk0 := Int.emod_nonneg d (b := p) (by omega)
      have dk1 := Int.emod_lt_of_pos d p0
      have ek : ((d % p).toNat : Int) = d % p := Int.toNat_of_nonneg dk0
      have ly : (addP p x (timP p (p - d % p) r)).length = m := by rw [add_lenP (by rw [lx, lt]), lx]
      have cd := Cg.mod (p := p) d
      have my : addP p x (timP p (p - d % p) r) ∈ xs := (h.mem _).mpr ⟨add_inP p0, ly, .eqv hv fun i => by
        refine Cg.symm ((va x (p - d % p) lx i).trans ?_)
        obtain ⟨x1, h1⟩ := ev i
        obtain ⟨x2, h2⟩ := cd
        exact ⟨x1 + vec (flatR r) i - x2 * vec (flatR r) i, by show vec (flatR x) i + (p - d % p) * vec (flatR r) i = _; rw [h1, h2]; grind⟩⟩
      refine List.mem_flatMap.mpr ⟨_, my, List.mem_map.mpr ⟨(d % p).toNat, List.mem_range.mpr (by omega), ?_⟩⟩
      refine row_eq (m := m) p0 (add_inP p0) ix (by rw [add_lenP (by rw [ly, lt]), ly]) lx fun i => ?_
      refine (va _ _ ly i).trans (((va x (p - d % p) lx i).add (Cg.rfl' (a := ((d % p).toNat : Int) * vec (flatR r) i))).trans ?_)
      rw [ek]
      exact ⟨vec (flatR r) i, by grind⟩
  · unfold allS
    show List.Pairwise (· ≠ ·) _
    rw [List.pairwise_flatMap]
    refine ⟨fun a ha => ?_, ?_⟩
    · rw [List.pairwise_map]
      refine List.Pairwise.imp_of_mem (fun {k j} hk hj hkj eq => ?_) List.nodup_range
      exact hkj (same a ha a ha k j (by have := List.mem_range.mp hk; omega) (by have := List.mem_range.mp hj; omega) eq).1
    · refine List.Pairwise.imp_of_mem (fun {a b} ha hb hab x hx y hy eq => ?_) h.nd
      obtain ⟨k, hk, rfl⟩ := List.mem_map.mp hx
      obtain ⟨j, hj, rfl⟩ := List.mem_map.mp hy
      exact hab (same a ha b hb k j (by have := List.mem_range.mp hk; omega) (by have := List.mem_range.mp hj; omega) eq).2
  · have ll : ∀ ys : List RowP, (ys.flatMap fun a => (List.range p.toNat).map fun k => addP p a (timP p (k : Nat) r)).length = ys.length * p.toNat := fun ys => by
      induction ys with
      | nil => simp
      | cons y ys ih =>
        rw [List.flatMap_cons, List.length_append, ih, List.length_map, List.length_range, List.length_cons, Nat.succ_mul]
        omega
    unfold allS
    rw [ll, h.len, List.length_append, List.length_singleton, Nat.pow_succ]
theorem all_nil {p : Int} {m : Nat} (p0 : 0 < p) : AllOf p m [] [List.replicate m ((0 : Int), (0 : Int))] := by
  have i0 : InP p (List.replicate m ((0 : Int), (0 : Int))) := fun u hu => by
    rw [(List.mem_replicate.mp hu).2]
    exact ⟨⟨Int.le_refl 0, p0⟩, Int.le_refl 0, p0⟩
  refine ⟨fun x => ?_, by simp, rfl⟩
  rw [List.mem_singleton]
  constructor
  · rintro rfl
    exact ⟨i0, by simp, .eqv .zero fun i => by rw [vec_noP]; exact Cg.rfl'⟩
  · rintro ⟨ix, lx, tx⟩
    refine row_eq (m := m) p0 ix i0 lx (by simp) fun i => ?_
    rw [vec_noP]
    exact tx.at0 fun v hv => by
      obtain ⟨f, hf, _⟩ := hv
      simp at hf
theorem all_of {p : Int} {m : Nat} {rs : List RowP} (p1 : 1 < p) (inv : ∀ u, 0 < u → u < p → ∃ c, c * u % p = 1) (lrs : ∀ s ∈ rs, s.length = m) (fr : FreeP p rs) : ∀ i, i ≤ rs.length → AllOf p m (rs.take i) (allP p [List.replicate m ((0 : Int), (0 : Int))] (rs.take i))
  | 0, _ => by
    rw [List.take_zero]
    exact all_nil (by omega)
  | i + 1, hi => by
    have ih := all_of p1 inv lrs fr i (by omega)
    have e : rs[i]? = some rs[i] := List.getElem?_eq_getElem hi
    rw [List.take_add_one, e]
    show AllOf p m (rs.take i ++ [rs[i]]) (allP p _ (rs.take i ++ [rs[i]]))
    rw [all_snoc]
    obtain ⟨q, z, nz⟩ := fr i _ e
    exact all_step p1 inv ih (fun s hs => lrs s (List.mem_of_mem_take hs)) (lrs _ (List.getElem_mem hi)) z nz
theorem all_perm {p : Int} {m : Nat} {rs ss : List RowP} (p1 : 1 < p) (inv : ∀ u, 0 < u → u < p → ∃ c, c * u % p = 1) (lr : ∀ s ∈ rs, s.length = m) (ls : ∀ s ∈ ss, s.length = m) (fr : FreeP p rs) (fs : FreeP p ss) (e : ∀ u, Lot p (spn (rs.map flatR)) u ↔ Lot p (spn (ss.map flatR)) u) :
    (allP p [List.replicate m ((0 : Int), (0 : Int))] rs).Perm (allP p [List.replicate m ((0 : Int), (0 : Int))] ss) := by
  have a := all_of p1 inv lr fr rs.length (Nat.le_refl _)
  have b := all_of p1 inv ls fs ss.length (Nat.le_refl _)
  rw [List.take_length] at a b
  refine (List.perm_ext_iff_of_nodup a.nd b.nd).mpr fun x => ?_
  rw [a.mem, b.mem, e]
theorem plain_free {p : Int} {n : Nat} {fs : List (List Int)} {L : List (Nat × List Int)} {rs : List RowP} (p1 : 1 < p) (pl : PL p n fs L) (e : rs.map flatR = L.map (·.2)) : FreeP p rs := fun i r hr => by
  have hi : (L.map (·.2))[i]? = some (flatR r) := by rw [← e, List.getElem?_map, hr]; rfl
  rw [List.getElem?_map] at hi
  obtain ⟨x, hx, ex⟩ := Option.map_eq_some_iff.mp hi
  have mx : (x.1, vec x.2) ∈ vecs L := List.mem_map.mpr ⟨x, List.mem_of_getElem? hx, rfl⟩
  refine ⟨x.1, fun s hs => ?_, fun z => ?_⟩
  · obtain ⟨j, hj⟩ := List.mem_iff_getElem?.mp hs
    have hji : j < i := by
      have := (List.getElem?_eq_some_iff.mp hj).1
      rw [List.length_take] at this
      omega
    rw [List.getElem?_take, if_pos hji] at hj
    have h2 : (L.map (·.2))[j]? = some (flatR s) := by rw [← e, List.getElem?_map, hj]; rfl
    rw [List.getElem?_map] at h2
    obtain ⟨y, hy, ey⟩ := Option.map_eq_some_iff.mp h2
    have my : (y.1, vec y.2) ∈ vecs L := List.mem_map.mpr ⟨y, List.mem_of_getElem? hy, rfl⟩
    have ne : y.1 ≠ x.1 := fun q => by
      have a : (L.map (·.1))[j]? = some y.1 := by rw [List.getElem?_map, hy]; rfl
      have b : (L.map (·.1))[i]? = some x.1 := by rw [List.getElem?_map, hx]; rfl
      rw [q] at a
      have := (List.getElem?_inj (List.getElem?_eq_some_iff.mp a).1 pl.nd).mp (a.trans b.symm)
      omega
    have z := pl.leads.other _ my _ mx ne
    rw [← ey]
    exact z
  · have s := pl.leads.self _ mx
    rw [← ex] at z
    exact one_zero p1 (s.symm.trans z)
theorem units_free {p : Int} {hs : List Int} {gs : List (List Int)} (p1 : 1 < p) : FreeP p (unitsP p hs gs) := fun i r hr => by
  have hi := (List.getElem?_eq_some_iff.mp hr).1
  rw [units_len] at hi
  rw [units_get hi] at hr
  cases hr
  refine ⟨plc hs i, fun s hs' => ?_, fun z => ?_⟩
  · obtain ⟨j, hj⟩ := List.mem_iff_getElem?.mp hs'
    have hji : j < i := by
      have := (List.getElem?_eq_some_iff.mp hj).1
      rw [List.length_take] at this
      omega
    rw [List.getElem?_take, if_pos hji, units_get (by omega)] at hj
    cases hj
    rw [st_held (hs := hs) (k := i) hi, unit_at, if_neg (by omega)]
    exact Cg.rfl'
  · rw [st_held (hs := hs) (k := i) hi, unit_at, if_pos ⟨rfl, hi⟩] at z
    exact one_zero p1 z
end Lin
set_option linter.all false
/-! holds looked at: which stand, what is still, tables, mending -/
namespace Lin
/-! back from sides -/
def rsV (hs : List Int) (w : Vc) : Vc := fun i => if i < 2 * hs.length then (if vec hs (i / 2) = 0 then (if i % 2 = 0 then w (i / 2) else w (hs.length + i / 2)) else (if i % 2 = 0 then -w (hs.length + i / 2) else w (i / 2))) else 0
theorem rs_comb {hs : List Int} {u v : Vc} {c : Int} (i : Nat) : rsV hs (fun j => u j + c * v j) i = rsV hs u i + c * rsV hs v i := by
  unfold rsV
  split
  · split
    · split <;> rfl
    · split
      · grind
      · rfl
  · grind
theorem rs_eqv {p : Int} {hs : List Int} {u v : Vc} (h : Eqv p u v) : Eqv p (rsV hs u) (rsV hs v) := fun i => by
  unfold rsV
  split
  · split
    · split
      · exact h _
      · exact h _
    · split
      · have a := (Cg.rfl' (p := p) (a := 0)).sub (h (hs.length + i / 2))
        rw [Int.zero_sub, Int.zero_sub] at a
        exact a
      · exact h _
  · exact Cg.rfl'
theorem lot_rs {p : Int} {hs : List Int} {R S : Vc → Prop} {u : Vc} (h : Lot p R u) (k : ∀ v, R v → Lot p S (rsV hs v)) : Lot p S (rsV hs u) := by
  induction h with
  | zero =>
    refine .eqv .zero fun i => ?_
    have e : rsV hs (fun _ => 0) i = 0 := by
      unfold rsV
      split
      · split
        · split <;> rfl
        · split <;> rfl
      · rfl
    rw [e]
    exact Cg.rfl'
  | add c _ r ih =>
    refine .eqv (Lot.comb c ih (k _ r)) fun i => ?_
    rw [rs_comb]
    exact Cg.rfl'
  | eqv _ e ih => exact .eqv ih (rs_eqv e)
theorem rs_sd {hs : List Int} {v : Vc} {i : Nat} (h : i < 2 * hs.length) : rsV hs (sdV hs v) i = v i := by
  have hk : i / 2 < hs.length := by omega
  have a1 : sdV hs v (i / 2) = v (plc hs (i / 2)) := by
    unfold sdV
    rw [if_pos hk]
  have a2 : sdV hs v (hs.length + i / 2) = if vec hs (i / 2) = 0 then v (2 * (i / 2) + 1) else -v (2 * (i / 2)) := by
    unfold sdV
    rw [if_neg (by omega), if_pos (by omega), Nat.add_sub_cancel_left]
  unfold rsV
  rw [if_pos h, a1, a2]
  unfold plc
  by_cases z : vec hs (i / 2) = 0
  · rw [if_pos z, if_pos z, if_pos z]
    split
    · congr 1; omega
    · congr 1; omega
  · rw [if_neg z, if_neg z, if_neg z]
    split
    · rw [Int.neg_neg]; congr 1; omega
    · congr 1; omega
theorem sd_rs {hs : List Int} {w : Vc} {i : Nat} (h : i < 2 * hs.length) : sdV hs (rsV hs w) i = w i := by
  unfold sdV
  by_cases h1 : i < hs.length
  · rw [if_pos h1]
    unfold plc rsV
    by_cases z : vec hs i = 0
    · rw [if_pos z, if_pos (by omega), show 2 * i / 2 = i by omega, if_pos z, if_pos (by omega)]
    · rw [if_neg z, if_pos (by omega), show (2 * i + 1) / 2 = i by omega, if_neg z, if_neg (by omega)]
  · rw [if_neg h1, if_pos h]
    unfold rsV
    by_cases z : vec hs (i - hs.length) = 0
    · rw [if_pos z, if_pos (by omega), show (2 * (i - hs.length) + 1) / 2 = i - hs.length by omega, if_pos z, if_neg (by omega)]
      congr 1; omega
    · rw [if_neg z, if_pos (by omega), show 2 * (i - hs.length) / 2 = i - hs.length by omega, if_neg z, if_pos (by omega), Int.neg_neg]
      congr 1; omega
theorem sd_plc {hs : List Int} {v : Vc} {k : Nat} (h : k < hs.length) : sdV hs v k = v (plc hs k) := by
  unfold sdV
  rw [if_pos h]
/-! the lots of rows and of their sides -/
theorem lot_out {p : Int} {m : Nat} {ss : List RowP} (l : ∀ r ∈ ss, r.length = m) {u : Vc} (h : Lot p (spn (ss.map flatR)) u) {i : Nat} (hi : 2 * m ≤ i) : Cg p (u i) 0 := h.at0 fun v hv => by
  obtain ⟨f, hf, rfl⟩ := hv
  obtain ⟨r, hr, rfl⟩ := List.mem_map.mp hf
  rw [vec_out (by rw [flat_len, l r hr]; omega)]
  exact Cg.rfl'
theorem sd_fwd {p : Int} {hs : List Int} {ss : List RowP} (l : ∀ r ∈ ss, r.length = hs.length) {u : Vc} (h : Lot p (spn (ss.map flatR)) u) : Lot p (spn (ss.map (sdP p hs))) (sdV hs u) := lot_sd h fun v hv => by
  obtain ⟨f, hf, rfl⟩ := hv
  obtain ⟨r, hr, rfl⟩ := List.mem_map.mp hf
  exact .eqv (.of ⟨sdP p hs r, List.mem_map.mpr ⟨r, hr, rfl⟩, rfl⟩) (sd_vec (l r hr))
theorem rs_row {p : Int} {hs : List Int} {r : RowP} (l : r.length = hs.length) : Eqv p (rsV hs (vec (sdP p hs r))) (vec (flatR r)) := fun i => by
  refine (rs_eqv (sd_vec (p := p) l) i).trans ?_
  by_cases h : i < 2 * hs.length
  · rw [rs_sd h]
    exact Cg.rfl'
  · unfold rsV
    rw [if_neg h, vec_out (by rw [flat_len, l]; omega)]
    exact Cg.rfl'
theorem sd_back {p : Int} {hs : List Int} {ss : List RowP} (l : ∀ r ∈ ss, r.length = hs.length) {w : Vc} (h : Lot p (spn (ss.map (sdP p hs))) w) : Lot p (spn (ss.map flatR)) (rsV hs w) := lot_rs h fun v hv => by
  obtain ⟨f, hf, rfl⟩ := hv
  obtain ⟨r, hr, rfl⟩ := List.mem_map.mp hf
  exact .eqv (.of ⟨flatR r, List.mem_map.mpr ⟨r, hr, rfl⟩, rfl⟩) (rs_row (l r hr)).symm
theorem rs_sd_eqv {p : Int} {hs : List Int} {ss : List RowP} (l : ∀ r ∈ ss, r.length = hs.length) {u : Vc} (h : Lot p (spn (ss.map flatR)) u) : Eqv p (rsV hs (sdV hs u)) u := fun i => by
  by_cases hi : i < 2 * hs.length
  · rw [rs_sd hi]
    exact Cg.rfl'
  · have e : rsV hs (sdV hs u) i = 0 := by unfold rsV; rw [if_neg hi]
    rw [e]
    exact (lot_out l h (by omega)).symm
/-- two lots whose sides agree -/
theorem span_of_sd {p : Int} {hs : List Int} {ss us : List RowP} (l1 : ∀ r ∈ ss, r.length = hs.length) (l2 : ∀ r ∈ us, r.length = hs.length) (h : ∀ w, Lot p (spn (ss.map (sdP p hs))) w ↔ Lot p (spn (us.map (sdP p hs))) w) (u : Vc) : Lot p (spn (ss.map flatR)) u ↔ Lot p (spn (us.map flatR)) u :=
  ⟨fun k => .eqv (sd_back l2 ((h _).mp (sd_fwd l1 k))) (rs_sd_eqv l1 k), fun k => .eqv (sd_back l1 ((h _).mpr (sd_fwd l2 k))) (rs_sd_eqv l2 k)⟩
/-! a thing: its own mirror -/
structure Lag (p : Int) (m : Nat) (ss : List RowP) : Prop where
  fit : ∀ r ∈ ss, InP p r ∧ r.length = m
  len : ss.length = m
  free : FreeP p ss
  fair : ∀ r ∈ ss, ∀ s ∈ ss, Cg p (List.zipWith (fun u v => u.1 * v.2 - v.1 * u.2) r s).sum 0
theorem free_sd {p : Int} {hs : List Int} {ss : List RowP} (l : ∀ r ∈ ss, r.length = hs.length) (fr : FreeP p ss) : ∀ (ys xs : List RowP), xs ++ ys = ss → FreeOver p (xs.map (sdP p hs)) (ys.map (sdP p hs))
  | [], _, _ => trivial
  | y :: ys, xs, e => by
    have hy : ss[xs.length]? = some y := by rw [← e, List.getElem?_append_right (Nat.le_refl _), Nat.sub_self]; rfl
    obtain ⟨q, z, nz⟩ := fr _ _ hy
    have et : ss.take xs.length = xs := by rw [← e, List.take_left]
    have lx : ∀ r ∈ xs, r.length = hs.length := fun r hr => l r (by rw [← e]; exact List.mem_append_left _ hr)
    refine ⟨fun h => ?_, ?_⟩
    · have b := Lot.eqv (sd_back lx h) (rs_row (l y (by rw [← e]; simp)))
      refine nz (b.at0 fun v hv => ?_)
      obtain ⟨f, hf, rfl⟩ := hv
      obtain ⟨r, hr, rfl⟩ := List.mem_map.mp hf
      exact z r (by rw [et]; exact hr)
    · have := free_sd l fr ys (xs ++ [y]) (by rw [List.append_assoc]; exact e)
      rw [List.map_append] at this
      exact this
theorem lead_many {p : Int} {hs : List Int} {ss : List RowP} {L : List (Nat × List Int)} (p1 : 1 < p) (inv : ∀ u, 0 < u → u < p → ∃ c, c * u % p = 1) (g : Lag p hs.length ss) (pl : PL p (2 * hs.length) (ss.map (sdP p hs)) L) : L.length = hs.length := by
  obtain ⟨M, h1, h2⟩ := FreeOver.pl p1 inv (PL.nil (p := p) (n := 2 * hs.length)) (free_sd (fun r hr => (g.fit r hr).2) g.free ss [] rfl) fun f hf => by
    obtain ⟨r, hr, rfl⟩ := List.mem_map.mp hf
    exact ⟨sd_len (g.fit r hr).2, sd_rg (by omega) (g.fit r hr).1⟩
  rw [pl.len_eq p1 h1 fun u => Iff.rfl, h2, List.length_map, g.len]
  exact Nat.zero_add _
/-! holds that stand -/
def Std (p : Int) (hs : List Int) (ss : List RowP) : Prop := ∀ u, Lot p (spn (ss.map flatR)) u → (∀ k, k < hs.length → Cg p (u (plc hs k)) 0) → Eqv p u fun _ => 0
theorem std_iff {p : Int} {hs : List Int} {ss : List RowP} {L : List (Nat × List Int)} (p1 : 1 < p) (l : ∀ r ∈ ss, r.length = hs.length) (pl : PL p (2 * hs.length) (ss.map (sdP p hs)) L) : Std p hs ss ↔ ∀ x ∈ L, x.1 < hs.length := by
  constructor
  · intro st x hx
    rcases Nat.lt_or_ge x.1 hs.length with h | h
    · exact h
    · exfalso
      have mx : (x.1, vec x.2) ∈ vecs L := List.mem_map.mpr ⟨x, hx, rfl⟩
      have lx : Lot p (spn (ss.map (sdP p hs))) (vec x.2) := (pl.lot _).mp (.of ⟨_, mx, rfl⟩)
      have z := st _ (sd_back l lx) fun k hk => by
        rw [← sd_plc (v := rsV hs (vec x.2)) hk, sd_rs (by omega)]
        exact pl.ahead _ mx k (by show k < x.1; omega)
      have px := pl.plc x hx
      have e := sd_eqv (hs := hs) z x.1
      rw [sd_rs px] at e
      have e0 : sdV hs (fun _ => 0) x.1 = 0 := by
        unfold sdV
        split
        · rfl
        · first | rfl | (split <;> first | rfl | (split <;> rfl))
      rw [e0] at e
      exact one_zero p1 ((pl.leads.self _ mx).symm.trans e)
  · intro h u lu z
    have lw := (pl.lot _).mpr (sd_fwd l lu)
    have e := (lot_iff pl.leads pl.ndv).mp lw
    have o := own_none (p := p) (u := sdV hs u) (L := vecs L) fun x hx => by
      obtain ⟨y, hy, rfl⟩ := mem_vecs.mp hx
      have hy' := h y hy
      show Cg p (sdV hs u y.1) 0
      rw [sd_plc hy']
      exact z _ hy'
    have w0 : Eqv p (sdV hs u) fun _ => 0 := e.symm.trans o
    have r0 := rs_eqv (hs := hs) w0
    refine (rs_sd_eqv l lu).symm.trans (r0.trans fun i => ?_)
    have e0 : rsV hs (fun _ => 0) i = 0 := by
      unfold rsV
      split
      · split
        · split <;> rfl
        · split <;> rfl
      · rfl
    rw [e0]
    exact Cg.rfl'
/-! meets by sides -/
theorem dot_pairs (u v : Vc) : ∀ m : Nat, dot (crs u) v (2 * m) = ((List.range m).map fun k => u (2 * k) * v (2 * k + 1) - u (2 * k + 1) * v (2 * k)).sum
  | 0 => rfl
  | m + 1 => by
    rw [show 2 * (m + 1) = 2 * m + 1 + 1 by omega, dot_last, dot_last, dot_pairs u v m, List.range_succ, List.map_append, List.sum_append]
    have a : crs u (2 * m) = -u (2 * m + 1) := by
      unfold crs
      rw [if_pos (by omega)]
    have b : crs u (2 * m + 1) = u (2 * m) := by
      unfold crs
      rw [if_neg (by omega)]
      congr 1
    rw [a, b]
    simp
    grind
theorem fair_sd {hs : List Int} (u v : Vc) : dot (crs u) v (2 * hs.length) = ((List.range hs.length).map fun k => sdV hs u k * sdV hs v (hs.length + k) - sdV hs v k * sdV hs u (hs.length + k)).sum := by
  rw [dot_pairs]
  congr 1
  apply List.map_congr_left
  intro k hk
  have hk' := List.mem_range.mp hk
  have s : ∀ w : Vc, sdV hs w (hs.length + k) = if vec hs k = 0 then w (2 * k + 1) else -w (2 * k) := fun w => by
    unfold sdV
    rw [if_neg (by omega), if_pos (by omega), Nat.add_sub_cancel_left]
  rw [sd_plc hk', sd_plc hk', s, s]
  unfold plc
  split
  · grind
  · grind
theorem lot_fairV {p : Int} {m : Nat} {ss : List RowP} (g : Lag p m ss) {u v : Vc} (h1 : Lot p (spn (ss.map flatR)) u) (h2 : Lot p (spn (ss.map flatR)) v) : Cg p (dot (crs u) v (2 * m)) 0 := by
  have half : ∀ r ∈ ss, Cg p (dot (crs (vec (flatR r))) v (2 * m)) 0 := fun r hr => dot_lotR h2 fun w hw => by
    obtain ⟨f, hf, rfl⟩ := hw
    obtain ⟨t, ht, rfl⟩ := List.mem_map.mp hf
    have e := meet_dot (r := r) (s := t) (by rw [(g.fit r hr).2, (g.fit t ht).2])
    rw [(g.fit r hr).2] at e
    rw [← e]
    exact g.fair r hr t ht
  have z : Cg p (dot (crs v) u (2 * m)) 0 := dot_lotR h1 fun w hw => by
    obtain ⟨f, hf, rfl⟩ := hw
    obtain ⟨t, ht, rfl⟩ := List.mem_map.mp hf
    rw [dot_crs]
    have a := (Cg.rfl' (p := p) (a := 0)).sub (half t ht)
    rw [Int.zero_sub, Int.sub_zero] at a
    exact a
  rw [dot_crs]
  have a := (Cg.rfl' (p := p) (a := 0)).sub z
  rw [Int.zero_sub, Int.sub_zero] at a
  exact a
theorem sum_one {p : Int} {f : Nat → Int} {j : Nat} : ∀ m, j < m → (∀ k, k < m → k ≠ j → Cg p (f k) 0) → Cg p ((List.range m).map f).sum (f j)
  | 0, h, _ => absurd h (Nat.not_lt_zero _)
  | m + 1, h, z => by
    rw [List.range_succ, List.map_append, List.sum_append]
    have one : ([m].map f).sum = f m := by simp
    rw [one]
    by_cases e : j = m
    · subst e
      have all : ∀ n, n ≤ j → Cg p ((List.range n).map f).sum 0 := fun n => by
        induction n with
        | zero => exact fun _ => Cg.rfl'
        | succ n ih =>
          intro hn
          rw [List.range_succ, List.map_append, List.sum_append]
          have o : ([n].map f).sum = f n := by simp
          rw [o]
          exact (ih (by omega)).add (z n (by omega) (by omega))
      have a := (all j (Nat.le_refl _)).add (Cg.rfl' (p := p) (a := f j))
      rw [Int.zero_add] at a
      exact a
    · have a := (sum_one m (by omega) fun k hk ne => z k (by omega) ne).add (z m (by omega) fun q => e q.symm)
      rw [Int.add_zero] at a
      exact a
/-! the table of a hold that stands -/
theorem up_range {m : Nat} {xs : List Nat} (up : xs.Pairwise (· < ·)) (lt : ∀ x ∈ xs, x < m) (len : xs.length = m) : xs = List.range m := by
  have st : ∀ i (h : i + 1 < xs.length), xs[i] < xs[i + 1] := fun i h => List.pairwise_iff_getElem.mp up i (i + 1) (by omega) h (by omega)
  have lo : ∀ i (h : i < xs.length), i ≤ xs[i] := fun i => by
    induction i with
    | zero => intro _; omega
    | succ i ih =>
      intro h
      have a := ih (by omega)
      have b := st i h
      omega
  have hi : ∀ d i (h : i < xs.length), i + d + 1 = m → xs[i] + d < m := fun d => by
    induction d with
    | zero =>
      intro i h e
      have := lt _ (List.getElem_mem h)
      omega
    | succ d ih =>
      intro i h e
      have a := ih (i + 1) (by omega) (by omega)
      have b := st i (by omega)
      omega
  refine List.ext_getElem (by rw [List.length_range, len]) fun i h1 h2 => ?_
  rw [List.getElem_range]
  have a := lo i h1
  have b := hi (m - i - 1) i h1 (by omega)
  omega
structure Tbl (p : Int) (m : Nat) (gs : List (List Int)) : Prop where
  len : gs.length = m
  ok : ∀ g ∈ gs, g.length = m ∧ Rg p g
  sy : Sy gs
theorem table_get {p : Int} {hs : List Int} {ss : List RowP} {L : List (Nat × List Int)} (p1 : 1 < p) (inv : ∀ u, 0 < u → u < p → ∃ c, c * u % p = 1) (g : Lag p hs.length ss) (pl : PL p (2 * hs.length) (ss.map (sdP p hs)) L) (up : Up L) (lt : ∀ x ∈ L, x.1 < hs.length) :
    ∃ gs, Tbl p hs.length gs ∧ (∀ i, i < hs.length → L[i]? = some (i, unitL hs.length i ++ gs.getD i [])) ∧ ∀ u, Lot p (spn (ss.map flatR)) u ↔ Lot p (spn ((unitsP p hs gs).map flatR)) u := by
  have p0 : 0 < p := by omega
  have Ll := lead_many p1 inv g pl
  have er : L.map (·.1) = List.range hs.length := up_range up (fun x hx => by obtain ⟨y, hy, rfl⟩ := List.mem_map.mp hx; exact lt y hy) (by rw [List.length_map, Ll])
  have at1 : ∀ i (h : i < hs.length), (L[i]'(by omega)).1 = i := fun i h => by
    have e : (L.map (·.1))[i]? = some i := by rw [er, List.getElem?_range h]
    rw [List.getElem?_map, List.getElem?_eq_getElem (by omega)] at e
    exact Option.some.inj e
  have mem : ∀ i (h : i < hs.length), L[i]'(by omega) ∈ L := fun i h => List.getElem_mem _
  have len2 : ∀ i (h : i < hs.length), (L[i]'(by omega)).2.length = 2 * hs.length := fun i h => pl.len _ (mem i h)
  have tk : ∀ i (h : i < hs.length), (L[i]'(by omega)).2.take hs.length = unitL hs.length i := fun i h => by
    have l1 : ((L[i]'(by omega)).2.take hs.length).length = hs.length := by rw [List.length_take, len2 i h]; omega
    refine list_eq p0 (by rw [l1, unit_len]) (fun u hu => pl.rg _ (mem i h) u (List.mem_of_mem_take hu)) (unit_rg p1) fun j => ?_
    by_cases hj : j < hs.length
    · have ev : vec ((L[i]'(by omega)).2.take hs.length) j = vec (L[i]'(by omega)).2 j := by
        show (List.take hs.length _).getD j 0 = List.getD _ j 0
        rw [List.getD_eq_getElem?_getD, List.getD_eq_getElem?_getD, List.getElem?_take, if_pos hj]
      rw [ev, unit_at]
      have mi : ((L[i]'(by omega)).1, vec (L[i]'(by omega)).2) ∈ vecs L := List.mem_map.mpr ⟨_, mem i h, rfl⟩
      by_cases e : j = i
      · rw [if_pos ⟨e, hj⟩, e]
        have := pl.leads.self _ mi
        rw [show ((L[i]'(by omega)).1, vec (L[i]'(by omega)).2).1 = i from at1 i h] at this
        exact this
      · rw [if_neg (fun z => e z.1)]
        have mj : ((L[j]'(by omega)).1, vec (L[j]'(by omega)).2) ∈ vecs L := List.mem_map.mpr ⟨_, mem j hj, rfl⟩
        have := pl.leads.other _ mi _ mj (by show (L[i]'(by omega)).1 ≠ (L[j]'(by omega)).1; rw [at1 i h, at1 j hj]; exact fun z => e z.symm)
        rw [show ((L[j]'(by omega)).1, vec (L[j]'(by omega)).2).1 = j from at1 j hj] at this
        exact this
    · rw [vec_out (by omega), vec_out (by rw [unit_len]; omega)]
      exact Cg.rfl'
  refine ⟨L.map fun x => x.2.drop hs.length, ⟨by rw [List.length_map, Ll], fun g hg => ?_, ?_⟩, fun i h => ?_, ?_⟩
  · obtain ⟨x, hx, rfl⟩ := List.mem_map.mp hg
    exact ⟨by rw [List.length_drop, pl.len x hx]; omega, fun u hu => pl.rg x hx u (List.mem_of_mem_drop hu)⟩
  · -- its own mirror
    intro i j
    have gd : ∀ k (h : k < hs.length), (L.map fun x => x.2.drop hs.length).getD k [] = (L[k]'(by omega)).2.drop hs.length := fun k h => by
      rw [List.getD_eq_getElem?_getD, List.getElem?_map, List.getElem?_eq_getElem (by omega)]
      rfl
    have gn : ∀ k, hs.length ≤ k → (L.map fun x => x.2.drop hs.length).getD k [] = [] := fun k h => by
      rw [List.getD_eq_getElem?_getD, List.getElem?_eq_none (by rw [List.length_map, Ll]; exact h)]
      rfl
    have dv : ∀ k (h : k < hs.length) n, vec ((L[k]'(by omega)).2.drop hs.length) n = vec (L[k]'(by omega)).2 (hs.length + n) := fun k h n => by
      show List.getD _ n 0 = List.getD _ _ 0
      rw [List.getD_eq_getElem?_getD, List.getD_eq_getElem?_getD, List.getElem?_drop]
    show vec (List.getD _ i []) j = vec (List.getD _ j []) i
    by_cases hi : i < hs.length
    · by_cases hj : j < hs.length
      · rw [gd i hi, gd j hj, dv i hi, dv j hj]
        have li : Lot p (spn (ss.map flatR)) (rsV hs (vec (L[i]'(by omega)).2)) := sd_back (fun r hr => (g.fit r hr).2) ((pl.lot _).mp (.of ⟨_, List.mem_map.mpr ⟨_, mem i hi, rfl⟩, rfl⟩))
        have lj : Lot p (spn (ss.map flatR)) (rsV hs (vec (L[j]'(by omega)).2)) := sd_back (fun r hr => (g.fit r hr).2) ((pl.lot _).mp (.of ⟨_, List.mem_map.mpr ⟨_, mem j hj, rfl⟩, rfl⟩))
        have fa := lot_fairV g li lj
        rw [fair_sd (hs := hs)] at fa
        have unitv : ∀ a (h : a < hs.length) k, k < hs.length → vec (L[a]'(by omega)).2 k = if k = a then 1 else 0 := fun a h k hk => by
          have e : vec ((L[a]'(by omega)).2.take hs.length) k = vec (L[a]'(by omega)).2 k := by
            show (List.take hs.length _).getD k 0 = List.getD _ k 0
            rw [List.getD_eq_getElem?_getD, List.getD_eq_getElem?_getD, List.getElem?_take, if_pos hk]
          rw [← e, tk a h, unit_at]
          by_cases z : k = a
          · rw [if_pos ⟨z, hk⟩, if_pos z]
          · rw [if_neg (fun w => z w.1), if_neg z]
        have e1 : ((List.range hs.length).map fun k => sdV hs (rsV hs (vec (L[i]'(by omega)).2)) k * sdV hs (rsV hs (vec (L[j]'(by omega)).2)) (hs.length + k) - sdV hs (rsV hs (vec (L[j]'(by omega)).2)) k * sdV hs (rsV hs (vec (L[i]'(by omega)).2)) (hs.length + k)) = (List.range hs.length).map fun k => (vec (unitL hs.length i) k) * vec (L[j]'(by omega)).2 (hs.length + k) - vec (unitL hs.length j) k * vec (L[i]'(by omega)).2 (hs.length + k) := by
          apply List.map_congr_left
          intro k hk
          have hk' := List.mem_range.mp hk
          have ui : vec (unitL hs.length i) k = vec (L[i]'(by omega)).2 k := by
            rw [unitv i hi k hk', unit_at]
            by_cases z : k = i
            · rw [if_pos ⟨z, hk'⟩, if_pos z]
            · rw [if_neg (fun w => z w.1), if_neg z]
          have uj : vec (unitL hs.length j) k = vec (L[j]'(by omega)).2 k := by
            rw [unitv j hj k hk', unit_at]
            by_cases z : k = j
            · rw [if_pos ⟨z, hk'⟩, if_pos z]
            · rw [if_neg (fun w => z w.1), if_neg z]
          rw [sd_rs (by omega), sd_rs (by omega), sd_rs (by omega), sd_rs (by omega), ui, uj]
        rw [e1, sum_sub, dot_unit (v := fun k => vec (L[j]'(by omega)).2 (hs.length + k)) hi, dot_unit (v := fun k => vec (L[i]'(by omega)).2 (hs.length + k)) hj] at fa
        refine cg_eq (Rg.vec p0 (pl.rg _ (mem i hi)) _) (Rg.vec p0 (pl.rg _ (mem j hj)) _) ?_
        obtain ⟨x, hx⟩ := fa
        exact ⟨-x, by rw [Int.mul_neg]; omega⟩
      · rw [gd i hi, gn j (by omega), dv i hi, vec_out (by rw [len2 i hi]; omega)]
        rfl
    · rw [gn i (by omega)]
      by_cases hj : j < hs.length
      · rw [gd j hj, dv j hj, vec_out (us := (L[j]'(by omega)).2) (by rw [len2 j hj]; omega)]
        rfl
      · rw [gn j (by omega)]
        rfl
  · rw [List.getElem?_eq_getElem (by omega)]
    have gd : (L.map fun x => x.2.drop hs.length).getD i [] = (L[i]'(by omega)).2.drop hs.length := by
      rw [List.getD_eq_getElem?_getD, List.getElem?_map, List.getElem?_eq_getElem (by omega)]
      rfl
    rw [gd, ← tk i h, List.take_append_drop]
    have := at1 i h
    exact congrArg some (Prod.ext this rfl)
  · have gs' : ∃ gs, gs = L.map fun x => x.2.drop hs.length := ⟨_, rfl⟩
    obtain ⟨gs, eg⟩ := gs'
    rw [← eg]
    have gl : gs.length = hs.length := by rw [eg, List.length_map, Ll]
    have gok : ∀ g ∈ gs, g.length = hs.length ∧ Rg p g := fun g hg => by
      rw [eg] at hg
      obtain ⟨x, hx, rfl⟩ := List.mem_map.mp hg
      exact ⟨by rw [List.length_drop, pl.len x hx]; omega, fun u hu => pl.rg x hx u (List.mem_of_mem_drop hu)⟩
    have eu : (unitsP p hs gs).map (sdP p hs) = L.map (·.2) := by
      refine List.ext_getElem (by rw [List.length_map, List.length_map, units_len, Ll]) fun i h1 h2 => ?_
      have hi : i < hs.length := by rw [List.length_map, units_len] at h1; exact h1
      rw [List.getElem_map, List.getElem_map]
      have e1 : (unitsP p hs gs)[i]'(by rw [units_len]; exact hi) = stP p hs gs (unitL hs.length i) := by
        have := units_get (p := p) (gs := gs) hi
        rw [List.getElem?_eq_getElem (by rw [units_len]; exact hi)] at this
        exact Option.some.inj this
      have e2 : gs[i]? = some ((L[i]'(by omega)).2.drop hs.length) := by
        have hiL : i < L.length := by rw [Ll]; exact hi
        have : (L.map fun x => x.2.drop hs.length)[i]? = some ((L[i]'hiL).2.drop hs.length) := by
          rw [List.getElem?_map, List.getElem?_eq_getElem hiL]
          rfl
        rw [← eg] at this
        exact this
      have ok := gok _ (List.mem_of_getElem? e2)
      rw [e1, sd_st p0 unit_len, told_unit hi e2 ok.1 ok.2 p0, ← tk i hi, List.take_append_drop]
    refine span_of_sd (fun r hr => (g.fit r hr).2) (fun r hr => (units_fit p1 r hr).2) fun w => ?_
    rw [eu, ← pl.lot w]
    refine Lot.iff (fun v hv => ?_) (fun v hv => ?_) w
    · obtain ⟨x, hx, rfl⟩ := hv
      obtain ⟨y, hy, rfl⟩ := mem_vecs.mp hx
      exact .of ⟨y.2, List.mem_map.mpr ⟨y, hy, rfl⟩, rfl⟩
    · obtain ⟨f, hf, rfl⟩ := hv
      obtain ⟨y, hy, rfl⟩ := List.mem_map.mp hf
      exact .of ⟨(y.1, vec y.2), mem_vecs.mpr ⟨y, hy, rfl⟩, rfl⟩
end Lin
/-! what is still, mending -/
namespace Lin
def Stl (p : Int) (hs : List Int) (ss : List RowP) (u : Vc) : Prop := Lot p (spn (ss.map flatR)) u ∧ ∀ k, k < hs.length → Cg p (u (plc hs k)) 0
/-- the leads that begin behind the held sides span what is still, by sides -/
theorem own_filter {p : Int} {n : Nat} {w : Vc} : ∀ {L : List (Nat × List Int)}, (∀ x ∈ L, x.1 < n → Cg p (w x.1) 0) → Eqv p (own w (vecs L)) (own w (vecs (L.filter fun x => decide (n ≤ x.1))))
  | [], _ => fun _ => Cg.rfl'
  | x :: L, h => fun i => by
    have ih := own_filter (L := L) (fun y hy => h y (List.mem_cons_of_mem _ hy)) i
    by_cases hx : n ≤ x.1
    · rw [List.filter_cons_of_pos (by simpa using hx)]
      exact (Cg.rfl' (a := w x.1 * vec x.2 i)).add ih
    · rw [List.filter_cons_of_neg (by simpa using hx)]
      have z := (h x (by simp) (by omega)).mul (Cg.rfl' (p := p) (a := vec x.2 i))
      rw [Int.zero_mul] at z
      have a := z.add ih
      rw [Int.zero_add] at a
      exact a
theorem stl_iff {p : Int} {hs : List Int} {ss : List RowP} {L : List (Nat × List Int)} (l : ∀ r ∈ ss, r.length = hs.length) (pl : PL p (2 * hs.length) (ss.map (sdP p hs)) L) {zs : List RowP} (hz : ∀ r ∈ zs, r.length = hs.length) (ez : ∀ v, spn (zs.map flatR) v ↔ ∃ x ∈ L, hs.length ≤ x.1 ∧ ∃ r ∈ zs, v = vec (flatR r) ∧ Eqv p (vec (flatR r)) (rsV hs (vec x.2))) (ez2 : ∀ x ∈ L, hs.length ≤ x.1 → ∃ r ∈ zs, Eqv p (vec (flatR r)) (rsV hs (vec x.2))) (u : Vc) : Lot p (spn (zs.map flatR)) u ↔ Stl p hs ss u := by
  have still : ∀ x ∈ L, hs.length ≤ x.1 → Stl p hs ss (rsV hs (vec x.2)) := fun x hx hn => by
    have mx : (x.1, vec x.2) ∈ vecs L := List.mem_map.mpr ⟨x, hx, rfl⟩
    refine ⟨sd_back l ((pl.lot _).mp (.of ⟨_, mx, rfl⟩)), fun k hk => ?_⟩
    rw [← sd_plc (v := rsV hs (vec x.2)) hk, sd_rs (by omega)]
    exact pl.ahead _ mx k (by show k < x.1; omega)
  constructor
  · intro h
    refine ⟨Lot.sub (fun v hv => ?_) h, fun k hk => h.at0 fun v hv => ?_⟩
    · obtain ⟨x, hx, hn, r, _, rfl, e⟩ := (ez v).mp hv
      exact .eqv (still x hx hn).1 e.symm
    · obtain ⟨x, hx, hn, r, _, rfl, e⟩ := (ez v).mp hv
      exact (e _).trans ((still x hx hn).2 k hk)
  · rintro ⟨lu, z⟩
    have lw := (pl.lot _).mpr (sd_fwd l lu)
    have e := (lot_iff pl.leads pl.ndv).mp lw
    have o := own_filter (p := p) (n := hs.length) (w := sdV hs u) (L := L) fun x hx hn => by
      rw [sd_plc hn]
      exact z _ hn
    have lo : Lot p (rowsOf (vecs (L.filter fun x => decide (hs.length ≤ x.1)))) (sdV hs u) := .eqv (own_lot _ fun x hx => ⟨x, hx, rfl⟩) (o.symm.trans e)
    have lr : Lot p (spn (zs.map flatR)) (rsV hs (sdV hs u)) := lot_rs lo fun v hv => by
      obtain ⟨y, hy, rfl⟩ := hv
      obtain ⟨x, hx, rfl⟩ := mem_vecs.mp hy
      have hx' := List.mem_filter.mp hx
      obtain ⟨r, hr, er⟩ := ez2 x hx'.1 (of_decide_eq_true hx'.2)
      exact .eqv (.of ⟨flatR r, List.mem_map.mpr ⟨r, hr, rfl⟩, rfl⟩) er
    exact .eqv lr (rs_sd_eqv l lu)
/-- the hold with the other side at the posts told -/
def flipL (hs : List Int) (ps : List Nat) : List Int := (List.range hs.length).map fun k => if k ∈ ps then 1 - vec hs k else vec hs k
theorem flip_len {hs : List Int} {ps : List Nat} : (flipL hs ps).length = hs.length := by
  unfold flipL
  rw [List.length_map, List.length_range]
theorem flip_at {hs : List Int} {ps : List Nat} {k : Nat} (h : k < hs.length) : vec (flipL hs ps) k = if k ∈ ps then 1 - vec hs k else vec hs k := by
  refine vec_some ?_
  unfold flipL
  rw [List.getElem?_map, List.getElem?_range h]
  rfl
def Bits (hs : List Int) : Prop := ∀ h ∈ hs, h = 0 ∨ h = 1
theorem Bits.at {hs : List Int} (b : Bits hs) (k : Nat) : vec hs k = 0 ∨ vec hs k = 1 := by
  cases e : hs[k]? with
  | none =>
    left
    show hs.getD k 0 = 0
    rw [List.getD_eq_getElem?_getD, e]
    rfl
  | some x =>
    rw [vec_some e]
    exact b x (List.mem_of_getElem? e)
theorem flip_bits {hs : List Int} {ps : List Nat} (b : Bits hs) : Bits (flipL hs ps) := fun h hh => by
  obtain ⟨k, _, rfl⟩ := List.mem_map.mp hh
  have := b.at k
  split <;> omega
/-- the place read at a post -/
def rdp (hs : List Int) (k : Nat) : Nat := if vec hs k = 0 then 2 * k + 1 else 2 * k
theorem plc_flip {hs : List Int} {ps : List Nat} {k : Nat} (b : Bits hs) (h : k < hs.length) : plc (flipL hs ps) k = if k ∈ ps then rdp hs k else plc hs k := by
  have hb := b.at k
  unfold plc rdp
  rw [flip_at h]
  by_cases m : k ∈ ps
  · rw [if_pos m, if_pos m]
    rcases hb with e | e
    · rw [e, if_neg (by decide), if_pos rfl]
    · rw [e, if_pos (by decide), if_neg (by decide)]
  · rw [if_neg m, if_neg m]
theorem place_two {hs : List Int} {q : Nat} : q = plc hs (q / 2) ∨ q = rdp hs (q / 2) := by
  unfold plc rdp
  split <;> omega
theorem sd_read {hs : List Int} {v : Vc} {k : Nat} (h : k < hs.length) : sdV hs v (hs.length + k) = (if vec hs k = 0 then 1 else -1) * v (rdp hs k) := by
  unfold sdV rdp
  rw [if_neg (by omega), if_pos (by omega), Nat.add_sub_cancel_left]
  split <;> omega
structure Mend (p : Int) (hs : List Int) (ss : List RowP) (M : List (Nat × List Int)) (zs : List RowP) : Prop where
  pl : PL p (2 * hs.length) (zs.map flatR) M
  lot : ∀ u, Lot p (spn (zs.map flatR)) u ↔ Stl p hs ss u
theorem Mend.row {p : Int} {hs : List Int} {ss zs : List RowP} {M : List (Nat × List Int)} (h : Mend p hs ss M zs) {x : Nat × List Int} (hx : x ∈ M) : Stl p hs ss (vec x.2) := (h.lot _).mp ((h.pl.lot _).mp (.of ⟨_, mem_vecs.mpr ⟨x, hx, rfl⟩, rfl⟩))
theorem Mend.read {p : Int} {hs : List Int} {ss zs : List RowP} {M : List (Nat × List Int)} (p1 : 1 < p) (h : Mend p hs ss M zs) {x : Nat × List Int} (hx : x ∈ M) : x.1 / 2 < hs.length ∧ x.1 = rdp hs (x.1 / 2) := by
  have pb := h.pl.plc x hx
  have hk : x.1 / 2 < hs.length := by omega
  refine ⟨hk, ?_⟩
  rcases place_two (hs := hs) (q := x.1) with e | e
  · exfalso
    have z := (h.row hx).2 _ hk
    rw [← e] at z
    exact one_zero p1 ((h.pl.leads.self _ (mem_vecs.mpr ⟨x, hx, rfl⟩)).symm.trans z)
  · exact e
theorem mend_std {p : Int} {hs : List Int} {ss zs : List RowP} {M : List (Nat × List Int)} (p1 : 1 < p) (b : Bits hs) (g : Lag p hs.length ss) (h : Mend p hs ss M zs) : Std p (flipL hs (M.map fun x => x.1 / 2)) ss := by
  intro v lv z
  rw [flip_len] at z
  have rp : ∀ x ∈ M, Cg p (v x.1) 0 := fun x hx => by
    obtain ⟨hk, e⟩ := h.read p1 hx
    have := z _ hk
    rw [plc_flip b hk, if_pos (List.mem_map.mpr ⟨x, hx, rfl⟩), ← e] at this
    exact this
  have held : ∀ k, k < hs.length → Cg p (v (plc hs k)) 0 := fun k hk => by
    by_cases m : k ∈ M.map fun x => x.1 / 2
    · obtain ⟨x, hx, rfl⟩ := List.mem_map.mp m
      obtain ⟨_, e⟩ := h.read p1 hx
      have st := h.row hx
      have fa := lot_fairV g lv st.1
      rw [fair_sd (hs := hs)] at fa
      have one := sum_one (p := p) (j := x.1 / 2) (f := fun k => sdV hs v k * sdV hs (vec x.2) (hs.length + k) - sdV hs (vec x.2) k * sdV hs v (hs.length + k)) hs.length hk fun k hk' ne => by
        have z2 : Cg p (sdV hs (vec x.2) k) 0 := by
          rw [sd_plc hk']
          exact st.2 k hk'
        have b2 := z2.mul (Cg.rfl' (p := p) (a := sdV hs v (hs.length + k)))
        rw [Int.zero_mul] at b2
        have a2 : Cg p (sdV hs v k * sdV hs (vec x.2) (hs.length + k)) 0 := by
          by_cases mk : k ∈ M.map fun x => x.1 / 2
          · obtain ⟨y, hy, ek⟩ := List.mem_map.mp mk
            obtain ⟨_, ey⟩ := h.read p1 hy
            have n2 : x.1 ≠ y.1 := fun q => ne (by rw [← ek, ← q])
            have o := h.pl.leads.other _ (mem_vecs.mpr ⟨x, hx, rfl⟩) _ (mem_vecs.mpr ⟨y, hy, rfl⟩) n2
            have o' : Cg p (vec x.2 y.1) 0 := o
            rw [sd_read hk']
            have ek' : rdp hs k = y.1 := by rw [← ek]; exact ey.symm
            rw [ek']
            have c := (Cg.rfl' (p := p) (a := sdV hs v k * if vec hs k = 0 then 1 else -1)).mul o'
            rw [Int.mul_zero, Int.mul_assoc] at c
            exact c
          · have zk := z k hk'
            rw [plc_flip b hk', if_neg mk, ← sd_plc (v := v) hk'] at zk
            have c := zk.mul (Cg.rfl' (p := p) (a := sdV hs (vec x.2) (hs.length + k)))
            rw [Int.zero_mul] at c
            exact c
        have c := a2.sub b2
        exact c
      have t := one.symm.trans fa
      have z2 : Cg p (sdV hs (vec x.2) (x.1 / 2)) 0 := by
        rw [sd_plc hk]
        exact st.2 _ hk
      have b2 := z2.mul (Cg.rfl' (p := p) (a := sdV hs v (hs.length + x.1 / 2)))
      rw [Int.zero_mul] at b2
      have t2 := t.add b2
      have e3 : ∀ a b : Int, a - b + b = a := fun a b => by omega
      have t3 : Cg p (sdV hs v (x.1 / 2) * sdV hs (vec x.2) (hs.length + x.1 / 2)) 0 := by
        have : Cg p ((sdV hs v (x.1 / 2) * sdV hs (vec x.2) (hs.length + x.1 / 2) - sdV hs (vec x.2) (x.1 / 2) * sdV hs v (hs.length + x.1 / 2)) + sdV hs (vec x.2) (x.1 / 2) * sdV hs v (hs.length + x.1 / 2)) (0 + 0) := t2
        rw [e3] at this
        exact this
      rw [sd_plc hk, sd_read hk, ← e] at t3
      have s1 : Cg p (vec x.2 x.1) 1 := h.pl.leads.self _ (mem_vecs.mpr ⟨x, hx, rfl⟩)
      have t4 := ((Cg.rfl' (p := p) (a := v (plc hs (x.1 / 2)) * if vec hs (x.1 / 2) = 0 then 1 else -1)).mul s1).symm
      rw [Int.mul_one, Int.mul_assoc] at t4
      have t5 := t4.trans t3
      by_cases zz : vec hs (x.1 / 2) = 0
      · rw [if_pos zz, Int.mul_one] at t5
        exact t5
      · rw [if_neg zz] at t5
        obtain ⟨c, hc⟩ := t5
        exact ⟨-c, by rw [Int.mul_neg]; omega⟩
    · have := z k hk
      rw [plc_flip b hk, if_neg m] at this
      exact this
  have lz := (h.pl.lot _).mpr ((h.lot v).mpr ⟨lv, held⟩)
  have e := (lot_iff h.pl.leads h.pl.ndv).mp lz
  exact e.symm.trans (own_none fun x hx => by
    obtain ⟨y, hy, rfl⟩ := mem_vecs.mp hx
    exact rp y hy)
theorem mend_nil {p : Int} {hs : List Int} {ss zs : List RowP} {M : List (Nat × List Int)} (p1 : 1 < p) (h : Mend p hs ss M zs) : M = [] ↔ Std p hs ss := by
  constructor
  · rintro e u lu z
    have lz := (h.pl.lot _).mpr ((h.lot u).mpr ⟨lu, z⟩)
    rw [e] at lz
    exact fun i => lz.at0 fun v hv => by
      obtain ⟨x, hx, _⟩ := hv
      cases hx
  · intro st
    match M, h with
    | [], _ => rfl
    | x :: M, h =>
      exfalso
      have r := h.row (x := x) (by simp)
      have z := st _ r.1 r.2 x.1
      exact one_zero p1 ((h.pl.leads.self _ (mem_vecs.mpr ⟨x, by simp, rfl⟩)).symm.trans z)
theorem mend_nd {p : Int} {hs : List Int} {ss zs : List RowP} {M : List (Nat × List Int)} (p1 : 1 < p) (h : Mend p hs ss M zs) (up : Up M) : (M.map fun x => x.1 / 2).Pairwise (· < ·) := by
  have up' : (M.map (·.1)).Pairwise (· < ·) := up
  rw [List.pairwise_map] at up' ⊢
  refine up'.imp_of_mem fun {x y} hx hy lt => ?_
  obtain ⟨_, ex⟩ := h.read p1 hx
  obtain ⟨_, ey⟩ := h.read p1 hy
  rcases Nat.lt_or_ge (x.1 / 2) (y.1 / 2) with k | k
  · exact k
  · exfalso
    have e : x.1 / 2 = y.1 / 2 := by omega
    rw [e] at ex
    omega
end Lin
set_option linter.all false
/-! all holds that stand, post by post -/
namespace Lin
def comb (a : List Int) (rs : List RowP) (q : Nat) : Int := (List.zipWith (fun c r => c * vec (flatR r) q) a rs).sum
theorem comb_app {a b : List Int} {rs ss : List RowP} {q : Nat} (h : a.length = rs.length) : comb (a ++ b) (rs ++ ss) q = comb a rs q + comb b ss q := by
  unfold comb
  rw [List.zipWith_append h, List.sum_append]
theorem comb_cons {c : Int} {a : List Int} {r : RowP} {rs : List RowP} {q : Nat} : comb (c :: a) (r :: rs) q = c * vec (flatR r) q + comb a rs q := rfl
/-- by no numbers but 0 the rows come to 0 at all held sides -/
def StdC (p : Int) (hs : List Int) (rs : List RowP) : Prop := ∀ a : List Int, a.length = rs.length → (∀ k, k < hs.length → Cg p (comb a rs (plc hs k)) 0) → ∀ x ∈ a, Cg p x 0
/-- the place of a side at the first post -/
def q0 (s : Int) : Nat := if s = 0 then 0 else 1
theorem plc_zero {s : Int} {hs : List Int} : plc (s :: hs) 0 = q0 s := by
  unfold plc q0
  rw [vec_zero]
theorem plc_succ {s : Int} {hs : List Int} {k : Nat} : plc (s :: hs) (k + 1) = plc hs k + 2 := by
  unfold plc
  rw [vec_succ]
  split <;> omega
theorem vec_tail {r : RowP} {j : Nat} : vec (flatR r.tail) j = vec (flatR r) (j + 2) := by
  cases r with
  | nil => rfl
  | cons u r => rfl
/-- a row cleared at a side of the first post by another one, without that post -/
def clr (p : Int) (s c : Int) (u o : RowP) : RowP := (addP p o (timP p (c * vec (flatR o) (q0 s)) u)).tail
theorem clr_vec {p s c : Int} {u o : RowP} (l : o.length = u.length) (j : Nat) : Cg p (vec (flatR (clr p s c u o)) j) (vec (flatR o) (j + 2) + c * vec (flatR o) (q0 s) * vec (flatR u) (j + 2)) := by
  unfold clr
  rw [vec_tail]
  exact (vec_addP (by rw [tim_lenP]; exact l) _).trans (Cg.rfl'.add (vec_timP _))
theorem comb_clr {p s c : Int} {u : RowP} {j : Nat} : ∀ {a : List Int} {os : List RowP}, a.length = os.length → (∀ o ∈ os, o.length = u.length) → Cg p (comb a (os.map (clr p s c u)) j) (comb a os (j + 2) + c * comb a os (q0 s) * vec (flatR u) (j + 2))
  | [], [], _, _ => by
    unfold comb
    exact ⟨0, by simp⟩
  | [], _ :: _, h, _ => by simp at h
  | _ :: _, [], h, _ => by simp at h
  | x :: a, o :: os, h, l => by
    have ih := comb_clr (p := p) (s := s) (c := c) (u := u) (j := j) (a := a) (os := os) (by simpa using h) fun o ho => l o (List.mem_cons_of_mem _ ho)
    rw [List.map_cons, comb_cons, comb_cons, comb_cons]
    have e := ((Cg.rfl' (p := p) (a := x)).mul (clr_vec (p := p) (s := s) (c := c) (l o (by simp)) j)).add ih
    refine e.trans ?_
    exact ⟨0, by grind⟩
theorem std_step {p s c : Int} {hs : List Int} {pre post : List RowP} {u : RowP} (p1 : 1 < p) (hc : Cg p (c * vec (flatR u) (q0 s)) (-1)) (l1 : ∀ o ∈ pre, o.length = u.length) (l2 : ∀ o ∈ post, o.length = u.length) : StdC p (s :: hs) (pre ++ u :: post) ↔ StdC p hs ((pre ++ post).map (clr p s c u)) := by
  have la : ∀ o ∈ pre ++ post, o.length = u.length := fun o ho => (List.mem_append.mp ho).elim (l1 o) (l2 o)
  constructor
  · intro st b bl z
    rw [List.length_map] at bl
    -- the number of the row that goes
    have key := st (b.take pre.length ++ (c * comb b (pre ++ post) (q0 s)) :: b.drop pre.length) (by
      rw [List.length_append] at bl
      rw [List.length_append, List.length_cons, List.length_take, List.length_drop, List.length_append, List.length_cons]
      omega)
    have bt : (b.take pre.length).length = pre.length := by
      rw [List.length_append] at bl
      rw [List.length_take]
      omega
    have spl : ∀ q, comb (b.take pre.length ++ (c * comb b (pre ++ post) (q0 s)) :: b.drop pre.length) (pre ++ u :: post) q = comb b (pre ++ post) q + c * comb b (pre ++ post) (q0 s) * vec (flatR u) q := fun q => by
      rw [comb_app bt, comb_cons]
      have e : comb b (pre ++ post) q = comb (b.take pre.length) pre q + comb (b.drop pre.length) post q := by
        rw [← comb_app bt, List.take_append_drop]
      rw [e]
      omega
    have all := key fun k hk => by
      rw [spl]
      cases k with
      | zero =>
        rw [plc_zero]
        have e := (Cg.rfl' (p := p) (a := comb b (pre ++ post) (q0 s))).add ((Cg.rfl' (p := p) (a := comb b (pre ++ post) (q0 s))).mul hc)
        have e1 : comb b (pre ++ post) (q0 s) + c * comb b (pre ++ post) (q0 s) * vec (flatR u) (q0 s) = comb b (pre ++ post) (q0 s) + comb b (pre ++ post) (q0 s) * (c * vec (flatR u) (q0 s)) := by grind
        rw [e1]
        refine e.trans ⟨0, by grind⟩
      | succ k =>
        rw [plc_succ]
        exact (comb_clr bl la).symm.trans (z k (by simpa using hk))
    intro x hx
    refine all x ?_
    rw [← List.take_append_drop pre.length b] at hx
    rcases List.mem_append.mp hx with m | m
    · exact List.mem_append.mpr (.inl m)
    · exact List.mem_append.mpr (.inr (List.mem_cons_of_mem _ m))
  · intro st a al z
    rw [List.length_append, List.length_cons] at al
    have at1 : (a.take pre.length).length = pre.length := by rw [List.length_take]; omega
    obtain ⟨x, a2, ed⟩ : ∃ x a2, a.drop pre.length = x :: a2 := by
      cases e : a.drop pre.length with
      | nil =>
        have := congrArg List.length e
        rw [List.length_drop, List.length_nil] at this
        omega
      | cons x a2 => exact ⟨x, a2, rfl⟩
    have a2l : a2.length = post.length := by
      have := congrArg List.length ed
      rw [List.length_drop, List.length_cons] at this
      omega
    have ea : a = a.take pre.length ++ x :: a2 := by rw [← ed, List.take_append_drop]
    have spl : ∀ q, comb a (pre ++ u :: post) q = comb (a.take pre.length ++ a2) (pre ++ post) q + x * vec (flatR u) q := fun q => by
      rw [ea, comb_app at1, comb_cons, ← ea, comb_app at1]
      omega
    have h0 : Cg p (comb (a.take pre.length ++ a2) (pre ++ post) (q0 s) + x * vec (flatR u) (q0 s)) 0 := by
      have := z 0 (by simp)
      rw [plc_zero, spl] at this
      exact this
    -- x by the others
    have hx : Cg p x (c * comb (a.take pre.length ++ a2) (pre ++ post) (q0 s)) := by
      obtain ⟨d, hd⟩ := h0
      obtain ⟨e, he⟩ := hc
      exact ⟨-c * d + x * e, by grind⟩
    have bl : (a.take pre.length ++ a2).length = (pre ++ post).length := by rw [List.length_append, List.length_append, at1, a2l]
    have sm := st (a.take pre.length ++ a2) (by rw [List.length_map]; exact bl) fun k hk => by
      refine (comb_clr bl la).trans ?_
      have zk := z (k + 1) (by simpa using hk)
      rw [plc_succ, spl] at zk
      refine Cg.trans ?_ zk
      exact Cg.rfl'.add (hx.symm.mul Cg.rfl')
    have cz : Cg p (comb (a.take pre.length ++ a2) (pre ++ post) (q0 s)) 0 := by
      have : ∀ {b : List Int} {os : List RowP}, (∀ x ∈ b, Cg p x 0) → Cg p (comb b os (q0 s)) 0 := fun {b} => by
        induction b with
        | nil => intro os _; unfold comb; exact ⟨0, by simp⟩
        | cons y b ih =>
          intro os hb
          cases os with
          | nil => unfold comb; exact ⟨0, by simp⟩
          | cons o os =>
            rw [comb_cons]
            have e := ((hb y (by simp)).mul (Cg.rfl' (a := vec (flatR o) (q0 s)))).add (ih (os := os) fun x hx => hb x (List.mem_cons_of_mem _ hx))
            rw [Int.zero_mul, Int.zero_add] at e
            exact e
      exact this sm
    intro y hy
    rw [ea] at hy
    rcases List.mem_append.mp hy with m | m
    · exact sm y (List.mem_append.mpr (.inl m))
    · rcases List.mem_cons.mp m with rfl | m
      · have e := hx.trans ((Cg.rfl' (a := c)).mul cz)
        rw [Int.mul_zero] at e
        exact e
      · exact sm y (List.mem_append.mpr (.inr m))
/-! -/
theorem below_lenV : ∀ (n : Nat) (xs : List Nat), xs.Nodup → (∀ x ∈ xs, x < n) → xs.length ≤ n
  | 0, [], _, _ => Nat.le_refl _
  | 0, x :: _, _, h => absurd (h x (by simp)) (Nat.not_lt_zero _)
  | n + 1, xs, nd, h => by
    have k := below_lenV n (xs.erase n) (nd.erase n) fun x hx => by
      have m := (nd.mem_erase_iff).mp hx
      have := h x m.2
      omega
    by_cases hn : n ∈ xs
    · rw [List.length_erase_of_mem hn] at k
      omega
    · rw [List.erase_of_not_mem hn] at k
      omega
/-- more rows than held sides: some numbers come to 0 -/
theorem not_free {p : Int} : ∀ (ys xs : List (List Int)), ¬ FreeOver p xs ys → ∃ (b : List Int), b.length = (xs ++ ys).length ∧ (∃ x ∈ b, Cg p x 1) ∧ ∀ j, Cg p (List.zipWith (fun c f => c * vec f j) b (xs ++ ys)).sum 0
  | [], _, h => absurd trivial h
  | y :: ys, xs, h => by
    by_cases hy : Lot p (spn xs) (vec y)
    · obtain ⟨a, ha⟩ := lot_coef hy
      refine ⟨((List.range xs.length).map fun i => -a i) ++ 1 :: List.replicate ys.length 0, by simp, ⟨1, by simp, Cg.rfl'⟩, fun j => ?_⟩
      have z0 : ∀ (n : Nat) (fs : List (List Int)), (List.zipWith (fun c f => c * vec f j) (List.replicate n 0) fs).sum = 0 := fun n => by
        induction n with
        | zero => intro fs; simp
        | succ n ih =>
          intro fs
          cases fs with
          | nil => simp
          | cons f fs =>
            rw [List.replicate_succ]
            show 0 * vec f j + (List.zipWith (fun c f => c * vec f j) (List.replicate n 0) fs).sum = 0
            rw [ih fs]
            omega
      have z1 : ∀ (fs : List (List Int)) (a : Vc), (List.zipWith (fun c f => c * vec f j) ((List.range fs.length).map fun i => -a i) fs).sum = -dot a (col fs j) fs.length := fun fs => by
        induction fs with
        | nil => intro a; rfl
        | cons f fs ih =>
          intro a
          rw [List.length_cons, List.range_succ_eq_map, List.map_cons, List.map_map]
          show -a 0 * vec f j + (List.zipWith _ ((List.range fs.length).map fun i => -(shf a) i) fs).sum = -(a 0 * col (f :: fs) j 0 + dot (shf a) (shf (col (f :: fs) j)) fs.length)
          rw [ih, shf_col]
          have : col (f :: fs) j 0 = vec f j := rfl
          rw [this]
          grind
      rw [List.zipWith_append (by simp), List.sum_append, z1]
      show Cg p (-dot a (col xs j) xs.length + (1 * vec y j + (List.zipWith _ (List.replicate ys.length 0) ys).sum)) 0
      rw [z0]
      obtain ⟨d, hd⟩ := ha j
      exact ⟨d, by rw [hd]; grind⟩
    · have h' : ¬ FreeOver p (xs ++ [y]) ys := fun k => h ⟨hy, k⟩
      obtain ⟨b, h1, h2, h3⟩ := not_free ys (xs ++ [y]) h'
      have e : xs ++ [y] ++ ys = xs ++ y :: ys := by simp
      rw [e] at h1 h3
      exact ⟨b, h1, h2, h3⟩
theorem std_none {p s : Int} {hs : List Int} {rs : List RowP} (p1 : 1 < p) (inv : ∀ u, 0 < u → u < p → ∃ c, c * u % p = 1) (len : hs.length < rs.length) (z : ∀ r ∈ rs, Cg p (vec (flatR r) (q0 s)) 0) : ¬ StdC p (s :: hs) rs := by
  intro st
  have p0 : 0 < p := by omega
  -- the rows' numbers at the other held sides
  have hf : ∀ f ∈ rs.map (fun r => (List.range hs.length).map fun k => vec (flatR r) (plc (s :: hs) (k + 1)) % p), f.length = hs.length ∧ Rg p f := fun f hf => by
    obtain ⟨r, _, rfl⟩ := List.mem_map.mp hf
    refine ⟨by simp, fun u hu => ?_⟩
    obtain ⟨k, _, rfl⟩ := List.mem_map.mp hu
    exact ⟨Int.emod_nonneg _ (by omega), Int.emod_lt_of_pos _ p0⟩
  have nf : ¬ FreeOver p [] (rs.map (fun r => (List.range hs.length).map fun k => vec (flatR r) (plc (s :: hs) (k + 1)) % p)) := fun k => by
    obtain ⟨M, pm, ml⟩ := FreeOver.pl p1 inv (PL.nil (p := p) (n := hs.length)) k hf
    have : M.length ≤ hs.length := by
      have k := below_lenV hs.length (M.map (·.1)) pm.nd fun x hx => by
        obtain ⟨y, hy, rfl⟩ := List.mem_map.mp hx
        exact pm.plc y hy
      simpa using k
    rw [ml, List.length_map, List.length_nil] at this
    omega
  obtain ⟨b, bl, ⟨x, hx, x1⟩, hz⟩ := not_free _ _ nf
  rw [List.nil_append] at bl hz
  rw [List.length_map] at bl
  refine one_zero p1 (x1.symm.trans (st b bl (fun k hk => ?_) x hx))
  cases k with
  | zero =>
    rw [plc_zero]
    have : ∀ {b : List Int} {os : List RowP}, (∀ r ∈ os, Cg p (vec (flatR r) (q0 s)) 0) → Cg p (comb b os (q0 s)) 0 := fun {b} => by
      induction b with
      | nil => intro os _; unfold comb; exact ⟨0, by simp⟩
      | cons y b ih =>
        intro os hb
        cases os with
        | nil => unfold comb; exact ⟨0, by simp⟩
        | cons o os =>
          rw [comb_cons]
          have e := ((Cg.rfl' (p := p) (a := y)).mul (hb o (by simp))).add (ih (os := os) fun x hx => hb x (List.mem_cons_of_mem _ hx))
          rw [Int.mul_zero, Int.zero_add] at e
          exact e
    exact this z
  | succ k =>
    have hk' : k < hs.length := by simpa using hk
    have := hz k
    refine Cg.trans ?_ this
    unfold comb
    have : ∀ (b : List Int) (os : List RowP), Cg p (List.zipWith (fun c r => c * vec (flatR r) (plc (s :: hs) (k + 1))) b os).sum (List.zipWith (fun c f => c * vec f k) b (os.map (fun r => (List.range hs.length).map fun k => vec (flatR r) (plc (s :: hs) (k + 1)) % p))).sum := fun b => by
      induction b with
      | nil => intro os; simp; exact Cg.rfl'
      | cons y b ih =>
        intro os
        cases os with
        | nil => simp; exact Cg.rfl'
        | cons o os =>
          have ev : vec ((List.range hs.length).map fun k => vec (flatR o) (plc (s :: hs) (k + 1)) % p) k = vec (flatR o) (plc (s :: hs) (k + 1)) % p := by
            refine vec_some ?_
            rw [List.getElem?_map, List.getElem?_range hk']
            rfl
          show Cg p (y * vec (flatR o) (plc (s :: hs) (k + 1)) + _) (y * vec _ k + _)
          rw [ev]
          exact (Cg.rfl'.mul (Cg.mod _).symm).add (ih os)
    exact this b rs
/-- a thing's holds: by numbers, by rows -/
theorem std_coef {p : Int} {hs : List Int} {ss : List RowP} (p1 : 1 < p) (inv : ∀ u, 0 < u → u < p → ∃ c, c * u % p = 1) (g : Lag p hs.length ss) : Std p hs ss ↔ StdC p hs ss := by
  have vc : ∀ (a : List Int) (rs : List RowP), a.length = rs.length → Lot p (spn (rs.map flatR)) (comb a rs) := fun a => by
    induction a with
    | nil =>
      intro rs h
      cases rs with
      | nil => exact .eqv .zero fun i => by unfold comb; exact Cg.rfl'
      | cons _ _ => simp at h
    | cons x a ih =>
      intro rs h
      cases rs with
      | nil => simp at h
      | cons r rs =>
        have i1 := ih rs (by simpa using h)
        have i2 : Lot p (spn ((r :: rs).map flatR)) (comb a rs) := Lot.sub (fun v hv => let ⟨f, hf, e⟩ := hv; .of ⟨f, List.mem_cons_of_mem _ hf, e⟩) i1
        refine .eqv (Lot.comb x i2 (.of ⟨flatR r, by simp, rfl⟩)) fun i => ?_
        rw [comb_cons]
        exact ⟨0, by grind⟩
  constructor
  · intro st a al z
    have u0 := st _ (vc a ss al) z
    -- free rows: from the last one on all numbers are 0
    have last : ∀ n, n ≤ ss.length → (∀ i x, n ≤ i → a[i]? = some x → Cg p x 0) := fun n => by
      intro hn
      induction h : ss.length - n generalizing n with
      | zero =>
        intro i x hi e
        have := (List.getElem?_eq_some_iff.mp e).1
        omega
      | succ d ih =>
        have up := ih (n + 1) (by omega) (by omega)
        intro i x hi e
        rcases Nat.lt_or_ge n i with k | k
        · exact up i x k e
        · have ei : i = n := by omega
          subst ei
          have hi' : i < ss.length := by omega
          obtain ⟨q, z1, nz⟩ := g.free i _ (List.getElem?_eq_getElem hi')
          -- at q
          have ha : i < a.length := by omega
          have es : a = a.take i ++ x :: a.drop (i + 1) := by
            have := (List.getElem?_eq_some_iff.mp e).2
            rw [← this, List.getElem_cons_drop, List.take_append_drop]
          have er : ss = ss.take i ++ ss[i] :: ss.drop (i + 1) := by
            rw [List.getElem_cons_drop, List.take_append_drop]
          have sum : comb a ss q = comb (a.take i) (ss.take i) q + (x * vec (flatR ss[i]) q + comb (a.drop (i + 1)) (ss.drop (i + 1)) q) := by
            have : comb (a.take i ++ x :: a.drop (i + 1)) (ss.take i ++ ss[i] :: ss.drop (i + 1)) q = comb (a.take i) (ss.take i) q + comb (x :: a.drop (i + 1)) (ss[i] :: ss.drop (i + 1)) q := comb_app (by rw [List.length_take, List.length_take, al])
            rw [← es, ← er] at this
            exact this
          have zc : ∀ {b : List Int} {os : List RowP}, (∀ r ∈ os, Cg p (vec (flatR r) q) 0) → Cg p (comb b os q) 0 := fun {b} => by
            induction b with
            | nil => intro os _; unfold comb; exact ⟨0, by simp⟩
            | cons y b ih =>
              intro os hb
              cases os with
              | nil => unfold comb; exact ⟨0, by simp⟩
              | cons o os =>
                rw [comb_cons]
                have e := ((Cg.rfl' (p := p) (a := y)).mul (hb o (by simp))).add (ih (os := os) fun x hx => hb x (List.mem_cons_of_mem _ hx))
                rw [Int.mul_zero, Int.zero_add] at e
                exact e
          have zb : ∀ {b : List Int} {os : List RowP}, (∀ x ∈ b, Cg p x 0) → Cg p (comb b os q) 0 := fun {b} => by
            induction b with
            | nil => intro os _; unfold comb; exact ⟨0, by simp⟩
            | cons y b ih =>
              intro os hb
              cases os with
              | nil => unfold comb; exact ⟨0, by simp⟩
              | cons o os =>
                rw [comb_cons]
                have e := ((hb y (by simp)).mul (Cg.rfl' (a := vec (flatR o) q))).add (ih (os := os) fun x hx => hb x (List.mem_cons_of_mem _ hx))
                rw [Int.zero_mul, Int.zero_add] at e
                exact e
          have t1 : Cg p (comb (a.take i) (ss.take i) q) 0 := zc z1
          have t2 : Cg p (comb (a.drop (i + 1)) (ss.drop (i + 1)) q) 0 := zb fun y hy => by
            obtain ⟨j, hj⟩ := List.mem_iff_getElem?.mp hy
            rw [List.getElem?_drop] at hj
            exact up _ y (by omega) hj
          have t3 : Cg p (x * vec (flatR ss[i]) q) 0 := by
            have := u0 q
            rw [sum] at this
            have w := (this.sub t1).sub t2
            have e1 : comb (a.take i) (ss.take i) q + (x * vec (flatR ss[i]) q + comb (a.drop (i + 1)) (ss.drop (i + 1)) q) - comb (a.take i) (ss.take i) q - comb (a.drop (i + 1)) (ss.drop (i + 1)) q = x * vec (flatR ss[i]) q := by omega
            rw [e1] at w
            exact w
          have a0 := Int.emod_nonneg (vec (flatR ss[i]) q) (b := p) (by omega)
          have a1 := Int.emod_lt_of_pos (vec (flatR ss[i]) q) (b := p) (by omega)
          have n0 : vec (flatR ss[i]) q % p ≠ 0 := fun e => nz (by
            have := Cg.mod (p := p) (vec (flatR ss[i]) q)
            rw [e] at this
            exact this.symm)
          obtain ⟨c, hc⟩ := inv _ (by omega) a1
          have hc' : c * vec (flatR ss[i]) q % p = 1 := by rw [← hc, Int.mul_emod, Int.mul_emod c (vec (flatR ss[i]) q % p), Int.emod_emod]
          exact cancel hc' (by rw [Int.zero_mul]; exact t3)
    intro x hx
    obtain ⟨i, hi⟩ := List.mem_iff_getElem?.mp hx
    exact last 0 (Nat.zero_le _) i x (Nat.zero_le _) hi
  · intro st u lu z
    obtain ⟨a, ha⟩ := lot_coef lu
    have cv : ∀ (rs : List RowP) (a : Vc) (q : Nat), comb ((List.range rs.length).map a) rs q = dot a (col (rs.map flatR) q) rs.length := fun rs => by
      induction rs with
      | nil => intro a q; rfl
      | cons r rs ih =>
        intro a q
        rw [List.length_cons, List.range_succ_eq_map, List.map_cons, List.map_map, comb_cons]
        show a 0 * vec (flatR r) q + comb ((List.range rs.length).map (shf a)) rs q = a 0 * col (flatR r :: rs.map flatR) q 0 + dot (shf a) (shf (col (flatR r :: rs.map flatR) q)) rs.length
        rw [ih, shf_col]
        rfl
    rw [List.length_map] at ha
    have all := st ((List.range ss.length).map a) (by simp) fun k hk => by
      rw [cv]
      exact (ha _).symm.trans (z k hk)
    intro j
    refine (ha j).trans ?_
    rw [← cv]
    have zb : ∀ {b : List Int} {os : List RowP}, (∀ x ∈ b, Cg p x 0) → Cg p (comb b os j) 0 := fun {b} => by
      induction b with
      | nil => intro os _; unfold comb; exact ⟨0, by simp⟩
      | cons y b ih =>
        intro os hb
        cases os with
        | nil => unfold comb; exact ⟨0, by simp⟩
        | cons o os =>
          rw [comb_cons]
          have e := ((hb y (by simp)).mul (Cg.rfl' (a := vec (flatR o) j))).add (ih (os := os) fun x hx => hb x (List.mem_cons_of_mem _ hx))
          rw [Int.zero_mul, Int.zero_add] at e
          exact e
    exact zb all
end Lin
set_option linter.all false
/-! from one hold that stands towards another: one post or two -/
namespace Lin
theorem Cg.neg0 {p a : Int} (h : Cg p a 0) : Cg p (-a) 0 := by
  obtain ⟨c, hc⟩ := h
  exact ⟨-c, by rw [hc]; grind⟩
theorem cancel0 {p a d : Int} (p1 : 1 < p) (inv : ∀ u, 0 < u → u < p → ∃ c, c * u % p = 1) (nz : ¬ Cg p d 0) (h : Cg p (a * d) 0) : Cg p a 0 := by
  have a0 := Int.emod_nonneg d (b := p) (by omega)
  have a1 := Int.emod_lt_of_pos d (b := p) (by omega)
  have n0 : d % p ≠ 0 := fun e => nz (by
    have := Cg.mod (p := p) d
    rw [e] at this
    exact this.symm)
  obtain ⟨c, hc⟩ := inv _ (by omega) a1
  exact cancel (c := c) (d := d) (b := 0) (by rw [← hc, Int.mul_emod, Int.mul_emod c (d % p), Int.emod_emod]) (by rw [Int.zero_mul]; exact h)
/-- by a hold that stands some stand has 1 held at a post, 0 at all others -/
theorem unit_of {p : Int} {hs : List Int} {ss : List RowP} (p1 : 1 < p) (inv : ∀ u, 0 < u → u < p → ∃ c, c * u % p = 1) (g : Lag p hs.length ss) (st : Std p hs ss) {k : Nat} (hk : k < hs.length) : ∃ u, Lot p (spn (ss.map flatR)) u ∧ ∀ j, j < hs.length → Cg p (u (plc hs j)) (if j = k then 1 else 0) := by
  obtain ⟨L, pl, _⟩ := FreeOver.pl p1 inv (PL.nil (p := p) (n := 2 * hs.length)) (free_sd (fun r hr => (g.fit r hr).2) g.free ss [] rfl) fun f hf => by
    obtain ⟨r, hr, rfl⟩ := List.mem_map.mp hf
    exact ⟨sd_len (g.fit r hr).2, sd_rg (by omega) (g.fit r hr).1⟩
  rw [List.nil_append] at pl
  have Ll := lead_many p1 inv g pl
  have lt := (std_iff p1 (fun r hr => (g.fit r hr).2) pl).mp st
  have hm : k ∈ L.map (·.1) := Classical.byContradiction fun n => by
    have := below_lenV hs.length (k :: L.map (·.1)) (List.nodup_cons.mpr ⟨n, pl.nd⟩) fun x hx => by
      rcases List.mem_cons.mp hx with rfl | m
      · exact hk
      · obtain ⟨y, hy, rfl⟩ := List.mem_map.mp m
        exact lt y hy
    rw [List.length_cons, List.length_map, Ll] at this
    omega
  obtain ⟨x, hx, rfl⟩ := List.mem_map.mp hm
  have mx : (x.1, vec x.2) ∈ vecs L := mem_vecs.mpr ⟨x, hx, rfl⟩
  refine ⟨rsV hs (vec x.2), sd_back (fun r hr => (g.fit r hr).2) ((pl.lot _).mp (.of ⟨_, mx, rfl⟩)), fun j hj => ?_⟩
  rw [← sd_plc (v := rsV hs (vec x.2)) hj, sd_rs (by omega)]
  by_cases e : j = x.1
  · rw [if_pos e, e]
    exact pl.leads.self _ mx
  · rw [if_neg e]
    have hj' : j ∈ L.map (·.1) := Classical.byContradiction fun n => by
      have := below_lenV hs.length (j :: L.map (·.1)) (List.nodup_cons.mpr ⟨n, pl.nd⟩) fun x hx => by
        rcases List.mem_cons.mp hx with rfl | m
        · exact hj
        · obtain ⟨y, hy, rfl⟩ := List.mem_map.mp m
          exact lt y hy
      rw [List.length_cons, List.length_map, Ll] at this
      omega
    obtain ⟨y, hy, rfl⟩ := List.mem_map.mp hj'
    exact pl.leads.other _ mx _ (mem_vecs.mpr ⟨y, hy, rfl⟩) fun q => e q.symm
theorem plc_unlike {h1 h2 : List Int} {k : Nat} (b1 : Bits h1) (b2 : Bits h2) (ne : vec h1 k ≠ vec h2 k) : plc h2 k = rdp h1 k := by
  have a := b1.at k
  have b := b2.at k
  unfold plc rdp
  rcases a with e | e
  · rcases b with f | f
    · exact absurd (e.trans f.symm) ne
    · rw [f, e, if_neg (by decide), if_pos rfl]
  · rcases b with f | f
    · rw [f, e, if_pos rfl, if_neg (by decide)]
    · exact absurd (e.trans f.symm) ne
theorem plc_like {h1 h2 : List Int} {k : Nat} (e : vec h1 k = vec h2 k) : plc h2 k = plc h1 k := by
  unfold plc
  rw [e]
theorem exch {p : Int} {h1 h2 : List Int} {ss : List RowP} {q : Nat} (p1 : 1 < p) (inv : ∀ u, 0 < u → u < p → ∃ c, c * u % p = 1) (g : Lag p h1.length ss) (l : h2.length = h1.length) (b1 : Bits h1) (b2 : Bits h2) (s1 : Std p h1 ss) (s2 : Std p h2 ss) (hq : q < h1.length) (ne : vec h1 q ≠ vec h2 q) : ∃ r, r < h1.length ∧ vec h1 r ≠ vec h2 r ∧ Std p (flipL h1 [q, r]) ss := by
  obtain ⟨u, lu, hu⟩ := unit_of p1 inv g s1 hq
  have uq : Cg p (u (plc h1 q)) 1 := by
    have := hu q hq
    rwa [if_pos rfl] at this
  -- what is not 0 there
  have some : ∃ r, r < h1.length ∧ vec h1 r ≠ vec h2 r ∧ ¬ Cg p (u (rdp h1 r)) 0 := Classical.byContradiction fun n => by
    have z := s2 u lu fun k hk => by
      rw [l] at hk
      by_cases e : vec h1 k = vec h2 k
      · rw [plc_like e]
        have := hu k hk
        rw [if_neg (fun x => ne (by rw [← x]; exact e))] at this
        exact this
      · rw [plc_unlike b1 b2 e]
        exact Classical.byContradiction fun y => n ⟨k, hk, e, y⟩
    exact one_zero p1 (uq.symm.trans (z _))
  by_cases self : Cg p (u (rdp h1 q)) 0
  · obtain ⟨r, hr, nr, zr⟩ := some
    have qr : q ≠ r := fun e => zr (by rw [← e]; exact self)
    obtain ⟨v, lv, hv⟩ := unit_of p1 inv g s1 hr
    -- by the meet of both
    have nz : ¬ Cg p (v (rdp h1 q)) 0 := fun z => zr (by
      have fa := lot_fairV g lu lv
      rw [fair_sd (hs := h1)] at fa
      have e1 : ∀ k, k < h1.length → Cg p (sdV h1 u k * sdV h1 v (h1.length + k) - sdV h1 v k * sdV h1 u (h1.length + k)) ((if k = r then -1 else 0) * sdV h1 u (h1.length + k)) := fun k hk => by
        rw [sd_plc hk, sd_plc hk]
        have a := hu k hk
        have b := hv k hk
        have b' := b.mul (Cg.rfl' (p := p) (a := sdV h1 u (h1.length + k)))
        have a' : Cg p (u (plc h1 k) * sdV h1 v (h1.length + k)) 0 := by
          by_cases e : k = q
          · have t := (Cg.rfl' (p := p) (a := u (plc h1 k) * (if vec h1 k = 0 then 1 else -1))).mul z
            rw [Int.mul_zero] at t
            rw [sd_read hk, ← Int.mul_assoc]
            rw [e] at t ⊢
            exact t
          · rw [if_neg e] at a
            have t := a.mul (Cg.rfl' (p := p) (a := sdV h1 v (h1.length + k)))
            rw [Int.zero_mul] at t
            exact t
        refine (a'.sub b').trans ?_
        by_cases e : k = r
        · rw [if_pos e, if_pos e]
          exact ⟨0, by grind⟩
        · rw [if_neg e, if_neg e]
          exact ⟨0, by grind⟩
      have t := (sum_one (p := p) (j := r) (f := fun k => sdV h1 u k * sdV h1 v (h1.length + k) - sdV h1 v k * sdV h1 u (h1.length + k)) h1.length hr fun k hk nk => by
        have := e1 k hk
        rw [if_neg nk, Int.zero_mul] at this
        exact this).symm.trans fa
      have t2 := (e1 r hr).symm.trans t
      rw [if_pos rfl, sd_read hr] at t2
      obtain ⟨c, hc⟩ := t2
      by_cases y : vec h1 r = 0
      · rw [if_pos y] at hc
        exact ⟨-c, by grind⟩
      · rw [if_neg y] at hc
        exact ⟨c, by grind⟩)
    refine ⟨r, hr, nr, fun x lx hx => ?_⟩
    rw [flip_len] at hx
    have w := s1 (fun i => (x i + -(x (plc h1 q)) * u i) + -(x (plc h1 r)) * v i) (Lot.comb _ (Lot.comb _ lx lu) lv) fun k hk => by
      have a := hu k hk
      have b := hv k hk
      have t := ((Cg.rfl' (p := p) (a := x (plc h1 k))).add ((Cg.rfl' (p := p) (a := -(x (plc h1 q)))).mul a)).add ((Cg.rfl' (p := p) (a := -(x (plc h1 r)))).mul b)
      refine t.trans ?_
      by_cases e : k = q
      · subst e
        rw [if_pos rfl, if_neg qr]
        exact ⟨0, by grind⟩
      · by_cases e2 : k = r
        · subst e2
          rw [if_neg e, if_pos rfl]
          exact ⟨0, by grind⟩
        · rw [if_neg e, if_neg e2]
          have := hx k hk
          rw [plc_flip b1 hk, if_neg (by simp [e, e2])] at this
          refine Cg.trans ?_ this
          exact ⟨0, by grind⟩
    have xq := hx q hq
    rw [plc_flip b1 hq, if_pos (by simp)] at xq
    have xr := hx r hr
    rw [plc_flip b1 hr, if_pos (by simp)] at xr
    have br : Cg p (x (plc h1 r)) 0 := cancel0 p1 inv nz (by
      obtain ⟨c1, h1'⟩ := w (rdp h1 q)
      obtain ⟨c2, h2'⟩ := self
      obtain ⟨c3, h3'⟩ := xq
      exact ⟨c3 - c1 - x (plc h1 q) * c2, by grind⟩)
    have bq : Cg p (x (plc h1 q)) 0 := cancel0 p1 inv zr (by
      obtain ⟨c1, h1'⟩ := w (rdp h1 r)
      obtain ⟨c2, h2'⟩ := br
      obtain ⟨c3, h3'⟩ := xr
      exact ⟨c3 - c1 - c2 * v (rdp h1 r), by grind⟩)
    intro i
    obtain ⟨c1, h1'⟩ := w i
    obtain ⟨c2, h2'⟩ := br
    obtain ⟨c3, h3'⟩ := bq
    exact ⟨c1 + c3 * u i + c2 * v i, by grind⟩
  · refine ⟨q, hq, ne, fun x lx hx => ?_⟩
    rw [flip_len] at hx
    have w := s1 (fun i => x i + -(x (plc h1 q)) * u i) (Lot.comb _ lx lu) fun k hk => by
      have t := (Cg.rfl' (p := p) (a := x (plc h1 k))).add ((Cg.rfl' (p := p) (a := -(x (plc h1 q)))).mul (hu k hk))
      refine t.trans ?_
      by_cases e : k = q
      · subst e
        rw [if_pos rfl]
        exact ⟨0, by grind⟩
      · rw [if_neg e]
        have := hx k hk
        rw [plc_flip b1 hk, if_neg (by simp [e])] at this
        refine Cg.trans ?_ this
        exact ⟨0, by grind⟩
    have xq := hx q hq
    rw [plc_flip b1 hq, if_pos (by simp)] at xq
    have bq : Cg p (x (plc h1 q)) 0 := cancel0 p1 inv self (by
      obtain ⟨c1, h1'⟩ := w (rdp h1 q)
      obtain ⟨c3, h3'⟩ := xq
      exact ⟨c3 - c1, by grind⟩)
    intro i
    obtain ⟨c1, h1'⟩ := w i
    obtain ⟨c3, h3'⟩ := bq
    exact ⟨c1 + c3 * u i, by grind⟩
end Lin
set_option linter.all false
/-! mending is least -/
namespace Lin
/-- rows free of one another that are told by so many places are at most so many -/
theorem few_le {p : Int} {n : Nat} {fs : List (List Int)} {M : List (Nat × List Int)} (p1 : 1 < p) (inv : ∀ u, 0 < u → u < p → ∃ c, c * u % p = 1) (pl : PL p n fs M) (Q : List Nat) (h : ∀ v, Lot p (spn fs) v → (∀ q ∈ Q, Cg p (v q) 0) → Eqv p v fun _ => 0) : M.length ≤ Q.length := by
  rcases Nat.lt_or_ge Q.length M.length with lt | le
  · exfalso
    have p0 : 0 < p := by omega
    have hf : ∀ f ∈ M.map (fun x => Q.map fun q => vec x.2 q % p), f.length = Q.length ∧ Rg p f := fun f hf => by
      obtain ⟨x, _, rfl⟩ := List.mem_map.mp hf
      refine ⟨by simp, fun u hu => ?_⟩
      obtain ⟨k, _, rfl⟩ := List.mem_map.mp hu
      exact ⟨Int.emod_nonneg _ (by omega), Int.emod_lt_of_pos _ p0⟩
    have nf : ¬ FreeOver p [] (M.map (fun x => Q.map fun q => vec x.2 q % p)) := fun k => by
      obtain ⟨N, pn, nl⟩ := FreeOver.pl p1 inv (PL.nil (p := p) (n := Q.length)) k hf
      have k2 := below_lenV Q.length (N.map (·.1)) pn.nd fun x hx => by
        obtain ⟨y, hy, rfl⟩ := List.mem_map.mp hx
        exact pn.plc y hy
      rw [List.length_map, nl, List.length_map, List.length_nil] at k2
      omega
    obtain ⟨b, bl, ⟨x, hx, x1⟩, hz⟩ := not_free _ _ nf
    rw [List.nil_append] at bl hz
    rw [List.length_map] at bl
    -- the sum by these numbers
    have lv : ∀ (b : List Int) (K : List (Nat × List Int)), (∀ y ∈ K, y ∈ M) → Lot p (spn fs) fun i => (List.zipWith (fun c (y : Nat × List Int) => c * vec y.2 i) b K).sum := fun b => by
      induction b with
      | nil => intro K _; exact .eqv .zero fun i => by simp; exact Cg.rfl'
      | cons c b ih =>
        intro K hK
        cases K with
        | nil => exact .eqv .zero fun i => by simp; exact Cg.rfl'
        | cons y K =>
          have ly : Lot p (spn fs) (vec y.2) := (pl.lot _).mp (.of ⟨_, mem_vecs.mpr ⟨y, hK y (by simp), rfl⟩, rfl⟩)
          refine .eqv (Lot.comb c (ih K fun z hz => hK z (List.mem_cons_of_mem _ hz)) ly) fun i => ?_
          show Cg p (_ + c * vec y.2 i) (c * vec y.2 i + (List.zipWith (fun c (y : Nat × List Int) => c * vec y.2 i) b K).sum)
          exact ⟨0, by grind⟩
    have zq := h _ (lv b M fun _ hy => hy) fun q hq => by
      obtain ⟨j, hj, ej⟩ := List.mem_iff_getElem.mp hq
      refine Cg.trans ?_ (hz j)
      have tie : ∀ (b : List Int) (K : List (Nat × List Int)), Cg p (List.zipWith (fun c (y : Nat × List Int) => c * vec y.2 q) b K).sum (List.zipWith (fun c f => c * vec f j) b (K.map (fun x => Q.map fun q => vec x.2 q % p))).sum := fun b => by
        induction b with
        | nil => intro K; simp; exact Cg.rfl'
        | cons c b ih =>
          intro K
          cases K with
          | nil => simp; exact Cg.rfl'
          | cons y K =>
            have ev : vec (Q.map fun q => vec y.2 q % p) j = vec y.2 q % p := by
              refine vec_some ?_
              rw [List.getElem?_map, List.getElem?_eq_getElem hj, ej]
              rfl
            show Cg p (c * vec y.2 q + _) (c * vec _ j + _)
            rw [ev]
            exact (Cg.rfl'.mul (Cg.mod _).symm).add (ih K)
      exact tie b M
    -- at the place where the row with 1 begins
    obtain ⟨i, hi⟩ := List.mem_iff_getElem?.mp hx
    have hil : i < M.length := by
      have := (List.getElem?_eq_some_iff.mp hi).1
      omega
    have z := zq (M[i]).1
    have val : ∀ (b : List Int) (K : List (Nat × List Int)) (i : Nat), (∀ y ∈ K, y ∈ M) → (K.map (·.1)).Nodup → b.length = K.length → ∀ (hi : i < K.length) (x : Int), b[i]? = some x → Cg p (List.zipWith (fun c (y : Nat × List Int) => c * vec y.2 (K[i]).1) b K).sum x := fun b => by
      have none0 : ∀ (b : List Int) (K : List (Nat × List Int)) (q : Nat), (∀ y ∈ K, y ∈ M) → (∀ y ∈ K, y.1 ≠ q) → (∃ w ∈ M, w.1 = q) → Cg p (List.zipWith (fun c (y : Nat × List Int) => c * vec y.2 q) b K).sum 0 := fun b => by
        induction b with
        | nil => intro K q _ _ _; simp; exact Cg.rfl'
        | cons c b ih =>
          intro K q hK hn hw
          cases K with
          | nil => simp; exact Cg.rfl'
          | cons y K =>
            obtain ⟨w, hw1, hw2⟩ := id hw
            have o := pl.leads.other _ (mem_vecs.mpr ⟨y, hK y (by simp), rfl⟩) _ (mem_vecs.mpr ⟨w, hw1, rfl⟩) (by show y.1 ≠ w.1; rw [hw2]; exact hn y (by simp))
            have o' : Cg p (vec y.2 w.1) 0 := o
            rw [hw2] at o'
            have a := ((Cg.rfl' (p := p) (a := c)).mul o').add (ih K q (fun z hz => hK z (List.mem_cons_of_mem _ hz)) (fun z hz => hn z (List.mem_cons_of_mem _ hz)) hw)
            rw [Int.mul_zero, Int.zero_add] at a
            exact a
      induction b with
      | nil => intro K i _ _ hl hi; simp at hl; omega
      | cons c b ih =>
        intro K i hK nd hl hi x hx
        cases K with
        | nil => simp at hi
        | cons y K =>
          rw [List.map_cons, List.nodup_cons] at nd
          have hK' : ∀ z ∈ K, z ∈ M := fun z hz => hK z (List.mem_cons_of_mem _ hz)
          cases i with
          | zero =>
            cases hx
            have s : Cg p (vec y.2 y.1) 1 := pl.leads.self _ (mem_vecs.mpr ⟨y, hK y (by simp), rfl⟩)
            have a := ((Cg.rfl' (p := p) (a := c)).mul s).add (none0 b K y.1 hK' (fun z hz e => nd.1 (by rw [← e]; exact List.mem_map.mpr ⟨z, hz, rfl⟩)) ⟨y, hK y (by simp), rfl⟩)
            rw [Int.mul_one, Int.add_zero] at a
            exact a
          | succ i =>
            have hi' : i < K.length := by simpa using hi
            have o := pl.leads.other _ (mem_vecs.mpr ⟨y, hK y (by simp), rfl⟩) _ (mem_vecs.mpr ⟨K[i], hK' _ (List.getElem_mem hi'), rfl⟩) (fun e => nd.1 (by rw [show y.1 = (K[i]).1 from e]; exact List.mem_map.mpr ⟨_, List.getElem_mem hi', rfl⟩))
            have o' : Cg p (vec y.2 (K[i]).1) 0 := o
            have a := ((Cg.rfl' (p := p) (a := c)).mul o').add (ih K i hK' nd.2 (by simpa using hl) hi' x (by simpa using hx))
            rw [Int.mul_zero, Int.zero_add] at a
            exact a
    exact one_zero p1 (x1.symm.trans ((val b M i (fun _ h => h) pl.nd bl hil x hi).symm.trans z))
  · exact le
/-- no hold that stands is nearer than the still ones' free numbers tell -/
theorem near_le {p : Int} {hs h2 : List Int} {ss zs : List RowP} {M : List (Nat × List Int)} (p1 : 1 < p) (inv : ∀ u, 0 < u → u < p → ∃ c, c * u % p = 1) (b1 : Bits hs) (b2 : Bits h2) (l : h2.length = hs.length) (me : Mend p hs ss M zs) (st : Std p h2 ss) (D : List Nat) (hD : ∀ k, k < hs.length → vec hs k ≠ vec h2 k → k ∈ D) : M.length ≤ D.length := by
  have := few_le p1 inv me.pl (D.map (rdp hs)) fun v lv z => by
    obtain ⟨l1, h0⟩ := (me.lot v).mp lv
    refine st v l1 fun k hk => ?_
    rw [l] at hk
    by_cases e : vec hs k = vec h2 k
    · rw [plc_like e]
      exact h0 k hk
    · rw [plc_unlike b1 b2 e]
      exact z _ (List.mem_map.mpr ⟨k, hD k hk e, rfl⟩)
  simpa using this
theorem flip1_other {hs : List Int} {k j : Nat} (b : Bits hs) (h : j < hs.length) (ne : j ≠ k) : plc (flipL hs [k]) j = plc hs j := by
  rw [plc_flip b h, if_neg (by simpa using ne)]
theorem flip1_self {hs : List Int} {k : Nat} (b : Bits hs) (h : k < hs.length) : plc (flipL hs [k]) k = rdp hs k := by
  rw [plc_flip b h, if_pos (by simp)]
/-- by one exchange one free number more or less at most -/
theorem step_le {p : Int} {hs : List Int} {k : Nat} {ss zs zs' : List RowP} {M M' : List (Nat × List Int)} (p1 : 1 < p) (inv : ∀ u, 0 < u → u < p → ∃ c, c * u % p = 1) (b : Bits hs) (hk : k < hs.length) (me : Mend p hs ss M zs) (me' : Mend p (flipL hs [k]) ss M' zs') : M.length ≤ M'.length + 1 ∧ M'.length ≤ M.length + 1 := by
  constructor
  · have := few_le p1 inv me.pl (rdp hs k :: M'.map (·.1)) fun v lv z => by
      obtain ⟨l1, h0⟩ := (me.lot v).mp lv
      have lz := (me'.pl.lot _).mpr ((me'.lot v).mpr ⟨l1, fun j hj => by
        rw [flip_len] at hj
        by_cases e : j = k
        · rw [e, flip1_self b hk]
          exact z _ (by simp)
        · rw [flip1_other b hj e]
          exact h0 j hj⟩)
      exact ((lot_iff me'.pl.leads me'.pl.ndv).mp lz).symm.trans (own_none fun x hx => by
        obtain ⟨y, hy, rfl⟩ := mem_vecs.mp hx
        exact z _ (List.mem_cons_of_mem _ (List.mem_map.mpr ⟨y, hy, rfl⟩)))
    simpa using this
  · have := few_le p1 inv me'.pl (plc hs k :: M.map (·.1)) fun v lv z => by
      obtain ⟨l1, h0⟩ := (me'.lot v).mp lv
      rw [flip_len] at h0
      have lz := (me.pl.lot _).mpr ((me.lot v).mpr ⟨l1, fun j hj => by
        by_cases e : j = k
        · rw [e]
          exact z _ (by simp)
        · have := h0 j hj
          rw [flip1_other b hj e] at this
          exact this⟩)
      exact ((lot_iff me.pl.leads me.pl.ndv).mp lz).symm.trans (own_none fun x hx => by
        obtain ⟨y, hy, rfl⟩ := mem_vecs.mp hx
        exact z _ (List.mem_cons_of_mem _ (List.mem_map.mpr ⟨y, hy, rfl⟩)))
    simpa using this
/-- by an exchange that mending tells just one fewer -/
theorem step_mend {p : Int} {hs : List Int} {ss zs zs' : List RowP} {M M' : List (Nat × List Int)} (p1 : 1 < p) (inv : ∀ u, 0 < u → u < p → ∃ c, c * u % p = 1) (b : Bits hs) (g : Lag p hs.length ss) (me : Mend p hs ss M zs) {x : Nat × List Int} (hx : x ∈ M) (me' : Mend p (flipL hs [x.1 / 2]) ss M' zs') : M'.length + 1 = M.length := by
  obtain ⟨hk, ex⟩ := me.read p1 hx
  have up := (step_le p1 inv b hk me me').1
  have stx := me.row hx
  have dn := few_le p1 inv me'.pl ((M.map (·.1)).erase x.1) fun v lv z => by
    obtain ⟨l1, h0⟩ := (me'.lot v).mp lv
    rw [flip_len] at h0
    have vx : Cg p (v x.1) 0 := by
      have := h0 _ hk
      rw [flip1_self b hk, ← ex] at this
      exact this
    have held : ∀ j, j < hs.length → Cg p (v (plc hs j)) 0 := fun j hj => by
      by_cases e : j = x.1 / 2
      · have fa := lot_fairV g l1 stx.1
        rw [fair_sd (hs := hs)] at fa
        have one := sum_one (p := p) (j := x.1 / 2) (f := fun k => sdV hs v k * sdV hs (vec x.2) (hs.length + k) - sdV hs (vec x.2) k * sdV hs v (hs.length + k)) hs.length hk fun k hk' ne => by
          have z2 : Cg p (sdV hs (vec x.2) k) 0 := by
            rw [sd_plc hk']
            exact stx.2 k hk'
          have z1 : Cg p (sdV hs v k) 0 := by
            rw [sd_plc hk', ← flip1_other b hk' ne]
            exact h0 k hk'
          have a2 := z1.mul (Cg.rfl' (p := p) (a := sdV hs (vec x.2) (hs.length + k)))
          have b2 := z2.mul (Cg.rfl' (p := p) (a := sdV hs v (hs.length + k)))
          rw [Int.zero_mul] at a2 b2
          exact a2.sub b2
        have t := one.symm.trans fa
        have z2 : Cg p (sdV hs (vec x.2) (x.1 / 2)) 0 := by
          rw [sd_plc hk]
          exact stx.2 _ hk
        have b2 := z2.mul (Cg.rfl' (p := p) (a := sdV hs v (hs.length + x.1 / 2)))
        rw [Int.zero_mul] at b2
        have t2 : Cg p ((sdV hs v (x.1 / 2) * sdV hs (vec x.2) (hs.length + x.1 / 2) - sdV hs (vec x.2) (x.1 / 2) * sdV hs v (hs.length + x.1 / 2)) + sdV hs (vec x.2) (x.1 / 2) * sdV hs v (hs.length + x.1 / 2)) (0 + 0) := t.add b2
        rw [show ∀ a b : Int, a - b + b = a from fun a b => by omega] at t2
        have nz : ¬ Cg p (sdV hs (vec x.2) (hs.length + x.1 / 2)) 0 := fun w => by
          rw [sd_read hk, ← ex] at w
          have s : Cg p (vec x.2 x.1) 1 := me.pl.leads.self _ (mem_vecs.mpr ⟨x, hx, rfl⟩)
          by_cases y : vec hs (x.1 / 2) = 0
          · rw [if_pos y, Int.one_mul] at w
            exact one_zero p1 (s.symm.trans w)
          · rw [if_neg y] at w
            obtain ⟨c, hc⟩ := w
            exact one_zero p1 (s.symm.trans ⟨-c, by grind⟩)
        have r := cancel0 p1 inv nz t2
        rw [sd_plc hk] at r
        rw [e]
        exact r
      · have := h0 j hj
        rw [flip1_other b hj e] at this
        exact this
    have lz := (me.pl.lot _).mpr ((me.lot v).mpr ⟨l1, held⟩)
    exact ((lot_iff me.pl.leads me.pl.ndv).mp lz).symm.trans (own_none fun y' hy' => by
      obtain ⟨y, hy, rfl⟩ := mem_vecs.mp hy'
      by_cases e : y.1 = x.1
      · show Cg p (v y.1) 0
        rw [e]
        exact vx
      · exact z _ ((me.pl.nd.mem_erase_iff).mpr ⟨e, List.mem_map.mpr ⟨y, hy, rfl⟩⟩))
  rw [List.length_erase_of_mem (List.mem_map.mpr ⟨x, hx, rfl⟩), List.length_map] at dn
  have pos : 0 < M.length := List.length_pos_of_mem hx
  omega
end Lin
set_option linter.all false
/-! rows told from the last post on -/
namespace Lin
/-- the place that a place is from the other end -/
def rv (m i : Nat) : Nat := if i < 2 * m then 2 * (m - 1 - i / 2) + i % 2 else i
theorem rv_rv {m i : Nat} : rv m (rv m i) = i := by
  unfold rv
  by_cases h : i < 2 * m
  · rw [if_pos h, if_pos (by omega)]
    omega
  · rw [if_neg h, if_neg h]
theorem rv_vec {r : RowP} {m : Nat} (l : r.length = m) (i : Nat) : vec (flatR r.reverse) i = vec (flatR r) (rv m i) := by
  unfold rv
  by_cases h : i < 2 * m
  · rw [if_pos h]
    obtain ⟨a, b⟩ := vec_flatP r.reverse (i / 2)
    obtain ⟨c, d⟩ := vec_flatP r (m - 1 - i / 2)
    have e : r.reverse.getD (i / 2) (0, 0) = r.getD (m - 1 - i / 2) (0, 0) := by
      rw [List.getD_eq_getElem?_getD, List.getD_eq_getElem?_getD, List.getElem?_reverse (by omega), l]
    rcases Nat.mod_two_eq_zero_or_one i with o | o
    · rw [show vec (flatR r.reverse) i = vec (flatR r.reverse) (2 * (i / 2)) by congr 1; omega, a, e, o, Nat.add_zero, c]
    · rw [show vec (flatR r.reverse) i = vec (flatR r.reverse) (2 * (i / 2) + 1) by congr 1; omega, b, e, o, d]
  · rw [if_neg h, vec_out (by rw [flat_len, List.length_reverse, l]; omega), vec_out (by rw [flat_len, l]; omega)]
theorem lot_rv {p : Int} {m : Nat} {ss : List RowP} (l : ∀ r ∈ ss, r.length = m) {u : Vc} (h : Lot p (spn (ss.map flatR)) u) : Lot p (spn ((ss.map List.reverse).map flatR)) fun i => u (rv m i) := by
  induction h with
  | zero => exact .eqv .zero fun i => Cg.rfl'
  | @add u v c _ hv ih =>
    obtain ⟨f, hf, rfl⟩ := hv
    obtain ⟨r, hr, rfl⟩ := List.mem_map.mp hf
    refine .eqv (Lot.comb c ih (.of ⟨flatR r.reverse, List.mem_map.mpr ⟨r.reverse, List.mem_map.mpr ⟨r, hr, rfl⟩, rfl⟩, rfl⟩)) fun i => ?_
    rw [rv_vec (l r hr)]
    exact Cg.rfl'
  | eqv _ e ih => exact .eqv ih fun i => e _
theorem rev_rev (ss : List RowP) : (ss.map List.reverse).map List.reverse = ss := by
  rw [List.map_map]
  have : (List.reverse ∘ List.reverse : RowP → RowP) = id := funext fun r => List.reverse_reverse r
  rw [this, List.map_id]
theorem lot_rv_iff {p : Int} {m : Nat} {ss : List RowP} (l : ∀ r ∈ ss, r.length = m) (u : Vc) : Lot p (spn ((ss.map List.reverse).map flatR)) (fun i => u (rv m i)) ↔ Lot p (spn (ss.map flatR)) u := by
  constructor
  · intro h
    have l' : ∀ r ∈ ss.map List.reverse, r.length = m := fun r hr => by
      obtain ⟨s, hs, rfl⟩ := List.mem_map.mp hr
      rw [List.length_reverse, l s hs]
    have := lot_rv l' h
    rw [rev_rev] at this
    refine .eqv this fun i => ?_
    rw [rv_rv]
    exact Cg.rfl'
  · exact lot_rv l
theorem plc_rev {hs : List Int} {k : Nat} (hk : k < hs.length) : rv hs.length (plc hs.reverse k) = plc hs (hs.length - 1 - k) := by
  have e : vec hs.reverse k = vec hs (hs.length - 1 - k) := by
    show hs.reverse.getD k 0 = hs.getD _ 0
    rw [List.getD_eq_getElem?_getD, List.getD_eq_getElem?_getD, List.getElem?_reverse hk]
  unfold plc rv
  rw [e]
  split
  · rw [if_pos (by omega)]
    omega
  · rw [if_pos (by omega)]
    omega
theorem std_rev {p : Int} {hs : List Int} {ss : List RowP} (l : ∀ r ∈ ss, r.length = hs.length) (st : Std p hs.reverse (ss.map List.reverse)) : Std p hs ss := by
  intro u lu z
  have := st _ (lot_rv l lu) fun k hk => by
    rw [List.length_reverse] at hk
    show Cg p (u (rv hs.length (plc hs.reverse k))) 0
    rw [plc_rev hk]
    exact z _ (by omega)
  intro i
  have w := this (rv hs.length i)
  have w' : Cg p (u (rv hs.length (rv hs.length i))) 0 := w
  rw [rv_rv] at w'
  exact w'
theorem lag_rev {p : Int} {m : Nat} {ss : List RowP} (g : Lag p m ss) : Lag p m (ss.map List.reverse) := by
  refine ⟨fun r hr => ?_, by rw [List.length_map, g.len], fun i r hr => ?_, fun r hr s hs => ?_⟩
  · obtain ⟨s, hs, rfl⟩ := List.mem_map.mp hr
    exact ⟨fun u hu => (g.fit s hs).1 u (List.mem_reverse.mp hu), by rw [List.length_reverse]; exact (g.fit s hs).2⟩
  · rw [List.getElem?_map] at hr
    obtain ⟨s, hs, rfl⟩ := Option.map_eq_some_iff.mp hr
    obtain ⟨q, z, nz⟩ := g.free i s hs
    refine ⟨rv m q, fun t ht => ?_, ?_⟩
    · rw [← List.map_take] at ht
      obtain ⟨t', ht', rfl⟩ := List.mem_map.mp ht
      rw [rv_vec (g.fit t' (List.mem_of_mem_take ht')).2, rv_rv]
      exact z t' ht'
    · rw [rv_vec (g.fit s (List.mem_of_getElem? hs)).2, rv_rv]
      exact nz
  · obtain ⟨r', hr', rfl⟩ := List.mem_map.mp hr
    obtain ⟨s', hs', rfl⟩ := List.mem_map.mp hs
    have e : (List.zipWith (fun u v : Int × Int => u.1 * v.2 - v.1 * u.2) r'.reverse s'.reverse).sum = (List.zipWith (fun u v : Int × Int => u.1 * v.2 - v.1 * u.2) r' s').sum := by
      rw [← List.reverse_zipWith (by rw [(g.fit r' hr').2, (g.fit s' hs').2]), List.sum_reverse]
    rw [e]
    exact g.fair r' hr' s' hs'
/-- noughts exchanged at some posts, from the other end -/
theorem flip0_rev {m : Nat} {ps : List Nat} (lt : ∀ k ∈ ps, k < m) : (flipL (List.replicate m 0) (ps.map fun k => m - 1 - k)).reverse = flipL (List.replicate m 0) ps := by
  have zl : (List.replicate m (0 : Int)).length = m := by simp
  have z0 : ∀ k, vec (List.replicate m (0 : Int)) k = 0 := fun k => by
    show (List.replicate m (0 : Int)).getD k 0 = 0
    rw [List.getD_eq_getElem?_getD, List.getElem?_replicate]
    split <;> rfl
  refine List.ext_getElem? fun k => ?_
  by_cases hk : k < m
  · have g1 : ∀ (qs : List Nat) (j : Nat), j < m → (flipL (List.replicate m 0) qs)[j]? = some (if j ∈ qs then 1 else 0) := fun qs j hj => by
      unfold flipL
      rw [zl, List.getElem?_map, List.getElem?_range hj]
      simp only [Option.map_some, z0]
      split <;> rfl
    rw [List.getElem?_reverse (by rw [flip_len, zl]; exact hk), flip_len, zl, g1 _ _ (by omega), g1 _ _ hk]
    congr 1
    have iff : (m - 1 - k ∈ ps.map fun k => m - 1 - k) ↔ k ∈ ps := by
      constructor
      · intro h
        obtain ⟨j, hj, e⟩ := List.mem_map.mp h
        have := lt j hj
        rw [show k = j by omega]
        exact hj
      · intro h
        exact List.mem_map.mpr ⟨k, h, rfl⟩
    by_cases h : k ∈ ps
    · rw [if_pos h, if_pos (iff.mpr h)]
    · rw [if_neg h, if_neg (fun w => h (iff.mp w))]
  · rw [List.getElem?_eq_none (by rw [List.length_reverse, flip_len, zl]; omega), List.getElem?_eq_none (by rw [flip_len, zl]; omega)]
end Lin
set_option linter.all false
/-! lots of units, by held numbers; their own mirror; one table -/
namespace Lin
theorem lot_dot {p : Int} : ∀ {fs : List (List Int)} {a u : Vc}, (∀ j, Cg p (u j) (dot a (col fs j) fs.length)) → Lot p (spn fs) u
  | [], a, u, h => .eqv .zero fun j => (h j).symm
  | f :: fs, a, u, h => by
    have l1 : Lot p (spn fs) (fun j => dot (shf a) (col fs j) fs.length) := lot_dot (a := shf a) fun j => Cg.rfl'
    have l2 : Lot p (spn (f :: fs)) (fun j => dot (shf a) (col fs j) fs.length) := spn_sub (fun g hg => List.mem_cons_of_mem _ hg) l1
    refine .eqv (Lot.comb (a 0) l2 (.of ⟨f, by simp, rfl⟩)) fun j => ((h j).trans ?_).symm
    show Cg p (a 0 * col (f :: fs) j 0 + dot (shf a) (shf (col (f :: fs) j)) fs.length) _
    rw [shf_col]
    exact ⟨0, by show a 0 * vec f j + _ = _; grind⟩
theorem units_col {p : Int} {hs : List Int} {gs : List (List Int)} {i j : Nat} (h : i < hs.length) : Cg p (col ((unitsP p hs gs).map flatR) j i) (stV hs gs hs.length (vec (unitL hs.length i)) j) := by
  have e : col ((unitsP p hs gs).map flatR) j i = vec (flatR (stP p hs gs (unitL hs.length i))) j := by
    unfold col
    rw [List.getD_eq_getElem?_getD, List.getElem?_map, units_get h]
    rfl
  rw [e]
  exact st_vec j
theorem units_dot {p : Int} {hs : List Int} {gs : List (List Int)} {a : Vc} {j : Nat} : Cg p (dot a (col ((unitsP p hs gs).map flatR) j) ((unitsP p hs gs).map flatR).length) (stV hs gs hs.length a j) := by
  rw [List.length_map, units_len, ← st_dot]
  exact dot_cgN _ (fun _ _ => Cg.rfl') fun i hi => units_col hi
/-- a lot of units: all stands of held numbers -/
theorem units_lot {p : Int} {hs : List Int} {gs : List (List Int)} {u : Vc} : Lot p (spn ((unitsP p hs gs).map flatR)) u ↔ ∃ a, Eqv p u (stV hs gs hs.length a) := by
  constructor
  · intro h
    obtain ⟨a, ha⟩ := lot_coef h
    exact ⟨a, fun j => (ha j).trans units_dot⟩
  · rintro ⟨a, ha⟩
    exact lot_dot (a := a) fun j => (ha j).trans units_dot.symm
theorem plc_half {hs : List Int} {k : Nat} : plc hs k / 2 = k := by
  unfold plc
  split <;> omega
theorem sd_stV {hs : List Int} {gs : List (List Int)} {a : Vc} {j : Nat} (h : j < hs.length) : sdV hs (stV hs gs hs.length a) j = a j ∧ sdV hs (stV hs gs hs.length a) (hs.length + j) = toldV gs a hs.length j := by
  constructor
  · rw [sd_plc h]
    unfold stV
    rw [plc_half]
    have l : plc hs j < 2 * hs.length := by
      unfold plc
      split <;> omega
    rw [if_pos l]
    unfold plc
    by_cases z : vec hs j = 0
    · rw [if_pos z, if_pos (propext ⟨fun _ => by omega, fun _ => z⟩)]
    · rw [if_neg z, if_pos (propext ⟨fun y => absurd y z, fun y => by omega⟩)]
  · unfold sdV stV
    rw [if_neg (by omega), if_pos (by omega)]
    have e : hs.length + j - hs.length = j := by omega
    have e1 : (2 * j + 1) / 2 = j := by omega
    have e2 : 2 * j / 2 = j := by omega
    rw [e, e1, e2]
    by_cases z : vec hs j = 0
    · rw [if_pos z, if_pos (by omega), if_neg (fun y => by have := y.mp z; omega), if_neg (by omega)]
    · rw [if_neg z, if_pos (by omega), if_neg (fun y => z (y.mpr (by omega))), if_pos (by omega)]
      omega
theorem by_sides {p : Int} {hs : List Int} {v w : Vc} (sv : ∀ i, 2 * hs.length ≤ i → Cg p (v i) 0) (sw : ∀ i, 2 * hs.length ≤ i → Cg p (w i) 0) (h1 : ∀ j, j < hs.length → Cg p (sdV hs v j) (sdV hs w j)) (h2 : ∀ j, j < hs.length → Cg p (sdV hs v (hs.length + j)) (sdV hs w (hs.length + j))) : Eqv p v w := fun i => by
  by_cases hi : i < 2 * hs.length
  · rw [← rs_sd (hs := hs) (v := v) hi, ← rs_sd (hs := hs) (v := w) hi]
    have hk : i / 2 < hs.length := by omega
    have a := h1 _ hk
    have b := h2 _ hk
    have c : Cg p (-sdV hs v (hs.length + i / 2)) (-sdV hs w (hs.length + i / 2)) := by
      have := (Cg.rfl' (p := p) (a := 0)).sub b
      have e1 : ∀ x : Int, 0 - x = -x := fun x => by omega
      rw [e1, e1] at this
      exact this
    unfold rsV
    rw [if_pos hi, if_pos hi]
    split
    · split
      · exact a
      · exact b
    · split
      · exact c
      · exact a
  · exact (sv i (by omega)).trans (sw i (by omega)).symm
theorem stV_out {hs : List Int} {gs : List (List Int)} {m : Nat} {a : Vc} {i : Nat} (h : 2 * m ≤ i) : stV hs gs m a i = 0 := by
  unfold stV
  rw [if_neg (by omega)]
/-- what meets all units with 0 is a stand -/
theorem units_mirror {p : Int} {hs : List Int} {gs : List (List Int)} {w : Vc} (sy : Sy gs) (sw : ∀ i, 2 * hs.length ≤ i → Cg p (w i) 0) (h : ∀ k, k < hs.length → Cg p (dot (crs (vec (flatR (stP p hs gs (unitL hs.length k))))) w (2 * hs.length)) 0) : Eqv p w (stV hs gs hs.length (sdV hs w)) := by
  refine by_sides sw (fun i hi => by rw [stV_out hi]; exact Cg.rfl') (fun j hj => ?_) (fun j hj => ?_)
  · rw [(sd_stV hj).1]
    exact Cg.rfl'
  · rw [(sd_stV hj).2]
    have e := h j hj
    rw [fair_sd, sum_sub] at e
    have es : Eqv p (sdV hs (vec (flatR (stP p hs gs (unitL hs.length j))))) (sdV hs (stV hs gs hs.length (vec (unitL hs.length j)))) := sd_eqv st_vec
    have x1 : Cg p (dot (fun k => sdV hs (vec (flatR (stP p hs gs (unitL hs.length j)))) k) (fun k => sdV hs w (hs.length + k)) hs.length) (sdV hs w (hs.length + j)) := by
      have := dot_cgN (p := p) hs.length (u := fun k => sdV hs (vec (flatR (stP p hs gs (unitL hs.length j)))) k) (v := vec (unitL hs.length j)) (w := fun k => sdV hs w (hs.length + k)) (x := fun k => sdV hs w (hs.length + k)) (fun i hi => (es i).trans (by rw [(sd_stV hi).1]; exact Cg.rfl')) fun _ _ => Cg.rfl'
      rw [dot_unit hj] at this
      exact this
    have x2 : Cg p (dot (fun k => sdV hs w k) (fun k => sdV hs (vec (flatR (stP p hs gs (unitL hs.length j)))) (hs.length + k)) hs.length) (toldV gs (sdV hs w) hs.length j) := by
      refine dot_cgN hs.length (fun _ _ => Cg.rfl') fun i hi => (es _).trans ?_
      rw [(sd_stV hi).2]
      unfold toldV
      rw [dot_unit hj, sy]
      exact Cg.rfl'
    have y := (x1.symm.sub x2.symm).trans e
    have := y.add (Cg.rfl' (p := p) (a := toldV gs (sdV hs w) hs.length j))
    have e1 : sdV hs w (hs.length + j) - toldV gs (sdV hs w) hs.length j + toldV gs (sdV hs w) hs.length j = sdV hs w (hs.length + j) := by omega
    have e2 : 0 + toldV gs (sdV hs w) hs.length j = toldV gs (sdV hs w) hs.length j := by omega
    rw [e1, e2] at this
    exact this
theorem vec_flat_out {r : RowP} {m i : Nat} (l : r.length = m) (h : 2 * m ≤ i) : vec (flatR r) i = 0 := vec_out (by rw [flat_len, l]; exact h)
theorem unit_mem {p : Int} {hs : List Int} {gs : List (List Int)} {k : Nat} (h : k < hs.length) : stP p hs gs (unitL hs.length k) ∈ unitsP p hs gs := List.mem_of_getElem? (units_get h)
theorem alike_lot {p : Int} {hs : List Int} {gs : List (List Int)} {r : RowP} (sy : Sy gs) (lr : r.length = hs.length) (h : ∀ s ∈ unitsP p hs gs, Cg p (List.zipWith (fun u v => u.1 * v.2 - v.1 * u.2) s r).sum 0) : Lot p (spn ((unitsP p hs gs).map flatR)) (vec (flatR r)) := by
  refine units_lot.mpr ⟨_, units_mirror sy (fun i hi => by rw [vec_flat_out lr hi]; exact Cg.rfl') fun k hk => ?_⟩
  have := h _ (unit_mem hk)
  rw [meet_dot (by rw [st_len, lr]), st_len] at this
  exact this
theorem meet_swap (p : Int) : ∀ (r s : RowP), Cg p (List.zipWith (fun u v => u.1 * v.2 - v.1 * u.2) r s).sum (-(List.zipWith (fun u v => u.1 * v.2 - v.1 * u.2) s r).sum)
  | [], s => by simp [Cg.rfl']
  | _ :: _, [] => by simp [Cg.rfl']
  | u :: r, v :: s => by
    obtain ⟨c, hc⟩ := meet_swap p r s
    refine ⟨c, ?_⟩
    simp only [List.zipWith_cons_cons, List.sum_cons]
    rw [hc]
    grind
/-- two tables' lots are one just where each unit of the one meets each of the other with 0 -/
theorem alike_iff {p : Int} {h1 h2 : List Int} {g1 g2 : List (List Int)} (p1 : 1 < p) (s1 : Sy g1) (s2 : Sy g2) (l : h2.length = h1.length) :
    (∀ r ∈ unitsP p h1 g1, ∀ s ∈ unitsP p h2 g2, Cg p (List.zipWith (fun u v => u.1 * v.2 - v.1 * u.2) r s).sum 0) ↔ ∀ u, Lot p (spn ((unitsP p h1 g1).map flatR)) u ↔ Lot p (spn ((unitsP p h2 g2).map flatR)) u := by
  have len1 : ∀ r ∈ unitsP p h1 g1, r.length = h1.length := fun r hr => (units_fit p1 r hr).2
  have len2 : ∀ r ∈ unitsP p h2 g2, r.length = h2.length := fun r hr => (units_fit p1 r hr).2
  constructor
  · intro h u
    refine Lot.iff (fun v hv => ?_) (fun v hv => ?_) u
    · obtain ⟨f, hf, rfl⟩ := hv
      obtain ⟨r, hr, rfl⟩ := List.mem_map.mp hf
      refine alike_lot s2 (by rw [len1 r hr, l]) fun s hs => ?_
      obtain ⟨c, hc⟩ := h r hr s hs
      obtain ⟨d, hd⟩ := meet_swap p s r
      exact ⟨d - c, by rw [hd, hc]; grind⟩
    · obtain ⟨f, hf, rfl⟩ := hv
      obtain ⟨s, hs, rfl⟩ := List.mem_map.mp hf
      exact alike_lot s1 (by rw [len2 s hs, l]) fun r hr => h r hr s hs
  · intro e r hr s hs
    exact lot_fair len1 (units_fair s1) (len1 r hr) (by rw [len2 s hs, l]) (.of ⟨flatR r, List.mem_map.mpr ⟨r, hr, rfl⟩, rfl⟩) ((e _).mpr (.of ⟨flatR s, List.mem_map.mpr ⟨s, hs, rfl⟩, rfl⟩))
theorem cg_small {p a b : Int} (ha : 0 ≤ a ∧ a < p) (hb : 0 ≤ b ∧ b < p) (h : Cg p a b) : a = b := by
  obtain ⟨c, hc⟩ := h
  have e1 : a % p = a := Int.emod_eq_of_lt ha.1 ha.2
  have e2 : b % p = b := Int.emod_eq_of_lt hb.1 hb.2
  rw [← e1, hc, Int.add_mul_emod_self_left, e2]
theorem grid_ext {p : Int} {m : Nat} {g1 g2 : List (List Int)} (p1 : 1 < p) (t1 : Tbl p m g1) (t2 : Tbl p m g2) (h : ∀ k j, k < m → j < m → Cg p (col g1 j k) (col g2 j k)) : g1 = g2 := by
  refine List.ext_getElem (by rw [t1.len, t2.len]) fun k h1 h2 => ?_
  have hk : k < m := by rw [← t1.len]; exact h1
  obtain ⟨l1, r1⟩ := t1.ok g1[k] (List.getElem_mem h1)
  obtain ⟨l2, r2⟩ := t2.ok g2[k] (List.getElem_mem h2)
  refine List.ext_getElem (by rw [l1, l2]) fun j h3 h4 => ?_
  have e := h k j hk (by omega)
  have c1 : col g1 j k = (g1[k])[j] := by
    unfold col
    rw [List.getD_eq_getElem?_getD, List.getElem?_eq_getElem h1]
    exact vec_some (List.getElem?_eq_getElem h3)
  have c2 : col g2 j k = (g2[k])[j] := by
    unfold col
    rw [List.getD_eq_getElem?_getD, List.getElem?_eq_getElem h2]
    exact vec_some (List.getElem?_eq_getElem h4)
  rw [c1, c2] at e
  exact cg_small (r1 _ (List.getElem_mem h3)) (r2 _ (List.getElem_mem h4)) e
theorem one_table {p : Int} {hs : List Int} {g1 g2 : List (List Int)} (p1 : 1 < p) (t1 : Tbl p hs.length g1) (t2 : Tbl p hs.length g2) (e : ∀ u, Lot p (spn ((unitsP p hs g1).map flatR)) u ↔ Lot p (spn ((unitsP p hs g2).map flatR)) u) : g1 = g2 := by
  refine grid_ext p1 t1 t2 fun k j hk hj => ?_
  obtain ⟨a, ha⟩ := units_lot.mp ((e _).mp (units_lot.mpr ⟨vec (unitL hs.length k), Eqv.refl⟩))
  have es := sd_eqv (hs := hs) ha
  have ea : ∀ i, i < hs.length → Cg p (a i) (vec (unitL hs.length k) i) := fun i hi => by
    have := es i
    rw [(sd_stV hi).1, (sd_stV hi).1] at this
    exact this.symm
  have := es (hs.length + j)
  rw [(sd_stV hj).2, (sd_stV hj).2] at this
  unfold toldV at this
  rw [dot_unit hk] at this
  refine this.trans ?_
  have x := dot_cgN (p := p) hs.length (w := col g2 j) (x := col g2 j) ea fun _ _ => Cg.rfl'
  rw [dot_unit hk] at x
  exact x
/-- the lot of a fair thing's noughts: each unit has one 1 -/
theorem col_zero {m k a b : Nat} : col (List.replicate k (List.replicate m 0)) b a = 0 := by
  unfold col
  rw [List.getD_eq_getElem?_getD, List.getElem?_replicate]
  split
  · show (List.replicate m (0 : Int)).getD b 0 = 0
    rw [List.getD_eq_getElem?_getD, List.getElem?_replicate]
    split <;> rfl
  · rfl
theorem dot_cols0 {m k j : Nat} {a : Vc} : ∀ n, dot a (col (List.replicate k (List.replicate m 0)) j) n = 0 := fun n => by
  have := dot_ext n (u := a) (v := a) (w := col (List.replicate k (List.replicate m 0)) j) (x := fun _ => 0) (fun _ _ => rfl) fun i _ => col_zero
  rw [this, dot_zero]
/-- units by noughts do not hang on the prime -/
def oneP (hs : List Int) (k : Nat) : RowP := (List.range hs.length).map fun j => if vec hs j = 0 then (if j = k then 1 else 0, 0) else (0, if j = k then 1 else 0)
theorem one_get {hs : List Int} {j k : Nat} (h : j < hs.length) : (oneP hs k)[j]? = some (if vec hs j = 0 then (if j = k then 1 else 0, 0) else (0, if j = k then 1 else 0)) := by
  unfold oneP
  rw [List.getElem?_map, List.getElem?_range h]
  rfl
theorem one_len {hs : List Int} {k : Nat} : (oneP hs k).length = hs.length := by
  unfold oneP
  simp
theorem unit0 {p : Int} {hs : List Int} {k : Nat} : stP p hs (List.replicate hs.length (List.replicate hs.length 0)) (unitL hs.length k) = oneP hs k := by
  refine List.ext_getElem? fun j => ?_
  by_cases hj : j < hs.length
  · have t0 : toldV (List.replicate hs.length (List.replicate hs.length 0)) (vec (unitL hs.length k)) hs.length j = 0 := dot_cols0 _
    rw [st_get (p := p) (gs := List.replicate hs.length (List.replicate hs.length 0)) (ns := unitL hs.length k) hj, one_get hj, t0, unit_at]
    have z0 : (0 : Int) % p = 0 := by simp
    have z1 : ((0 : Int) - 0) % p = 0 := by simp
    have e : (if j = k ∧ j < hs.length then (1 : Int) else 0) = if j = k then 1 else 0 := by
      by_cases y : j = k
      · rw [if_pos ⟨y, hj⟩, if_pos y]
      · rw [if_neg (fun x => y x.1), if_neg y]
    rw [z0, z1, e]
  · rw [List.getElem?_eq_none (by rw [st_len]; omega), List.getElem?_eq_none (by rw [one_len]; omega)]
def onesP (hs : List Int) : List RowP := (List.range hs.length).map (oneP hs)
theorem units0 {p : Int} {hs : List Int} : unitsP p hs (List.replicate hs.length (List.replicate hs.length 0)) = onesP hs := by
  unfold unitsP onesP
  exact List.map_congr_left fun k _ => unit0
theorem one_vec {hs : List Int} {k i : Nat} (hk : k < hs.length) : vec (flatR (oneP hs k)) i = if i = plc hs k then 1 else 0 := by
  obtain ⟨a, b⟩ := vec_flatP (oneP hs k) (i / 2)
  by_cases hi : i / 2 < hs.length
  · have e : (oneP hs k).getD (i / 2) (0, 0) = if vec hs (i / 2) = 0 then (if i / 2 = k then 1 else 0, 0) else (0, if i / 2 = k then 1 else 0) := by
      rw [List.getD_eq_getElem?_getD, one_get hi]
      rfl
    rw [e] at a b
    unfold plc
    rcases Nat.mod_two_eq_zero_or_one i with o | o
    · rw [show vec (flatR (oneP hs k)) i = vec (flatR (oneP hs k)) (2 * (i / 2)) by congr 1; omega, a]
      by_cases y : i / 2 = k
      · rw [y]
        by_cases z : vec hs k = 0
        · rw [if_pos z, if_pos z, if_pos rfl, if_pos (show i = 2 * k by omega)]
        · rw [if_neg z, if_neg z, if_neg (show ¬ i = 2 * k + 1 by omega)]
      · rw [if_neg (show ¬ i = (if vec hs k = 0 then 2 * k else 2 * k + 1) by split <;> omega)]
        by_cases z : vec hs (i / 2) = 0
        · rw [if_pos z, if_neg y]
        · rw [if_neg z]
    · rw [show vec (flatR (oneP hs k)) i = vec (flatR (oneP hs k)) (2 * (i / 2) + 1) by congr 1; omega, b]
      by_cases y : i / 2 = k
      · rw [y]
        by_cases z : vec hs k = 0
        · rw [if_pos z, if_pos z, if_neg (show ¬ i = 2 * k by omega)]
        · rw [if_neg z, if_neg z, if_pos rfl, if_pos (show i = 2 * k + 1 by omega)]
      · rw [if_neg (show ¬ i = (if vec hs k = 0 then 2 * k else 2 * k + 1) by split <;> omega)]
        by_cases z : vec hs (i / 2) = 0
        · rw [if_pos z]
        · rw [if_neg z, if_neg y]
  · rw [vec_flat_out one_len (by omega), if_neg]
    unfold plc
    split <;> omega
theorem plc_lt {hs : List Int} {j k : Nat} (h : j < k) : plc hs j < plc hs k := by
  unfold plc
  split <;> split <;> omega
theorem ones_plain {p : Int} {hs : List Int} (p1 : 1 < p) : Pln p (2 * hs.length) ((List.range hs.length).map (plc hs)) ((onesP hs).map flatR) := by
  refine ⟨by unfold onesP; simp, ?_, fun q hq => ?_, fun i q f eq ef => ?_⟩
  · rw [List.pairwise_map]
    exact List.pairwise_lt_range.imp fun {a b} h => plc_lt h
  · obtain ⟨k, hk, rfl⟩ := List.mem_map.mp hq
    have := List.mem_range.mp hk
    unfold plc
    split <;> omega
  · rw [List.getElem?_map] at eq
    obtain ⟨k, ek, rfl⟩ := Option.map_eq_some_iff.mp eq
    have hi : i < hs.length := by
      have := (List.getElem?_eq_some_iff.mp ek).1
      rw [List.length_range] at this
      exact this
    rw [List.getElem?_range hi] at ek
    cases ek
    unfold onesP at ef
    rw [List.getElem?_map, List.getElem?_map, List.getElem?_range hi] at ef
    cases ef
    refine ⟨by rw [flat_len, one_len], flat_rgP (fun u hu => ?_), fun j hj => by rw [one_vec hi, if_neg (by omega)], by rw [one_vec hi, if_pos rfl], fun o ho lt => by rw [one_vec hi, if_neg (by omega)]⟩
    unfold oneP at hu
    obtain ⟨j, _, rfl⟩ := List.mem_map.mp hu
    by_cases z : vec hs j = 0
    · rw [if_pos z]
      by_cases y : j = i
      · rw [if_pos y]; exact ⟨⟨by decide, p1⟩, ⟨by decide, by omega⟩⟩
      · rw [if_neg y]; exact ⟨⟨by decide, by omega⟩, ⟨by decide, by omega⟩⟩
    · rw [if_neg z]
      by_cases y : j = i
      · rw [if_pos y]; exact ⟨⟨by decide, by omega⟩, ⟨by decide, p1⟩⟩
      · rw [if_neg y]; exact ⟨⟨by decide, by omega⟩, ⟨by decide, by omega⟩⟩
theorem zip_snd : ∀ {qs : List Nat} {fs : List (List Int)}, fs.length = qs.length → (qs.zip fs).map (·.2) = fs
  | [], [], _ => rfl
  | [], _ :: _, h => by simp at h
  | _ :: _, [], h => by simp at h
  | q :: qs, f :: fs, h => by
    rw [List.zip_cons_cons, List.map_cons, zip_snd (by simpa using h)]
/-- so the plain rows are these -/
theorem ones_rows {p : Int} {hs : List Int} {L : List (Nat × List Int)} {fs : List (List Int)} (p1 : 1 < p) (pl : PL p (2 * hs.length) fs L) (up : Up L) (e : ∀ u, Lot p (spn fs) u ↔ Lot p (spn ((onesP hs).map flatR)) u) : L.map (·.2) = (onesP hs).map flatR := by
  obtain ⟨pl2, up2⟩ := (ones_plain (hs := hs) p1).pl
  rw [pl.one p1 pl2 up up2 e, zip_snd (by unfold onesP; simp)]
end Lin
set_option linter.all false
/-! corners of a table: how much is still by another hold -/
namespace Lin
theorem stV_comb {hs : List Int} {gs : List (List Int)} {m : Nat} {a b : Vc} {c : Int} (i : Nat) : stV hs gs m (fun k => a k + c * b k) i = stV hs gs m a i + c * stV hs gs m b i := by
  have t : ∀ j, toldV gs (fun k => a k + c * b k) m j = toldV gs a m j + c * toldV gs b m j := fun j => by
    unfold toldV
    exact dot_combL m a b _
  unfold stV
  split
  · split
    · rfl
    · split
      · rw [t]; grind
      · rw [t]
  · simp
theorem stV_cg {p : Int} {hs : List Int} {gs : List (List Int)} {m : Nat} {a b : Vc} (h : ∀ k, k < m → Cg p (a k) (b k)) : Eqv p (stV hs gs m a) (stV hs gs m b) := fun i => by
  have t : ∀ j, Cg p (toldV gs a m j) (toldV gs b m j) := fun j => dot_cgN m h fun _ _ => Cg.rfl'
  unfold stV
  split
  · split
    · exact h _ (by omega)
    · split
      · obtain ⟨c, hc⟩ := t (i / 2)
        exact ⟨-c, by rw [hc]; grind⟩
      · exact t _
  · exact Cg.rfl'
theorem stV_zero {hs : List Int} {gs : List (List Int)} {m : Nat} (i : Nat) : stV hs gs m (fun _ => 0) i = 0 := by
  have t : ∀ j, toldV gs (fun _ => 0) m j = 0 := fun j => dot_zeroL m _
  unfold stV
  split
  · split
    · rfl
    · split
      · rw [t]; rfl
      · rw [t]
  · rfl
theorem sum_filter {p : Int} {f : Nat → Int} {P : Nat → Bool} : ∀ xs : List Nat, (∀ k ∈ xs, P k = false → Cg p (f k) 0) → Cg p (xs.map f).sum ((xs.filter P).map f).sum
  | [], _ => Cg.rfl'
  | x :: xs, h => by
    have ih := sum_filter (f := f) xs fun k hk => h k (List.mem_cons_of_mem _ hk)
    cases e : P x with
    | true =>
      rw [List.filter_cons_of_pos e, List.map_cons, List.map_cons, List.sum_cons, List.sum_cons]
      exact Cg.rfl'.add ih
    | false =>
      rw [List.filter_cons_of_neg (by rw [e]; decide), List.map_cons, List.sum_cons]
      have := (h x (by simp) e).add ih
      rw [Int.zero_add] at this
      exact this
theorem sum_dotD {a c : Vc} : ∀ D : List Nat, (D.map fun k => a k * c k).sum = dot (fun x => a (D.getD x 0)) (fun x => c (D.getD x 0)) D.length
  | [] => rfl
  | d :: D => by
    rw [List.map_cons, List.sum_cons, sum_dotD D]
    rfl
/-- the posts told -/
def Dl (P : Nat → Bool) (m : Nat) : List Nat := (List.range m).filter P
theorem dl_mem {P : Nat → Bool} {m k : Nat} : k ∈ Dl P m ↔ k < m ∧ P k = true := by
  unfold Dl
  rw [List.mem_filter, List.mem_range]
theorem dl_nd {P : Nat → Bool} {m : Nat} : (Dl P m).Nodup := List.nodup_range.filter _
theorem dl_get {P : Nat → Bool} {m x : Nat} (h : x < (Dl P m).length) : (Dl P m).getD x 0 < m ∧ P ((Dl P m).getD x 0) = true ∧ (Dl P m).getD x 0 ∈ Dl P m := by
  have e : (Dl P m).getD x 0 = (Dl P m)[x] := by
    rw [List.getD_eq_getElem?_getD, List.getElem?_eq_getElem h]
    rfl
  rw [e]
  have := dl_mem.mp (List.getElem_mem h)
  exact ⟨this.1, this.2, List.getElem_mem h⟩
theorem dot_dl {p : Int} {P : Nat → Bool} {m : Nat} {a c : Vc} (h : ∀ k, k < m → P k = false → Cg p (a k) 0) : Cg p (dot a c m) (dot (fun x => a ((Dl P m).getD x 0)) (fun x => c ((Dl P m).getD x 0)) (Dl P m).length) := by
  rw [← sum_range, ← sum_dotD]
  refine sum_filter _ fun k hk e => ?_
  have := (h k (List.mem_range.mp hk) e).mul (Cg.rfl' (p := p) (a := c k))
  rw [Int.zero_mul] at this
  exact this
def corner (g : List (List Int)) (D : List Nat) : List (List Int) := D.map fun k => D.map fun j => col g j k
theorem corner_get {g : List (List Int)} {D : List Nat} {x : Nat} (h : x < D.length) : (corner g D)[x]? = some (D.map fun j => col g j (D.getD x 0)) := by
  unfold corner
  rw [List.getElem?_map, List.getElem?_eq_getElem h, List.getD_eq_getElem?_getD, List.getElem?_eq_getElem h]
  rfl
theorem vec_mapD {f : Nat → Int} {D : List Nat} {x : Nat} (h : x < D.length) : vec (D.map f) x = f (D.getD x 0) := by
  refine vec_some ?_
  rw [List.getElem?_map, List.getElem?_eq_getElem h, List.getD_eq_getElem?_getD, List.getElem?_eq_getElem h]
  rfl
/-- numbers at the posts told, 0 elsewhere -/
def ext (D : List Nat) (b : Vc) : Vc := fun k => if k ∈ D then b (D.idxOf k) else 0
theorem ext_at {D : List Nat} {b : Vc} {x : Nat} (nd : D.Nodup) (h : x < D.length) : ext D b (D.getD x 0) = b x := by
  have e : D.getD x 0 = D[x] := by
    rw [List.getD_eq_getElem?_getD, List.getElem?_eq_getElem h]
    rfl
  unfold ext
  rw [e, if_pos (List.getElem_mem h), nd.idxOf_getElem]
theorem ext_off {D : List Nat} {b : Vc} {k : Nat} (h : k ∉ D) : ext D b k = 0 := if_neg h
theorem ext_comb {D : List Nat} {a b : Vc} {c : Int} (k : Nat) : ext D (fun x => a x + c * b x) k = ext D a k + c * ext D b k := by
  unfold ext
  split
  · rfl
  · simp
theorem idx_lt {D : List Nat} {k : Nat} (h : k ∈ D) : D.idxOf k < D.length := List.idxOf_lt_length_iff.mpr h
theorem idx_get {D : List Nat} {k : Nat} (h : k ∈ D) : D.getD (D.idxOf k) 0 = k := by
  rw [List.getD_eq_getElem?_getD, List.getElem?_eq_getElem (idx_lt h)]
  exact List.getElem_idxOf (idx_lt h)
theorem told_ext {p : Int} {P : Nat → Bool} {m : Nat} {g : List (List Int)} {a : Vc} (sy : Sy g) (h : ∀ k, k < m → P k = false → Cg p (a k) 0) {y : Nat} (hy : y < (Dl P m).length) : Cg p (toldV g a m ((Dl P m).getD y 0)) (dot (vec ((Dl P m).map fun j => col g j ((Dl P m).getD y 0))) (fun x => a ((Dl P m).getD x 0)) (Dl P m).length) := by
  unfold toldV
  refine (dot_dl h).trans ?_
  rw [dot_comm]
  refine dot_cgN _ (fun i hi => ?_) fun _ _ => Cg.rfl'
  rw [vec_mapD hi, sy]
  exact Cg.rfl'
theorem vec_rangeM {f : Nat → Int} {n i : Nat} : vec ((List.range n).map f) i = if i < n then f i else 0 := by
  by_cases h : i < n
  · rw [if_pos h]
    exact vec_some (by rw [List.getElem?_map, List.getElem?_range h]; rfl)
  · rw [if_neg h]
    exact vec_out (by simp; omega)
theorem fresh_map {p : Int} {V : Nat → List Int} {F : List Nat} (nd : F.Nodup) (h : ∀ f ∈ F, ∃ q, ¬ Cg p (vec (V f) q) 0 ∧ ∀ g ∈ F, g ≠ f → Cg p (vec (V g) q) 0) : ∀ i, i ≤ F.length → Fresh p ((F.take i).map V)
  | 0, _ => by
    rw [List.take_zero]
    exact .nil
  | i + 1, hi => by
    have e : F[i]? = some F[i] := List.getElem?_eq_getElem (by omega)
    rw [List.take_add_one, e, Option.toList_some, List.map_append]
    obtain ⟨q, h1, h2⟩ := h F[i] (List.getElem_mem (by omega))
    refine .snoc q (fresh_map nd h i (by omega)) (fun g hg => ?_) h1
    obtain ⟨k, hk, rfl⟩ := List.mem_map.mp hg
    obtain ⟨j, hj, ej⟩ := List.mem_iff_getElem.mp hk
    rw [List.length_take] at hj
    rw [List.getElem_take] at ej
    refine h2 k (List.mem_of_mem_take hk) fun z => ?_
    rw [z] at ej
    exact (List.pairwise_iff_getElem.mp nd) j i (by omega) (by omega) (by omega) ej
theorem free_many {n : Nat} {qs : List Nat} (nd : qs.Nodup) (lt : ∀ q ∈ qs, q < n) : ((List.range n).filter fun k => decide (k ∉ qs)).length + qs.length = n := by
  have pm : (((List.range n).filter fun k => decide (k ∉ qs)) ++ qs).Perm (List.range n) := by
    refine (List.perm_ext_iff_of_nodup ?_ List.nodup_range).mpr fun a => ?_
    · rw [List.nodup_append]
      refine ⟨List.nodup_range.filter _, nd, fun x hx y hy z => ?_⟩
      have := (List.mem_filter.mp hx).2
      rw [z] at this
      exact of_decide_eq_true this hy
    · rw [List.mem_append, List.mem_filter, List.mem_range, decide_eq_true_iff]
      constructor
      · rintro (h | h)
        · exact h.1
        · exact lt a h
      · intro h
        by_cases k : a ∈ qs
        · exact .inr k
        · exact .inl ⟨h, k⟩
  have := pm.length_eq
  rw [List.length_append, List.length_range] at this
  exact this
theorem cg_neg1 {p x s : Int} (hs : s = 1 ∨ s = -1) : Cg p (s * x) 0 ↔ Cg p x 0 := by
  rcases hs with rfl | rfl
  · rw [Int.one_mul]
  · constructor
    · rintro ⟨c, hc⟩
      exact ⟨-c, by grind⟩
    · rintro ⟨c, hc⟩
      exact ⟨-c, by grind⟩
/-- what is still by another hold: as much as the corner lacks -/
theorem still_corner {p : Int} {h1 h2 : List Int} {g : List (List Int)} {ss : List RowP} {L : List (Nat × List Int)} (p1 : 1 < p) (inv : ∀ u, 0 < u → u < p → ∃ c, c * u % p = 1) (b1 : Bits h1) (b2 : Bits h2) (l : h2.length = h1.length) (sy : Sy g) (sp : ∀ u, Lot p (spn (ss.map flatR)) u ↔ Lot p (spn ((unitsP p h1 g).map flatR)) u)
    (pl : PL p (Dl (fun k => decide (vec h1 k ≠ vec h2 k)) h1.length).length (corner g (Dl (fun k => decide (vec h1 k ≠ vec h2 k)) h1.length)) L) :
    ∃ fs M, PL p (2 * h1.length) fs M ∧ (∀ u, Lot p (spn fs) u ↔ Stl p h2 ss u) ∧ M.length + L.length = (Dl (fun k => decide (vec h1 k ≠ vec h2 k)) h1.length).length := by
  generalize hP : (fun k => decide (vec h1 k ≠ vec h2 k)) = P at pl ⊢
  have hP' : ∀ k, P k = true ↔ vec h1 k ≠ vec h2 k := fun k => by
    rw [← hP]
    exact decide_eq_true_iff
  have hPf : ∀ k, P k = false → vec h2 k = vec h1 k := fun k e => by
    have : ¬ P k = true := by rw [e]; decide
    exact (Classical.not_not.mp fun z => this ((hP' k).mpr z)).symm
  generalize hm : h1.length = m at *
  have nd : (Dl P m).Nodup := dl_nd
  generalize hn : (Dl P m).length = n at *
  have ltL : ∀ x ∈ vecs L, x.1 < n := fun x hx => by
    obtain ⟨y, hy, rfl⟩ := mem_vecs.mp hx
    exact pl.plc y hy
  let F := (List.range n).filter fun k => decide (k ∉ L.map (·.1))
  have hF : ∀ f, f ∈ F ↔ f < n ∧ ∀ x ∈ vecs L, x.1 ≠ f := fun f => by
    show f ∈ (List.range n).filter _ ↔ _
    rw [List.mem_filter, List.mem_range, decide_eq_true_iff]
    refine and_congr_right fun _ => ⟨fun h x hx e => h ?_, fun h k => ?_⟩
    · obtain ⟨y, hy, rfl⟩ := mem_vecs.mp hx
      exact List.mem_map.mpr ⟨y, hy, e⟩
    · obtain ⟨y, hy, e⟩ := List.mem_map.mp k
      exact h (y.1, vec y.2) (mem_vecs.mpr ⟨y, hy, rfl⟩) e
  have ndF : F.Nodup := List.nodup_range.filter _
  have lF : F.length + L.length = n := by
    have := free_many (n := n) pl.nd (fun q hq => by
      obtain ⟨x, hx, rfl⟩ := List.mem_map.mp hq
      exact pl.plc x hx)
    rw [List.length_map] at this
    exact this
  let W : Nat → Vc := fun f => stV h1 g m (ext (Dl P m) (frV f (vecs L)))
  let V : Nat → List Int := fun f => (List.range (2 * m)).map fun i => W f i % p
  have eV : ∀ f, Eqv p (vec (V f)) (W f) := fun f i => by
    show Cg p (vec ((List.range (2 * m)).map fun i => W f i % p) i) _
    rw [vec_rangeM]
    by_cases h : i < 2 * m
    · rw [if_pos h]
      exact Cg.mod _
    · rw [if_neg h, show W f i = 0 from stV_out (by omega)]
      exact Cg.rfl'
  -- held numbers of W
  have held : ∀ (a : Vc) (k : Nat), k < m → stV h1 g m a (plc h1 k) = a k := fun a k hk => by
    have := (sd_stV (hs := h1) (gs := g) (a := a) (j := k) (by omega)).1
    rw [sd_plc (by omega), hm] at this
    exact this
  have readv : ∀ (a : Vc) (k : Nat), k < m → (if vec h1 k = 0 then 1 else -1) * stV h1 g m a (rdp h1 k) = toldV g a m k := fun a k hk => by
    have := (sd_stV (hs := h1) (gs := g) (a := a) (j := k) (by omega)).2
    rw [sd_read (by omega), hm] at this
    exact this
  have place : ∀ k, k < m → plc h2 k = if P k = true then rdp h1 k else plc h1 k := fun k hk => by
    have x1 := b1.at k
    have x2 := b2.at k
    unfold plc rdp
    by_cases e : P k = true
    · rw [if_pos e]
      have ne := (hP' k).mp e
      by_cases z : vec h1 k = 0
      · rw [if_pos z, if_neg (by omega)]
      · rw [if_neg z, if_pos (by omega)]
    · rw [if_neg e, hPf k (by simpa using e)]
  have sgn : ∀ k, (if vec h1 k = 0 then (1 : Int) else -1) = 1 ∨ (if vec h1 k = 0 then (1 : Int) else -1) = -1 := fun k => by
    split
    · exact .inl rfl
    · exact .inr rfl
  have off : ∀ (b : Vc) k, k < m → P k = false → Cg p (ext (Dl P m) b k) 0 := fun b k _ e => by
    rw [ext_off fun z => by have := (dl_mem.mp z).2; rw [e] at this; cases this]
    exact Cg.rfl'
  have exts : ∀ (b : Vc) x, x < n → ext (Dl P m) b ((Dl P m).getD x 0) = b x := fun b x hx => ext_at nd (by omega)
  have crow : ∀ y, y < n → (corner g (Dl P m))[y]? = some ((Dl P m).map fun j => col g j ((Dl P m).getD y 0)) := fun y hy => corner_get (by omega)
  -- numbers at the posts told, whose table leads to nought there
  have ker : ∀ b : Vc, (∀ x ∈ vecs L, Cg p (dot x.2 b n) 0) ↔ ∀ y, y < n → Cg p (dot (vec ((Dl P m).map fun j => col g j ((Dl P m).getD y 0))) b n) 0 := fun b => by
    constructor
    · intro h y hy
      refine dot_lotL ((pl.lot _).mpr (.of ⟨_, List.mem_of_getElem? (crow y hy), rfl⟩)) fun w hw => ?_
      obtain ⟨x, hx, rfl⟩ := hw
      exact h x hx
    · intro h x hx
      refine dot_lotL ((pl.lot _).mp (.of ⟨x, hx, rfl⟩)) fun w hw => ?_
      obtain ⟨f, hf, rfl⟩ := hw
      obtain ⟨y, hy, ey⟩ := List.mem_iff_getElem.mp hf
      have hy' : y < n := by
        have : (corner g (Dl P m)).length = n := by unfold corner; rw [List.length_map, hn]
        omega
      have e := crow y hy'
      rw [List.getElem?_eq_getElem hy, ey] at e
      rw [Option.some.inj e]
      exact h y hy'
  have told : ∀ (a : Vc), (∀ k, k < m → P k = false → Cg p (a k) 0) → ∀ y, y < n → Cg p (toldV g a m ((Dl P m).getD y 0)) (dot (vec ((Dl P m).map fun j => col g j ((Dl P m).getD y 0))) (fun x => a ((Dl P m).getD x 0)) n) := fun a ha y hy => by
    have := told_ext (p := p) (P := P) (m := m) (g := g) (a := a) sy ha (y := y) (by omega)
    rw [hn] at this
    exact this
  -- each W is still
  have stl : ∀ f ∈ F, Stl p h2 ss (vec (V f)) := fun f hf => by
    refine ⟨(sp _).mpr (units_lot.mpr ⟨ext (Dl P m) (frV f (vecs L)), by rw [hm]; exact eV f⟩), fun k hk => ?_⟩
    have hk' : k < m := by omega
    refine (eV f _).trans ?_
    rw [place k hk']
    cases e : P k with
    | false =>
      rw [if_neg (by decide)]
      show Cg p (stV h1 g m (ext (Dl P m) (frV f (vecs L))) (plc h1 k)) 0
      rw [held _ k hk']
      exact off _ k hk' e
    | true =>
      rw [if_pos rfl, ← cg_neg1 (sgn k)]
      show Cg p ((if vec h1 k = 0 then (1 : Int) else -1) * stV h1 g m (ext (Dl P m) (frV f (vecs L))) (rdp h1 k)) 0
      rw [readv _ k hk']
      have hk2 : k ∈ Dl P m := dl_mem.mpr ⟨hk', e⟩
      have hy : (Dl P m).idxOf k < n := by rw [← hn]; exact idx_lt hk2
      have t := told _ (off (frV f (vecs L))) _ hy
      rw [idx_get hk2] at t
      refine t.trans ?_
      have fk := (fr_ker (p := p) (n := n) (fs := F) pl.leads pl.ndv ltL hF ndF (w := frV f (vecs L)) (fun i hi => ?_)).mp (.of ⟨f, hf, rfl⟩)
      · have := (ker _).mp fk _ hy
        rw [idx_get hk2] at this
        refine Cg.trans (dot_cgN n (fun _ _ => Cg.rfl') fun i hi => ?_) this
        rw [exts _ i hi]
        exact Cg.rfl'
      · have fn := ((hF f).mp hf).1
        show un f i + -1 * cu (fun x => x.2 f) (vecs L) i = 0
        rw [cu_out fun x hx => by have := ltL x hx; omega]
        have : un f i = 0 := if_neg (by omega)
        rw [this]
        rfl
  have lot_ext : ∀ b : Vc, Lot p (fun v => ∃ f ∈ F, v = frV f (vecs L)) b → Lot p (spn (F.map V)) (stV h1 g m (ext (Dl P m) b)) := fun b h => by
    induction h with
    | zero =>
      refine .eqv .zero fun i => ?_
      have : ext (Dl P m) (fun _ => 0) = fun _ => 0 := funext fun k => by
        unfold ext
        split <;> rfl
      rw [this, stV_zero]
      exact Cg.rfl'
    | @add u v c _ hv ih =>
      obtain ⟨f, hf, rfl⟩ := hv
      refine .eqv (Lot.comb c ih (.of ⟨V f, List.mem_map.mpr ⟨f, hf, rfl⟩, rfl⟩)) fun i => ?_
      have e : ext (Dl P m) (fun x => u x + c * frV f (vecs L) x) = fun k => ext (Dl P m) u k + c * ext (Dl P m) (frV f (vecs L)) k := funext fun k => ext_comb k
      rw [e, stV_comb]
      exact Cg.rfl'.add (Cg.rfl'.mul (eV f i))
    | eqv _ e ih =>
      refine .eqv ih (stV_cg fun k _ => ?_)
      unfold ext
      split
      · exact e _
      · exact Cg.rfl'
  have fr : Fresh p (F.map V) := by
    have := fresh_map (p := p) (V := V) ndF (fun f hf => ⟨plc h1 ((Dl P m).getD f 0), ?_, fun k hk ne => ?_⟩) F.length (Nat.le_refl _)
    · rw [List.take_length] at this
      exact this
    · have fn := ((hF f).mp hf).1
      have dg := dl_get (P := P) (m := m) (x := f) (by omega)
      intro z
      have e := (eV f (plc h1 ((Dl P m).getD f 0))).symm.trans z
      have e2 : W f (plc h1 ((Dl P m).getD f 0)) = 1 := by
        show stV h1 g m _ _ = 1
        rw [held _ _ dg.1, exts _ f fn]
        exact fr_self fun x hx => ((hF f).mp hf).2 x hx
      rw [e2] at e
      have := cg_small (p := p) ⟨by decide, p1⟩ ⟨by decide, by omega⟩ e
      omega
    · have fn := ((hF f).mp hf).1
      have dg := dl_get (P := P) (m := m) (x := f) (by omega)
      refine (eV k _).trans ?_
      have e2 : W k (plc h1 ((Dl P m).getD f 0)) = 0 := by
        show stV h1 g m _ _ = 0
        rw [held _ _ dg.1, exts _ f fn]
        exact fr_other (fun x hx => ((hF f).mp hf).2 x hx) ne
      rw [e2]
      exact Cg.rfl'
  obtain ⟨M, plM, lM⟩ := fr.pl (n := 2 * m) p1 inv fun f hf => by
    obtain ⟨k, hk, rfl⟩ := List.mem_map.mp hf
    refine ⟨by show ((List.range (2 * m)).map _).length = _; simp, fun u hu => ?_⟩
    obtain ⟨i, _, rfl⟩ := List.mem_map.mp hu
    exact ⟨Int.emod_nonneg _ (by omega), Int.emod_lt_of_pos _ (by omega)⟩
  refine ⟨F.map V, M, plM, fun u => ⟨fun h => ⟨?_, fun k hk => ?_⟩, fun h => ?_⟩, by rw [lM, List.length_map]; exact lF⟩
  · exact Lot.sub (fun v hv => by
      obtain ⟨f, hf, rfl⟩ := hv
      obtain ⟨k, hk, rfl⟩ := List.mem_map.mp hf
      exact (stl k hk).1) h
  · exact h.at0 fun v hv => by
      obtain ⟨f, hf, rfl⟩ := hv
      obtain ⟨j, hj, rfl⟩ := List.mem_map.mp hf
      exact (stl j hj).2 k hk
  · obtain ⟨lu, zu⟩ := h
    obtain ⟨a, ha⟩ := units_lot.mp ((sp _).mp lu)
    rw [hm] at ha
    have a0 : ∀ k, k < m → P k = false → Cg p (a k) 0 := fun k hk e => by
      have z := zu k (by omega)
      rw [place k hk, e, if_neg (by decide)] at z
      have := (ha (plc h1 k)).symm.trans z
      rw [held _ k hk] at this
      exact this
    have t0 : ∀ k, k < m → P k = true → Cg p (toldV g a m k) 0 := fun k hk e => by
      have z := zu k (by omega)
      rw [place k hk, if_pos e] at z
      have := (ha (rdp h1 k)).symm.trans z
      rw [← cg_neg1 (sgn k), readv _ k hk] at this
      exact this
    have b0 : ∀ y, y < n → Cg p (dot (vec ((Dl P m).map fun j => col g j ((Dl P m).getD y 0))) (fun x => if x < n then a ((Dl P m).getD x 0) else 0) n) 0 := fun y hy => by
      obtain ⟨d1, d2, _⟩ := dl_get (P := P) (m := m) (x := y) (by omega)
      refine Cg.trans ?_ (t0 _ d1 d2)
      refine Cg.trans (dot_cgN n (fun _ _ => Cg.rfl') fun i hi => ?_) (told a a0 y hy).symm
      rw [if_pos hi]
      exact Cg.rfl'
    have lb := (fr_ker (p := p) (n := n) (fs := F) pl.leads pl.ndv ltL hF ndF (w := fun x => if x < n then a ((Dl P m).getD x 0) else 0) (fun i hi => if_neg (by omega))).mpr ((ker _).mpr b0)
    refine .eqv (lot_ext _ lb) (Eqv.trans (stV_cg fun k hk => ?_) ha.symm)
    cases e : P k with
    | false => exact (off _ k hk e).trans (a0 k hk e).symm
    | true =>
      have hk2 : k ∈ Dl P m := dl_mem.mpr ⟨hk, e⟩
      have hy : (Dl P m).idxOf k < n := by rw [← hn]; exact idx_lt hk2
      unfold ext
      rw [if_pos hk2]
      show Cg p (if (Dl P m).idxOf k < n then a ((Dl P m).getD ((Dl P m).idxOf k) 0) else 0) (a k)
      rw [if_pos hy, idx_get hk2]
      exact Cg.rfl'
end Lin
set_option linter.all false
/-! rows cleared from the first on: how many are free; holds in the order of tuples -/
namespace Lin
abbrev rw_ (R : List (List Int)) (j : Nat) : Vc := vec (R.getD j [])
structure Ec (p : Int) (n : Nat) (gs R : List (List Int)) (c d : Nat) : Prop where
  len : R.length = n
  ok : ∀ r ∈ R, r.length = n ∧ Rg p r
  span : ∀ u, Lot p (spn R) u ↔ Lot p (spn gs) u
  dle : d ≤ c
  dn : d ≤ n
  zero : ∀ j, d ≤ j → j < n → ∀ x, x < c → rw_ R j x = 0
  piv : ∀ i, i < d → ∃ q, rw_ R i q ≠ 0 ∧ ∀ j, i < j → j < n → rw_ R j q = 0
structure Mid (p : Int) (n : Nat) (gs R : List (List Int)) (c d k : Nat) : Prop where
  len : R.length = n
  ok : ∀ r ∈ R, r.length = n ∧ Rg p r
  span : ∀ u, Lot p (spn R) u ↔ Lot p (spn gs) u
  dle : d ≤ c
  dn : d < n
  zero : ∀ j, d ≤ j → j < n → ∀ x, x < c → rw_ R j x = 0
  piv : ∀ i, i < d → ∃ q, rw_ R i q ≠ 0 ∧ ∀ j, i < j → j < n → rw_ R j q = 0
  at_ : rw_ R d c ≠ 0
  clr : ∀ j, d < j → j < k → rw_ R j c = 0
theorem getD_mem {R : List (List Int)} {j : Nat} (h : j < R.length) : R[j]? = some (R.getD j []) ∧ R.getD j [] ∈ R := by
  have e : R.getD j [] = R[j] := by
    rw [List.getD_eq_getElem?_getD, List.getElem?_eq_getElem h]
    rfl
  rw [e]
  exact ⟨List.getElem?_eq_getElem h, List.getElem_mem h⟩
theorem getD_set {R : List (List Int)} {k j : Nat} {r : List Int} (h : k < R.length) : (R.set k r).getD j [] = if j = k then r else R.getD j [] := by
  rw [List.getD_eq_getElem?_getD, List.getD_eq_getElem?_getD]
  by_cases e : j = k
  · subst e
    rw [if_pos rfl, List.getElem?_set_self h]
    rfl
  · rw [if_neg e, List.getElem?_set_ne (fun z => e z.symm)]
theorem Ec.start {p : Int} {n : Nat} {gs : List (List Int)} (l : gs.length = n) (ok : ∀ r ∈ gs, r.length = n ∧ Rg p r) : Ec p n gs gs 0 0 :=
  ⟨l, ok, fun _ => Iff.rfl, Nat.le_refl _, Nat.zero_le _, fun _ _ _ _ h => absurd h (Nat.not_lt_zero _), fun _ h => absurd h (Nat.not_lt_zero _)⟩
theorem Ec.none {p : Int} {n : Nat} {gs R : List (List Int)} {c d : Nat} (h : Ec p n gs R c d) (z : ∀ j, d ≤ j → j < n → rw_ R j c = 0) : Ec p n gs R (c + 1) d :=
  ⟨h.len, h.ok, h.span, by have := h.dle; omega, h.dn, fun j h1 h2 x hx => by
    rcases Nat.lt_or_ge x c with k | k
    · exact h.zero j h1 h2 x k
    · have : x = c := by omega
      rw [this]
      exact z j h1 h2, h.piv⟩
theorem spn_set_swap {p : Int} {R : List (List Int)} {d k : Nat} (hd : d < R.length) (hk : k < R.length) (u : Vc) : Lot p (spn ((R.set d (R.getD k [])).set k (R.getD d []))) u ↔ Lot p (spn R) u := by
  have m : ∀ f, f ∈ (R.set d (R.getD k [])).set k (R.getD d []) ↔ f ∈ R := fun f => by
    have gd : ∀ j, ((R.set d (R.getD k [])).set k (R.getD d [])).getD j [] = if j = k then R.getD d [] else if j = d then R.getD k [] else R.getD j [] := fun j => by
      rw [getD_set (by rw [List.length_set]; exact hk), getD_set hd]
    constructor
    · intro h
      obtain ⟨j, hj, rfl⟩ := List.mem_iff_getElem.mp h
      have e := gd j
      rw [List.getD_eq_getElem?_getD, List.getElem?_eq_getElem hj] at e
      rw [show ((R.set d (R.getD k [])).set k (R.getD d []))[j] = _ from e]
      rw [List.length_set, List.length_set] at hj
      split
      · exact (getD_mem hd).2
      · split
        · exact (getD_mem hk).2
        · exact (getD_mem hj).2
    · intro h
      obtain ⟨j, hj, rfl⟩ := List.mem_iff_getElem.mp h
      have e0 : R[j] = R.getD j [] := by
        rw [List.getD_eq_getElem?_getD, List.getElem?_eq_getElem hj]
        rfl
      by_cases e1 : j = d
      · have e := gd k
        rw [if_pos rfl] at e
        rw [e0, e1]
        have m := (getD_mem (R := (R.set d (R.getD k [])).set k (R.getD d [])) (j := k) (by rw [List.length_set, List.length_set]; exact hk)).2
        rw [e] at m
        exact m
      · by_cases e2 : j = k
        · have e := gd d
          by_cases e3 : d = k
          · exact absurd (e2.trans e3.symm) e1
          · rw [if_neg e3, if_pos rfl] at e
            rw [e0, e2]
            have m := (getD_mem (R := (R.set d (R.getD k [])).set k (R.getD d [])) (j := d) (by rw [List.length_set, List.length_set]; exact hd)).2
            rw [e] at m
            exact m
        · have e := gd j
          rw [if_neg e2, if_neg e1] at e
          rw [e0]
          have m := (getD_mem (R := (R.set d (R.getD k [])).set k (R.getD d [])) (j := j) (by rw [List.length_set, List.length_set]; exact hj)).2
          rw [e] at m
          exact m
  exact ⟨fun h => spn_sub (fun f hf => (m f).mp hf) h, fun h => spn_sub (fun f hf => (m f).mpr hf) h⟩
theorem Ec.swap {p : Int} {n : Nat} {gs R : List (List Int)} {c d k : Nat} (h : Ec p n gs R c d) (h1 : d ≤ k) (h2 : k < n) (nz : rw_ R k c ≠ 0) : Mid p n gs ((R.set d (R.getD k [])).set k (R.getD d [])) c d (d + 1) := by
  have l := h.len
  have hd : d < n := by omega
  have gd : ∀ j, ((R.set d (R.getD k [])).set k (R.getD d [])).getD j [] = if j = k then R.getD d [] else if j = d then R.getD k [] else R.getD j [] := fun j => by
    rw [getD_set (by rw [List.length_set]; omega), getD_set (by omega)]
  have z : ∀ j, d ≤ j → j < n → ∀ (q : Nat), (∀ i, d ≤ i → i < n → rw_ R i q = 0) → rw_ ((R.set d (R.getD k [])).set k (R.getD d [])) j q = 0 := fun j hj hj2 q hq => by
    show vec (List.getD _ j []) q = 0
    rw [gd]
    split
    · exact hq d (Nat.le_refl _) hd
    · split
      · exact hq k h1 h2
      · exact hq j hj hj2
  refine ⟨by simp; exact l, fun r hr => ?_, fun u => (spn_set_swap (by omega) (by omega) u).trans (h.span u), h.dle, hd, fun j hj hj2 x hx => z j hj hj2 x fun i hi hi2 => h.zero i hi hi2 x hx, fun i hi => ?_, ?_, fun j a b => by omega⟩
  · rcases List.mem_or_eq_of_mem_set hr with m | m
    · rcases List.mem_or_eq_of_mem_set m with m | m
      · exact h.ok r m
      · rw [m]; exact h.ok _ (getD_mem (by omega)).2
    · rw [m]; exact h.ok _ (getD_mem (by omega)).2
  · obtain ⟨q, q1, q2⟩ := h.piv i hi
    refine ⟨q, ?_, fun j hj hj2 => ?_⟩
    · show vec (List.getD _ i []) q ≠ 0
      rw [gd, if_neg (by omega), if_neg (by omega)]
      exact q1
    · rcases Nat.lt_or_ge j d with w | w
      · show vec (List.getD _ j []) q = 0
        rw [gd, if_neg (by omega), if_neg (by omega)]
        exact q2 j hj hj2
      · exact z j w hj2 q fun a ha ha2 => q2 a (by omega) ha2
  · show vec (List.getD _ d []) c ≠ 0
    rw [gd]
    by_cases e : d = k
    · rw [if_pos e]; rw [← e] at nz; exact nz
    · rw [if_neg e, if_pos rfl]; exact nz
/-- a row less so many of another -/
def subL (p t : Int) (r u : List Int) : List Int := List.zipWith (fun x y => (x - t * y) % p) r u
theorem sub_lenL {p t : Int} {r u : List Int} {n : Nat} (h1 : r.length = n) (h2 : u.length = n) : (subL p t r u).length = n := by
  unfold subL
  rw [List.length_zipWith, h1, h2, Nat.min_self]
theorem sub_vecL {p t : Int} {r u : List Int} (h : r.length = u.length) (i : Nat) : vec (subL p t r u) i = (vec r i - t * vec u i) % p := by
  by_cases hi : i < r.length
  · refine vec_some ?_
    unfold subL
    rw [List.getElem?_zipWith, List.getElem?_eq_getElem hi, List.getElem?_eq_getElem (by omega)]
    have e1 : vec r i = r[i] := vec_some (List.getElem?_eq_getElem hi)
    have e2 : vec u i = u[i] := vec_some (List.getElem?_eq_getElem (by omega))
    rw [e1, e2]
  · rw [vec_out (by rw [sub_lenL rfl h.symm]; omega), vec_out (by omega), vec_out (by omega)]
    simp
theorem sub_rgL {p t : Int} {r u : List Int} (p0 : 0 < p) : Rg p (subL p t r u) := fun x hx => by
  unfold subL at hx
  obtain ⟨i, hi, rfl⟩ := List.mem_iff_getElem.mp hx
  rw [List.getElem_zipWith]
  exact ⟨Int.emod_nonneg _ (by omega), Int.emod_lt_of_pos _ p0⟩
theorem Mid.step {p : Int} {n : Nat} {gs R : List (List Int)} {c d k : Nat} {b : Int} (p1 : 1 < p) (h : Mid p n gs R c d k) (hk : d < k) (kn : k < n) (hb : b * rw_ R d c % p = 1) : Mid p n gs (R.set k (subL p (rw_ R k c * b) (R.getD k []) (R.getD d []))) c d (k + 1) := by
  have l := h.len
  have dn := h.dn
  have ek := getD_mem (R := R) (j := k) (by omega)
  have ed := getD_mem (R := R) (j := d) (by omega)
  obtain ⟨lk, rk⟩ := h.ok _ ek.2
  obtain ⟨ld, rd⟩ := h.ok _ ed.2
  have gd : ∀ j, (R.set k (subL p (rw_ R k c * b) (R.getD k []) (R.getD d []))).getD j [] = if j = k then subL p (rw_ R k c * b) (R.getD k []) (R.getD d []) else R.getD j [] := fun j => getD_set (by omega)
  have lv : ∀ i, vec (subL p (rw_ R k c * b) (R.getD k []) (R.getD d [])) i = (rw_ R k i - rw_ R k c * b * rw_ R d i) % p := fun i => sub_vecL (by rw [lk, ld]) i
  have z : ∀ j q, (rw_ R j q = 0) → (j = k → rw_ R d q = 0) → rw_ (R.set k (subL p (rw_ R k c * b) (R.getD k []) (R.getD d []))) j q = 0 := fun j q hj hd => by
    show vec (List.getD _ j []) q = 0
    rw [gd]
    split
    · rename_i e
      rw [lv, hd e, ← e, hj]
      simp
    · exact hj
  refine ⟨by rw [List.length_set]; exact l, fun r hr => ?_, fun u => ?_, h.dle, dn, fun j h1 h2 x hx => z j x (h.zero j h1 h2 x hx) fun _ => h.zero d (Nat.le_refl _) dn x hx, fun i hi => ?_, ?_, fun j h1 h2 => ?_⟩
  · rcases List.mem_or_eq_of_mem_set hr with m | m
    · exact h.ok r m
    · rw [m]; exact ⟨sub_lenL lk ld, sub_rgL (by omega)⟩
  · refine Iff.trans (lot_set_add (c := -(rw_ R k c * b)) (i := k) (j := d) (by omega) ek.1 ed.1 (fun i => ?_) u) (h.span u)
    rw [lv]
    refine (Cg.mod _).trans ?_
    exact ⟨0, by show rw_ R k i - _ = vec (R.getD k []) i + _ + _; grind⟩
  · obtain ⟨q, q1, q2⟩ := h.piv i hi
    refine ⟨q, ?_, fun j hj hj2 => z j q (q2 j hj hj2) fun _ => q2 d hi dn⟩
    show vec (List.getD _ i []) q ≠ 0
    rw [gd, if_neg (by omega)]
    exact q1
  · show vec (List.getD _ d []) c ≠ 0
    rw [gd, if_neg (by omega)]
    exact h.at_
  · by_cases e : j = k
    · show vec (List.getD _ j []) c = 0
      rw [gd, if_pos e, lv]
      have e2 : Cg p (b * rw_ R d c) 1 := by
        have := Cg.mod (p := p) (b * rw_ R d c)
        rw [hb] at this
        exact this.symm
      have : Cg p (rw_ R k c - rw_ R k c * b * rw_ R d c) 0 := by
        obtain ⟨x, hx⟩ := e2
        exact ⟨-(rw_ R k c * x), by grind⟩
      obtain ⟨x, hx⟩ := this
      rw [hx, Int.zero_add]
      exact Int.mul_emod_right ..
    · show vec (List.getD _ j []) c = 0
      rw [gd, if_neg e]
      exact h.clr j h1 (by omega)
theorem Mid.done {p : Int} {n : Nat} {gs R : List (List Int)} {c d : Nat} (h : Mid p n gs R c d n) : Ec p n gs R (c + 1) (d + 1) := by
  refine ⟨h.len, h.ok, h.span, by have := h.dle; omega, h.dn, fun j h1 h2 x hx => ?_, fun i hi => ?_⟩
  · rcases Nat.lt_or_ge x c with k | k
    · exact h.zero j (by omega) h2 x k
    · have : x = c := by omega
      rw [this]
      exact h.clr j (by omega) h2
  · rcases Nat.lt_or_ge i d with k | k
    · exact h.piv i k
    · have : i = d := by omega
      rw [this]
      exact ⟨c, h.at_, fun j h1 h2 => h.clr j h1 h2⟩
theorem PL.over {p : Int} {n : Nat} {fs gs : List (List Int)} {L : List (Nat × List Int)} (h : PL p n fs L) (e : ∀ u, Lot p (spn fs) u ↔ Lot p (spn gs) u) : PL p n gs L := ⟨h.len, h.rg, h.plc, h.nd, h.leads, h.ahead, fun u => (h.lot u).trans (e u)⟩
theorem Ec.fin {p : Int} {n : Nat} {gs R : List (List Int)} {d : Nat} (p1 : 1 < p) (inv : ∀ u, 0 < u → u < p → ∃ c, c * u % p = 1) (h : Ec p n gs R n d) : ∃ L, PL p n gs L ∧ L.length = d := by
  have l := h.len
  have dn := h.dn
  have rows : ∀ i, i ≤ d → Fresh p (((List.range' (d - i) i).reverse).map fun j => R.getD j []) := fun i => by
    induction i with
    | zero => intro _; exact .nil
    | succ i ih =>
      intro hi
      have e : List.range' (d - (i + 1)) (i + 1) = (d - (i + 1)) :: List.range' (d - i) i := by
        rw [List.range'_succ]
        congr 2
        omega
      rw [e, List.reverse_cons, List.map_append]
      obtain ⟨q, q1, q2⟩ := h.piv (d - (i + 1)) (by omega)
      refine .snoc q (ih (by omega)) (fun g hg => ?_) fun z => ?_
      · obtain ⟨j, hj, rfl⟩ := List.mem_map.mp hg
        rw [List.mem_reverse, List.mem_range'_1] at hj
        rw [show vec (R.getD j []) q = 0 from q2 j (by omega) (by omega)]
        exact Cg.rfl'
      · have rg := (h.ok _ (getD_mem (R := R) (j := d - (i + 1)) (by omega)).2).2.vec (by omega) q
        exact q1 (cg_small rg ⟨by omega, by omega⟩ z)
  have fr := rows d (Nat.le_refl _)
  obtain ⟨L, pl, ll⟩ := fr.pl (n := n) p1 inv fun f hf => by
    obtain ⟨j, hj, rfl⟩ := List.mem_map.mp hf
    rw [List.mem_reverse, List.mem_range'_1] at hj
    exact h.ok _ (getD_mem (by omega)).2
  refine ⟨L, pl.over fun u => Iff.trans ⟨fun k => spn_sub (fun f hf => ?_) k, fun k => Lot.sub (fun v hv => ?_) k⟩ (h.span u), by rw [ll, List.length_map, List.length_reverse, List.length_range']⟩
  · obtain ⟨j, hj, rfl⟩ := List.mem_map.mp hf
    rw [List.mem_reverse, List.mem_range'_1] at hj
    exact (getD_mem (by omega)).2
  · obtain ⟨f, hf, rfl⟩ := hv
    obtain ⟨j, hj, rfl⟩ := List.mem_iff_getElem.mp hf
    have e0 : R[j] = R.getD j [] := by
      rw [List.getD_eq_getElem?_getD, List.getElem?_eq_getElem hj]
      rfl
    rcases Nat.lt_or_ge j d with w | w
    · rw [e0]
      exact .of ⟨_, List.mem_map.mpr ⟨j, by rw [List.mem_reverse, List.mem_range'_1]; omega, rfl⟩, rfl⟩
    · refine .eqv .zero fun i => ?_
      rw [e0]
      by_cases hi : i < n
      · rw [show vec (R.getD j []) i = 0 from h.zero j w (by omega) i hi]
        exact Cg.rfl'
      · rw [vec_out (by rw [(h.ok _ (getD_mem (R := R) (j := j) hj).2).1]; omega)]
        exact Cg.rfl'
/-- how much a table's corner lacks -/
structure Lacks (p : Int) (g : List (List Int)) (D : List Nat) (r : Nat) : Prop where
  ex : ∃ L, PL p D.length (corner g D) L ∧ r + L.length = D.length
theorem Ec.lacks {p : Int} {g : List (List Int)} {D : List Nat} {R : List (List Int)} {d : Nat} (p1 : 1 < p) (inv : ∀ u, 0 < u → u < p → ∃ c, c * u % p = 1) (h : Ec p D.length (corner g D) R D.length d) : Lacks p g D (D.length - d) := by
  obtain ⟨L, pl, l⟩ := h.fin p1 inv
  have := h.dn
  exact ⟨L, pl, by omega⟩
theorem corner_ok {p : Int} {m : Nat} {g : List (List Int)} {D : List Nat} (t : Tbl p m g) (lt : ∀ k ∈ D, k < m) : ∀ r ∈ corner g D, r.length = D.length ∧ Rg p r := fun r hr => by
  obtain ⟨k, hk, rfl⟩ := List.mem_map.mp hr
  refine ⟨by simp, fun x hx => ?_⟩
  obtain ⟨j, hj, rfl⟩ := List.mem_map.mp hx
  have e := getD_mem (R := g) (j := k) (by rw [t.len]; exact lt k hk)
  obtain ⟨l, r⟩ := t.ok _ e.2
  unfold col
  exact r _ (by
    have : vec (g.getD k []) j = (g.getD k [])[j]'(by rw [l]; exact lt j hj) := vec_some (List.getElem?_eq_getElem _)
    rw [this]
    exact List.getElem_mem _)
/-- stands just where the corner lacks nothing -/
theorem std_lacks {p : Int} {h1 h2 : List Int} {g : List (List Int)} {ss : List RowP} {r : Nat} (p1 : 1 < p) (inv : ∀ u, 0 < u → u < p → ∃ c, c * u % p = 1) (b1 : Bits h1) (b2 : Bits h2) (l : h2.length = h1.length) (sy : Sy g) (sp : ∀ u, Lot p (spn (ss.map flatR)) u ↔ Lot p (spn ((unitsP p h1 g).map flatR)) u)
    (h : Lacks p g ((List.range h1.length).filter fun k => decide (vec h1 k ≠ vec h2 k)) r) : Std p h2 ss ↔ r = 0 := by
  obtain ⟨L, pl, e⟩ := h.ex
  obtain ⟨fs, M, plM, lot, lM⟩ := still_corner p1 inv b1 b2 l sy sp pl
  have er : M.length = r := by
    have : M.length + L.length = r + L.length := lM.trans e.symm
    omega
  constructor
  · intro st
    rw [← er]
    cases M with
    | nil => rfl
    | cons x M =>
      exfalso
      have lx : Lot p (spn fs) (vec x.2) := (plM.lot _).mp (.of ⟨_, mem_vecs.mpr ⟨x, by simp, rfl⟩, rfl⟩)
      obtain ⟨a, b⟩ := (lot _).mp lx
      have z := st _ a (fun k hk => b k hk) x.1
      have o := plM.leads.self _ (mem_vecs.mpr ⟨x, by simp, rfl⟩)
      have := cg_small (p := p) (a := 1) (b := 0) ⟨by decide, p1⟩ ⟨by decide, by omega⟩ (o.symm.trans z)
      omega
  · intro r0 u lu z
    have M0 : M = [] := List.eq_nil_of_length_eq_zero (by omega)
    subst M0
    have := (plM.lot u).mpr ((lot u).mpr ⟨lu, z⟩)
    exact fun i => this.at0 fun v hv => by
      obtain ⟨x, hx, _⟩ := hv
      cases hx
/-! holds in the order of tuples -/
def LexB : List Int → List Int → Prop
  | x :: xs, y :: ys => x < y ∨ (x = y ∧ LexB xs ys)
  | _, _ => False
theorem lex_asym : ∀ {a b : List Int}, LexB a b → LexB b a → False
  | x :: xs, y :: ys, h, k => by
    rcases h with h | ⟨rfl, h⟩
    · rcases k with k | ⟨e, k⟩
      · omega
      · omega
    · rcases k with k | ⟨e, k⟩
      · omega
      · exact lex_asym h k
  | [], _, h, _ => h.elim
  | _ :: _, [], h, _ => h.elim
theorem lex_snoc : ∀ {a b : List Int} {x y : Int}, a.length = b.length → LexB a b ∨ (a = b ∧ x < y) → LexB (a ++ [x]) (b ++ [y])
  | [], [], x, y, _, h => by
    rcases h with h | ⟨_, h⟩
    · exact h.elim
    · exact .inl h
  | [], _ :: _, _, _, l, _ => by simp at l
  | _ :: _, [], _, _, l, _ => by simp at l
  | a :: as, b :: bs, x, y, l, h => by
    have l' : as.length = bs.length := by simpa using l
    rcases h with (h | ⟨rfl, h⟩) | ⟨e, h⟩
    · exact .inl h
    · exact .inr ⟨rfl, lex_snoc l' (.inl h)⟩
    · cases e
      exact .inr ⟨rfl, lex_snoc l' (.inr ⟨rfl, h⟩)⟩
theorem pw_ext {α : Type} {R : α → α → Prop} (as : ∀ a b, R a b → R b a → False) : ∀ {xs ys : List α}, xs.Pairwise R → ys.Pairwise R → (∀ a, a ∈ xs ↔ a ∈ ys) → xs = ys
  | [], [], _, _, _ => rfl
  | [], y :: ys, _, _, h => by have := (h y).mpr (by simp); cases this
  | x :: xs, [], _, _, h => by have := (h x).mp (by simp); cases this
  | x :: xs, y :: ys, hx, hy, h => by
    obtain ⟨x1, x2⟩ := List.pairwise_cons.mp hx
    obtain ⟨y1, y2⟩ := List.pairwise_cons.mp hy
    have e : x = y := by
      rcases List.mem_cons.mp ((h x).mp (by simp)) with e | m
      · exact e
      · rcases List.mem_cons.mp ((h y).mpr (by simp)) with e | m2
        · exact e.symm
        · exact (as _ _ (y1 x m) (x1 y m2)).elim
    subst e
    rw [pw_ext as x2 y2 fun a => ?_]
    constructor
    · intro m
      rcases List.mem_cons.mp ((h a).mp (List.mem_cons_of_mem _ m)) with e | m2
      · rw [e] at m
        exact (as _ _ (x1 x m) (x1 x m)).elim
      · exact m2
    · intro m
      rcases List.mem_cons.mp ((h a).mpr (List.mem_cons_of_mem _ m)) with e | m2
      · rw [e] at m
        exact (as _ _ (y1 x m) (y1 x m)).elim
      · exact m2
/-- so many figures round p -/
def digL (p : Nat) : Nat → Nat → List Int
  | 0, _ => []
  | m + 1, n => digL p m (n / p) ++ [((n % p : Nat) : Int)]
theorem dig_len {p : Nat} : ∀ {m n : Nat}, (digL p m n).length = m
  | 0, _ => rfl
  | m + 1, n => by
    show (digL p m (n / p) ++ [_]).length = _
    rw [List.length_append, dig_len]
    rfl
theorem dig_lex {p : Nat} : ∀ {m a b : Nat}, b < p ^ m → a < b → LexB (digL p m a) (digL p m b)
  | 0, a, b, h, k => by simp at h; omega
  | m + 1, a, b, h, k => by
    refine lex_snoc (by rw [dig_len, dig_len]) ?_
    have hb : b / p < p ^ m := Nat.div_lt_of_lt_mul (by rw [Nat.mul_comm, ← Nat.pow_succ]; exact h)
    have le : a / p ≤ b / p := Nat.div_le_div_right (by omega)
    rcases Nat.lt_or_ge (a / p) (b / p) with w | w
    · exact .inl (dig_lex hb w)
    · have e : a / p = b / p := by omega
      refine .inr ⟨by rw [e], ?_⟩
      have e1 := Nat.div_add_mod a p
      have e2 := Nat.div_add_mod b p
      rw [e] at e1
      omega
def allB (m : Nat) : List (List Int) := (List.range (2 ^ m)).map (digL 2 m)
theorem allB_lex {m : Nat} : (allB m).Pairwise LexB := by
  unfold allB
  rw [List.pairwise_map]
  refine List.Pairwise.imp_of_mem (fun {a b} ha hb h => ?_) List.pairwise_lt_range
  exact dig_lex (List.mem_range.mp hb) h
theorem dig_bits : ∀ {m n : Nat}, Bits (digL 2 m n)
  | 0, _ => fun x hx => by cases hx
  | m + 1, n => fun x hx => by
    rcases List.mem_append.mp hx with h | h
    · exact dig_bits x h
    · rw [List.mem_singleton.mp h]
      omega
theorem dig_all : ∀ {m : Nat} {hs : List Int}, hs.length = m → Bits hs → ∃ n, n < 2 ^ m ∧ digL 2 m n = hs
  | 0, hs, l, _ => ⟨0, by decide, (List.eq_nil_of_length_eq_zero l).symm⟩
  | m + 1, hs, l, b => by
    have ne : hs ≠ [] := fun e => by rw [e] at l; simp at l
    have e := List.dropLast_concat_getLast ne
    obtain ⟨n, hn, en⟩ := dig_all (m := m) (hs := hs.dropLast) (by rw [List.length_dropLast]; omega) fun x hx => b x ((List.dropLast_prefix hs).subset hx)
    rcases b _ (List.getLast_mem ne) with z | z
    · refine ⟨2 * n, by rw [Nat.pow_succ]; omega, ?_⟩
      rw [← e, z, ← en]
      show digL 2 m (2 * n / 2) ++ [((2 * n % 2 : Nat) : Int)] = _
      rw [show 2 * n / 2 = n by omega, show 2 * n % 2 = 0 by omega]
      rfl
    · refine ⟨2 * n + 1, by rw [Nat.pow_succ]; omega, ?_⟩
      rw [← e, z, ← en]
      show digL 2 m ((2 * n + 1) / 2) ++ [(((2 * n + 1) % 2 : Nat) : Int)] = _
      rw [show (2 * n + 1) / 2 = n by omega, show (2 * n + 1) % 2 = 1 by omega]
      rfl
theorem mem_allB {m : Nat} {hs : List Int} : hs ∈ allB m ↔ hs.length = m ∧ Bits hs := by
  unfold allB
  rw [List.mem_map]
  constructor
  · rintro ⟨n, _, rfl⟩
    exact ⟨dig_len, dig_bits⟩
  · rintro ⟨l, b⟩
    obtain ⟨n, hn, e⟩ := dig_all l b
    exact ⟨n, List.mem_range.mpr hn, e⟩
theorem allB_len {m : Nat} : (allB m).length = 2 ^ m := by
  unfold allB
  simp
end Lin
set_option linter.all false
/-! mending one by one, the least post first -/
namespace Lin
theorem PL.tail {p : Int} {n : Nat} {fs : List (List Int)} {x : Nat × List Int} {L : List (Nat × List Int)} (h : PL p n fs (x :: L)) : PL p n (L.map (·.2)) L := by
  have m : ∀ y ∈ vecs L, y ∈ vecs (x :: L) := fun y hy => by
    obtain ⟨z, hz, e⟩ := mem_vecs.mp hy
    exact mem_vecs.mpr ⟨z, List.mem_cons_of_mem _ hz, e⟩
  refine ⟨fun y hy => h.len y (List.mem_cons_of_mem _ hy), fun y hy => h.rg y (List.mem_cons_of_mem _ hy), fun y hy => h.plc y (List.mem_cons_of_mem _ hy), (List.nodup_cons.mp h.nd).2, ⟨fun y hy => h.leads.self y (m y hy), fun y hy z hz => h.leads.other y (m y hy) z (m z hz)⟩, fun y hy => h.ahead y (m y hy), fun u => ?_⟩
  refine Lot.iff (fun v hv => ?_) (fun v hv => ?_) u
  · obtain ⟨y, hy, rfl⟩ := hv
    obtain ⟨z, hz, rfl⟩ := mem_vecs.mp hy
    exact .of ⟨z.2, List.mem_map.mpr ⟨z, hz, rfl⟩, rfl⟩
  · obtain ⟨f, hf, rfl⟩ := hv
    obtain ⟨z, hz, rfl⟩ := List.mem_map.mp hf
    exact .of ⟨(z.1, vec z.2), mem_vecs.mpr ⟨z, hz, rfl⟩, rfl⟩
theorem PL.len_le {p : Int} {n : Nat} {fs gs : List (List Int)} {L M : List (Nat × List Int)} (p1 : 1 < p) (inv : ∀ u, 0 < u → u < p → ∃ c, c * u % p = 1) (hL : PL p n fs L) (hM : PL p n gs M) (e : ∀ u, Lot p (spn fs) u → Lot p (spn gs) u) : L.length ≤ M.length := by
  have := few_le p1 inv hL (M.map (·.1)) fun v lv z => by
    have lz := (hM.lot _).mpr (e v lv)
    exact ((lot_iff hM.leads hM.ndv).mp lz).symm.trans (own_none fun x hx => by
      obtain ⟨y, hy, rfl⟩ := mem_vecs.mp hx
      exact z _ (List.mem_map.mpr ⟨y, hy, rfl⟩))
  simpa using this
/-- still behind an exchange that a still row tells: still ahead, and 0 there -/
theorem still_back {p : Int} {hs : List Int} {ss : List RowP} {x v : Vc} {k : Nat} (p1 : 1 < p) (inv : ∀ u, 0 < u → u < p → ∃ c, c * u % p = 1) (b : Bits hs) (g : Lag p hs.length ss) (hk : k < hs.length) (stx : Stl p hs ss x) (x1 : Cg p (x (rdp hs k)) 1) (h : Stl p (flipL hs [k]) ss v) : Stl p hs ss v ∧ Cg p (v (rdp hs k)) 0 := by
  obtain ⟨l1, h0⟩ := h
  rw [flip_len] at h0
  have vx : Cg p (v (rdp hs k)) 0 := by
    have := h0 _ hk
    rw [flip1_self b hk] at this
    exact this
  refine ⟨⟨l1, fun j hj => ?_⟩, vx⟩
  by_cases e : j = k
  · have fa := lot_fairV g l1 stx.1
    rw [fair_sd (hs := hs)] at fa
    have one := sum_one (p := p) (j := k) (f := fun i => sdV hs v i * sdV hs x (hs.length + i) - sdV hs x i * sdV hs v (hs.length + i)) hs.length hk fun i hi ne => by
      have z2 : Cg p (sdV hs x i) 0 := by
        rw [sd_plc hi]
        exact stx.2 i hi
      have z1 : Cg p (sdV hs v i) 0 := by
        rw [sd_plc hi, ← flip1_other b hi ne]
        exact h0 i hi
      have a2 := z1.mul (Cg.rfl' (p := p) (a := sdV hs x (hs.length + i)))
      have b2 := z2.mul (Cg.rfl' (p := p) (a := sdV hs v (hs.length + i)))
      rw [Int.zero_mul] at a2 b2
      exact a2.sub b2
    have t := one.symm.trans fa
    have z2 : Cg p (sdV hs x k) 0 := by
      rw [sd_plc hk]
      exact stx.2 _ hk
    have b2 := z2.mul (Cg.rfl' (p := p) (a := sdV hs v (hs.length + k)))
    rw [Int.zero_mul] at b2
    have t2 : Cg p ((sdV hs v k * sdV hs x (hs.length + k) - sdV hs x k * sdV hs v (hs.length + k)) + sdV hs x k * sdV hs v (hs.length + k)) (0 + 0) := t.add b2
    rw [show ∀ a b : Int, a - b + b = a from fun a b => by omega] at t2
    have nz : ¬ Cg p (sdV hs x (hs.length + k)) 0 := fun w => by
      rw [sd_read hk] at w
      by_cases y : vec hs k = 0
      · rw [if_pos y, Int.one_mul] at w
        exact one_zero p1 (x1.symm.trans w)
      · rw [if_neg y] at w
        obtain ⟨c, hc⟩ := w
        exact one_zero p1 (x1.symm.trans ⟨-c, by grind⟩)
    have r := cancel0 p1 inv nz t2
    rw [sd_plc hk] at r
    rw [e]
    exact r
  · have := h0 j hj
    rw [flip1_other b hj e] at this
    exact this
theorem stl_lot {p : Int} {hs : List Int} {ss : List RowP} {R : Vc → Prop} (h : ∀ v, R v → Stl p hs ss v) {u : Vc} (k : Lot p R u) : Stl p hs ss u :=
  ⟨Lot.sub (fun v hv => (h v hv).1) k, fun j hj => k.at0 fun v hv => (h v hv).2 j hj⟩
theorem mend_drop {p : Int} {hs : List Int} {ss zs : List RowP} {x : Nat × List Int} {M : List (Nat × List Int)} (p1 : 1 < p) (inv : ∀ u, 0 < u → u < p → ∃ c, c * u % p = 1) (b : Bits hs) (g : Lag p hs.length ss) (me : Mend p hs ss (x :: M) zs) : Mend p (flipL hs [x.1 / 2]) ss M (M.map fun y => rowL y.2) := by
  obtain ⟨hk, ex⟩ := me.read p1 (x := x) (by simp)
  have stx := me.row (x := x) (by simp)
  have x1 : Cg p (vec x.2 x.1) 1 := me.pl.leads.self (x.1, vec x.2) (mem_vecs.mpr ⟨x, by simp, rfl⟩)
  have t := me.pl.tail
  have em : (M.map fun y => rowL y.2).map flatR = M.map (·.2) := by
    rw [List.map_map]
    exact List.map_congr_left fun y hy => (rowL_flat hs.length y.2 (t.len y hy)).1
  refine ⟨by rw [em, flip_len]; exact t, fun u => ?_⟩
  rw [em]
  constructor
  · refine stl_lot fun v hv => ?_
    obtain ⟨f, hf, rfl⟩ := hv
    obtain ⟨y, hy, rfl⟩ := List.mem_map.mp hf
    have sty := me.row (x := y) (List.mem_cons_of_mem _ hy)
    have ne : y.1 ≠ x.1 := fun e => by
      have := (List.nodup_cons.mp me.pl.nd).1
      exact this (List.mem_map.mpr ⟨y, hy, e⟩)
    have yx : Cg p (vec y.2 x.1) 0 := me.pl.leads.other (y.1, vec y.2) (mem_vecs.mpr ⟨y, List.mem_cons_of_mem _ hy, rfl⟩) (x.1, vec x.2) (mem_vecs.mpr ⟨x, by simp, rfl⟩) ne
    refine ⟨sty.1, fun j hj => ?_⟩
    rw [flip_len] at hj
    by_cases e : j = x.1 / 2
    · rw [e, flip1_self b hk, ← ex]
      exact yx
    · rw [flip1_other b hj e]
      exact sty.2 j hj
  · intro h
    obtain ⟨h1, h2⟩ := still_back p1 inv b g hk stx (by rw [← ex]; exact x1) h
    rw [← ex] at h2
    have lz := (me.pl.lot _).mpr ((me.lot u).mpr h1)
    have o := (lot_iff me.pl.leads me.pl.ndv).mp lz
    refine (t.lot _).mp (.eqv (own_lot (u := u) (vecs M) (R := rowsOf (vecs M)) fun y hy => ⟨y, hy, rfl⟩) fun i => ?_)
    refine Cg.trans ?_ (o i)
    show Cg p (own u (vecs M) i) (u x.1 * vec x.2 i + own u (vecs M) i)
    have := (h2.mul (Cg.rfl' (p := p) (a := vec x.2 i))).add (Cg.rfl' (p := p) (a := own u (vecs M) i))
    rw [Int.zero_mul, Int.zero_add] at this
    exact this.symm
/-- one number for what a corner lacks: as much as is still -/
theorem lacks_mend {p : Int} {h1 h2 : List Int} {g : List (List Int)} {ss zs : List RowP} {M : List (Nat × List Int)} {r : Nat} (p1 : 1 < p) (inv : ∀ u, 0 < u → u < p → ∃ c, c * u % p = 1) (b1 : Bits h1) (b2 : Bits h2) (l : h2.length = h1.length) (sy : Sy g) (sp : ∀ u, Lot p (spn (ss.map flatR)) u ↔ Lot p (spn ((unitsP p h1 g).map flatR)) u)
    (h : Lacks p g ((List.range h1.length).filter fun k => decide (vec h1 k ≠ vec h2 k)) r) (me : Mend p h2 ss M zs) : r = M.length := by
  obtain ⟨L, pl, e⟩ := h.ex
  obtain ⟨fs, M2, plM, lot, lM⟩ := still_corner p1 inv b1 b2 l sy sp pl
  have er : M2.length = r := by
    have : M2.length + L.length = r + L.length := lM.trans e.symm
    omega
  have mp := me.pl
  rw [l] at mp
  rw [← er, PL.len_eq p1 plM mp fun u => (lot u).trans (me.lot u).symm]
/-- ahead of the first post that mending tells no exchange makes it less -/
theorem lacks_ahead {p : Int} {h1 h2 : List Int} {g : List (List Int)} {ss zs : List RowP} {x : Nat × List Int} {M : List (Nat × List Int)} {r j : Nat} (p1 : 1 < p) (inv : ∀ u, 0 < u → u < p → ∃ c, c * u % p = 1) (b1 : Bits h1) (b2 : Bits h2) (l : h2.length = h1.length) (sy : Sy g) (sp : ∀ u, Lot p (spn (ss.map flatR)) u ↔ Lot p (spn ((unitsP p h1 g).map flatR)) u)
    (h : Lacks p g ((List.range h1.length).filter fun k => decide (vec h1 k ≠ vec (flipL h2 [j]) k)) r) (me : Mend p h2 ss (x :: M) zs) (up : Up (x :: M)) (hj : j < x.1 / 2) : M.length + 1 ≤ r := by
  obtain ⟨L, pl, e⟩ := h.ex
  obtain ⟨hk, _⟩ := me.read p1 (x := x) (by simp)
  obtain ⟨fs, M2, plM, lot, lM⟩ := still_corner p1 inv b1 (flip_bits b2) (by rw [flip_len, l]) sy sp pl
  have er : M2.length = r := by
    have : M2.length + L.length = r + L.length := lM.trans e.symm
    omega
  have mp := me.pl
  rw [l] at mp
  have := PL.len_le p1 inv mp plM fun u hu => (lot u).mpr ?_
  · rw [er] at this
    exact this
  · refine stl_lot (fun v hv => ?_) ((me.pl.lot u).mpr hu)
    obtain ⟨y, hy, rfl⟩ := hv
    obtain ⟨z, hz, rfl⟩ := mem_vecs.mp hy
    have stz := me.row hz
    have le : x.1 ≤ z.1 := by
      rcases List.mem_cons.mp hz with e | m
      · rw [e]; exact Nat.le_refl _
      · exact Nat.le_of_lt ((List.pairwise_cons.mp (show ((x :: M).map (·.1)).Pairwise (· < ·) from up)).1 _ (List.mem_map.mpr ⟨z, m, rfl⟩))
    refine ⟨stz.1, fun i hi => ?_⟩
    rw [flip_len] at hi
    by_cases e : i = j
    · rw [e, flip1_self b2 (by omega)]
      refine me.pl.ahead _ hy _ ?_
      show rdp h2 j < z.1
      unfold rdp
      split <;> omega
    · rw [flip1_other b2 hi e]
      exact stz.2 i hi
theorem flip_flip {hs : List Int} {A : List Nat} {k : Nat} (h : k ∉ A) : flipL (flipL hs A) [k] = flipL hs (A ++ [k]) := by
  show (List.range (flipL hs A).length).map _ = (List.range hs.length).map _
  rw [flip_len]
  refine List.map_congr_left fun j hj => ?_
  rw [flip_at (List.mem_range.mp hj)]
  by_cases e : j = k
  · subst e
    rw [if_pos (by simp), if_neg h, if_pos (by simp)]
  · rw [if_neg (by simpa using e)]
    by_cases m : j ∈ A
    · rw [if_pos m, if_pos (by simp [m])]
    · rw [if_neg m, if_neg (by simp [m, e])]
theorem flip_nil {hs : List Int} : flipL hs [] = hs := by
  refine List.ext_getElem? fun j => ?_
  by_cases h : j < hs.length
  · unfold flipL
    rw [List.getElem?_map, List.getElem?_range h]
    show some (if j ∈ [] then _ else vec hs j) = _
    rw [if_neg (by simp), List.getElem?_eq_getElem h, vec_some (List.getElem?_eq_getElem h)]
  · rw [List.getElem?_eq_none (by rw [flip_len]; omega), List.getElem?_eq_none (by omega)]
end Lin
set_option linter.all false
/-! the first hold that stands; rows in a lot of units -/
namespace Lin
theorem lex_first : ∀ {a b : List Int}, a.length = b.length → LexB a b → ∃ j, j < a.length ∧ vec a j < vec b j ∧ ∀ i, i < j → vec a i = vec b i
  | x :: a, y :: b, l, h => by
    rcases h with h | ⟨e, h⟩
    · exact ⟨0, by simp, h, fun i hi => by omega⟩
    · obtain ⟨j, h1, h2, h3⟩ := lex_first (by simpa using l) h
      refine ⟨j + 1, by simpa using h1, by rw [vec_succ, vec_succ]; exact h2, fun i hi => ?_⟩
      cases i with
      | zero => exact e
      | succ i => rw [vec_succ, vec_succ]; exact h3 i (by omega)
  | [], _, _, h => h.elim
  | _ :: _, [], _, h => h.elim
theorem vec_rev {h : List Int} {i : Nat} (hi : i < h.length) : vec h.reverse i = vec h (h.length - 1 - i) := by
  show h.reverse.getD i 0 = h.getD _ 0
  rw [List.getD_eq_getElem?_getD, List.getD_eq_getElem?_getD, List.getElem?_reverse hi]
theorem vec_rep0 {m i : Nat} : vec (List.replicate m (0 : Int)) i = 0 := by
  show (List.replicate m (0 : Int)).getD i 0 = 0
  rw [List.getD_eq_getElem?_getD, List.getElem?_replicate]
  split <;> rfl
/-- no hold that stands is ahead of the one to which mending from noughts, last post first, comes -/
theorem first_std {p : Int} {m : Nat} {ss z0 : List RowP} {M : List (Nat × List Int)} {h2 : List Int} (p1 : 1 < p) (fit : ∀ r ∈ ss, r.length = m) (me : Mend p (List.replicate m 0) (ss.map List.reverse) M z0) (l2 : h2.length = m) (b2 : Bits h2) (st : Std p h2 ss)
    (lx : LexB h2 (flipL (List.replicate m 0) ((M.map fun x => x.1 / 2).map fun k => m - 1 - k))) : False := by
  have zl : (List.replicate m (0 : Int)).length = m := by simp
  have hl : (flipL (List.replicate m 0) ((M.map fun x => x.1 / 2).map fun k => m - 1 - k)).length = m := by rw [flip_len, zl]
  obtain ⟨j, h1, lt, eq⟩ := lex_first (by rw [l2, hl]) lx
  rw [l2] at h1
  have fa : ∀ i, i < m → vec (flipL (List.replicate m 0) ((M.map fun x => x.1 / 2).map fun k => m - 1 - k)) i = if i ∈ (M.map fun x => x.1 / 2).map fun k => m - 1 - k then 1 else 0 := fun i hi => by
    rw [flip_at (by rw [zl]; exact hi), vec_rep0]
    split <;> rfl
  rw [fa j h1] at lt
  have bj := b2.at j
  have mj : j ∈ (M.map fun x => x.1 / 2).map fun k => m - 1 - k := Classical.byContradiction fun n => by
    rw [if_neg n] at lt
    omega
  rw [if_pos mj] at lt
  have j0 : vec h2 j = 0 := by omega
  obtain ⟨k0, hk, ek⟩ := List.mem_map.mp mj
  obtain ⟨x, hx, rfl⟩ := List.mem_map.mp hk
  obtain ⟨xk, ex⟩ := me.read p1 hx
  rw [zl] at xk
  have e1 : x.1 = 2 * (x.1 / 2) + 1 := by
    have : rdp (List.replicate m 0) (x.1 / 2) = 2 * (x.1 / 2) + 1 := by
      unfold rdp
      rw [vec_rep0, if_pos rfl]
    omega
  have str : Std p h2.reverse (ss.map List.reverse) := by
    refine std_rev (hs := h2.reverse) (fun r hr => ?_) ?_
    · obtain ⟨s, hs, rfl⟩ := List.mem_map.mp hr
      rw [List.length_reverse, List.length_reverse, fit s hs, l2]
    · rw [List.reverse_reverse, rev_rev]
      exact st
  have row := me.row hx
  have z := str (vec x.2) row.1 fun i hi => ?_
  · have o := me.pl.leads.self (x.1, vec x.2) (mem_vecs.mpr ⟨x, hx, rfl⟩)
    exact one_zero p1 (o.symm.trans (z x.1))
  · rw [List.length_reverse, l2] at hi
    have ri := vec_rev (h := h2) (i := i) (by omega)
    rw [l2] at ri
    have ahead : ∀ q, q < x.1 → Cg p (vec x.2 q) 0 := fun q hq => me.pl.ahead (x.1, vec x.2) (mem_vecs.mpr ⟨x, hx, rfl⟩) q hq
    have push : ∀ i, i < m → Cg p (vec x.2 (2 * i)) 0 := fun i hi => by
      have := row.2 i (by rw [zl]; exact hi)
      unfold plc at this
      rw [vec_rep0, if_pos rfl] at this
      exact this
    unfold plc
    rw [ri]
    rcases Nat.lt_trichotomy i (x.1 / 2) with c | c | c
    · split
      · exact ahead _ (by omega)
      · exact ahead _ (by omega)
    · rw [if_pos (by rw [← j0]; congr 1; omega)]
      exact push i hi
    · have eqi := eq (m - 1 - i) (by omega)
      rw [fa (m - 1 - i) (by omega)] at eqi
      by_cases mi : m - 1 - i ∈ (M.map fun x => x.1 / 2).map fun k => m - 1 - k
      · rw [if_pos mi] at eqi
        rw [if_neg (by rw [eqi]; decide)]
        obtain ⟨k1, hk1, ek1⟩ := List.mem_map.mp mi
        obtain ⟨y, hy, rfl⟩ := List.mem_map.mp hk1
        obtain ⟨yk, ey⟩ := me.read p1 hy
        rw [zl] at yk
        have e2 : y.1 = 2 * (y.1 / 2) + 1 := by
          have : rdp (List.replicate m 0) (y.1 / 2) = 2 * (y.1 / 2) + 1 := by
            unfold rdp
            rw [vec_rep0, if_pos rfl]
          omega
        have ei : y.1 = 2 * i + 1 := by omega
        rw [← ei]
        exact me.pl.leads.other (x.1, vec x.2) (mem_vecs.mpr ⟨x, hx, rfl⟩) (y.1, vec y.2) (mem_vecs.mpr ⟨y, hy, rfl⟩) (by show x.1 ≠ y.1; omega)
      · rw [if_neg mi] at eqi
        rw [if_pos eqi]
        exact push i hi
/-- the held numbers of a row -/
def heldL (hs : List Int) (r : RowP) : List Int := List.zipWith (fun h u => if h = 0 then u.1 else u.2) hs r
theorem held_len {hs : List Int} {r : RowP} (l : r.length = hs.length) : (heldL hs r).length = hs.length := by
  unfold heldL
  rw [List.length_zipWith, l, Nat.min_self]
theorem held_vec {hs : List Int} {r : RowP} {j : Nat} (l : r.length = hs.length) (hj : j < hs.length) : vec (heldL hs r) j = vec (flatR r) (plc hs j) := by
  have := zip_vec (f := fun h u => if h = 0 then u.1 else u.2) l hj
  obtain ⟨a, b⟩ := vec_flatP r j
  show vec (List.zipWith _ hs r) j = _
  rw [this]
  unfold plc
  split
  · exact a.symm
  · exact b.symm
/-- a row of the lot is the stand of its held numbers -/
theorem lot_stand {p : Int} {hs : List Int} {gs : List (List Int)} {r : RowP} (p1 : 1 < p) (inr : InP p r) (l : r.length = hs.length) (h : Lot p (spn ((unitsP p hs gs).map flatR)) (vec (flatR r))) : stP p hs gs (heldL hs r) = r := by
  obtain ⟨a, ha⟩ := units_lot.mp h
  have rg : Rg p (heldL hs r) := fun u hu => by
    unfold heldL at hu
    obtain ⟨i, hi, rfl⟩ := List.mem_iff_getElem.mp hu
    rw [List.getElem_zipWith]
    have := inr _ (List.getElem_mem (show i < r.length by rw [List.length_zipWith] at hi; omega))
    split
    · exact this.1
    · exact this.2
  refine row_eq (p := p) (m := hs.length) (by omega) (st_in (by omega) rg) inr st_len l ?_
  refine Eqv.trans st_vec (Eqv.trans (stV_cg fun k hk => ?_) ha.symm)
  rw [held_vec l hk]
  have := sd_eqv (hs := hs) ha k
  rw [sd_plc hk, (sd_stV hk).1] at this
  exact this
end Lin
set_option linter.all false
/-! sorted(t) of a tuple of ints -/
namespace So
open PySem PySem.Spec PyProof.Rows L2
section
variable {P : Program} {w : World} {A : Around} {E : Value → Shared → Prop} {s : Shared}
abbrev copied (h : Heap) (vs : List Value) : Heap := (h.push (seqObj "list" #[] 0)).update h.objs.size (Obj.mapSeq (· ++ vs.toArray))
set_option maxHeartbeats 2000000 in
theorem collect_tup {t : Addr} {o : Obj} {n : Nat} {vs : List Value} {Q : List Value → Shared → Prop} (ho : s.heap.get? t = some o) (hc : o.cls = .type "tuple") (hd : o.data = .seq vs.toArray n) (hz : vs.length ≤ sizeLine) (q : Q vs { s with heap := copied s.heap vs }) : wpAny (model P w) A (collect (.ref t)) Q E s := by
  unfold collect
  refine wpAny_bind (wpAny_runValue (codeAny_builtin entry_proto_collect' ?_))
  show wpAny (model P w) _ (do again (.builtin "list.__iadd__" ⟨[← newList [], .ref t], []⟩)) _ _ s
  refine wpAny_bind (wpAny_newList (wpAny_pure ⟨Code.quiet_builtin _ (by decide +kernel), codeAny_builtin entry_list_iadd' ?k⟩))
  case k =>
    show wpAny (model P w) _ (Builtin.List.listExtendWith (.ref s.heap.objs.size) (.ref t) (.ref s.heap.objs.size)) _ _ { s with heap := s.heap.push (seqObj "list" #[] 0) }
    unfold Builtin.List.listExtendWith
    have hp : (s.heap.push (seqObj "list" #[] 0)).get? t = some o := Heap.get?_push_of_some _ ho
    refine wpAny_bind (wpAny_typeOf (T := "tuple") ⟨o, hp, hc⟩ ?_)
    have e2 : (Value.type "tuple" == Value.type "tuple") = true := by rfl
    rw [if_pos (by rw [e2, Bool.or_true])]
    refine wpAny_bind (listItems_at hp hd ?_)
    refine wpAny_bind (listItems_at (xs := #[]) (n := 0) (Heap.get?_push_size _ rfl) rfl ?_)
    rw [if_neg (by simp)]
    have sz : (#[] ++ vs.toArray : Array Value).size ≤ sizeLine + 1 := by
      rw [Array.size_append, List.size_toArray]
      show 0 + vs.length ≤ _
      omega
    refine wpAny_bind (listUpdate_at (xs := #[]) (n := 0) (Heap.get?_push_size _ rfl) rfl ?_ (Nat.zero_le _) sz)
    refine wpAny_pure ?_
    show wpAny (model P w) A (do
        let o ← load s.heap.objs.size
        match o.data with
        | .seq xs _ => pure xs.toList
        | _ => unsupported "internal:collect") Q E { s with heap := copied s.heap vs }
    refine wpAny_bind (wpAny_load (get?_update_seq (Heap.get?_push_size _ rfl) _) ?_)
    show wpAny (model P w) A (pure ((#[] : Array Value) ++ vs.toArray).toList) Q E _
    have e3 : ((#[] : Array Value) ++ vs.toArray).toList = vs := by simp
    rw [e3]
    exact wpAny_pure q
set_option maxHeartbeats 2000000 in
theorem sorted_tup {t : Addr} {o : Obj} {n : Nat} {vs : List Value} {ns : List Int} {Q : Value → Shared → Prop} (ho : s.heap.get? t = some o) (hc : o.cls = .type "tuple") (hd : o.data = .seq vs.toArray n) (hz : vs.length ≤ sizeLine) (hI : IntsAre vs ns)
    (q : ∀ out : List Value, SrtO.Srtd SrtO.ltIv out → SrtO.Stb SrtO.ltIv out vs → Q (.ref (s.heap.objs.size + 1)) { s with heap := sortedAll s.heap vs out.toArray }) : wpAny (model P w) A (call (.builtin "sorted") [.ref t]) Q E s := by
  refine Calls.call_function_entry kind_sorted plain_sorted entry_sorted (args_sorted1 _) ?_
  unfold Builtin.«sorted»
  refine wpAny_bind (m := checkCount "sorted" 1 1 _) (wpAny_pure ?_)
  refine wpAny_bind (collect_tup ho hc hd hz ?_)
  refine wpAny_bind (wpAny_newList ?_ hz)
  have size1 : (copied s.heap vs).objs.size = s.heap.objs.size + 1 := by
    unfold copied
    rw [Heap.size_update, size_push']
  have newL : ((copied s.heap vs).push (seqObj "list" vs.toArray 0)).get? (s.heap.objs.size + 1) = some (seqObj "list" vs.toArray 0) := by
    rw [← size1]
    exact Heap.get?_push_size _ rfl
  show wpAny (model P w) _ _ _ _ { s with heap := (copied s.heap vs).push (seqObj "list" vs.toArray 0) }
  rw [size1]
  refine wpAny_bind (wpAny_holding (wpAny_call_entry slot_list_sort ⟨_, newL, rfl⟩ entry_list_sort (SrtO.list_sort_ord SrtO.swo_int newL hz (fun h2 => SrtO.ints_sortable hI h2) fun out hs hb => ⟨_, rfl, ?_⟩) (args_list_sort _)))
  exact wpAny_pure ⟨_, rfl, q out hs hb⟩
end
def rSortedTI (K : PySem.W.Frag) : List V → Hp → VK → Prop := fun vs H Q => ∃ (a : Addr) (ns : List Int), vs = [V.ref a] ∧ H a = some (.tup (ns.map V.int)) ∧ ∀ (ns' : List Int) (p : Addr), ns'.Perm ns → ns'.Pairwise (· ≤ ·) → H p = none → Q (.ref p) (upd H p (.lst (ns'.map V.int)))
section
variable {X : Cx}
theorem cr_sortedTI : CallR X (.builtin "sorted") (rSortedTI X.K) := by
  intro pins s σ H vs us Q I r h
  obtain ⟨a, ns, rfl, ha, q⟩ := h
  obtain ⟨hz, its, rv, o, ho, hc, n, hd⟩ := I.hok a _ ha
  rw [Vals.ref1 r]
  have hi := rv.ints
  refine sorted_tup ho hc hd (by rw [← rv.length]; exact hz) hi fun out h1 h2 => ?_
  obtain ⟨k1, k2, k3⟩ := SrtO.ints_out hi h1 h2
  obtain ⟨ep, he'⟩ := PyProof.Rows.sortedAll_at s.heap its out.toArray
  have hlen : ((out.map SrtO.iv).map V.int).length ≤ sizeLine := by
    rw [List.length_map, k2.length_eq]
    rwa [List.length_map] at hz
  exact ⟨.ref _, upd H (s.heap.objs.size + 1) (.lst ((out.map SrtO.iv).map V.int)), I.laid (t' := s.toks) (fun _ _ => PyProof.Rows.sortedAll_old) (Nat.le_succ _) ⟨hlen, out, ep, vals_of_ints k1, he'⟩, rfl, q _ _ k2 k3 (I.hok.fresh (Nat.le_succ _))⟩
end
end So
set_option linter.all false
/-! sorted(xs) of a list of data (tuples of tuples among them) -/
namespace Sd
open PySem PySem.Spec PyProof.Rows L2
section
variable {K : PySem.W.Frag} {H : Hp}
theorem dp_zip : ∀ {xs : List V} {ds : List PyData}, DpAll K H xs ds → xs.length = ds.length ∧ ∀ b ∈ xs.zip ds, Dp K H b.1 b.2
  | _, _, .nil => ⟨rfl, fun b hb => by cases hb⟩
  | _, _, .cons h t => by
    obtain ⟨e, r⟩ := dp_zip t
    refine ⟨congrArg Nat.succ e, fun b hb => ?_⟩
    rcases List.mem_cons.mp hb with rfl | hb
    · exact h
    · exact r b hb
theorem zip_dp : ∀ {bs : List (V × PyData)}, (∀ b ∈ bs, Dp K H b.1 b.2) → DpAll K H (bs.map (·.1)) (bs.map (·.2))
  | [], _ => .nil
  | b :: bs, h => .cons (h b (by simp)) (zip_dp fun c hc => h c (List.mem_cons_of_mem _ hc))
theorem each_zip : ∀ {xs : List V} {vs : List Value} {ds : List PyData}, Vals xs vs → xs.length = ds.length → PySem.W.EachIs (fun (v : Value) (b : V × PyData) => RelV b.1 v) vs (xs.zip ds)
  | _, _, [], .nil, _ => .nil
  | _, _, _ :: _, .nil, e => by simp at e
  | _, _, [], .cons _ _, e => by simp at e
  | _, _, d :: ds, .cons r t, e => .cons r (each_zip t (by simpa using e))
theorem each_vals : ∀ {vs : List Value} {bs : List (V × PyData)}, PySem.W.EachIs (fun (v : Value) (b : V × PyData) => RelV b.1 v) vs bs → Vals (bs.map (·.1)) vs
  | _, _, .nil => .nil
  | _, _, .cons r t => .cons r (each_vals t)
end
theorem perm1 {α : Type} {l m : List α} (h : l.Perm m) (k : m.length ≤ 1) : l = m := by
  match m, k, h with
  | [], _, h => exact h.eq_nil
  | [v], _, h => exact List.perm_singleton.mp h
  | _ :: _ :: _, k, _ => exact absurd k (by simp)
theorem pair1 {α : Type} {R : α → α → Prop} {l : List α} (k : l.length ≤ 1) : l.Pairwise R := by
  match l, k with
  | [], _ => exact .nil
  | [v], _ => exact List.pairwise_singleton _ _
  | _ :: _ :: _, k => exact absurd k (by simp)
/-- sorted(xs): one item at most, or data of one form -/
def rSortedD (K : PySem.W.Frag) : List V → Hp → VK → Prop := fun vs H Q => ∃ (a : Addr) (xs : List V) (ds : List PyData), vs = [V.ref a] ∧ SqL K H a xs ∧ DpAll K H xs ds ∧ (xs.length ≤ 1 ∨ (PySem.W.AllAlike ds ∧ PySem.W.Sortable ds)) ∧ (∀ d ∈ ds, d.depth ≤ 60) ∧
  ∀ (bs : List (V × PyData)) (p : Addr), bs.Perm (xs.zip ds) → bs.Pairwise (fun x y => PySem.W.dataLe false Prod.snd x y = true) → DpAll K H (bs.map (·.1)) (bs.map (·.2)) → H p = none → Q (.ref p) (upd H p (.lst (bs.map (·.1))))
section
variable {X : Cx}
set_option maxHeartbeats 2000000 in
theorem cr_sortedD (hu : X.A.units + 64 < cLine) : CallR X (.builtin "sorted") (rSortedD X.K) := by
  intro pins s σ H vs us Q I r h
  obtain ⟨a, xs, ds, rfl, hs, hd, hal, hdep, q⟩ := h
  obtain ⟨its, rv, hl, hz⟩ := I.list hs
  rw [Vals.ref1 r]
  obtain ⟨el, hb⟩ := dp_zip hd
  rcases hal with h1 | ⟨hal, hso⟩
  · refine SrtO.sorted_ord (ltv := fun _ _ => false) ⟨fun _ _ h => (by cases h), fun _ _ _ _ _ => rfl⟩ hl.isList (by rw [← rv.length]; exact hz) (fun h2 => by have := rv.length; omega) fun out _ h2 => ?_
    obtain ⟨ep, he'⟩ := PyProof.Rows.sortedAll_at s.heap its out.toArray
    have eo : out = its := perm1 h2.perm (by have := rv.length; omega)
    subst eo
    have eb : (xs.zip ds).map (·.1) = xs := List.map_fst_zip (by omega)
    have q' := q (xs.zip ds) (s.heap.objs.size + 1) (.refl _) (pair1 (by rw [List.length_zip]; omega)) (zip_dp hb) (I.hok.fresh (Nat.le_succ _))
    rw [eb] at q'
    exact ⟨.ref _, upd H (s.heap.objs.size + 1) (.lst xs), I.laid (t' := s.toks) (fun _ _ => PyProof.Rows.sortedAll_old) (Nat.le_succ _) ⟨hz, _, ep, rv, he'⟩, rfl, q'⟩
  · have e1 := each_zip rv el
    have e2 : (xs.zip ds).map (·.2) = ds := List.map_snd_zip (by omega)
    have er : PySem.W.EachIs (fun v (b : V × PyData) => ∃ as, Reads s.heap v b.2 as) its (xs.zip ds) := (PySem.W.each_mem e1).mono fun v b ⟨h1, h2⟩ => Dp.reads I b.2 b.1 v (hb b h2) h1
    have lz : (xs.zip ds).length = xs.length := by rw [List.length_zip]; omega
    refine PySem.W.sorted_data (enc := Prod.snd) hl.isList e1 er (by rw [e2]; exact hal) (by rw [e2]; exact hso) (by rw [lz]; exact hz) (fun b hm => by have := hdep b.2 (List.of_mem_zip hm).2; omega) fun out ol eo => ?_
    obtain ⟨ep, he'⟩ := PyProof.Rows.sortedAll_at s.heap its out.toArray
    have pm : ((xs.zip ds).mergeSort (PySem.W.dataLe false Prod.snd)).Perm (xs.zip ds) := List.mergeSort_perm _ _
    have hlen : (((xs.zip ds).mergeSort (PySem.W.dataLe false Prod.snd)).map (·.1)).length ≤ sizeLine := by rw [List.length_map, pm.length_eq, lz]; exact hz
    refine ⟨.ref _, upd H (s.heap.objs.size + 1) (.lst (((xs.zip ds).mergeSort (PySem.W.dataLe false Prod.snd)).map (·.1))), I.laid (t' := s.toks) (fun _ _ => PyProof.Rows.sortedAll_old) (Nat.le_succ _) ⟨hlen, out, ep, each_vals eo, he'⟩, rfl, q _ _ pm ?_ (zip_dp fun b hm => hb b (pm.mem_iff.mp hm)) (I.hok.fresh (Nat.le_succ _))⟩
    exact PySem.W.sort_pairwise (PySem.W.sortLe_total _ _ _) _
end
/-! two sorted lists of the same items are one, where items whose keys agree are one -/
theorem sorted_eq {α : Type} {le : α → α → Prop} (anti : ∀ x y, le x y → le y x → x = y) : ∀ {l m : List α}, l.Perm m → l.Pairwise le → m.Pairwise le → l = m
  | [], m, h, _, _ => h.nil_eq
  | x :: l, [], h, _, _ => by have := h.length_eq; simp at this
  | x :: l, y :: m, h, hl, hm => by
    have e : x = y := by
      rcases List.mem_cons.mp (h.mem_iff.mp (List.mem_cons_self (a := x) (l := l))) with e | h1
      · exact e
      · rcases List.mem_cons.mp (h.mem_iff.mpr (List.mem_cons_self (a := y) (l := m))) with e | h2
        · exact e.symm
        · exact anti x y ((List.pairwise_cons.mp hl).1 y h2) ((List.pairwise_cons.mp hm).1 x h1)
    subst e
    rw [sorted_eq anti h.cons_inv (List.pairwise_cons.mp hl).2 (List.pairwise_cons.mp hm).2]
theorem le_toks {d e : PyData} (h1 : PySem.W.dataLe false (fun x : PyData => x) d e = true) (h2 : PySem.W.dataLe false (fun x : PyData => x) e d = true) : PySem.W.keyToks d = PySem.W.keyToks e := by
  rw [PySem.W.dataLe_eq] at h1 h2
  simp only [cond_false, Bool.not_eq_true'] at h1 h2
  exact (listOrd PyProof.Rows.itemOrd).total _ _ h2 h1
end Sd
set_option linter.all false
/-! classes of one's own: x == y, x != y, len(x), str(x) by own methods; raise where it is never reached -/
namespace Cl
open PySem PySem.Spec PyProof.Rows PySem.Calls L2
theorem kit_own {K : PySem.W.Frag} {c : Addr} : PySem.W.kitOne K (.ref c) (.ref c) = some true := by
  unfold PySem.W.kitOne
  rw [if_pos (by simp)]
theorem ps_never {X : Cx} {st : Stmt} : PS X st (fun _ _ _ => False) := ⟨fun _ _ _ _ _ _ h => h.elim⟩
section
variable {X : Cx} {CX : CXT} {k : Nat} {f C : Addr} {fd : FuncData} {ps : List Str} {sp : Sp} {E : XK}
/-- the callee runs, a little deeper -/
theorem run_at {A : Around} {pins : List (Addr × Obj)} {σ : L2.St} {H : Hp} {s : Shared} {Q : VK} {us : List Value} {vs : List V} (F : FnOk X.prog X.w X.K X.mg X.base CX k f fd ps sp) (room : Room k A) (fr : A.frames = X.A.frames) (hb : Binds X.K fd ps []) (hx : Passes CX X E)
    (I : L2.Inv X pins σ H s) (r : Vals vs us) (h : sp vs H Q E) : wpAny (model X.prog X.w) A (call (.ref f) us) (EP X pins σ Q) X.xe s := by
  have e0 : Env0 X.prog X.w X.K X.mg X.base A X.stack s H := by
    have e := I.env0
    exact ⟨by rw [fr]; exact e.frames, e.mod, e.bs, e.bsz, e.funs, e.frf, e.hok, e.bare⟩
  have hl := F.len _ _ _ _ h
  have hl2 := r.length
  refine wpAny_call (codeAny_mono (F.run A X.stack s H ⟨us, []⟩ us vs _ E room e0 (by
    have := hb s us I.kIn (by rw [List.append_nil]; omega)
    rw [List.append_nil] at this
    exact this) r h) fun r s' hq => ?_)
  cases r with
  | error e => exact hx pins σ H s e s' I hq
  | ok fl =>
    cases fl with
    | ret w => exact I.after hq
    | next => exact False.elim hq
    | brk => exact False.elim hq
    | cont => exact False.elim hq
/-- x == y, x and y instances of C -/
def rEqC (C : Addr) (sp : Sp) (E : XK) : R2 := fun x y H Q => ∃ a b dx dy fs gs, x = .ref a ∧ y = .ref b ∧ H a = some (.ins C dx fs) ∧ H b = some (.ins C dy gs) ∧ sp [.ref a, .ref b] H (fun v H' => ∃ t, v = .bl t ∧ Q (.bl t) H') E
theorem op_eqC (hm : Meth X.K C "__eq__" f) (F : FnOk X.prog X.w X.K X.mg X.base CX k f fd ps sp) (hr : Room k X.A) (hb : Binds X.K fd ps []) (hx : Passes CX X E) : OpR X (compareOp .Eq) (rEqC C sp E) := by
  intro pins s σ H x y v u Q I rx ry hq
  obtain ⟨a, b, dx, dy, fs, gs, rfl, rfl, ha, hb', hq⟩ := hq
  cases rx
  cases ry
  obtain ⟨mA, J, _⟩ := ins_get I.hok ha
  obtain ⟨mB, J', _⟩ := ins_get I.hok hb'
  obtain ⟨od, J, _⟩ := J.look
  obtain ⟨od', J', _⟩ := J'.look
  obtain ⟨m, hF⟩ := I.fr
  show wpAny (model X.prog X.w) X.A (richCompare .Eq (.ref a) (.ref b)) (EP X pins σ Q) X.xe s
  refine PySem.W.cmp_K (op := .Eq) (tb := .ref C) hr.units0 hF I.ok.mod.kin J J'.type (by simp [PySem.W.notFirst]) hm.at_ hm.fn ?_
  refine wpAny_mono (run_at (vs := [.ref a, .ref b]) F hr rfl hb hx I (.cons rfl (.cons rfl .nil)) hq) (fun v s' hv => ?_) fun _ _ z => z
  obtain ⟨z, H', I', rz, t, rfl, q⟩ := hv
  cases rz
  exact ⟨.bl t, H', I', rfl, q⟩
theorem ifBound_bi {M : Model} {A : Around} {E : Value → Shared → Prop} {s : Shared} {K : PySem.W.Frag} {x C : Addr} {ox : Obj} {od : Option Obj} {name : Str} {id : String} {args : List Value} {Q : Option Value → Shared → Prop} (X : K.In s.heap) (I : PySem.W.InstAt s.heap x ox C od) (hs : PySem.W.findIn K (.ref C) name = some (some (.builtin id)))
    (hb : ∀ self, bindSpecial (.builtin id) self = pure (.builtin id, [self])) (h : wpAny M A (call (.builtin id) (.ref x :: args)) (fun v => Q (some v)) E s) : wpAny M A (callSpecialIfBound? (.ref x) name args) Q E s := by
  simp only [callSpecialIfBound?, bindSpecialIfBound?]
  refine wpAny_holding (wpAny_bind (wpAny_bind (wpAny_bind (I.type.here ((PySem.W.looks_findIn X hs).here ?_)))))
  refine wpAny_bind (wpAny_askSetting (wpAny_ite ?_))
  have fin : wpAny M A (call (.builtin id) ([.ref x] ++ args) >>= fun v => pure (some v)) Q E s := wpAny_bind (wpAny_mono h (fun v s' h' => wpAny_pure h') fun _ _ h' => h')
  split
  · exact wpAny_bind ((PySem.W.Looks.of_pure (hb _)).here (wpAny_pure (by exact fin)))
  · exact wpAny_tryCatch (wpAny_bind ((PySem.W.Looks.of_pure (hb _)).here (wpAny_pure (by exact fin))))
theorem ne_K {prog : Program} {w : World} {A : Around} {E : Value → Shared → Prop} {s : Shared} {K : PySem.W.Frag} {x y C f : Addr} {ox oy : Obj} {od od' : Option Obj} {Q : Value → Shared → Prop} (hu : A.units + 1 < cLine) (X : K.In s.heap) (I : PySem.W.InstAt s.heap x ox C od) (J : PySem.W.InstAt s.heap y oy C od')
    (hn : PySem.W.findIn K (.ref C) "__ne__" = some (some (.builtin "object.__ne__"))) (hm : PySem.W.mroIn K C (.type "object") = some true) (hs : PySem.W.findIn K (.ref C) "__eq__" = some (some (.ref f))) (hf : PySem.W.isFn K (.ref f) = true)
    (h : wpAny (model prog w) A.in1 (call (.ref f) [.ref x, .ref y]) (fun v s' => ∃ b, v = .bool b ∧ Q (.bool (!b)) s') E s) : wpAny (model prog w) A (richCompare .NotEq (.ref x) (.ref y)) Q E s := by
  have one : wpAny (model prog w) A (tryCompare (.ref x) (cmpInfo .NotEq).2.1 (.ref y)) (fun r s' => ∃ v, r = some v ∧ Q v s') E s := by
    unfold tryCompare
    refine wpAny_bind (ifBound_bi X I hn (fun _ => PySem.F.cmp_object.ne.bind _) (wpAny_call (codeAny_call_builtin PySem.F.cmp_object.ne.plain PySem.F.cmpEntry_ne
      (PySem.W.check_slot (i := "object.__ne__") (owner := "object") (n := "__ne__") PySem.F.cmpKind_ne PySem.F.cmpSplit_ne (I.type.andThen (PySem.W.looks_mroIn X hm)) (PySem.F.cmpArgs_ne _ _) ?_))))
    unfold Builtin.«object.__ne__»
    refine wpAny_bind (wpAny_pure ?_)
    refine wpAny_bind (wpAny_cRoomFor hu ?_)
    refine wpAny_bind (m := callSpecialIfBound? (.ref x) (Str.ofString "__eq__") [.ref y]) (PySem.W.ifBound_K X I hs hf (wpAny_mono h (fun v s' hv => ?_) fun _ _ e => e))
    obtain ⟨b, rfl, hq⟩ := hv
    refine wpAny_bind (m := truthy (.bool b)) (wpAny_truthy_bool ?_)
    exact wpAny_pure (wpAny_pure ⟨_, rfl, hq⟩)
  unfold richCompare
  simp only [oneThing_ref]
  refine wpAny_holding (wpAny_bind (wpAny_cRoomFor (by omega) ?_))
  refine wpAny_bind (I.type.here (wpAny_bind (J.type.here ?_)))
  rw [show (Value.ref C != Value.ref C) = false from by simp]
  simp only [Bool.false_eq_true, if_false]
  refine wpAny_bind (wpAny_pure ?_)
  simp only [Bool.false_eq_true, if_false]
  refine wpAny_bind (wpAny_mono one (fun r s' z => ?_) fun _ _ e => e)
  obtain ⟨v, rfl, hq⟩ := z
  exact wpAny_pure hq
/-- len(x), x an instance of C -/
def rLenC (C : Addr) (sp : Sp) (E : XK) : List V → Hp → VK → Prop := fun xs H Q => ∃ a dx fs, xs = [.ref a] ∧ H a = some (.ins C dx fs) ∧ sp [.ref a] H (fun v H' => ∃ n : Nat, v = .int n ∧ n < 2 ^ 62 ∧ Q (.int n) H') E
theorem call_lenC (hm : Meth X.K C "__len__" f) (F : FnOk X.prog X.w X.K X.mg X.base CX k f fd ps sp) (hr : Room (k + 1) X.A) (hb : Binds X.K fd ps []) (hx : Passes CX X E) : CallR X (.builtin "len") (rLenC C sp E) := by
  intro pins s σ H xs us Q I r h
  obtain ⟨a, dx, fs, rfl, ha, hq⟩ := h
  obtain ⟨u, rfl, rx⟩ := vals1 r
  cases rx
  obtain ⟨mA, J, _⟩ := ins_get I.hok ha
  obtain ⟨od, J, _⟩ := J.look
  obtain ⟨m, hF⟩ := I.fr
  refine PySem.W.len_K hF I.ok.mod.kin J hm.at_ hm.fn ?_
  refine wpAny_mono (run_at (vs := [.ref a]) F hr.in1 rfl hb hx I (.cons rfl .nil) hq) (fun v s' hv => ?_) fun _ _ z => z
  obtain ⟨z, H', I', rz, n, rfl, hn, q⟩ := hv
  obtain ⟨t, rfl⟩ := rz
  exact ⟨⟨by omega, by omega⟩, ⟨.int n, H', I'.tok _, ⟨_, rfl⟩, q⟩⟩
/-- str(x), x an instance of C -/
def rStrC (C : Addr) (sp : Sp) (E : XK) : List V → Hp → VK → Prop := fun xs H Q => ∃ a dx fs, xs = [.ref a] ∧ H a = some (.ins C dx fs) ∧ sp [.ref a] H (fun v H' => ∃ z, v = .str z ∧ Q (.str z) H') E
theorem call_strC (hm : Meth X.K C "__str__" f) (F : FnOk X.prog X.w X.K X.mg X.base CX k f fd ps sp) (hr : Room (k + 2) X.A) (hb : Binds X.K fd ps []) (hx : Passes CX X E) : CallR X (.type "str") (rStrC C sp E) := by
  intro pins s σ H xs us Q I r h
  obtain ⟨a, dx, fs, rfl, ha, hq⟩ := h
  obtain ⟨u, rfl, rx⟩ := vals1 r
  cases rx
  obtain ⟨mA, J, _⟩ := ins_get I.hok ha
  obtain ⟨od, J, _⟩ := J.look
  obtain ⟨m, hF⟩ := I.fr
  refine PySem.W.kso_call hr.in1.in1.units0 I.kIn J hm.at_ hm.fn ?_
  refine wpAny_mono (run_at (vs := [.ref a]) F hr.in1.in1 rfl hb hx I (.cons rfl .nil) hq) (fun v s' hv => ?_) fun _ _ z => z
  obtain ⟨z, H', I', rz, y, rfl, q⟩ := hv
  obtain ⟨t, rfl⟩ := rz
  exact ⟨.str y, H', I', ⟨_, rfl⟩, q⟩
/-- x != y, x and y instances of C -/
theorem op_neC (hm : Meth X.K C "__eq__" f) (hn : PySem.W.findIn X.K (.ref C) "__ne__" = some (some (.builtin "object.__ne__"))) (ho : PySem.W.mroIn X.K C (.type "object") = some true) (F : FnOk X.prog X.w X.K X.mg X.base CX k f fd ps sp) (hr : Room (k + 1) X.A) (hb : Binds X.K fd ps []) (hx : Passes CX X E) :
    OpR X (compareOp .NotEq) (fun x y H Q => rEqC C sp E x y H fun v H' => ∃ t, v = .bl t ∧ Q (.bl (!t)) H') := by
  intro pins s σ H x y v u Q I rx ry hq
  obtain ⟨a, b, dx, dy, fs, gs, rfl, rfl, ha, hb', hq⟩ := hq
  cases rx
  cases ry
  obtain ⟨mA, J, _⟩ := ins_get I.hok ha
  obtain ⟨mB, J', _⟩ := ins_get I.hok hb'
  obtain ⟨od, J, _⟩ := J.look
  obtain ⟨od', J', _⟩ := J'.look
  show wpAny (model X.prog X.w) X.A (richCompare .NotEq (.ref a) (.ref b)) (EP X pins σ Q) X.xe s
  refine ne_K (by have := hr.un; omega) I.kIn J J' hn ho hm.at_ hm.fn ?_
  refine wpAny_mono (run_at (vs := [.ref a, .ref b]) F hr.in1 rfl hb hx I (.cons rfl (.cons rfl .nil)) hq) (fun v s' hv => ?_) fun _ _ z => z
  obtain ⟨z, H', I', rz, t, rfl, t', e, q⟩ := hv
  cases rz
  cases e
  exact ⟨t, rfl, .bl (!t), H', I', rfl, q⟩
end
end Cl
namespace Kp
open PySem L2
def top (i : Nat) : Stmt := PySem.Challenge.pw_fairposts_k54_tables_turned.main.body.getD i (.Pass ⟨0, 0, 0, 0⟩)
abbrev s_inverse : Stmt := top 1
def N_inverse : List Str := ["p", "number", "worth", "step"]
theorem sc_inverse : FnScope ["p", "number", "worth", "step"] ["p", "number"] (defScope s_inverse) := ⟨rfl, rfl, rfl, by decide +kernel, rfl, by decide +kernel, by decide +kernel⟩
abbrev s_first_place : Stmt := top 3
def N_first_place : List Str := ["flat", "place", "number"]
theorem sc_first_place : FnScope ["flat", "place", "number"] ["flat"] (defScope s_first_place) := ⟨rfl, rfl, rfl, by decide +kernel, rfl, by decide +kernel, by decide +kernel⟩
abbrev s_lessened : Stmt := top 4
def N_lessened : List Str := ["p", "flat", "number", "other", "mine", "its"]
theorem sc_lessened : FnScope ["p", "flat", "number", "other", "mine", "its"] ["p", "flat", "number", "other"] (defScope s_lessened) := ⟨rfl, rfl, rfl, by decide +kernel, rfl, by decide +kernel, by decide +kernel⟩
abbrev s_cleared : Stmt := top 5
def N_cleared : List Str := ["p", "flat", "leads", "place"]
theorem sc_cleared : FnScope ["p", "flat", "leads", "place"] ["p", "flat", "leads"] (defScope s_cleared) := ⟨rfl, rfl, rfl, by decide +kernel, rfl, by decide +kernel, by decide +kernel⟩
abbrev s_leads_of : Stmt := top 6
def N_leads_of : List Str := ["p", "flats", "leads", "flat", "rest", "first", "scale", "lead", "place", "number"]
theorem sc_leads_of : FnScope ["p", "flats", "leads", "flat", "rest", "first", "scale", "lead", "place", "number"] ["p", "flats"] (defScope s_leads_of) := ⟨rfl, rfl, rfl, by decide +kernel, rfl, by decide +kernel, by decide +kernel⟩
abbrev s_sided : Stmt := top 8
def N_sided : List Str := ["p", "hold", "row", "held", "told", "side", "pair", "push", "answer"]
theorem sc_sided : FnScope ["p", "hold", "row", "held", "told", "side", "pair", "push", "answer"] ["p", "hold", "row"] (defScope s_sided) := ⟨rfl, rfl, rfl, by decide +kernel, rfl, by decide +kernel, by decide +kernel⟩
abbrev s_row_of_sides : Stmt := top 9
def N_row_of_sides : List Str := ["p", "hold", "held", "told", "side", "mine", "its"]
theorem sc_row_of_sides : FnScope ["p", "hold", "held", "told", "side", "mine", "its"] ["p", "hold", "held", "told"] (defScope s_row_of_sides) := ⟨rfl, rfl, rfl, by decide +kernel, rfl, by decide +kernel, by decide +kernel⟩
abbrev s_side_leads : Stmt := top 10
def N_side_leads : List Str := ["p", "hold", "rows", "row"]
theorem sc_side_leads : FnScope ["p", "hold", "rows", "row"] ["p", "hold", "rows"] (defScope s_side_leads) := ⟨rfl, rfl, rfl, by decide +kernel, rfl, by decide +kernel, by decide +kernel⟩
abbrev s_table_of : Stmt := top 11
def N_table_of : List Str := ["p", "hold", "rows", "posts", "leads", "place", "post"]
theorem sc_table_of : FnScope ["p", "hold", "rows", "posts", "leads", "place", "post"] ["p", "hold", "rows"] (defScope s_table_of) := ⟨rfl, rfl, rfl, by decide +kernel, rfl, by decide +kernel, by decide +kernel⟩
abbrev s_rows_by_table : Stmt := top 12
def N_rows_by_table : List Str := ["p", "hold", "table", "posts", "units", "post", "other", "held", "told"]
theorem sc_rows_by_table : FnScope ["p", "hold", "table", "posts", "units", "post", "other", "held", "told"] ["p", "hold", "table"] (defScope s_rows_by_table) := ⟨rfl, rfl, rfl, by decide +kernel, rfl, by decide +kernel, by decide +kernel⟩
abbrev s_other_sides : Stmt := top 13
def N_other_sides : List Str := ["hold", "posts", "post", "side"]
theorem sc_other_sides : FnScope ["hold", "posts", "post", "side"] ["hold", "posts"] (defScope s_other_sides) := ⟨rfl, rfl, rfl, by decide +kernel, rfl, by decide +kernel, by decide +kernel⟩
abbrev s_turned : Stmt := top 15
def N_turned : List Str := ["p", "hold", "table", "posts", "found", "shown"]
theorem sc_turned : FnScope ["p", "hold", "table", "posts", "found", "shown"] ["p", "hold", "table", "posts"] (defScope s_turned) := ⟨rfl, rfl, rfl, by decide +kernel, rfl, by decide +kernel, by decide +kernel⟩
abbrev s__law_deck : Stmt := top 17
def N__law_deck : List Str := ["_law_script", "_law_cells", "_law_cell"]
theorem sc__law_deck : FnScope ["_law_script", "_law_cells", "_law_cell"] ["_law_script"] (defScope s__law_deck) := ⟨rfl, rfl, rfl, by decide +kernel, rfl, by decide +kernel, by decide +kernel⟩
abbrev s__law_next : Stmt := top 18
def N__law_next : List Str := ["_law_deck_here", "_law_many", "_law_cell", "_law_mixed", "_law_rest"]
theorem sc__law_next : FnScope ["_law_deck_here", "_law_many", "_law_cell", "_law_mixed", "_law_rest"] ["_law_deck_here", "_law_many"] (defScope s__law_next) := ⟨rfl, rfl, rfl, by decide +kernel, rfl, by decide +kernel, by decide +kernel⟩
abbrev s__law_prime : Stmt := top 19
def N__law_prime : List Str := ["_law_deck_here"]
theorem sc__law_prime : FnScope ["_law_deck_here"] ["_law_deck_here"] (defScope s__law_prime) := ⟨rfl, rfl, rfl, by decide +kernel, rfl, by decide +kernel, by decide +kernel⟩
abbrev s__law_hold : Stmt := top 20
def N__law_hold : List Str := ["_law_deck_here", "_law_posts", "_law_k"]
theorem sc__law_hold : FnScope ["_law_deck_here", "_law_posts", "_law_k"] ["_law_deck_here", "_law_posts"] (defScope s__law_hold) := ⟨rfl, rfl, rfl, by decide +kernel, rfl, by decide +kernel, by decide +kernel⟩
abbrev s__law_table : Stmt := top 21
def N__law_table : List Str := ["_law_deck_here", "_law_p", "_law_posts", "_law_found", "_law_k", "_law_j", "_law_number", "_law_row"]
theorem sc__law_table : FnScope ["_law_deck_here", "_law_p", "_law_posts", "_law_found", "_law_k", "_law_j", "_law_number", "_law_row"] ["_law_deck_here", "_law_p", "_law_posts"] (defScope s__law_table) := ⟨rfl, rfl, rfl, by decide +kernel, rfl, by decide +kernel, by decide +kernel⟩
abbrev s__law_stand : Stmt := top 22
def N__law_stand : List Str := ["_law_p", "_law_hold_here", "_law_grid", "_law_held_here", "_law_found", "_law_j", "_law_told", "_law_k"]
theorem sc__law_stand : FnScope ["_law_p", "_law_hold_here", "_law_grid", "_law_held_here", "_law_found", "_law_j", "_law_told", "_law_k"] ["_law_p", "_law_hold_here", "_law_grid", "_law_held_here"] (defScope s__law_stand) := ⟨rfl, rfl, rfl, by decide +kernel, rfl, by decide +kernel, by decide +kernel⟩
abbrev s__law_units : Stmt := top 23
def N__law_units : List Str := ["_law_p", "_law_hold_here", "_law_grid", "_law_posts", "_law_k", "_law_j"]
theorem sc__law_units : FnScope ["_law_p", "_law_hold_here", "_law_grid", "_law_posts", "_law_k", "_law_j"] ["_law_p", "_law_hold_here", "_law_grid"] (defScope s__law_units) := ⟨rfl, rfl, rfl, by decide +kernel, rfl, by decide +kernel, by decide +kernel⟩
abbrev s__law_whole : Stmt := top 24
def N__law_whole : List Str := ["_law_thing"]
theorem sc__law_whole : FnScope ["_law_thing"] ["_law_thing"] (defScope s__law_whole) := ⟨rfl, rfl, rfl, by decide +kernel, rfl, by decide +kernel, by decide +kernel⟩
abbrev s__law_same : Stmt := top 25
def N__law_same : List Str := ["_law_found", "_law_due", "_law_one", "_law_other"]
theorem sc__law_same : FnScope ["_law_found", "_law_due", "_law_one", "_law_other"] ["_law_found", "_law_due"] (defScope s__law_same) := ⟨rfl, rfl, rfl, by decide +kernel, rfl, by decide +kernel, by decide +kernel⟩
abbrev s__law_held : Stmt := top 26
def N__law_held : List Str := ["_law_hold_here", "_law_row", "_law_pair", "_law_side"]
theorem sc__law_held : FnScope ["_law_hold_here", "_law_row", "_law_pair", "_law_side"] ["_law_hold_here", "_law_row"] (defScope s__law_held) := ⟨rfl, rfl, rfl, by decide +kernel, rfl, by decide +kernel, by decide +kernel⟩
abbrev s__law_lets : Stmt := top 27
def N__law_lets : List Str := ["_law_p", "_law_hold_here", "_law_grid", "_law_row"]
theorem sc__law_lets : FnScope ["_law_p", "_law_hold_here", "_law_grid", "_law_row"] ["_law_p", "_law_hold_here", "_law_grid", "_law_row"] (defScope s__law_lets) := ⟨rfl, rfl, rfl, by decide +kernel, rfl, by decide +kernel, by decide +kernel⟩
abbrev s__law_inverse : Stmt := top 28
def N__law_inverse : List Str := ["_law_p", "_law_number", "_law_k"]
theorem sc__law_inverse : FnScope ["_law_p", "_law_number", "_law_k"] ["_law_p", "_law_number"] (defScope s__law_inverse) := ⟨rfl, rfl, rfl, by decide +kernel, rfl, by decide +kernel, by decide +kernel⟩
abbrev s__law_lacks : Stmt := top 29
def N__law_lacks : List Str := ["_law_p", "_law_grid", "_law_posts", "_law_rows", "_law_done", "_law_place", "_law_some", "_law_k", "_law_by", "_law_j", "_law_much", "_law_one", "_law_other"]
theorem sc__law_lacks : FnScope ["_law_p", "_law_grid", "_law_posts", "_law_rows", "_law_done", "_law_place", "_law_some", "_law_k", "_law_by", "_law_j", "_law_much", "_law_one", "_law_other"] ["_law_p", "_law_grid", "_law_posts"] (defScope s__law_lacks) := ⟨rfl, rfl, rfl, by decide +kernel, rfl, by decide +kernel, by decide +kernel⟩
abbrev s__law_flipped : Stmt := top 30
def N__law_flipped : List Str := ["_law_hold_here", "_law_posts", "_law_post", "_law_side"]
theorem sc__law_flipped : FnScope ["_law_hold_here", "_law_posts", "_law_post", "_law_side"] ["_law_hold_here", "_law_posts"] (defScope s__law_flipped) := ⟨rfl, rfl, rfl, by decide +kernel, rfl, by decide +kernel, by decide +kernel⟩
abbrev s__law_is_board : Stmt := top 31
def N__law_is_board : List Str := ["_law_p", "_law_posts", "_law_thing", "_law_row", "_law_k", "_law_one"]
theorem sc__law_is_board : FnScope ["_law_p", "_law_posts", "_law_thing", "_law_row", "_law_k", "_law_one"] ["_law_p", "_law_posts", "_law_thing"] (defScope s__law_is_board) := ⟨rfl, rfl, rfl, by decide +kernel, rfl, by decide +kernel, by decide +kernel⟩
abbrev s__law_fits : Stmt := top 32
def N__law_fits : List Str := ["_law_p", "_law_hold_here", "_law_grid", "_law_other", "_law_told", "_law_row"]
theorem sc__law_fits : FnScope ["_law_p", "_law_hold_here", "_law_grid", "_law_other", "_law_told", "_law_row"] ["_law_p", "_law_hold_here", "_law_grid", "_law_other", "_law_told"] (defScope s__law_fits) := ⟨rfl, rfl, rfl, by decide +kernel, rfl, by decide +kernel, by decide +kernel⟩
abbrev s__law_two : Stmt := top 33
def N__law_two : List Str := ["_law_deck_here", "_law_posts", "_law_one"]
theorem sc__law_two : FnScope ["_law_deck_here", "_law_posts", "_law_one"] ["_law_deck_here", "_law_posts"] (defScope s__law_two) := ⟨rfl, rfl, rfl, by decide +kernel, rfl, by decide +kernel, by decide +kernel⟩
abbrev s__law_right : Stmt := top 34
def N__law_right : List Str := ["_law_p", "_law_hold_here", "_law_grid", "_law_spots", "_law_found"]
theorem sc__law_right : FnScope ["_law_p", "_law_hold_here", "_law_grid", "_law_spots", "_law_found"] ["_law_p", "_law_hold_here", "_law_grid", "_law_spots"] (defScope s__law_right) := ⟨rfl, rfl, rfl, by decide +kernel, rfl, by decide +kernel, by decide +kernel⟩
abbrev s__law_by_one : Stmt := top 35
def N__law_by_one : List Str := ["_law_p", "_law_hold_here", "_law_grid", "_law_spots", "_law_one"]
theorem sc__law_by_one : FnScope ["_law_p", "_law_hold_here", "_law_grid", "_law_spots", "_law_one"] ["_law_p", "_law_hold_here", "_law_grid", "_law_spots"] (defScope s__law_by_one) := ⟨rfl, rfl, rfl, by decide +kernel, rfl, by decide +kernel, by decide +kernel⟩
abbrev s_law : Stmt := top 36
def N_law : List Str := ["_law_script", "_law_deck_here", "_law_turn", "_law_p", "_law_posts", "_law_k", "_law_hold_here", "_law_grid", "_law_spots"]
theorem sc_law : FnScope ["_law_script", "_law_deck_here", "_law_turn", "_law_p", "_law_posts", "_law_k", "_law_hold_here", "_law_grid", "_law_spots"] ["_law_script"] (defScope s_law) := ⟨rfl, rfl, rfl, by decide +kernel, rfl, by decide +kernel, by decide +kernel⟩
structure Df (K : PySem.W.Frag) (mg : Str → Option Value) (x : Str) (st : Stmt) (ps : List Str) (f : Addr) (fd : FuncData) : Prop where
  F : Fun K x x st f fd
  b : Binds K fd ps []
  g : mg x = some (.ref f)
structure Ad where
  f_inverse : Addr
  d_inverse : FuncData
  f_first_place : Addr
  d_first_place : FuncData
  f_lessened : Addr
  d_lessened : FuncData
  f_cleared : Addr
  d_cleared : FuncData
  f_leads_of : Addr
  d_leads_of : FuncData
  f_sided : Addr
  d_sided : FuncData
  f_row_of_sides : Addr
  d_row_of_sides : FuncData
  f_side_leads : Addr
  d_side_leads : FuncData
  f_table_of : Addr
  d_table_of : FuncData
  f_rows_by_table : Addr
  d_rows_by_table : FuncData
  f_other_sides : Addr
  d_other_sides : FuncData
  f_turned : Addr
  d_turned : FuncData
  f__law_deck : Addr
  d__law_deck : FuncData
  f__law_next : Addr
  d__law_next : FuncData
  f__law_prime : Addr
  d__law_prime : FuncData
  f__law_hold : Addr
  d__law_hold : FuncData
  f__law_table : Addr
  d__law_table : FuncData
  f__law_stand : Addr
  d__law_stand : FuncData
  f__law_units : Addr
  d__law_units : FuncData
  f__law_whole : Addr
  d__law_whole : FuncData
  f__law_same : Addr
  d__law_same : FuncData
  f__law_held : Addr
  d__law_held : FuncData
  f__law_lets : Addr
  d__law_lets : FuncData
  f__law_inverse : Addr
  d__law_inverse : FuncData
  f__law_lacks : Addr
  d__law_lacks : FuncData
  f__law_flipped : Addr
  d__law_flipped : FuncData
  f__law_is_board : Addr
  d__law_is_board : FuncData
  f__law_fits : Addr
  d__law_fits : FuncData
  f__law_two : Addr
  d__law_two : FuncData
  f__law_right : Addr
  d__law_right : FuncData
  f__law_by_one : Addr
  d__law_by_one : FuncData
  f_law : Addr
  d_law : FuncData
structure Tx (K : PySem.W.Frag) (mg : Str → Option Value) (A : Ad) : Prop where
  d_inverse : Df K mg "inverse" s_inverse ["p", "number"] A.f_inverse A.d_inverse
  d_first_place : Df K mg "first_place" s_first_place ["flat"] A.f_first_place A.d_first_place
  d_lessened : Df K mg "lessened" s_lessened ["p", "flat", "number", "other"] A.f_lessened A.d_lessened
  d_cleared : Df K mg "cleared" s_cleared ["p", "flat", "leads"] A.f_cleared A.d_cleared
  d_leads_of : Df K mg "leads_of" s_leads_of ["p", "flats"] A.f_leads_of A.d_leads_of
  d_sided : Df K mg "sided" s_sided ["p", "hold", "row"] A.f_sided A.d_sided
  d_row_of_sides : Df K mg "row_of_sides" s_row_of_sides ["p", "hold", "held", "told"] A.f_row_of_sides A.d_row_of_sides
  d_side_leads : Df K mg "side_leads" s_side_leads ["p", "hold", "rows"] A.f_side_leads A.d_side_leads
  d_table_of : Df K mg "table_of" s_table_of ["p", "hold", "rows"] A.f_table_of A.d_table_of
  d_rows_by_table : Df K mg "rows_by_table" s_rows_by_table ["p", "hold", "table"] A.f_rows_by_table A.d_rows_by_table
  d_other_sides : Df K mg "other_sides" s_other_sides ["hold", "posts"] A.f_other_sides A.d_other_sides
  d_turned : Df K mg "turned" s_turned ["p", "hold", "table", "posts"] A.f_turned A.d_turned
  d__law_deck : Df K mg "_law_deck" s__law_deck ["_law_script"] A.f__law_deck A.d__law_deck
  d__law_next : Df K mg "_law_next" s__law_next ["_law_deck_here", "_law_many"] A.f__law_next A.d__law_next
  d__law_prime : Df K mg "_law_prime" s__law_prime ["_law_deck_here"] A.f__law_prime A.d__law_prime
  d__law_hold : Df K mg "_law_hold" s__law_hold ["_law_deck_here", "_law_posts"] A.f__law_hold A.d__law_hold
  d__law_table : Df K mg "_law_table" s__law_table ["_law_deck_here", "_law_p", "_law_posts"] A.f__law_table A.d__law_table
  d__law_stand : Df K mg "_law_stand" s__law_stand ["_law_p", "_law_hold_here", "_law_grid", "_law_held_here"] A.f__law_stand A.d__law_stand
  d__law_units : Df K mg "_law_units" s__law_units ["_law_p", "_law_hold_here", "_law_grid"] A.f__law_units A.d__law_units
  d__law_whole : Df K mg "_law_whole" s__law_whole ["_law_thing"] A.f__law_whole A.d__law_whole
  d__law_same : Df K mg "_law_same" s__law_same ["_law_found", "_law_due"] A.f__law_same A.d__law_same
  d__law_held : Df K mg "_law_held" s__law_held ["_law_hold_here", "_law_row"] A.f__law_held A.d__law_held
  d__law_lets : Df K mg "_law_lets" s__law_lets ["_law_p", "_law_hold_here", "_law_grid", "_law_row"] A.f__law_lets A.d__law_lets
  d__law_inverse : Df K mg "_law_inverse" s__law_inverse ["_law_p", "_law_number"] A.f__law_inverse A.d__law_inverse
  d__law_lacks : Df K mg "_law_lacks" s__law_lacks ["_law_p", "_law_grid", "_law_posts"] A.f__law_lacks A.d__law_lacks
  d__law_flipped : Df K mg "_law_flipped" s__law_flipped ["_law_hold_here", "_law_posts"] A.f__law_flipped A.d__law_flipped
  d__law_is_board : Df K mg "_law_is_board" s__law_is_board ["_law_p", "_law_posts", "_law_thing"] A.f__law_is_board A.d__law_is_board
  d__law_fits : Df K mg "_law_fits" s__law_fits ["_law_p", "_law_hold_here", "_law_grid", "_law_other", "_law_told"] A.f__law_fits A.d__law_fits
  d__law_two : Df K mg "_law_two" s__law_two ["_law_deck_here", "_law_posts"] A.f__law_two A.d__law_two
  d__law_right : Df K mg "_law_right" s__law_right ["_law_p", "_law_hold_here", "_law_grid", "_law_spots"] A.f__law_right A.d__law_right
  d__law_by_one : Df K mg "_law_by_one" s__law_by_one ["_law_p", "_law_hold_here", "_law_grid", "_law_spots"] A.f__law_by_one A.d__law_by_one
  d_law : Df K mg "law" s_law ["_law_script"] A.f_law A.d_law
  b_abs : mg "abs" = none
  b_all : mg "all" = none
  b_any : mg "any" = none
  b_bool : mg "bool" = none
  b_enumerate : mg "enumerate" = none
  b_int : mg "int" = none
  b_isinstance : mg "isinstance" = none
  b_len : mg "len" = none
  b_list : mg "list" = none
  b_range : mg "range" = none
  b_repr : mg "repr" = none
  b_sorted : mg "sorted" = none
  b_str : mg "str" = none
  b_sum : mg "sum" = none
  b_tuple : mg "tuple" = none
  b_zip : mg "zip" = none
/-! ### heaps -/
theorem same_upd {H : Hp} {p : Addr} {o : HO} (h : H p = none) : Same H (upd H p o) := fun b x e => by
  rw [upd_ne (ne_of_none e h)]
  exact e
/-- all but the deck's two lists that change stays -/
def Fr (d g : Addr) (H H' : Hp) : Prop := ∀ a o, a ≠ d → a ≠ g → H a = some o → H' a = some o
theorem Fr.refl (d g : Addr) (H : Hp) : Fr d g H H := fun _ _ _ _ h => h
theorem Fr.trans {d g : Addr} {H H1 H2 : Hp} (x : Fr d g H H1) (y : Fr d g H1 H2) : Fr d g H H2 := fun a o hd hg h => y a o hd hg (x a o hd hg h)
theorem Fr.of_same {d g : Addr} {H H1 : Hp} (x : Same H H1) : Fr d g H H1 := fun a o _ _ h => x a o h
theorem Fr.new {d g : Addr} {H : Hp} {p : Addr} {o : HO} (h : H p = none) : Fr d g H (upd H p o) := .of_same (same_upd h)
theorem Fr.atd {d g : Addr} {H : Hp} {o : HO} : Fr d g H (upd H d o) := fun a x hd _ h => by
  rw [upd_ne hd]
  exact h
theorem Fr.atg {d g : Addr} {H : Hp} {o : HO} : Fr d g H (upd H g o) := fun a x _ hg h => by
  rw [upd_ne hg]
  exact h
/-- the deck: a list of great cells, of cells, and a count that is at most k -/
structure Dk (d g c : Addr) (k : Int) (H : Hp) : Prop where
  ex : ∃ (gs cs : List Int) (n : Int), H d = some (.lst [.ref g, .ref c, .int n]) ∧ H g = some (.lst (gs.map V.int)) ∧ H c = some (.lst (cs.map V.int)) ∧ 0 < cs.length ∧ cs.length ≤ 100 ∧ 0 ≤ n ∧ n ≤ k
  dg : d ≠ g
  dc : d ≠ c
  gc : g ≠ c
theorem Dk.mono {d g c : Addr} {k j : Int} {H : Hp} (D : Dk d g c k H) (h : k ≤ j) : Dk d g c j H := by
  obtain ⟨gs, cs, n, h1, h2, h3, h4, h5, h6, h7⟩ := D.ex
  exact ⟨⟨gs, cs, n, h1, h2, h3, h4, h5, h6, by omega⟩, D.dg, D.dc, D.gc⟩
theorem Dk.same {d g c : Addr} {k : Int} {H H' : Hp} (D : Dk d g c k H) (s : Same H H') : Dk d g c k H' := by
  obtain ⟨gs, cs, n, h1, h2, h3, h4, h5, h6, h7⟩ := D.ex
  exact ⟨⟨gs, cs, n, s _ _ h1, s _ _ h2, s _ _ h3, h4, h5, h6, h7⟩, D.dg, D.dc, D.gc⟩
theorem Dk.hd {d g c : Addr} {k : Int} {H : Hp} (D : Dk d g c k H) : ∃ o, H d = some o := by
  obtain ⟨gs, cs, n, h1, _⟩ := D.ex
  exact ⟨_, h1⟩
theorem Dk.nd {d g c p : Addr} {k : Int} {H : Hp} (D : Dk d g c k H) (h : H p = none) : p ≠ d ∧ p ≠ g ∧ p ≠ c := by
  obtain ⟨gs, cs, n, h1, h2, h3, _⟩ := D.ex
  exact ⟨(ne_of_none h1 h).symm, (ne_of_none h2 h).symm, (ne_of_none h3 h).symm⟩
theorem neqv_nil : ∀ gs : List Int, PyData.eqv (.list (gs.map PyData.int)) (.list []) = gs.isEmpty
  | [] => rfl
  | _ :: _ => rfl
theorem dp_ints {K : PySem.W.Frag} {H : Hp} : ∀ gs : List Int, DpAll K H (gs.map V.int) (gs.map PyData.int)
  | [] => .nil
  | i :: r => .cons (.int i) (dp_ints r)
theorem lay_ints : ∀ gs : List Int, PyData.canLayAll0 (gs.map PyData.int) = true
  | [] => by simp [PyData.canLayAll0]
  | z :: zs => by simp [PyData.canLayAll0, PyData.canLay0, lay_ints zs]
theorem dep_ints : ∀ gs : List Int, PyData.depthAll (gs.map PyData.int) = 0
  | [] => by simp [PyData.depthAll]
  | z :: zs => by simp [PyData.depthAll, PyData.depth, dep_ints zs]
theorem sh_ints (gs : List Int) : SeqAt.shaped (.list (gs.map PyData.int)) = true := by
  have h1 := dep_ints gs
  have h2 : PyData.depth (.list (gs.map PyData.int)) ≤ 64 := by
    simp only [PyData.depth]
    omega
  show (PyData.canLay0 (.list (gs.map PyData.int)) && decide (PyData.depth (.list (gs.map PyData.int)) ≤ 64)) = true
  rw [Bool.and_eq_true]
  exact ⟨by simp only [PyData.canLay0]; exact lay_ints gs, decide_eq_true h2⟩
theorem atI_zero {α : Type} {x : α} {xs : List α} : atI (x :: xs) 0 = some x := atI_nat (j := 0) rfl
theorem ints_at {cs : List Int} {i : Int} (h0 : 0 ≤ i) (h1 : i < cs.length) : ∃ v : Int, atI (cs.map V.int) i = some (V.int v) := by
  obtain ⟨j, rfl⟩ := Int.eq_ofNat_of_zero_le h0
  have hj : j < cs.length := by omega
  refine ⟨cs[j], ?_⟩
  apply atI_nat
  rw [List.getElem?_map, List.getElem?_eq_getElem hj]
  rfl
theorem int_of_map {cs : List Int} {i : Nat} {y : V} (h : (cs.map V.int)[i]? = some y) : ∃ u, y = V.int u := by
  rw [List.getElem?_map] at h
  cases e : cs[i]? with
  | none =>
    rw [e] at h
    cases h
  | some u =>
    rw [e] at h
    exact ⟨u, (Option.some.inj h).symm⟩
theorem ixN_zero {n : Nat} (h : 0 < n) : ixN n 0 = some 0 := by
  unfold ixN
  rw [if_pos (Int.le_refl 0), if_pos (by omega)]
  rfl
theorem ixN_seq0 {n : Nat} (h : 0 < n) : seqIndex? 0 n = some 0 := (ixN_seq (ixN_zero h)).1
theorem mod_in {a m : Int} (h0 : 0 < m) (h1 : m ≤ 2 ^ 64) : -(2 ^ 64) < a % m ∧ a % m < 2 ^ 64 := by
  have x := Int.emod_nonneg a (b := m) (by omega)
  have y := Int.emod_lt_of_pos a h0
  exact ⟨by omega, by omega⟩
theorem bl_t {c : Prop} [Decidable c] (h : c) : V.bl (decide c) = V.bl true := by rw [decide_eq_true h]
theorem bl_f {c : Prop} [Decidable c] (h : ¬ c) : V.bl (decide c) = V.bl false := by rw [decide_eq_false h]
theorem nb_f {c : Prop} [Decidable c] (h : c) : V.bl (!decide c) = V.bl false := by rw [decide_eq_true h]; rfl
theorem nb_t {c : Prop} [Decidable c] (h : ¬ c) : V.bl (!decide c) = V.bl true := by rw [decide_eq_false h]; rfl
/-! ### isinstance -/
def isB (T U : String) : Bool := (kitB T U).getD false
/-- the built-in type of a value -/
def TyB1 (K : PySem.W.Frag) (H : Hp) (x : V) (T : String) : Prop := TyX K H x (.type T) ∧ (T = "int" ∨ T = "bool" ∨ T = "NoneType" ∨ T = "str" ∨ T = "list" ∨ T = "tuple" ∨ T = "dict")
theorem isi_of {K : PySem.W.Frag} {T : String} (U : String) (hT : T = "int" ∨ T = "bool" ∨ T = "NoneType" ∨ T = "str" ∨ T = "list" ∨ T = "tuple" ∨ T = "dict") (hU : U = "int" ∨ U = "bool" ∨ U = "tuple" ∨ U = "list" ∨ U = "str") : PySem.W.kitOne K (.type T) (.type U) = some (isB T U) := by
  rcases hT with rfl | rfl | rfl | rfl | rfl | rfl | rfl <;> rcases hU with rfl | rfl | rfl | rfl | rfl <;> exact kit_ty (by decide +kernel)
theorem isB_ii : isB "int" "int" = true := by decide +kernel
theorem isB_ib : isB "int" "bool" = false := by decide +kernel
theorem isB_bi : isB "bool" "int" = true := by decide +kernel
theorem isB_bb : isB "bool" "bool" = true := by decide +kernel
theorem isB_tt : isB "tuple" "tuple" = true := by decide +kernel
/-! ### a call where it is known that no repr is under way (guards), and the law's own end over it -/
open PySem.Spec PyProof.Rows in
theorem at_call {P : Program} {w : World} {K : PySem.W.Frag} {mg : Str → Option Value} {base : Heap} {A : Around} {outer : List Env}
    {x qual : Str} {st : Stmt} {f : Addr} {fd : FuncData} {N ps : List Str} {k : Nat} (F : Fun K x qual st f fd)
    (S : FnScope N ps (defScope st)) {s : Shared} {H : Hp} {args : Args} {us : List Value} {vs : List V} {Q : VK} {E : XK}
    (hl : vs.length = ps.length) (room : Room (k + 1) A) (e0 : Env0 P w K mg base A outer s H)
    (hb : BindsTo s fd args (ps.zip us)) (rv : Vals vs us)
    (body : ∀ cdv : Value, Room k (A.deeper (envOfC qual (defScope st) s.heap.objs.size f cdv)) →
      ∃ t, PSs (cxOf CX0 P w K mg base N qual (defScope st) f cdv A outer s H E).nox (defBody st) t ∧
        t { nx := fun _ H' => Q .non H', rt := Q } (start N vs) H) :
    codeAny (model P w) A (.call (.ref f) args) (CR CX0 outer P w H s Q E) s := by
  obtain ⟨oc, od, kV, doc, pm, an, cdv, ct, osl, rfl, look, code⟩ := F.ex
  have inn : ∀ {b o}, base.get? b = some o → s.heap.get? b = some o := fun z => (e0.bs _ _ z).1
  have kin : K.In s.heap := e0.mod.kin.keeps fun _ _ z => inn z
  have nol : s.heap.NoLimit := e0.mod.nolimit.keeps fun _ _ z => inn z
  refine codeAny_call_function room.depth (kin _ _ look) rfl S.co S.gen rfl (PySem.W.codeRec_of kin code) (hb _ _ _ _ ?_)
  refine wpAny_newFunctionEnv_cells S.kind (fun y hy => ?_) fun env he s1 inc => ?_
  · obtain ⟨n, v⟩ := y
    cases S.par n (List.of_mem_zip hy).1 with
    | inl z => exact Or.inl z
    | inr z => exact Or.inr ⟨z, PySem.W.cellsFrom_some _ _ _ (Or.inl z)⟩
  · subst he
    refine ⟨nol.keeps inc.toInCall.keep, codeAny_func ?_⟩
    obtain ⟨t, ht, hq⟩ := body cdv (room.deeper _)
    have I0 := inv_start (CX := CX0) (E := E) S room.hd e0 hl rv inc
    refine wpAny_mono (ht.nox.run [] s1 (start N vs) H _ I0 hq) (fun fl s' hs => ?_) (fun _ _ z => z)
    match fl, hs with
    | .ret _, ⟨v, _, H', J, r1, q1⟩ => exact ⟨v, H', J.os, J.bare, J.base, J.hok, r1, q1⟩
    | .next, ⟨_, H', J, q1⟩ => exact ⟨V.non, H', J.os, J.bare, J.base, J.hok, rfl, q1⟩
    | .brk, ⟨_, _, _, z⟩ => exact z.elim
    | .cont, ⟨_, _, _, z⟩ => exact z.elim
open PySem.Spec PyProof.Rows in
theorem core_end {P : Program} {w : World} {K : PySem.W.Frag} {mg mb : Str → Option Value} {fa a : Addr} {t : Shared} {vs : List Value} {H : Hp}
    (kin : K.In t.heap) (hm : t.heap.Ns mainGlobals mg) (hb : t.heap.Ns builtinsNs mb) (boot : ∀ x : Str, x ≠ "__name__" → mb x = bootBuiltins x)
    (nol : t.heap.NoLimit) (hg : t.gens = #[]) (ha : t.heap.get? a = some { cls := .type "list", data := .seq vs.toArray })
    (only : Only H) (hok : HOk P w H t.heap) (atA : ∀ b o, H b = some o → b = a) (notK : ∀ o, H a = some o → K.lookup a = none)
    (R : ∀ base : Heap, (∀ b o, t.heap.get? b = some o → H b = none → base.get? b = some o) → Env0 P w K mg base callerA [] t H →
      codeAny (model P w) callerA (.call (.ref fa) ⟨[.ref a], []⟩) (CR CX0 [] P w H t (fun v _ => v = .bl true) E0) t) :
    codeAny (model P w) callerA (.call (.ref fa) ⟨[.ref a], []⟩)
      (fun r u => r = .ok (.ret (.bool true)) ∧ PySem.OldK t.heap u.heap ∧ u.os = t.os ∧ AllBare u.gens) t := by
  have hid : ∀ {b o}, t.heap.get? b = some o → H b = none → (hidT t.heap H).get? b = some o := fun z n => hidT_get z n
  have names : ∀ {b : Addr} {m : Str → Option Value}, t.heap.Ns b m → (hidT t.heap H).Ns b m := by
    rintro b m ⟨o, es, ep, z, d, r⟩
    refine ⟨o, es, ep, hid z ?_, d, r⟩
    cases q : H b with
    | none => rfl
    | some u =>
      cases atA b u q
      rw [ha] at z
      cases z
      cases d
  have kinB : K.In (hidT t.heap H) := by
    intro b o z
    refine hid (kin b o z) ?_
    cases q : H b with
    | none => rfl
    | some u =>
      cases atA b u q
      rw [notK u q] at z
      cases z
  obtain ⟨mc, n1, n2⟩ := nol
  have md : Mod K mg (hidT t.heap H) := ⟨kinB, names hm, ⟨mb, names hb, boot⟩, ⟨mc, names n1, n2⟩⟩
  have e0 : Env0 P w K mg (hidT t.heap H) callerA [] t H := by
    refine ⟨rfl, md, fun b o z => of_hidT z, Nat.le_of_eq (hidT_size _ _), trivial, fun b z => ?_, hok, .of_eq hg⟩
    exact (List.not_mem_nil (show b ∈ ([] : List Addr) from z)).elim
  refine codeAny_mono (R _ (fun b o z n => hid z n) e0) fun r u h => ?_
  match r, h with
  | .ok (.ret y), ⟨v, H', hos, bare, un, hok', rel, e⟩ =>
    have e2 : v = V.bl true := e
    subst e2
    cases (show y = Value.bool true from rel)
    refine ⟨rfl, OldK.of_keep fun b o z => ?_, hos, bare⟩
    rcases only b with n | ⟨ob, xs, n⟩
    · exact un.keep b o z n (fun y => (List.not_mem_nil (show b ∈ ([] : List Addr) from y)).elim) (by simp)
    · obtain ⟨g1, _⟩ := hok b _ n
      obtain ⟨g2, _⟩ := hok' b _ (un.frzs b ob _ n)
      rw [g1] at z
      cases z
      exact g2
  | .ok .next, h => exact False.elim h
  | .ok .brk, h => exact False.elim h
  | .ok .cont, h => exact False.elim h
  | .error _, h => exact False.elim h
open PySem.Spec PyProof.Rows in
/-- the law's call, over every script of at most 63 numbers, gives True -/
def LawOk (P : Program) (w : World) (K : PySem.W.Frag) (mg : Str → Option Value) (fa : Addr) : Prop :=
  ∀ (base : Heap) (t : Shared) (H : Hp) (a : Addr) (ns : List Int), ns.length ≤ 63 → (∃ o, base.get? sysModules = some o) → Env0 P w K mg base callerA [] t H → SqL K H a (ns.map V.int) →
    codeAny (model P w) callerA (.call (.ref fa) ⟨[.ref a], []⟩) (CR CX0 [] P w H t (fun v _ => v = .bl true) E0) t
open PySem.Spec PyProof.Rows in
theorem walk_g {l : PySem.W.OpenLaw} {q : Program} {loose : List Str} {XP : (Str → Option Value) → Heap → Prop} {YP : World → Heap → Prop} {d : DefRec} {K : Params → PySem.W.Frag}
    (hn : l.most = some 63) (hdf : d.params.defaults = []) (hi : importsNone q = true) (hY : ∀ (w : World) (h : Heap), YP w h → (K w.params).In h)
    (F : ∀ (w : World) (mg : Str → Option Value) (fa : Addr) (h : Heap), (K w.params).In h → h.Ns mainGlobals mg → mg d.name = some (.ref fa) → LawOk l.prog w (K w.params) mg fa) :
    PySem.W.WalkO q loose XP YP l.row.toRowW d [] (fun f vs => PySem.call f vs) := by
  refine Att.attach_call hn hdf fun w s₀ t mg mb fa o pm cd doc a vs ns G Y ho hd hcd hmg hobj hints hlen hg => ?_
  have kin := hY w _ Y
  have L := F w mg fa _ kin G.T.g hmg
  have rv := vals_ints hints
  have small : ns.length ≤ sizeLine := Nat.le_trans hlen (by decide)
  obtain ⟨mm, ⟨os, es, ep, hos, hod, _⟩, _⟩ := (G.T.seer hi).mods
  cases hk : (K w.params).lookup a with
  | some u =>
    have z := kin a u hk
    rw [hobj] at z
    cases z
    refine core_end (H := fun _ => none) kin G.T.g G.T.b G.T.builtins G.T.nolimit hg hobj (fun _ => .inl rfl) (fun b u z => nomatch z) (fun b o z => nomatch z) (fun o z => nomatch z) fun base up e0 => ?_
    exact L base t _ a ns hlen ⟨_, up _ _ hos rfl⟩ e0 (.inr ⟨_, vs.toArray, _, hk, rfl, rfl, rfl, by rw [List.size_toArray, hints.length]; exact small, by simpa using rv⟩)
  | none =>
    refine core_end (H := fun b => if b = a then some (.frz { cls := .type "list", data := .seq vs.toArray } (.lst (ns.map V.int))) else none) kin G.T.g G.T.b G.T.builtins G.T.nolimit hg hobj (fun b => ?_) (fun b u z => ?_) (fun b o z => ?_) (fun _ _ => hk) fun base up e0 => ?_
    · by_cases e : b = a
      · exact .inr ⟨_, _, if_pos e⟩
      · exact .inl (if_neg e)
    · by_cases e : b = a
      · cases (if_pos e).symm.trans z
        subst e
        exact ⟨hobj, by rw [List.length_map]; exact small, vs, _, rv, hobj⟩
      · cases (if_neg e).symm.trans z
    · by_cases e : b = a
      · exact e
      · cases (if_neg e).symm.trans z
    · have ne : sysModules ≠ a := fun z => by
        rw [z, hobj] at hos
        cases hos
        cases hod
      have h1 := L base t _ a ns hlen ⟨_, up _ _ hos (if_neg ne)⟩ e0
      exact h1 (.inl (.inr ⟨_, if_pos rfl⟩))
open PySem.Spec PyProof.Rows in
theorem guards_caller : callerA.guards = some [] := rfl
section
variable {X : Cx}
open PySem.Spec PyProof.Rows in
/-- repr(x), x of lists, tuples, ints, texts, truths, None -/
theorem call_reprD (hg : X.A.guards = some []) (hu : X.A.units + 80 < cLine) : CallR X (.builtin "repr") (fun xs H Q => ∃ (a : Addr) (d : PyData), xs = [.ref a] ∧ Dp X.K H (.ref a) d ∧ d.showable = true ∧ d.hasDict = false ∧ d.depth ≤ 64 ∧ d.shown.length ≤ sizeLine ∧ Q (.str d.shown) H) := by
  intro pins s σ H xs us Q I r h
  obtain ⟨a, d, rfl, hd, hs, hn, hz, hl, q⟩ := h
  obtain ⟨u, rfl, ru⟩ := vals1 r
  obtain ⟨as, rd⟩ := Dp.reads I d _ u hd ru
  obtain rfl : u = Value.ref a := ru
  refine repr_of_reads' rd hs (PyData.noDict_hsm hn) hg (by omega) (fun _ _ z => z) (fun h' u tk hk => ?_) hl
  exact ⟨.str d.shown, H, I.kept hk, ⟨_, rfl⟩, q⟩
end
theorem ru80 {k : Nat} {A : Around} (hr : Room k A) : A.units + 80 < cLine := by
  have := hr.un
  omega
open PySem.Spec PyProof.Rows in
theorem law_at {P : Program} {w : World} {K : PySem.W.Frag} {mg : Str → Option Value} {st : Stmt} {f : Addr} {fd : FuncData} {N : List Str} {p : Str} {k : Nat}
    (D : Df K mg "law" st [p] f fd) (S : FnScope N [p] (defScope st)) (room : Room (k + 1) callerA)
    (body : ∀ (base : Heap) (t : Shared) (H : Hp) (a : Addr) (ns : List Int) (cdv : Value), ns.length ≤ 63 → (∃ o, base.get? sysModules = some o) → SqL K H a (ns.map V.int) →
      Room k (callerA.deeper (envOfC "law" (defScope st) t.heap.objs.size f cdv)) →
      ∃ tm, PSs (cxOf CX0 P w K mg base N "law" (defScope st) f cdv callerA [] t H E0).nox (defBody st) tm ∧
        tm { nx := fun _ _ => V.non = .bl true, rt := fun v _ => v = .bl true } (start N [.ref a]) H) : LawOk P w K mg f := by
  intro base t H a ns hl hm e0 hS
  have kin : K.In t.heap := e0.mod.kin.keeps fun b o z => (e0.bs b o z).1
  exact at_call (vs := [.ref a]) D.F S rfl room e0 (D.b t [.ref a] kin rfl) (.cons rfl .nil) fun cdv hr => body base t H a ns cdv hl hm hS hr
/-! ### things of any depth: None, truths, ints, texts, lists, tuples, {} -/
mutual
inductive Dq (H : Hp) : V → PyData → Prop
  | non : Dq H .non .none
  | bl (b : Bool) : Dq H (.bl b) (.bool b)
  | int (i : Int) : Dq H (.int i) (.int i)
  | str (x : Str) : Dq H (.str x) (.str x)
  | lst {a : Addr} {xs : List V} {ds : List PyData} : H a = some (.lst xs) → DqAll H xs ds → Dq H (.ref a) (.list ds)
  | tup {a : Addr} {xs : List V} {ds : List PyData} : H a = some (.tup xs) → DqAll H xs ds → Dq H (.ref a) (.tuple ds)
  | dic {a : Addr} : H a = some (.dK []) → Dq H (.ref a) (.dict [])
inductive DqAll (H : Hp) : List V → List PyData → Prop
  | nil : DqAll H [] []
  | cons {v : V} {vs : List V} {d : PyData} {ds : List PyData} : Dq H v d → DqAll H vs ds → DqAll H (v :: vs) (d :: ds)
end
theorem DqAll.length {H : Hp} : ∀ {vs : List V} {ds : List PyData}, DqAll H vs ds → vs.length = ds.length
  | [], _, h => by
    cases h
    rfl
  | _ :: vs, _, h => by
    cases h with
    | cons _ h2 => exact congrArg (· + 1) (DqAll.length h2)
theorem DqAll.append {H : Hp} : ∀ {vs ws : List V} {ds es : List PyData}, DqAll H vs ds → DqAll H ws es → DqAll H (vs ++ ws) (ds ++ es)
  | [], _, _, _, h, k => by
    cases h
    exact k
  | _ :: _, _, _, _, h, k => by
    cases h with
    | cons h1 h2 => exact .cons h1 (DqAll.append h2 k)
theorem DqAll.get {H : Hp} : ∀ {vs : List V} {ds : List PyData} {i : Nat} {v : V}, DqAll H vs ds → vs[i]? = some v → ∃ d, ds[i]? = some d ∧ Dq H v d
  | [], _, _, _, _, e => by simp at e
  | x :: vs, _, 0, v, h, e => by
    cases h with
    | cons h1 h2 =>
      cases (Option.some.inj e)
      exact ⟨_, rfl, h1⟩
  | x :: vs, _, i + 1, v, h, e => by
    cases h with
    | cons h1 h2 => exact DqAll.get (i := i) h2 (show vs[i]? = some v from e)
theorem DqAll.take {H : Hp} : ∀ {vs : List V} {ds : List PyData} (n : Nat), DqAll H vs ds → DqAll H (vs.take n) (ds.take n)
  | _, _, 0, _ => by
    rw [List.take_zero, List.take_zero]
    exact .nil
  | [], _, n + 1, h => by
    cases h
    exact .nil
  | _ :: _, _, n + 1, h => by
    cases h with
    | cons h1 h2 => exact .cons h1 (DqAll.take n h2)
theorem DqAll.drop {H : Hp} : ∀ {vs : List V} {ds : List PyData} (n : Nat), DqAll H vs ds → DqAll H (vs.drop n) (ds.drop n)
  | _, _, 0, h => h
  | [], _, n + 1, h => by
    cases h
    exact .nil
  | _ :: _, _, n + 1, h => by
    cases h with
    | cons h1 h2 => exact DqAll.drop n h2
theorem DqAll.rev {H : Hp} : ∀ {vs : List V} {ds : List PyData}, DqAll H vs ds → DqAll H vs.reverse ds.reverse
  | [], _, h => by
    cases h
    exact .nil
  | v :: vs, _, h => by
    cases h with
    | cons h1 h2 =>
      rw [List.reverse_cons, List.reverse_cons]
      exact (DqAll.rev h2).append (.cons h1 .nil)
mutual
theorem Dq.mono {H H' : Hp} (s : ∀ a o, H a = some o → (∀ xs, o = .lst xs → H' a = some o) ∧ (∀ xs, o = .tup xs → H' a = some o) ∧ (o = .dK [] → H' a = some o)) : ∀ (d : PyData) (v : V), Dq H v d → Dq H' v d
  | .none, _, h => by
    cases h
    exact .non
  | .bool b, _, h => by
    cases h
    exact .bl b
  | .int i, _, h => by
    cases h
    exact .int i
  | .str x, _, h => by
    cases h
    exact .str x
  | .list ds, _, h => by
    cases h with
    | lst e k => exact .lst ((s _ _ e).1 _ rfl) (Dq.monoAll s ds _ k)
  | .tuple ds, _, h => by
    cases h with
    | tup e k => exact .tup ((s _ _ e).2.1 _ rfl) (Dq.monoAll s ds _ k)
  | .dict _, _, h => by
    cases h with
    | dic e => exact .dic ((s _ _ e).2.2 rfl)
theorem Dq.monoAll {H H' : Hp} (s : ∀ a o, H a = some o → (∀ xs, o = .lst xs → H' a = some o) ∧ (∀ xs, o = .tup xs → H' a = some o) ∧ (o = .dK [] → H' a = some o)) : ∀ (ds : List PyData) (vs : List V), DqAll H vs ds → DqAll H' vs ds
  | [], _, h => by
    cases h
    exact .nil
  | d :: ds, _, h => by
    cases h with
    | cons h1 h2 => exact .cons (Dq.mono s d _ h1) (Dq.monoAll s ds _ h2)
end
theorem Dq.same {H H' : Hp} {v : V} {d : PyData} (h : Dq H v d) (s : Same H H') : Dq H' v d := Dq.mono (fun _ _ e => ⟨fun _ _ => s _ _ e, fun _ _ => s _ _ e, fun _ => s _ _ e⟩) d v h
theorem DqAll.same {H H' : Hp} {v : List V} {d : List PyData} (h : DqAll H v d) (s : Same H H') : DqAll H' v d := Dq.monoAll (fun _ _ e => ⟨fun _ _ => s _ _ e, fun _ _ => s _ _ e, fun _ => s _ _ e⟩) d v h
section
variable {X : Cx} {pins : List (Addr × Obj)} {σ : L2.St} {H : Hp} {s : Shared}
open PySem.Spec PyProof.Rows
theorem tracked_ne (I : L2.Inv X pins σ H s) (hm : ∃ o, X.base.get? sysModules = some o) {a : Addr} {o : HO} (e : H a = some o) : sysModules ≠ a := fun z => by
  obtain ⟨ob, hb⟩ := hm
  have n := (I.bs _ _ hb).2
  rw [z, e] at n
  cases n
mutual
theorem Dq.reads (I : L2.Inv X pins σ H s) (hm : ∃ o, X.base.get? sysModules = some o) : ∀ (d : PyData) (v : V) (u : Value), Dq H v d → L2.RelV v u → ∃ as, Reads s.heap u d as ∧ sysModules ∉ as
  | .none, _, _, h, r => by
    cases h
    cases r
    exact ⟨_, Reads.none, by simp⟩
  | .bool b, _, _, h, r => by
    cases h
    cases r
    exact ⟨_, Reads.bool b, by simp⟩
  | .int i, _, _, h, r => by
    cases h
    obtain ⟨t, rfl⟩ := r
    exact ⟨_, Reads.int i t, by simp⟩
  | .str x, _, _, h, r => by
    cases h
    obtain ⟨t, rfl⟩ := r
    exact ⟨_, Reads.str x t, by simp⟩
  | .list ds, _, _, h, r => by
    cases h with
    | lst e k =>
      cases r
      have ne := tracked_ne I hm e
      obtain ⟨its, rv, ⟨o, n, ho, hc, _, hd⟩, _⟩ := I.list (SqL.of e)
      obtain ⟨as, hr, hn⟩ := Dq.readsAll I hm ds _ its k rv
      exact ⟨_, Reads.list ho hc hd hr, fun z => by
        rcases List.mem_cons.mp z with z | z
        · exact ne z
        · exact hn z⟩
  | .tuple ds, _, _, h, r => by
    cases h with
    | tup e k =>
      cases r
      obtain ⟨its, rv, ⟨o, ho, hc, n, hd⟩, _⟩ := I.tuple (SqT.of e)
      obtain ⟨as, hr, hn⟩ := Dq.readsAll I hm ds _ its k rv
      exact ⟨_, Reads.tuple ho hc hd hr, hn⟩
  | .dict _, _, _, h, r => by
    cases h with
    | dic e =>
      cases r
      have ne := tracked_ne I hm e
      obtain ⟨_, _, vs, kv, o, es, ep, h1, h2, h3, h4, h6, _⟩ := I.hok _ _ e
      cases kv
      have h5 : es.toList = [] := by
        revert h6
        cases es.toList with
        | nil => exact fun _ => rfl
        | cons x y =>
          intro z
          cases z
      refine ⟨_, Reads.dict (kvs := []) (as := []) (bs := []) h1 h2.1 h3 (by rw [h5]; exact .nil) (by rw [h5]; exact .nil), fun z => ?_⟩
      rcases List.mem_cons.mp z with z | z
      · exact ne z
      · simp at z
theorem Dq.readsAll (I : L2.Inv X pins σ H s) (hm : ∃ o, X.base.get? sysModules = some o) : ∀ (ds : List PyData) (vs : List V) (us : List Value), DqAll H vs ds → L2.Vals vs us → ∃ as, ReadsAll s.heap us ds as ∧ sysModules ∉ as
  | [], _, _, h, r => by
    cases h
    cases r
    exact ⟨_, ReadsAll.nil, by simp⟩
  | d :: ds, _, _, h, r => by
    cases h with
    | cons h1 h2 =>
      cases r with
      | cons r1 r2 =>
        obtain ⟨as, q1, n1⟩ := Dq.reads I hm d _ _ h1 r1
        obtain ⟨bs, q2, n2⟩ := Dq.readsAll I hm ds _ _ h2 r2
        exact ⟨_, ReadsAll.cons q1 q2, fun z => (List.mem_append.mp z).elim n1 n2⟩
end
end
section
variable {X : Cx}
open PySem.Spec PyProof.Rows in
/-- repr(x), x any such thing -/
theorem call_reprQ (hm : ∃ o, X.base.get? sysModules = some o) (hg : X.A.guards = some []) (hu : X.A.units + 80 < cLine) : CallR X (.builtin "repr") (fun xs H Q => ∃ (x : V) (d : PyData), xs = [x] ∧ Dq H x d ∧ d.showable = true ∧ d.depth ≤ 64 ∧ d.shown.length ≤ sizeLine ∧ Q (.str d.shown) H) := by
  intro pins s σ H xs us Q I r h
  obtain ⟨x, d, rfl, hd, hs, hz, hl, q⟩ := h
  obtain ⟨u, rfl, ru⟩ := vals1 r
  cases hd with
  | non =>
    obtain rfl : u = Value.none := ru
    exact PySem.P.repr_of_none ⟨.str _, H, I.tok _, ⟨_, rfl⟩, q⟩
  | bl b =>
    obtain rfl : u = Value.bool b := ru
    exact PySem.P.repr_of_bool ⟨.str _, H, I.tok _, ⟨_, rfl⟩, q⟩
  | int i =>
    obtain ⟨t, rfl⟩ := ru
    exact PySem.P.repr_of_int (by simpa [PyData.showable] using hs) ⟨.str _, H, I.tok _, ⟨_, rfl⟩, q⟩
  | str z =>
    obtain ⟨t, rfl⟩ := ru
    exact PySem.P.repr_of_str ⟨.str _, H, I.tok _, ⟨_, rfl⟩, q⟩ hl
  | @lst a xs ds e k =>
    obtain ⟨as, rd, hn⟩ := Dq.reads I hm (.list ds) _ u (.lst e k) ru
    obtain rfl : u = Value.ref a := ru
    refine repr_of_reads' rd hs (fun _ => hn) hg (by omega) (fun _ _ z => z) (fun h' u tk hk => ?_) hl
    exact ⟨.str _, H, I.kept hk, ⟨_, rfl⟩, q⟩
  | @tup a xs ds e k =>
    obtain ⟨as, rd, hn⟩ := Dq.reads I hm (.tuple ds) _ u (.tup e k) ru
    obtain rfl : u = Value.ref a := ru
    refine repr_of_reads' rd hs (fun _ => hn) hg (by omega) (fun _ _ z => z) (fun h' u tk hk => ?_) hl
    exact ⟨.str _, H, I.kept hk, ⟨_, rfl⟩, q⟩
  | @dic a e =>
    obtain ⟨as, rd, hn⟩ := Dq.reads I hm (.dict []) _ u (.dic e) ru
    obtain rfl : u = Value.ref a := ru
    refine repr_of_reads' rd hs (fun _ => hn) hg (by omega) (fun _ _ z => z) (fun h' u tk hk => ?_) hl
    exact ⟨.str _, H, I.kept hk, ⟨_, rfl⟩, q⟩
end
/-! ### how great a thing is -/
def Gd (n m : Nat) (d : PyData) : Prop := d.showable = true ∧ d.leavesShort 120 = true ∧ d.weight ≤ n ∧ d.depth ≤ m
def GdAll (n m : Nat) (ds : List PyData) : Prop := PyData.showableAll ds = true ∧ PyData.leavesShortAll 120 ds = true ∧ PyData.weightAll ds ≤ n ∧ PyData.depthAll ds ≤ m
theorem Gd.mono {n m n' m' : Nat} {d : PyData} (h : Gd n m d) (a : n ≤ n') (b : m ≤ m') : Gd n' m' d := ⟨h.1, h.2.1, by have := h.2.2.1; omega, by have := h.2.2.2; omega⟩
theorem GdAll.mono {n m n' m' : Nat} {d : List PyData} (h : GdAll n m d) (a : n ≤ n') (b : m ≤ m') : GdAll n' m' d := ⟨h.1, h.2.1, by have := h.2.2.1; omega, by have := h.2.2.2; omega⟩
theorem GdAll.nil {n m : Nat} : GdAll n m [] := ⟨by simp [PyData.showableAll], by simp [PyData.leavesShortAll], by simp [PyData.weightAll], by simp [PyData.depthAll]⟩
theorem GdAll.cons {a b m : Nat} {d : PyData} {ds : List PyData} (h : Gd a m d) (k : GdAll b m ds) : GdAll (a + 1 + b) m (d :: ds) := by
  obtain ⟨h1, h2, h3, h4⟩ := h
  obtain ⟨k1, k2, k3, k4⟩ := k
  refine ⟨by simp [PyData.showableAll, h1, k1], by simp [PyData.leavesShortAll, h2, k2], ?_, ?_⟩
  · simp only [PyData.weightAll]
    omega
  · simp only [PyData.depthAll]
    omega
theorem GdAll.head {n m : Nat} {d : PyData} {ds : List PyData} (h : GdAll n m (d :: ds)) : ∃ a b, a + 1 + b ≤ n ∧ Gd a m d ∧ GdAll b m ds := by
  obtain ⟨h1, h2, h3, h4⟩ := h
  simp only [PyData.showableAll, Bool.and_eq_true] at h1
  simp only [PyData.leavesShortAll, Bool.and_eq_true] at h2
  simp only [PyData.weightAll] at h3
  simp only [PyData.depthAll] at h4
  exact ⟨d.weight, PyData.weightAll ds, h3, ⟨h1.1, h2.1, Nat.le_refl _, by omega⟩, ⟨h1.2, h2.2, Nat.le_refl _, by omega⟩⟩
theorem GdAll.append {m : Nat} : ∀ {a b : Nat} {xs ys : List PyData}, GdAll a m xs → GdAll b m ys → GdAll (a + b) m (xs ++ ys)
  | _, _, [], _, _, k => k.mono (by omega) (by omega)
  | a, b, x :: xs, _, h, k => by
    obtain ⟨u, v, e, h1, h2⟩ := h.head
    exact (GdAll.cons h1 (GdAll.append h2 k)).mono (by omega) (by omega)
theorem GdAll.split {m : Nat} : ∀ {n : Nat} (xs : List PyData) {ys : List PyData}, GdAll n m (xs ++ ys) → ∃ a b, a + b ≤ n ∧ GdAll a m xs ∧ GdAll b m ys
  | n, [], _, h => ⟨0, n, by omega, .nil, h⟩
  | n, x :: xs, _, h => by
    obtain ⟨u, v, e, h1, h2⟩ := GdAll.head (show GdAll n m (x :: (xs ++ _)) from h)
    obtain ⟨a, b, e2, k1, k2⟩ := GdAll.split xs h2
    exact ⟨u + 1 + a, b, by omega, .cons h1 k1, k2⟩
theorem GdAll.cut {n m : Nat} {ds : List PyData} (i : Nat) (h : GdAll n m ds) : ∃ a b, a + b ≤ n ∧ GdAll a m (ds.take i) ∧ GdAll b m (ds.drop i) := by
  rw [← List.take_append_drop i ds] at h
  exact GdAll.split _ h
theorem GdAll.take {n m : Nat} {ds : List PyData} (i : Nat) (h : GdAll n m ds) : GdAll n m (ds.take i) := by
  obtain ⟨a, b, e, h1, _⟩ := h.cut i
  exact h1.mono (by omega) (by omega)
theorem GdAll.drop {n m : Nat} {ds : List PyData} (i : Nat) (h : GdAll n m ds) : GdAll n m (ds.drop i) := by
  obtain ⟨a, b, e, _, h1⟩ := h.cut i
  exact h1.mono (by omega) (by omega)
theorem GdAll.rev {m : Nat} : ∀ {n : Nat} {ds : List PyData}, GdAll n m ds → GdAll n m ds.reverse
  | _, [], h => h
  | n, x :: xs, h => by
    obtain ⟨u, v, e, h1, h2⟩ := h.head
    rw [List.reverse_cons]
    exact ((GdAll.rev h2).append (GdAll.cons h1 (GdAll.nil (n := 0)))).mono (by omega) (by omega)
theorem GdAll.get {m : Nat} : ∀ {n : Nat} {ds : List PyData} {i : Nat} {d : PyData}, GdAll n m ds → ds[i]? = some d → Gd n m d
  | _, [], _, _, _, e => by simp at e
  | n, x :: xs, 0, d, h, e => by
    obtain ⟨u, v, e2, h1, h2⟩ := h.head
    cases (Option.some.inj e)
    exact h1.mono (by omega) (by omega)
  | n, x :: xs, i + 1, d, h, e => by
    obtain ⟨u, v, e2, h1, h2⟩ := h.head
    exact (GdAll.get (i := i) h2 (show xs[i]? = some d from e)).mono (by omega) (by omega)
theorem Gd.tup {n m : Nat} {ds : List PyData} (h : GdAll n m ds) : Gd n (m + 1) (.tuple ds) := by
  obtain ⟨h1, h2, h3, h4⟩ := h
  exact ⟨by simp only [PyData.showable]; exact h1, by simp only [PyData.leavesShort]; exact h2, by simp only [PyData.weight]; exact h3, by simp only [PyData.depth]; omega⟩
theorem Gd.lst {n m : Nat} {ds : List PyData} (h : GdAll n m ds) : Gd n (m + 1) (.list ds) := by
  obtain ⟨h1, h2, h3, h4⟩ := h
  exact ⟨by simp only [PyData.showable]; exact h1, by simp only [PyData.leavesShort]; exact h2, by simp only [PyData.weight]; exact h3, by simp only [PyData.depth]; omega⟩
theorem Gd.of_tup {n m : Nat} {ds : List PyData} (h : Gd n m (.tuple ds)) : GdAll n m ds := by
  obtain ⟨h1, h2, h3, h4⟩ := h
  simp only [PyData.showable] at h1
  simp only [PyData.leavesShort] at h2
  simp only [PyData.weight] at h3
  simp only [PyData.depth] at h4
  exact ⟨h1, h2, h3, by omega⟩
theorem Gd.shown {n m : Nat} {d : PyData} (h : Gd n m d) (hn : n ≤ 100000) : d.shown.length ≤ sizeLine := by
  have z := PyData.shown_le 120 (by decide) d h.2.1
  have k := h.2.2.1
  have e : sizeLine = 16777216 := by decide
  omega
theorem Gd.int {i : Int} {k : Nat} (hk : 0 < k) (hk2 : k ≤ 110) (h : i.natAbs < 2 ^ k) : Gd (k + 1) 0 (.int i) := by
  refine ⟨?_, ?_, ?_, ?_⟩
  · simp only [PyData.showable, decide_eq_true_eq]
    exact Nat.lt_of_lt_of_le (PySem.Flt.log2_lt_of hk h) (by omega)
  · simp only [PyData.leavesShort, decide_eq_true_eq]
    have z := PySem.Flt.log2_lt_of hk h
    have e := int_text_length_le (a := i) (k := k) hk z
    show (Str.ofString (toString i)).length ≤ 120
    rw [PySem.ofString_length]
    omega
  · have z := PySem.Flt.log2_lt_of hk h
    simp only [PyData.weight]
    split <;> omega
  · simp [PyData.depth]
/-! ### the mathematics -/
def isInt : PyData → Bool
  | .int _ => true
  | _ => false
def isTup : PyData → Bool
  | .tuple _ => true
  | _ => false
def isNumD (p : Int) : PyData → Bool
  | .int i => decide (0 ≤ i) && decide (i < p)
  | _ => false
def isPairD (p : Int) : PyData → Bool
  | .tuple [x, y] => isNumD p x && isNumD p y
  | _ => false
def isRowD (p n : Int) : PyData → Bool
  | .tuple ds => decide ((ds.length : Int) = n) && ds.all (isPairD p)
  | _ => false
theorem Dq.ty {K : PySem.W.Frag} {H : Hp} {x : V} {d : PyData} (h : Dq H x d) : ∃ t, TyB1 K H x t ∧ (isB t "int" && !isB t "bool") = isInt d ∧ isB t "tuple" = isTup d := by
  cases h with
  | non => exact ⟨"NoneType", ⟨.base .non, by simp⟩, by decide +kernel, by decide +kernel⟩
  | bl b => exact ⟨"bool", ⟨.base (.bl b), by simp⟩, (by show (isB "bool" "int" && !isB "bool" "bool") = false; decide +kernel), (by show isB "bool" "tuple" = false; decide +kernel)⟩
  | int i => exact ⟨"int", ⟨.base (.int i), by simp⟩, (by show (isB "int" "int" && !isB "int" "bool") = true; decide +kernel), (by show isB "int" "tuple" = false; decide +kernel)⟩
  | str z => exact ⟨"str", ⟨.base (.str z), by simp⟩, (by show (isB "str" "int" && !isB "str" "bool") = false; decide +kernel), (by show isB "str" "tuple" = false; decide +kernel)⟩
  | lst e k => exact ⟨"list", ⟨.base (.lst e), by simp⟩, (by show (isB "list" "int" && !isB "list" "bool") = false; decide +kernel), (by show isB "list" "tuple" = false; decide +kernel)⟩
  | tup e k => exact ⟨"tuple", ⟨.base (.tup e), by simp⟩, (by show (isB "tuple" "int" && !isB "tuple" "bool") = false; decide +kernel), (by show isB "tuple" "tuple" = true; decide +kernel)⟩
  | dic e => exact ⟨"dict", ⟨.base (.dK e), by simp⟩, (by show (isB "dict" "int" && !isB "dict" "bool") = false; decide +kernel), (by show isB "dict" "tuple" = false; decide +kernel)⟩
theorem isInt_of {H : Hp} {x : V} {d : PyData} (h : Dq H x d) (e : isInt d = true) : ∃ i, x = .int i ∧ d = .int i := by
  cases h <;> first | exact ⟨_, rfl, rfl⟩ | cases e
theorem isTup_of {H : Hp} {x : V} {d : PyData} (h : Dq H x d) (e : isTup d = true) : ∃ a xs ds, x = .ref a ∧ H a = some (.tup xs) ∧ DqAll H xs ds ∧ d = .tuple ds := by
  cases h <;> first | exact ⟨_, _, _, rfl, by assumption, by assumption, rfl⟩ | cases e
theorem num_false {p : Int} {d : PyData} (e : isInt d = false) : isNumD p d = false := by
  cases d <;> first | rfl | cases e
theorem row_false {p n : Int} {d : PyData} (e : isTup d = false) : isRowD p n d = false := by
  cases d <;> first | rfl | cases e
theorem pair_false {p : Int} {d : PyData} (e : isTup d = false) : isPairD p d = false := by
  cases d <;> first | rfl | cases e
theorem pair_len {p : Int} {ds : List PyData} (e : ¬ ((ds.length : Int) = 2)) : isPairD p (.tuple ds) = false := by
  match ds, e with
  | [], _ => rfl
  | [_], _ => rfl
  | [_, _], e => exact absurd rfl e
  | _ :: _ :: _ :: _, _ => rfl
theorem two_of {ds : List PyData} (e : (ds.length : Int) = 2) : ∃ x y, ds = [x, y] := by
  match ds, e with
  | [x, y], _ => exact ⟨x, y, rfl⟩
  | [], e => cases e
  | [_], e => cases e
  | _ :: _ :: _ :: r, e =>
    have e2 : ((r.length + 3 : Nat) : Int) = 2 := e
    omega
/-! ### t[::-1], t == () -/
section
open PySem.Spec PyProof.Rows PySem.Builtin HT
variable {prog : Program} {w : World} {A : Around} {E : Value → Shared → Prop} {s : Shared}
theorem adjust_back (n : Nat) : Slice.sliceAdjust none none (-1) (n : Int) = ((n : Int) - 1, -1) := by
  unfold Slice.sliceAdjust
  simp
theorem places_back (n : Nat) : Slice.slicePlaces ((n : Int) - 1) (-1) (-1) = n := by
  unfold Slice.slicePlaces
  rw [if_neg (by decide)]
  split
  · simp
  · omega
theorem applied_back {sl : Addr} {t : Tok} {n : Nat} {Q : Int × Int × Nat → Shared → Prop} (hs : s.heap.IsSliceOf sl .none .none (.int (-1) t))
    (h : Q ((n : Int) - 1, -1, n) s) : wpAny (model prog w) A (Slice.sliceApplied (.ref sl) (pure (n : Int))) Q E s := by
  obtain ⟨os, hos, hcs, hds⟩ := id hs
  unfold Slice.sliceApplied Slice.sliceFields
  refine wpAny_bind (wpAny_bind (wpAny_field hos hds (x := .none) rfl ?_))
  refine wpAny_bind (wpAny_field hos hds (x := .none) rfl ?_)
  refine wpAny_bind (wpAny_field hos hds (x := .int (-1) t) rfl (wpAny_pure ?_))
  refine wpAny_bind (slicePart_int ?_)
  show wpAny _ _ (if ((-1 : Int) == 0) = true then _ else _) _ _ s
  rw [if_neg (by decide)]
  refine wpAny_bind (slicePart_none ?_)
  refine wpAny_bind (slicePart_none ?_)
  refine wpAny_bind (wpAny_pure ?_)
  show wpAny _ _ (match Slice.sliceAdjust none none (-1) (n : Int) with | (lo, hi) => pure (lo, (-1 : Int), Slice.slicePlaces lo hi (-1))) _ _ s
  rw [adjust_back]
  show wpAny _ _ (pure ((n : Int) - 1, (-1 : Int), Slice.slicePlaces ((n : Int) - 1) (-1) (-1))) _ _ s
  rw [places_back]
  exact wpAny_pure h
theorem fm_some {α β : Type} (f : α → Option β) (g : α → β) : ∀ l : List α, (∀ x ∈ l, f x = some (g x)) → l.filterMap f = l.map g
  | [], _ => rfl
  | x :: r, h => by
    rw [List.filterMap_cons, h x (List.mem_cons_self ..), fm_some f g r fun y hy => h y (List.mem_cons_of_mem _ hy)]
    rfl
theorem pick_back (xs : Array Value) : ((List.range xs.size).filterMap fun (m : Nat) => xs[(((xs.size : Int) - 1) + (m : Int) * (-1)).toNat]?).toArray = xs.toList.reverse.toArray := by
  congr 1
  rw [fm_some _ (fun m => xs.toList.getD (xs.size - 1 - m) Value.none) _ fun m hm => ?_]
  · apply List.ext_getElem?
    intro i
    rw [List.getElem?_map]
    by_cases h : i < xs.size
    · have hr : (List.range xs.size)[i]? = some i := List.getElem?_range h
      rw [hr, List.getElem?_reverse (by rw [Array.length_toList]; exact h), Array.length_toList]
      have h2 : xs.size - 1 - i < xs.toList.length := by
        rw [Array.length_toList]
        omega
      show some (xs.toList.getD (xs.size - 1 - i) Value.none) = _
      rw [List.getD_eq_getElem?_getD, List.getElem?_eq_getElem h2]
      rfl
    · rw [List.getElem?_eq_none (by rw [List.length_range]; omega), List.getElem?_eq_none (by rw [List.length_reverse, Array.length_toList]; omega)]
      rfl
  · have h := List.mem_range.mp hm
    have e : (((xs.size : Int) - 1) + (m : Int) * (-1)).toNat = xs.size - 1 - m := by omega
    have h2 : xs.size - 1 - m < xs.toList.length := by
      rw [Array.length_toList]
      omega
    rw [e, ← Array.getElem?_toList, List.getD_eq_getElem?_getD, List.getElem?_eq_getElem h2]
    rfl
theorem item_back {t sl : Addr} {items : Array Value} {tk : Tok} {Q : Value → Shared → Prop} (ht : IsTup s.heap t items) (hs : s.heap.IsSliceOf sl .none .none (.int (-1) tk))
    (h : Q (.ref s.heap.objs.size) { s with heap := s.heap.push { cls := .type "tuple", data := .seq items.toList.reverse.toArray } })
    (hsz : items.size ≤ sizeLine) : wpAny (model prog w) A (getItem (.ref t) (.ref sl)) Q E s := by
  have fits : sizeOk (.seq items.toList.reverse.toArray) := by
    show items.toList.reverse.toArray.size ≤ sizeLine
    rw [List.size_toArray, List.length_reverse, Array.length_toList]
    exact hsz
  obtain ⟨os, hos, hcs, hds⟩ := id hs
  have ty : s.TypeIs (.ref sl) "slice" := ⟨os, hos, hcs⟩
  unfold getItem
  try with_reducible refine wpAny_holding ?_
  first
  | refine wpAny_bind (wpAny_pure ?_)
  | skip
  refine wpAny_bind (wpAny_sequenceKey ht.typeIs (by decide) ?_)
  refine wpAny_bind (wpAny_callSpecial?_slot (name := Str.ofString "__getitem__") ht.typeIs slot_tuple_getitem ?_)
  refine wpAny_call_entry slot_tuple_getitem ht.typeIs entry_tuple_getitem ?_ (args_tuple_getitem _ _)
  show wpAny _ _ (Tuple.tupleItemsOf (.ref t) >>= _) _ _ s
  refine wpAny_bind (tupleItemsOf_ ht ?_)
  refine wpAny_bind (wpAny_typeOf ty ?_)
  rw [if_pos (by decide)]
  refine wpAny_bind (applied_back hs ?_)
  have no : ¬ ((((items.size : Int) - 1) == 0 && (-1 : Int) == 1 && items.size == items.size) = true) := by
    intro z
    rw [Bool.and_eq_true, Bool.and_eq_true] at z
    exact absurd (eq_of_beq z.1.2) (by decide)
  show wpAny _ _ (if (((items.size : Int) - 1) == 0 && (-1 : Int) == 1 && items.size == items.size) = true then _ else _) _ _ s
  rw [if_neg no, pick_back]
  first
  | exact wpAny_bind (m := Tuple.tupleExact _) (wpAny_newObj_type (wpAny_pure ⟨_, rfl, wpAny_pure h⟩) fits)
  | exact wpAny_bind (m := Tuple.tupleExact _) (wpAny_newObj_type (wpAny_bind (wpAny_pure (wpAny_pure ⟨_, rfl, wpAny_pure h⟩))) fits)
  | exact wpAny_bind (wpAny_bind (m := Tuple.tupleExact _) (wpAny_newObj_type (wpAny_pure (wpAny_pure ⟨_, rfl, wpAny_pure h⟩)) fits))
  | exact wpAny_bind (wpAny_bind (m := Tuple.tupleExact _) (wpAny_newObj_type (wpAny_pure ⟨_, rfl, wpAny_pure h⟩) fits))
end
section
open PySem.Spec PyProof.Rows
variable {X : Cx}
def tRevT (K : PySem.W.Frag) (te : TE) : TE := fun σ H Q => te σ H fun x H1 => ∃ a xs, x = .ref a ∧ SqT K H1 a xs ∧ ∀ p, H1 p = none → Q (.ref p) (upd H1 p (.tup xs.reverse))
theorem pe_revT {e : Expr} {te : TE} {k : Nat} {p1 p2 p3 pos : Pos} (he : PE X e te) : PE X (.Subscript e (.Slice none none (some (.UnaryOp .USub (.Constant (.int 1) k p1) p2)) p3) pos) (tRevT X.K te) := by
  refine ⟨fun pins s σ H Q I h => Subscript_ (thn (he.run pins s σ H _ I h) fun v s1 ⟨x, H1, I1, r1, a, xs, ex, hx, q⟩ => ?_)⟩
  subst ex
  cases r1
  have back : PO X (some (.UnaryOp .USub (.Constant (.int 1) k p1) p2)) (tPart (tUn (rU fun i => .int (-i)) (tC (.int 1)))) := po_some (pe_un un_neg pe_int)
  refine wpAny_Slice (thn (po_none.run pins s1 σ H1 (fun o G => o = none ∧ G = H1) I1 ⟨rfl, rfl⟩) fun v1 s2 ⟨o1, G1, I2, part1, e1, g1⟩ => ?_)
  subst e1 g1
  refine thn (po_none.run pins s2 σ G1 (fun o G => o = none ∧ G = G1) I2 ⟨rfl, rfl⟩) fun v2 s3 ⟨o2, G2, I3, part2, e2, g2⟩ => ?_
  subst e2 g2
  refine thn (back.run pins s3 σ G2 (fun o G => o = some (-1) ∧ G = G2) I3 ⟨1, rfl, -1, rfl, rfl, rfl⟩) fun v3 s4 ⟨o3, G3, I4, part3, e3, g3⟩ => ?_
  subst e3 g3
  cases part1
  cases part2
  cases part3 with
  | int i tk =>
    have I5 : L2.Inv X pins σ G3 { s4 with heap := s4.heap.push { cls := .type "slice", data := .fields #[.none, .none, .int (-1) tk] } } := I4.kept (t' := s4.toks) fun b ob z => Heap.get?_push_of_some _ z
    obtain ⟨its, r, ht, hz⟩ := I5.tuple hx
    have hlen := r.length
    show wpAny (model X.prog X.w) X.A (subscriptTail e _ (.ref a) (.ref s4.heap.objs.size)) (EP X pins σ Q) X.xe _
    refine tail_any (ops := [.ref a, .ref s4.heap.objs.size]) ht.typeIs slot_tuple_getitem.lookup ?_ (by with_unfolding_all rfl)
    refine item_back ht (Heap.IsSliceOf.new _ .none .none (.int (-1) tk)) ?_ (by rw [List.size_toArray]; omega)
    refine ⟨.ref _, _, I5.laid (t' := s4.toks) (o := .tup xs.reverse) (fun b ob z => Heap.get?_push_of_some _ z) (Nat.le_refl _) ?_, rfl, q _ (I5.hok.fresh (Nat.le_refl _))⟩
    exact ⟨by rw [List.length_reverse]; exact hz, its.reverse, r.reverse, _, Heap.get?_push_size _ rfl, rfl, _, rfl⟩
/-- t == u for tuples of which the second is empty -/
theorem op_eqT0 (hu : X.A.units + 80 < cLine) : OpR X (compareOp .Eq) (fun x y H Q => ∃ a b xs, x = .ref a ∧ y = .ref b ∧ SqT X.K H a xs ∧ SqT X.K H b [] ∧ Q (.bl xs.isEmpty) H) := by
  intro pins s σ H x y v u Q I rx ry h
  obtain ⟨a, b, xs, rfl, rfl, ha, hb, q⟩ := h
  cases rx
  cases ry
  obtain ⟨its, r, ht, hz⟩ := I.tuple ha
  obtain ⟨its2, r2, ht2, _⟩ := I.tuple hb
  cases r2
  refine SeqAt.eq_tupleAt (e := fun _ => true) ht ht2 (by omega) (fun j h1 h2 => absurd h2 (by simp)) ?_
  refine ⟨.bl xs.isEmpty, H, I, ?_, q⟩
  cases r with
  | nil => rfl
  | cons _ _ =>
    simp
    rfl
end
/-! ### xs == [], xs != [] of lists of anything -/
section
open PySem.Spec PyProof.Rows
variable {X : Cx}
def rEqL0 (K : PySem.W.Frag) : R2 := fun x y H Q => ∃ a b xs, x = .ref a ∧ y = .ref b ∧ SqL K H a xs ∧ SqL K H b [] ∧ Q (.bl xs.isEmpty) H
def rNeL0 (K : PySem.W.Frag) : R2 := fun x y H Q => ∃ a b xs, x = .ref a ∧ y = .ref b ∧ SqL K H a xs ∧ SqL K H b [] ∧ Q (.bl (!xs.isEmpty)) H
theorem op_eqL0 (hu : X.A.units + 80 < cLine) : OpR X (compareOp .Eq) (rEqL0 X.K) := by
  intro pins s σ H x y v u Q I rx ry h
  obtain ⟨a, b, xs, rfl, rfl, ha, hb, q⟩ := h
  cases rx
  cases ry
  obtain ⟨its, r, ht, hz⟩ := I.list ha
  obtain ⟨its2, r2, ht2, _⟩ := I.list hb
  cases r2
  cases r with
  | nil => exact SeqAt.eq_listAt (e := fun _ => true) ht.isList ht2.isList rfl (by omega) (fun j h1 h2 => absurd h2 (by simp)) ⟨.bl true, H, I, rfl, q⟩
  | cons _ _ => exact SeqAt.eq_list_lengthsAt ht.isList ht2.isList (by simp) (by omega) ⟨.bl false, H, I, rfl, q⟩
theorem op_neL0 (hu : X.A.units + 80 < cLine) : OpR X (compareOp .NotEq) (rNeL0 X.K) := by
  intro pins s σ H x y v u Q I rx ry h
  obtain ⟨a, b, xs, rfl, rfl, ha, hb, q⟩ := h
  cases rx
  cases ry
  obtain ⟨its, r, ht, hz⟩ := I.list ha
  obtain ⟨its2, r2, ht2, _⟩ := I.list hb
  cases r2
  cases r with
  | nil => exact SeqAt.RcNeAt.lists (e := fun _ => true) ht.isList ht2.isList rfl (by omega) (fun j h1 h2 => absurd h2 (by simp)) _ _ _ _ ⟨.bl false, H, I, rfl, q⟩
  | cons _ _ => exact SeqAt.RcNeAt.lists_lengths ht.isList ht2.isList (by simp) (by omega) _ _ _ _ ⟨.bl true, H, I, rfl, q⟩
end
/-! ### t * 2, t empty or not -/
section
open PySem.Spec PyProof.Rows
theorem tuple_mulE (l : Addr) (n : Nat) (dd : Option Addr) (sl : Array (Option Value)) (u : Tok) :
    Meets (Builtin.«tuple.__mul__» ⟨[.ref l, .int 2 u], []⟩) (fun _ R s => s.heap.get? l = some { cls := .type "tuple", dict := dd, data := .seq #[] n, slots := sl } ∧ R (.ok (.ret (Value.ref l))) s) :=
  .of_wp fun prog w A R s h => by
    obtain ⟨hp, g, d, tk, os⟩ := s
    obtain ⟨hl, h⟩ := h
    have f1 := AutoSeq1.idx_int
    wp_walk using wpAny_loadPart' hl
    repeat (first
      | (refine wpAny_ite_false (decide_eq_false (by decide)) ?_; wp_walk using wpAny_loadPart' hl)
      | (refine wpAny_ite_true (decide_eq_true (by simp)) ?_; wp_walk using wpAny_loadPart' hl))
    exact ⟨_, rfl, h⟩
variable {X : Cx}
def rRep2 (K : PySem.W.Frag) : R2 := fun x y H Q => ∃ l xs, x = .ref l ∧ y = .int 2 ∧ SqT K H l xs ∧ xs.length ≤ 1000 ∧ (xs = [] → Q (.ref l) H) ∧ (xs ≠ [] → ∀ p, H p = none → Q (.ref p) (upd H p (.tup (xs ++ xs))))
theorem op_rep2 : OpR X (binaryOp .Mult) (rRep2 X.K) := by
  intro pins s σ H x y v u Q I rx ry h
  obtain ⟨l, xs, rfl, rfl, hT, hz, q0, q1⟩ := h
  by_cases hne : xs = []
  · subst hne
    cases rx
    obtain ⟨t, rfl⟩ := ry
    obtain ⟨its, r, ⟨⟨cls, dd, data, sl⟩, ho, hc, n, hd⟩, hs⟩ := I.tuple hT
    cases r
    simp only at hc hd
    subst hc hd
    refine wpAny_binaryOp_repeat_ref (T := "tuple") (U := "int") (by decide) ⟨_, ho, rfl⟩ (fun s' => typeIs_int s' 2 t) noFill_tuple_mul F.fills_int_mul F.slot_int_rmul repeat_tuple F.slot_int_index.lookup
      (call_meets F.slot_int_rmul (typeIs_int s 2 t) F.entry_int_rmul (F.args_int_rmul_2 _ _) (int_rmul_tuple 2 t l #[] n dd sl)
        ⟨ho, rfl, ⟨_, ho, rfl⟩, call_meets F.slot_tuple_mul ⟨_, ho, rfl⟩ F.entry_tuple_mul (F.args_tuple_mul_2 _ _) (tuple_mulE l n dd sl t) ⟨ho, ?_⟩⟩)
    exact ⟨.ref l, H, I, rfl, q0 rfl⟩
  · refine op_repT pins s σ H _ _ v u Q I rx ry ⟨l, 2, xs, rfl, rfl, hT, hne, by decide, by decide, hz, fun p hp => ?_⟩
    have e : (List.replicate (2 : Int).toNat xs).flatten = xs ++ xs := by
      show xs ++ (xs ++ []) = xs ++ xs
      rw [List.append_nil]
    rw [e]
    exact q1 hne p hp
end
/-! ### things beside the deck -/
def cut (d g : Addr) (H : Hp) : Hp := fun a => if a = d ∨ a = g then none else H a
theorem cut_same {d g : Addr} {H : Hp} : Same (cut d g H) H := fun a o e => by
  unfold cut at e
  split at e
  · cases e
  · exact e
theorem cut_at {d g a : Addr} {H : Hp} {o : HO} (h1 : a ≠ d) (h2 : a ≠ g) (e : H a = some o) : cut d g H a = some o := by
  unfold cut
  rw [if_neg (fun z => z.elim h1 h2)]
  exact e
theorem Fr.cut {d g : Addr} {H H' : Hp} (f : Fr d g H H') : Same (cut d g H) (cut d g H') := fun a o e => by
  unfold Kp.cut at e ⊢
  split at e
  · cases e
  · rename_i n
    rw [if_neg n]
    exact f a o (fun z => n (.inl z)) (fun z => n (.inr z)) e
theorem cut_upd {d g L : Addr} {H : Hp} {o : HO} : Fr L L (cut d g H) (cut d g (upd H L o)) := fun a x h1 _ e => by
  unfold Kp.cut at e ⊢
  split at e
  · cases e
  · rename_i n
    rw [if_neg n, upd_ne h1]
    exact e
def Thg (d g : Addr) (n m : Nat) (H : Hp) (x : V) : Prop := ∃ dd, Dq (cut d g H) x dd ∧ Gd n m dd
def Ths (d g : Addr) (n m : Nat) (H : Hp) (xs : List V) : Prop := ∃ ds, DqAll (cut d g H) xs ds ∧ GdAll n m ds
section
variable {d g c : Addr} {k : Int} {n m n' m' : Nat} {H H' : Hp} {x : V} {xs ys : List V}
theorem Thg.fr (h : Thg d g n m H x) (f : Fr d g H H') : Thg d g n m H' x := let ⟨dd, h1, h2⟩ := h; ⟨dd, h1.same f.cut, h2⟩
theorem Ths.fr (h : Ths d g n m H xs) (f : Fr d g H H') : Ths d g n m H' xs := let ⟨dd, h1, h2⟩ := h; ⟨dd, h1.same f.cut, h2⟩
theorem Thg.mono (h : Thg d g n m H x) (a : n ≤ n') (b : m ≤ m') : Thg d g n' m' H x := let ⟨dd, h1, h2⟩ := h; ⟨dd, h1, h2.mono a b⟩
theorem Ths.mono (h : Ths d g n m H xs) (a : n ≤ n') (b : m ≤ m') : Ths d g n' m' H xs := let ⟨dd, h1, h2⟩ := h; ⟨dd, h1, h2.mono a b⟩
theorem Ths.nil : Ths d g n m H [] := ⟨[], .nil, .nil⟩
theorem Ths.cons (h : Thg d g n m H x) (t : Ths d g n' m H xs) : Ths d g (n + 1 + n') m H (x :: xs) := let ⟨a, h1, h2⟩ := h; let ⟨b, t1, t2⟩ := t; ⟨a :: b, .cons h1 t1, .cons h2 t2⟩
theorem Ths.append (h : Ths d g n m H xs) (t : Ths d g n' m H ys) : Ths d g (n + n') m H (xs ++ ys) := let ⟨a, h1, h2⟩ := h; let ⟨b, t1, t2⟩ := t; ⟨a ++ b, h1.append t1, h2.append t2⟩
theorem Ths.cutV (h : Ths d g n m H xs) (lo hi : Option Int) : Ths d g n m H (cutV xs lo hi) := let ⟨_, h1, h2⟩ := h; ⟨_, (h1.drop _).take _, (h2.drop _).take _⟩
theorem Ths.rev (h : Ths d g n m H xs) : Ths d g n m H xs.reverse := let ⟨_, h1, h2⟩ := h; ⟨_, h1.rev, h2.rev⟩
theorem Ths.get {i : Nat} (h : Ths d g n m H xs) (e : xs[i]? = some x) : Thg d g n m H x := by
  obtain ⟨ds, h1, h2⟩ := h
  obtain ⟨dd, e1, e2⟩ := h1.get e
  exact ⟨dd, e2, h2.get e1⟩
theorem GdAll.len {m : Nat} : ∀ {n : Nat} {ds : List PyData}, GdAll n m ds → ds.length ≤ n
  | _, [], _ => Nat.zero_le _
  | n, _ :: r, h => by
    obtain ⟨u, v, e, h1, h2⟩ := h.head
    have z := GdAll.len h2
    show r.length + 1 ≤ n
    omega
theorem Ths.len (h : Ths d g n m H xs) : xs.length ≤ n := by
  obtain ⟨ds, h1, h2⟩ := h
  rw [h1.length]
  exact h2.len
theorem Thg.newT {p : Addr} (D : Dk d g c k H) (hp : H p = none) (h : Ths d g n m H xs) : Thg d g n (m + 1) (upd H p (.tup xs)) (.ref p) := by
  obtain ⟨ds, h1, h2⟩ := h
  have np := D.nd hp
  exact ⟨.tuple ds, .tup (cut_at np.1 np.2.1 upd_same) (h1.same (Fr.new hp).cut), .tup h2⟩
theorem Thg.newL {p : Addr} (D : Dk d g c k H) (hp : H p = none) (h : Ths d g n m H xs) : Thg d g n (m + 1) (upd H p (.lst xs)) (.ref p) := by
  obtain ⟨ds, h1, h2⟩ := h
  have np := D.nd hp
  exact ⟨.list ds, .lst (cut_at np.1 np.2.1 upd_same) (h1.same (Fr.new hp).cut), .lst h2⟩
theorem Thg.tupOf {a : Addr} (e : H a = some (.tup xs)) (h1 : a ≠ d) (h2 : a ≠ g) (t : Ths d g n m H xs) : Thg d g n (m + 1) H (.ref a) := by
  obtain ⟨ds, k1, k2⟩ := t
  exact ⟨.tuple ds, .tup (cut_at h1 h2 e) k1, .tup k2⟩
theorem Thg.int {i : Int} (h : i.natAbs < 2 ^ 110) : Thg d g 111 m H (.int i) := ⟨.int i, .int i, (Gd.int (by decide) (by decide) h).mono (Nat.le_refl _) (Nat.zero_le _)⟩
theorem Thg.small {i : Int} (h : i.natAbs < 16) : Thg d g 5 m H (.int i) := ⟨.int i, .int i, (Gd.int (k := 4) (by decide) (by decide) h).mono (Nat.le_refl _) (Nat.zero_le _)⟩
theorem Ths.pick {r : Int} (h : Ths d g n m H xs) (h0 : 0 ≤ r) (h1 : r < xs.length) : ∃ y, atI xs r = some y ∧ Thg d g n m H y := by
  obtain ⟨j, rfl⟩ := Int.eq_ofNat_of_zero_le h0
  have hj : j < xs.length := by omega
  exact ⟨xs[j], atI_nat (List.getElem?_eq_getElem hj), h.get (List.getElem?_eq_getElem hj)⟩
theorem Ths.at_ {r : Int} (h : Ths d g n m H xs) (h0 : 0 ≤ r) (h1 : r < xs.length) : ∃ y, atI xs r = some y ∧ Thg d g n m H y := h.pick h0 h1
theorem Thg.bl {b : Bool} : Thg d g n m H (.bl b) := ⟨.bool b, .bl b, by simp [PyData.showable], by simp [PyData.leavesShort], by simp [PyData.weight], by simp [PyData.depth]⟩
theorem Thg.non : Thg d g n m H .non := ⟨.none, .non, by simp [PyData.showable], by simp [PyData.leavesShort], by simp [PyData.weight], by simp [PyData.depth]⟩
theorem Thg.str {z : Str} (h1 : PyData.leavesShort 120 (.str z) = true) (h2 : z.cps.size ≤ n) : Thg d g n m H (.str z) := ⟨.str z, .str z, by simp [PyData.showable], h1, by simpa [PyData.weight] using h2, by simp [PyData.depth]⟩
theorem Thg.dic {p : Addr} (D : Dk d g c k H) (hp : H p = none) : Thg d g n (m + 1) (upd H p (.dK [])) (.ref p) := by
  have np := D.nd hp
  exact ⟨.dict [], .dic (cut_at np.1 np.2.1 upd_same), by simp [PyData.showable, PyData.showableKv], by simp [PyData.leavesShort, PyData.leavesShortKv], by simp [PyData.weight, PyData.weightKv], by simp [PyData.depth, PyData.depthKv]⟩
/-- its type: a tuple of such, or something else -/
theorem Thg.ty (K : PySem.W.Frag) (h : Thg d g n m H x) : ∃ t, TyB1 K H x t ∧ ((isB t "tuple" = true ∧ ∃ a xs, x = .ref a ∧ H a = some (.tup xs) ∧ Ths d g n m H xs) ∨ isB t "tuple" = false) := by
  obtain ⟨dd, h1, h2⟩ := h
  have h1' := h1.same cut_same
  obtain ⟨t, ty, _, et⟩ := h1'.ty (K := K)
  refine ⟨t, ty, ?_⟩
  cases e : isTup dd with
  | false => exact .inr (et.trans e)
  | true =>
    obtain ⟨a, xs, ds, rfl, ha, hds, rfl⟩ := isTup_of h1 e
    exact .inl ⟨et.trans e, a, xs, rfl, cut_same _ _ ha, ds, hds, h2.of_tup⟩
theorem cat_ok {K : PySem.W.Frag} {a b : Addr} {Q : VK} (D : Dk d g c k H) (ha : H a = some (.tup xs)) (hb : H b = some (.tup ys)) (ta : Ths d g n m H xs) (tb : Ths d g n' m H ys) (hl : n + n' ≤ 100000)
    (q : ∀ (p : Addr) (zs : List V) (H' : Hp), Dk d g c k H' → Fr d g H H' → H' p = some (.tup zs) → Ths d g (n + n') m H' zs → Q (.ref p) H') : rCatA K (.ref a) (.ref b) H Q := by
  have l1 := ta.len
  have l2 := tb.len
  have e : sizeLine = 16777216 := by decide
  refine ⟨a, b, xs, ys, rfl, rfl, SqT.of ha, SqT.of hb, by omega, fun z => ?_, fun _ z => ?_, fun _ _ p hp => ?_⟩
  · exact q b ys H D (Fr.refl _ _ _) hb (tb.mono (by omega) (Nat.le_refl _))
  · exact q a xs H D (Fr.refl _ _ _) ha (ta.mono (by omega) (Nat.le_refl _))
  · exact q p _ _ (D.same (same_upd hp)) (.new hp) upd_same ((ta.append tb).fr (.new hp))
theorem sl_ok {K : PySem.W.Frag} {a : Addr} {lo hi : Option Int} {Q : VK} (D : Dk d g c k H) (ha : H a = some (.tup xs)) (ta : Ths d g n m H xs)
    (q : ∀ (p : Addr) (zs : List V) (H' : Hp), Dk d g c k H' → Fr d g H H' → H' p = some (.tup zs) → Ths d g n m H' zs → Q (.ref p) H') : rSlA K (.ref a) lo hi H Q :=
  ⟨a, xs, rfl, SqT.of ha, fun _ => q a xs H D (Fr.refl _ _ _) ha ta, fun _ p hp => q p _ _ (D.same (same_upd hp)) (.new hp) upd_same ((ta.cutV lo hi).fr (.new hp))⟩
end
/-! readings by the module's own objects, told outright (within comprehensions) -/
def rLen (K : PySem.W.Frag) : List V → Hp → VK → Prop := fun xs H Q => ∃ p ys, xs = [.ref p] ∧ (SqL K H p ys ∨ SqT K H p ys) ∧ Q (.int ys.length) H
def rTupOf (K : PySem.W.Frag) : List V → Hp → VK → Prop := fun xs H Q => ∃ p ys, xs = [.ref p] ∧ ((SqL K H p ys ∧ ∀ l, H l = none → Q (.ref l) (upd H l (.tup ys))) ∨ (SqT K H p ys ∧ Q (.ref p) H))
def rListOf (K : PySem.W.Frag) : List V → Hp → VK → Prop := fun xs H Q => ∃ p ys, xs = [.ref p] ∧ (SqL K H p ys ∨ SqT K H p ys) ∧ ∀ l, H l = none → Q (.ref l) (upd H l (.lst ys))
/-! ### rows: tuples of pairs -/
/-- all but tables stays; tables stay tables -/
structure Sm (H H' : Hp) : Prop where
  kp : ∀ a o, (∀ ps, o ≠ HO.tbl ps) → H a = some o → H' a = some o
  tb : ∀ P, GxR.TabG H P → GxR.TabG H' P
theorem Sm.refl (H : Hp) : Sm H H := ⟨fun _ _ _ e => e, fun _ e => e⟩
theorem Sm.trans {H H1 H2 : Hp} (a : Sm H H1) (b : Sm H1 H2) : Sm H H2 := ⟨fun x o n e => b.kp x o n (a.kp x o n e), fun P e => b.tb P (a.tb P e)⟩
theorem Sm.of_same {H H1 : Hp} (s : Same H H1) : Sm H H1 := ⟨fun x o _ e => s x o e, fun _ ⟨ps, e, t⟩ => ⟨ps, s _ _ e, t⟩⟩
theorem Sm.new {H : Hp} {p : Addr} {o : HO} (h : H p = none) : Sm H (upd H p o) := .of_same (same_upd h)
theorem Sm.tabbed {H H1 : Hp} {P : Addr} (g : GxR.TabG H P) (t : GxR.Tabbed P H H1) : Sm H H1 := by
  obtain ⟨t1, t2⟩ := t
  refine ⟨fun x o n e => ?_, fun R ⟨ps, e, tr⟩ => ?_⟩
  · by_cases h : x = P
    · obtain ⟨ps, e2, _⟩ := g
      rw [h, e2] at e
      cases e
      exact absurd rfl (n ps)
    · rw [t2 x h]
      exact e
  · by_cases h : R = P
    · rw [h]
      exact t1
    · exact ⟨ps, by rw [t2 R h]; exact e, tr⟩
theorem Sm.tup {H H1 : Hp} (s : Sm H H1) {a : Addr} {xs : List V} (e : H a = some (.tup xs)) : H1 a = some (.tup xs) := s.kp _ _ (fun _ z => by cases z) e
theorem Sm.lst {H H1 : Hp} (s : Sm H H1) {a : Addr} {xs : List V} (e : H a = some (.lst xs)) : H1 a = some (.lst xs) := s.kp _ _ (fun _ z => by cases z) e
/-- a list that is written while all else stays -/
theorem Sm.put {H H1 : Hp} {L : Addr} {o : HO} (s : Sm H H1) (h : H L = none) : Sm H (upd H1 L o) := by
  refine ⟨fun x u n e => ?_, fun R ⟨ps, e, t⟩ => ?_⟩
  · rw [upd_ne (ne_of_none e h)]
    exact s.kp _ _ n e
  · obtain ⟨qs, e2, t2⟩ := s.tb R ⟨ps, e, t⟩
    exact ⟨qs, by rw [upd_ne (ne_of_none e h)]; exact e2, t2⟩
abbrev Row := List (Int × Int)
def Pr (H : Hp) (x : V) (u : Int × Int) : Prop := ∃ a, x = .ref a ∧ H a = some (.tup [.int u.1, .int u.2])
structure Prs (H : Hp) (xs : List V) (r : Row) : Prop where
  len : xs.length = r.length
  get : ∀ {i : Nat} {x : V}, xs[i]? = some x → ∃ u, r[i]? = some u ∧ Pr H x u
def Rw (H : Hp) (t : Addr) (r : Row) : Prop := ∃ xs, H t = some (.tup xs) ∧ Prs H xs r
theorem Pr.sm {H H1 : Hp} {x : V} {u : Int × Int} (h : Pr H x u) (s : Sm H H1) : Pr H1 x u := let ⟨a, e, h⟩ := h; ⟨a, e, s.tup h⟩
theorem Prs.sm {H H1 : Hp} {xs : List V} {r : Row} (h : Prs H xs r) (s : Sm H H1) : Prs H1 xs r := ⟨h.len, fun e => let ⟨u, e2, p⟩ := h.get e; ⟨u, e2, p.sm s⟩⟩
theorem Rw.sm {H H1 : Hp} {t : Addr} {r : Row} (h : Rw H t r) (s : Sm H H1) : Rw H1 t r := let ⟨xs, e, p⟩ := h; ⟨xs, s.tup e, p.sm s⟩
theorem Prs.nil {H : Hp} : Prs H [] [] := ⟨rfl, fun {i x} e => by simp at e⟩
theorem Prs.snoc {H : Hp} {xs : List V} {r : Row} {x : V} {u : Int × Int} (h : Prs H xs r) (p : Pr H x u) : Prs H (xs ++ [x]) (r ++ [u]) := by
  refine ⟨by simp [h.len], fun {i y} e => ?_⟩
  by_cases hi : i < xs.length
  · rw [List.getElem?_append_left hi] at e
    rw [List.getElem?_append_left (by rw [← h.len]; exact hi)]
    exact h.get e
  · rw [List.getElem?_append_right (by omega)] at e
    rw [List.getElem?_append_right (by rw [← h.len]; omega), ← h.len]
    cases hk : i - xs.length with
    | zero =>
      rw [hk] at e
      cases e
      exact ⟨u, rfl, p⟩
    | succ m =>
      rw [hk] at e
      simp at e
theorem take_snoc {α : Type} {xs : List α} {i : Nat} {u : α} (e : xs[i]? = some u) : xs.take (i + 1) = xs.take i ++ [u] := by
  rw [List.take_add_one, e]
  rfl
/-! walks -/
section
variable {K : PySem.W.Frag} {a b : Addr} {xs ys : List V} {g : TG} {tt : TT} {te : TE} {vs : List Nat} {σ : L2.St} {Hs : Hp}
theorem gx_tup {Q : List V → Hp → Prop} (Pv : Nat → List V → Hp → Prop) (h0 : Pv 0 [] Hs) (hl : ∀ i zs H, i ≤ xs.length → Pv i zs H → SqT K H a xs)
    (hs : ∀ i x zs H, xs[i]? = some x → Pv i zs H → g x (wipe σ vs) H fun σ2 H2 => wipe σ2 vs = wipe σ vs ∧ te σ2 H2 fun y H3 => zs.length < sizeLine ∧ Pv (i + 1) (zs ++ [y]) H3) (hd : ∀ zs H, Pv xs.length zs H → Q zs H) :
    ∃ W : Nat → Nat → List V → Hp → Prop, (∃ m, W 0 m [] Hs) ∧ Gx.Turns (Itt K a) g te vs σ Q W := by
  refine ⟨fun i m zs H => m = xs.length - i ∧ i ≤ xs.length ∧ Pv i zs H, ⟨xs.length, by simp, Nat.zero_le _, h0⟩, ?_⟩
  rintro i m zs H ⟨rfl, hi, p⟩
  have q := hl i zs H hi p
  by_cases hlt : i < xs.length
  · refine .inr ⟨⟨xs, xs[i], q, by simp [hlt]⟩, Pv (i + 1), fun zs H' p' => ⟨xs.length - (i + 1), by omega, rfl, hlt, p'⟩, fun x H' y => ?_⟩
    obtain ⟨e, y⟩ := y
    subst e
    exact hs i x zs _ (y xs q) p
  · have e : i = xs.length := by omega
    subst e
    exact .inl ⟨⟨xs, q, Nat.le_refl _⟩, hd zs H p⟩
theorem gx_zip {Q : List V → Hp → Prop} (hle : xs.length = ys.length) (Pv : Nat → List V → Hp → Prop) (h0 : Pv 0 [] Hs) (hl : ∀ i zs H, Pv i zs H → SqT K H a xs ∧ SqT K H b ys)
    (hs : ∀ i x y T zs H, xs[i]? = some x → ys[i]? = some y → Pv i zs H → H T = none → g (.ref T) (wipe σ vs) (upd H T (.tup [x, y])) fun σ2 H2 => wipe σ2 vs = wipe σ vs ∧ te σ2 H2 fun y H3 => zs.length < sizeLine ∧ Pv (i + 1) (zs ++ [y]) H3) (hd : ∀ zs H, Pv xs.length zs H → Q zs H) :
    ∃ W : Nat → Nat → List V → Hp → Prop, (∃ m, W 0 m [] Hs) ∧ Gx.Turns (RZ.ItzT K a b) g te vs σ Q W := by
  refine ⟨fun i m zs H => m = xs.length - i ∧ i ≤ xs.length ∧ Pv i zs H, ⟨xs.length, by simp, Nat.zero_le _, h0⟩, ?_⟩
  rintro i m zs H ⟨rfl, hi, p⟩
  obtain ⟨qx, qy⟩ := hl i zs H p
  by_cases hlt : i < xs.length
  · have hx : xs[i]? = some xs[i] := List.getElem?_eq_getElem hlt
    have hlt2 : i < ys.length := by omega
    have hy : ys[i]? = some ys[i] := List.getElem?_eq_getElem hlt2
    refine .inr ⟨⟨xs, ys, _, _, qx, qy, hx, hy⟩, Pv (i + 1), fun zs H' p' => ⟨xs.length - (i + 1), by omega, rfl, hlt, p'⟩, fun v H' y => ?_⟩
    obtain ⟨T, x', y', rfl, hT, rfl, f1, f2⟩ := y
    exact hs i x' y' T zs H (f1 xs qx) (f2 ys qy) p hT
  · have e : i = xs.length := by omega
    subst e
    exact .inl ⟨⟨xs, ys, qx, qy, Or.inl (Nat.le_refl _)⟩, hd zs H p⟩
theorem lc_zip {D : Addr} {Qd : Hp → Prop} (hle : xs.length = ys.length) (Pv : Nat → Hp → Prop) (h0 : Pv 0 (upd Hs D (.lst []))) (hl : ∀ i H, Pv i H → SqT K H a xs ∧ SqT K H b ys)
    (hs : ∀ i x y T H, xs[i]? = some x → ys[i]? = some y → Pv i H → H T = none → g (.ref T) (wipe σ vs) (upd H T (.tup [x, y])) fun σ2 H2 => wipe σ2 vs = wipe σ vs ∧ tt σ2 H2 fun b H3 =>
      if b = true then te σ2 H3 fun y H4 => ∃ acc, H4 D = some (.lst acc) ∧ acc.length < sizeLine ∧ Pv (i + 1) (upd H4 D (.lst (acc ++ [y]))) else Pv (i + 1) H3) (hd : ∀ H, Pv xs.length H → Qd H) :
    ∃ W : Nat → Nat → Hp → Prop, (∃ m, W 0 m (upd Hs D (.lst []))) ∧ ∀ i m H, W i m H →
      ((RZ.ItzT K a b).stop i H ∧ Qd H) ∨ ((RZ.ItzT K a b).go i H ∧ ∃ Nx : Hp → Prop, (∀ H', Nx H' → ∃ m', m' < m ∧ W (i + 1) m' H') ∧ ∀ x H', (RZ.ItzT K a b).yld i H x H' → g x (wipe σ vs) H' fun σ2 H2 => wipe σ2 vs = wipe σ vs ∧ tt σ2 H2 fun b H3 =>
        if b = true then te σ2 H3 fun y H4 => ∃ acc, H4 D = some (.lst acc) ∧ acc.length < sizeLine ∧ Nx (upd H4 D (.lst (acc ++ [y]))) else Nx H3) := by
  refine ⟨fun i m H => m = xs.length - i ∧ i ≤ xs.length ∧ Pv i H, ⟨xs.length, by simp, Nat.zero_le _, h0⟩, ?_⟩
  rintro i m H ⟨rfl, hi, p⟩
  obtain ⟨qx, qy⟩ := hl i H p
  by_cases hlt : i < xs.length
  · have hx : xs[i]? = some xs[i] := List.getElem?_eq_getElem hlt
    have hlt2 : i < ys.length := by omega
    have hy : ys[i]? = some ys[i] := List.getElem?_eq_getElem hlt2
    refine .inr ⟨⟨xs, ys, _, _, qx, qy, hx, hy⟩, Pv (i + 1), fun H' p' => ⟨xs.length - (i + 1), by omega, rfl, hlt, p'⟩, fun v H' y => ?_⟩
    obtain ⟨T, x', y', rfl, hT, rfl, f1, f2⟩ := y
    exact hs i x' y' T H (f1 xs qx) (f2 ys qy) p hT
  · have e : i = xs.length := by omega
    subst e
    exact .inl ⟨⟨xs, ys, qx, qy, Or.inl (Nat.le_refl _)⟩, hd H p⟩
end
/-! a def whose code object is known -/
structure FunC (K : PySem.W.Frag) (x qual : Str) (st : Stmt) (f : Addr) (fd : FuncData) (c : Addr) : Prop where
  ex : ∃ (oc : Value) (od : Option Addr) (kV doc pm : Value) (an : Option Addr) (ct : Value) (osl : Array (Option Value)),
    fd = PySem.W.fnOf x qual (defArgs st) (defBody st) (defScope st) .none kV doc pm an (.ref c) ct ∧ K.lookup f = some ⟨oc, od, .func fd, osl⟩ ∧ PySem.W.codeIn K (.ref c) qual = true
open PySem.Spec PyProof.Rows in
theorem FunC.ok {P : Program} {w : World} {K : PySem.W.Frag} {mg : Str → Option Value} {base : Heap} {x qual : Str} {st : Stmt} {f c : Addr} {fd : FuncData} {N ps : List Str} {k : Nat} {sp : Sp} (F : FunC K x qual st f fd c) (S : FnScope N ps (defScope st)) (len : ∀ vs H Q E, sp vs H Q E → vs.length = ps.length)
    (hbody : ∀ (A : Around) (outer : List Env) (s : Shared) (H : Hp) (vs : List V) (Q : VK) (E : XK), Room k (A.deeper (envOfC qual (defScope st) s.heap.objs.size f (.ref c))) → sp vs H Q E →
      ∃ t, PSs (cxOf CX0 P w K mg base N qual (defScope st) f (.ref c) A outer s H E).nox (defBody st) t ∧ t { nx := fun _ H' => Q .non H', rt := Q } (start N vs) H) : FnOk P w K mg base CX0 (k + 1) f fd ps sp := by
  obtain ⟨oc, od, kV, doc, pm, an, ct, osl, rfl, lk, hcd⟩ := F.ex
  refine fn_of lk hcd S len fun A outer s H vs Q E hr hsp => ?_
  obtain ⟨t, h, q⟩ := hbody A outer s H vs Q E hr hsp
  exact ⟨t, h.nox, q⟩
/-! what is reckoned -/
def addR (p : Int) (r s : Row) : Row := List.zipWith (fun u v => ((u.1 + v.1) % p, (u.2 + v.2) % p)) r s
def timR (p n : Int) (r : Row) : Row := r.map fun u => (n * u.1 % p, n * u.2 % p)
def mets (r s : Row) : List Int := List.zipWith (fun u v => u.1 * v.2 - v.1 * u.2) r s
def metR (p : Int) (r s : Row) : Int := (mets r s).sum % p
def parR (r : Row) (js : List Nat) : Row := js.map fun j => r.getD j (0, 0)
def noR (n : Nat) : Row := List.replicate n (0, 0)
/-- a row of numbers that are no greater than we reckon with -/
def Fit (r : Row) : Prop := r.length ≤ 20 ∧ ∀ u ∈ r, (0 ≤ u.1 ∧ u.1 < 13) ∧ 0 ≤ u.2 ∧ u.2 < 13
theorem Fit.get {r : Row} (h : Fit r) {i : Nat} {u : Int × Int} (e : r[i]? = some u) : (0 ≤ u.1 ∧ u.1 < 13) ∧ 0 ≤ u.2 ∧ u.2 < 13 := h.2 u (List.mem_of_getElem? e)
theorem cmul {a b : Int} (h : 0 ≤ a ∧ a < 13) : CMul a b := .inl ⟨by omega, by omega⟩
theorem small {n : Nat} (h : n ≤ 1000) : n < sizeLine := small1000 h
structure Cd where
  c_row_of_sides : Addr
  p_row_of_sides : Addr
  c_table_of : Addr
  p_table_of : Addr
  c_other_sides : Addr
  p_other_sides : Addr
structure Tb (K : PySem.W.Frag) (mg : Str → Option Value) (base : Heap) (A : Ad) (C : Cd) : Prop where
  t_row_of_sides : GxR.TabB base mg C.c_row_of_sides C.p_row_of_sides
  k_row_of_sides : FunC K "row_of_sides" "row_of_sides" s_row_of_sides A.f_row_of_sides A.d_row_of_sides C.c_row_of_sides
  t_table_of : GxR.TabB base mg C.c_table_of C.p_table_of
  k_table_of : FunC K "table_of" "table_of" s_table_of A.f_table_of A.d_table_of C.c_table_of
  t_other_sides : GxR.TabB base mg C.c_other_sides C.p_other_sides
  k_other_sides : FunC K "other_sides" "other_sides" s_other_sides A.f_other_sides A.d_other_sides C.c_other_sides
/-! ### the end of a law with tables -/
open PySem.Spec PyProof.Rows in
def OwnTabs (names : List Str) (mg : Str → Option Value) (h : Heap) : Prop := ∀ x ∈ names, ∃ (a : Addr) (o : Obj) (fd : FuncData) (c P : Addr), mg x = some (.ref a) ∧ h.get? a = some o ∧ o.data = .func fd ∧ fd.code = .ref c ∧ PySem.W.CodeHd h c P ∧ h.get? P = some { cls := .none, data := .fields #[] }
open PySem.Spec PyProof.Rows in
theorem own_at {names : List Str} {mg : Str → Option Value} {h : Heap} {K : PySem.W.Frag} {x : Str} {f q p : Addr} {oc e : Value} {od dd : Option Addr} {fd : FuncData} {sl us : Array (Option Value)} {vs : Array Value} (own : OwnTabs names mg h) (hx : x ∈ names) (X : K.In h) (m : mg x = some (.ref f))
    (l : K.lookup f = some ⟨oc, od, .func fd, sl⟩) (hc : fd.code = .ref q) (u : K.lookup q = some ⟨e, dd, .fields vs, us⟩) (g : vs[11]? = some (.ref p)) : PySem.W.CodeHd h q p ∧ h.get? p = some { cls := .none, data := .fields #[] } := by
  obtain ⟨a, o, fd', c, P, h1, h2, h3, h4, h5, h6⟩ := own x hx
  rw [m] at h1
  cases h1
  rw [X _ _ l] at h2
  cases h2
  cases h3
  rw [hc] at h4
  cases h4
  have h5' := h5
  obtain ⟨o, vs', file, tf, flags, tg, inF, text, tt, e1, r1, r2, r3, _⟩ := h5
  rw [X _ _ u] at e1
  cases e1
  cases r2
  rw [g] at r3
  cases r3
  exact ⟨h5', h6⟩
theorem tb_conv {base : Heap} {mg : Str → Option Value} {c P : Addr} (t : LamX.TabB base mg c P) : GxR.TabB base mg c P := ⟨t.code, t.bm, t.gP⟩
theorem tab0 {H : Hp} {P : Addr} (h : H P = some (.tbl #[])) : GxR.TabG H P := ⟨#[], h, trivial⟩
open PySem.Spec PyProof.Rows in
theorem walkT {l : PySem.W.OpenLaw} {k : Nat} {x : Str} {q : Program} {loose : List Str} {XP : (Str → Option Value) → Heap → Prop} {YP : World → Heap → Prop} {d : DefRec} {K : Params → PySem.W.Frag} (names : List Str) (hn : l.most = some 63) (hdf : d.params.defaults = []) (hr : Room k callerA)
    (hrec : (names.all fun y => (recsOf q).any fun e => e.name == y) = true) (hY : ∀ (w : World) (h : Heap), YP w h → (K w.params).In h)
    (F : ∀ (w : World) (mg : Str → Option Value) (fa : Addr) (h : Heap), (K w.params).In h → h.Ns mainGlobals mg → mg d.name = some (.ref fa) → OwnTabs names mg h → LamX.LawAtS l w (K w.params) CX0 k 63 x mg fa h) :
    PySem.W.WalkO q loose XP YP l.row.toRowW d [] (fun f vs => PySem.call f vs) := by
  refine Att.attach_callB hn hdf fun w s₀ s₁ mg mb fa o pm cd doc a vs ns G Y ho hd hcd hmg hobj hints hlen hbits hg => ?_
  have KX := hY w _ Y
  have own : OwnTabs names mg s₁.heap := fun y hy => by
    obtain ⟨dL, hm, hn1⟩ := List.any_eq_true.mp (List.all_eq_true.mp hrec y hy)
    have hn2 : dL.name = y := beq_iff_eq.mp hn1
    obtain ⟨a', o', fd', c', P', h1, h2, h3, h4, h5, h6⟩ := G.T.tab dL hm
    rw [hn2] at h1
    exact ⟨a', o', fd', c', P', h1, h2, h3, h4, PySem.W.CodeHd.of h5 h6, h6.2⟩
  obtain ⟨fd, cs, sp, hT, nT, C, hb, hsp, hF⟩ := F w mg fa _ KX G.T.g hmg own
  exact LamX.law_callTs KX G.T.g G.T.b G.T.builtins G.T.nolimit hg hT nT C G.T.bmain hobj hints (Nat.le_trans hlen (by decide)) hr hF hb (fun H hH hS => hsp H a ns hlen hbits hH hS) fun H e s' z => z
/-! ### the law's end with guards and with tables -/
open PySem.Spec PyProof.Rows in
theorem core_endT {P : Program} {w : World} {K : PySem.W.Frag} {mg mb : Str → Option Value} {fa a : Addr} {t : Shared} {vs : List Value} {H : Hp} (cs : List (Addr × Addr))
    (kin : K.In t.heap) (hm : t.heap.Ns mainGlobals mg) (hb : t.heap.Ns builtinsNs mb) (boot : ∀ x : Str, x ≠ "__name__" → mb x = bootBuiltins x)
    (nol : t.heap.NoLimit) (hg : t.gens = #[]) (ha : t.heap.get? a = some { cls := .type "list", data := .seq vs.toArray })
    (hbm : ∃ (bm : Addr) (ob : Obj), mg "__builtins__" = some (.ref bm) ∧ bm ≠ builtinsNs ∧ t.heap.get? bm = some ob ∧ ob.cls = .type "module" ∧ ob.dict = some builtinsNs ∧ ob.data = .plain)
    (tabs : ∀ p ∈ cs, t.heap.get? p.2 = some { cls := .none, data := .fields #[] }) (hC : ∀ p ∈ cs, PySem.W.CodeHd t.heap p.1 p.2) (nT : ∀ p ∈ cs, K.lookup p.2 = none) (hT : ∀ p ∈ cs, H p.2 = some (.tbl #[]))
    (only : ∀ b, H b = none ∨ (∃ ob xs, H b = some (.frz ob (.lst xs))) ∨ ∃ p ∈ cs, p.2 = b) (hok : HOk P w H t.heap) (atA : ∀ b o, H b = some o → b = a ∨ ∃ p ∈ cs, p.2 = b) (notK : ∀ o, H a = some o → K.lookup a = none)
    (R : ∀ base : Heap, (∀ b o, t.heap.get? b = some o → H b = none → base.get? b = some o) → (∀ p ∈ cs, GxR.TabB base mg p.1 p.2) → Env0 P w K mg base callerA [] t H →
      codeAny (model P w) callerA (.call (.ref fa) ⟨[.ref a], []⟩) (CR CX0 [] P w H t (fun v _ => v = .bl true) E0) t) :
    codeAny (model P w) callerA (.call (.ref fa) ⟨[.ref a], []⟩)
      (fun r u => r = .ok (.ret (.bool true)) ∧ PySem.OldK t.heap u.heap ∧ u.os = t.os ∧ AllBare u.gens) t := by
  have hid : ∀ {b o}, t.heap.get? b = some o → H b = none → (hidT t.heap H).get? b = some o := fun z n => hidT_get z n
  have free : ∀ {b : Addr} {o : Obj}, t.heap.get? b = some o → (∀ us n, o.data ≠ .seq us n) → o.data ≠ .fields #[] → H b = none := by
    intro b o z h1 h2
    cases q : H b with
    | none => rfl
    | some u =>
      rcases atA b u q with e | ⟨p, hp, e⟩
      · subst e
        rw [ha] at z
        cases z
        exact absurd rfl (h1 _ _)
      · subst e
        rw [tabs p hp] at z
        cases z
        exact absurd rfl h2
  have names : ∀ {b : Addr} {m : Str → Option Value}, t.heap.Ns b m → (hidT t.heap H).Ns b m := by
    rintro b m ⟨o, es, ep, z, d, r⟩
    refine ⟨o, es, ep, hid z (free z (fun us n e => ?_) fun e => ?_), d, r⟩
    · rw [d] at e
      cases e
    · rw [d] at e
      cases e
  have kinB : K.In (hidT t.heap H) := by
    intro b o z
    refine hid (kin b o z) ?_
    cases q : H b with
    | none => rfl
    | some u =>
      rcases atA b u q with e | ⟨p, hp, e⟩
      · subst e
        rw [notK u q] at z
        cases z
      · subst e
        rw [nT p hp] at z
        cases z
  obtain ⟨mc, n1, n2⟩ := nol
  have md : Mod K mg (hidT t.heap H) := ⟨kinB, names hm, ⟨mb, names hb, boot⟩, ⟨mc, names n1, n2⟩⟩
  have e0 : Env0 P w K mg (hidT t.heap H) callerA [] t H := by
    refine ⟨rfl, md, fun b o z => of_hidT z, Nat.le_of_eq (hidT_size _ _), trivial, fun b z => ?_, hok, .of_eq hg⟩
    exact (List.not_mem_nil (show b ∈ ([] : List Addr) from z)).elim
  have TB : ∀ p ∈ cs, GxR.TabB (hidT t.heap H) mg p.1 p.2 := by
    intro p hp
    have hTp := tabs p hp
    obtain ⟨mo, me, mp, mz, mdat, _⟩ := hm
    refine ⟨?_, ?_, fun z => ?_⟩
    · obtain ⟨o, us, file, tf, flags, tg, inF, text, tt, e1, r1, r2, r3, rest⟩ := hC p hp
      refine ⟨o, us, file, tf, flags, tg, inF, text, tt, hid e1 (free e1 (fun us n z => ?_) fun z => ?_), r1, r2, r3, rest⟩
      · rw [r2] at z
        cases z
      · rw [r2] at z
        cases z
        simp at r3
    · obtain ⟨bm, ob, b1, b2, b3, b4, b5, b6⟩ := hbm
      refine ⟨bm, ob, b1, b2, fun q => ?_, fun q => ?_, hid b3 (free b3 (fun us n z => ?_) fun z => ?_), b4, b5, b6⟩
      · rw [q, mz] at b3
        cases b3
        rw [mdat] at b6
        cases b6
      · rw [q, hTp] at b3
        cases b3
        cases b6
      · rw [b6] at z
        cases z
      · rw [b6] at z
        cases z
    · rw [z, hTp] at mz
      cases mz
      cases mdat
  refine codeAny_mono (R _ (fun b o z n => hid z n) TB e0) fun r u h => ?_
  match r, h with
  | .ok (.ret y), ⟨v, H', hos, bare, un, hok', rel, e⟩ =>
    have e2 : v = V.bl true := e
    subst e2
    cases (show y = Value.bool true from rel)
    have grown : ∀ p ∈ cs, ∃ more : Array Value, u.heap.get? p.2 = some { cls := .none, data := .fields more } := fun p hp => by
      obtain ⟨more, z⟩ := un.tbls p.2 #[] (hT p hp)
      exact ⟨_, hok' p.2 _ z⟩
    have key : ∀ b o, t.heap.get? b = some o → u.heap.get? b = some o ∨ ∃ p ∈ cs, p.2 = b := by
      intro b o z
      rcases only b with n | ⟨ob, xs, n⟩ | n
      · exact .inl (un.keep b o z n (fun y => (List.not_mem_nil (show b ∈ ([] : List Addr) from y)).elim) (by simp))
      · obtain ⟨g1, _⟩ := hok b _ n
        obtain ⟨g2, _⟩ := hok' b _ (un.frzs b ob _ n)
        rw [g1] at z
        cases z
        exact .inl g2
      · exact .inr n
    refine ⟨rfl, ⟨fun b o z => ?_, fun b o z => ?_⟩, hos, bare⟩
    · rcases key b o z with k | ⟨p, hp, e⟩
      · exact .inl k
      · subst e
        obtain ⟨more, hmo⟩ := grown p hp
        rw [tabs p hp] at z
        cases z
        exact .inr (.inl ⟨((hC p hp).tab (tabs p hp)).isCodeTable, rfl, #[], more, rfl, by rw [Array.empty_append]; exact hmo⟩)
    · rcases key b o z with k | ⟨p, hp, e⟩
      · exact ⟨o, k⟩
      · subst e
        obtain ⟨more, hmo⟩ := grown p hp
        exact ⟨_, hmo⟩
  | .ok .next, h => exact False.elim h
  | .ok .brk, h => exact False.elim h
  | .ok .cont, h => exact False.elim h
  | .error _, h => exact False.elim h
open PySem.Spec PyProof.Rows in
/-- the law's call, over every script of at most 63 numbers, gives True; cs: code objects and tables -/
def LawOkT (P : Program) (w : World) (K : PySem.W.Frag) (mg : Str → Option Value) (fa : Addr) (cs : List (Addr × Addr)) : Prop :=
  ∀ (base : Heap) (t : Shared) (H : Hp) (a : Addr) (ns : List Int), ns.length ≤ 63 → (∃ o, base.get? sysModules = some o) → Env0 P w K mg base callerA [] t H → (∀ p ∈ cs, GxR.TabB base mg p.1 p.2) → (∀ p ∈ cs, H p.2 = some (.tbl #[])) → SqL K H a (ns.map V.int) →
    codeAny (model P w) callerA (.call (.ref fa) ⟨[.ref a], []⟩) (CR CX0 [] P w H t (fun v _ => v = .bl true) E0) t
open PySem.Spec PyProof.Rows in
theorem walk_gT {l : PySem.W.OpenLaw} {q : Program} {loose : List Str} {XP : (Str → Option Value) → Heap → Prop} {YP : World → Heap → Prop} {d : DefRec} {K : Params → PySem.W.Frag} (nms : List Str)
    (hn : l.most = some 63) (hdf : d.params.defaults = []) (hi : importsNone q = true) (hrec : (nms.all fun y => (recsOf q).any fun e => e.name == y) = true) (hY : ∀ (w : World) (h : Heap), YP w h → (K w.params).In h)
    (F : ∀ (w : World) (mg : Str → Option Value) (fa : Addr) (h : Heap), (K w.params).In h → h.Ns mainGlobals mg → mg d.name = some (.ref fa) → OwnTabs nms mg h → ∃ cs : List (Addr × Addr), (∀ p ∈ cs, h.get? p.2 = some { cls := .none, data := .fields #[] }) ∧ (∀ p ∈ cs, (K w.params).lookup p.2 = none) ∧
      (∀ p ∈ cs, PySem.W.CodeHd h p.1 p.2) ∧ LawOkT l.prog w (K w.params) mg fa cs) :
    PySem.W.WalkO q loose XP YP l.row.toRowW d [] (fun f vs => PySem.call f vs) := by
  refine Att.attach_call hn hdf fun w s₀ t mg mb fa o pm cd doc a vs ns G Y ho hd hcd hmg hobj hints hlen hg => ?_
  have kin := hY w _ Y
  have own : OwnTabs nms mg t.heap := fun y hy => by
    obtain ⟨dL, hm, hn1⟩ := List.any_eq_true.mp (List.all_eq_true.mp hrec y hy)
    have hn2 : dL.name = y := beq_iff_eq.mp hn1
    obtain ⟨a', o', fd', c', P', h1, h2, h3, h4, h5, h6⟩ := G.T.tab dL hm
    rw [hn2] at h1
    exact ⟨a', o', fd', c', P', h1, h2, h3, h4, PySem.W.CodeHd.of h5 h6, h6.2⟩
  obtain ⟨cs, tabs, nT, hC, L⟩ := F w mg fa _ kin G.T.g hmg own
  have rv := vals_ints hints
  have small : ns.length ≤ sizeLine := Nat.le_trans hlen (by decide)
  obtain ⟨mm, ⟨os, es, ep, hos, hod, _⟩, _⟩ := (G.T.seer hi).mods
  have neT : ∀ p ∈ cs, p.2 ≠ a := fun p hp z => by
    have e := tabs p hp
    rw [z, hobj] at e
    have e' := congrArg Obj.data (Option.some.inj e)
    cases e'
  have neS : ∀ p ∈ cs, p.2 ≠ sysModules := fun p hp z => by
    have e := tabs p hp
    rw [z, hos] at e
    cases e
    cases hod
  have mem : ∀ {b}, b ∈ cs.map (·.2) → ∃ p ∈ cs, p.2 = b := fun h => List.mem_map.mp h
  have inn : ∀ p ∈ cs, p.2 ∈ cs.map (·.2) := fun p hp => List.mem_map.mpr ⟨p, hp, rfl⟩
  cases hk : (K w.params).lookup a with
  | some u =>
    have z := kin a u hk
    rw [hobj] at z
    cases z
    refine core_endT cs (H := fun b => if b ∈ cs.map (·.2) then some (.tbl #[]) else none) kin G.T.g G.T.b G.T.builtins G.T.nolimit hg hobj G.T.bmain tabs hC nT (fun p hp => if_pos (inn p hp)) (fun b => ?_) (fun b u z => ?_) (fun b o z => ?_) (fun o z => ?_) fun base up TB e0 => ?_
    · by_cases h : b ∈ cs.map (·.2)
      · exact .inr (.inr (mem h))
      · exact .inl (if_neg h)
    · by_cases h : b ∈ cs.map (·.2)
      · cases (if_pos h).symm.trans z
        obtain ⟨p, hp, rfl⟩ := mem h
        exact tabs p hp
      · cases (if_neg h).symm.trans z
    · by_cases h : b ∈ cs.map (·.2)
      · exact .inr (mem h)
      · cases (if_neg h).symm.trans z
    · by_cases h : a ∈ cs.map (·.2)
      · obtain ⟨p, hp, e⟩ := mem h
        exact absurd e (neT p hp)
      · cases (if_neg h).symm.trans z
    · refine L base t _ a ns hlen ⟨_, up _ _ hos (if_neg fun h => ?_)⟩ e0 TB (fun p hp => if_pos (inn p hp)) (.inr ⟨_, vs.toArray, _, hk, rfl, rfl, rfl, by rw [List.size_toArray, hints.length]; exact small, by simpa using rv⟩)
      obtain ⟨p, hp, e⟩ := mem h
      exact neS p hp e
  | none =>
    refine core_endT cs (H := fun b => if b = a then some (.frz { cls := .type "list", data := .seq vs.toArray } (.lst (ns.map V.int))) else if b ∈ cs.map (·.2) then some (.tbl #[]) else none) kin G.T.g G.T.b G.T.builtins G.T.nolimit hg hobj G.T.bmain tabs hC nT (fun p hp => (if_neg (neT p hp)).trans (if_pos (inn p hp))) (fun b => ?_) (fun b u z => ?_) (fun b o z => ?_) (fun _ _ => hk) fun base up TB e0 => ?_
    · by_cases e : b = a
      · exact .inr (.inl ⟨_, _, if_pos e⟩)
      · by_cases h : b ∈ cs.map (·.2)
        · exact .inr (.inr (mem h))
        · exact .inl ((if_neg e).trans (if_neg h))
    · by_cases e : b = a
      · cases (if_pos e).symm.trans z
        subst e
        exact ⟨hobj, by rw [List.length_map]; exact small, vs, _, rv, hobj⟩
      · have z1 := (if_neg e).symm.trans z
        by_cases h : b ∈ cs.map (·.2)
        · cases (if_pos h).symm.trans z1
          obtain ⟨p, hp, rfl⟩ := mem h
          exact tabs p hp
        · cases (if_neg h).symm.trans z1
    · by_cases e : b = a
      · exact .inl e
      · have z1 := (if_neg e).symm.trans z
        by_cases h : b ∈ cs.map (·.2)
        · exact .inr (mem h)
        · cases (if_neg h).symm.trans z1
    · have ne : sysModules ≠ a := fun z => by
        rw [z, hobj] at hos
        cases hos
        cases hod
      have ne2 : ¬ sysModules ∈ cs.map (·.2) := fun h => by
        obtain ⟨p, hp, e⟩ := mem h
        exact neS p hp e
      have h1 := L base t _ a ns hlen ⟨_, up _ _ hos ((if_neg ne).trans (if_neg ne2))⟩ e0 TB (fun p hp => (if_neg (neT p hp)).trans (if_pos (inn p hp)))
      exact h1 (.inl (.inr ⟨_, if_pos rfl⟩))
open PySem.Spec PyProof.Rows in
theorem law_atT {P : Program} {w : World} {K : PySem.W.Frag} {mg : Str → Option Value} {st : Stmt} {f : Addr} {fd : FuncData} {N : List Str} {p : Str} {k : Nat} {cs : List (Addr × Addr)}
    (D : Df K mg "law" st [p] f fd) (S : FnScope N [p] (defScope st)) (room : Room (k + 1) callerA)
    (body : ∀ (base : Heap) (t : Shared) (H : Hp) (a : Addr) (ns : List Int) (cdv : Value), ns.length ≤ 63 → (∃ o, base.get? sysModules = some o) → (∀ p ∈ cs, GxR.TabB base mg p.1 p.2) → (∀ p ∈ cs, H p.2 = some (.tbl #[])) → SqL K H a (ns.map V.int) →
      Room k (callerA.deeper (envOfC "law" (defScope st) t.heap.objs.size f cdv)) →
      ∃ tm, PSs (cxOf CX0 P w K mg base N "law" (defScope st) f cdv callerA [] t H E0).nox (defBody st) tm ∧
        tm { nx := fun _ _ => V.non = .bl true, rt := fun v _ => v = .bl true } (start N [.ref a]) H) : LawOkT P w K mg f cs := by
  intro base t H a ns hl hm e0 TB hH hS
  have kin : K.In t.heap := e0.mod.kin.keeps fun b o z => (e0.bs b o z).1
  exact at_call (vs := [.ref a]) D.F S rfl room e0 (D.b t [.ref a] kin rfl) (.cons rfl .nil) fun cdv hr => body base t H a ns cdv hl hm TB hH hS hr
/-! a generator expression over a walk -/
theorem gx_it {J : It} {n : Nat} {G : Hp → Prop} {Y : Nat → Hp → V → Hp → Prop} (w : Walk J n G Y) {g : TG} {te : TE} {vs : List Nat} {σ : L2.St} {Hs : Hp} {Q : List V → Hp → Prop} (Pv : Nat → List V → Hp → Prop) (h0 : Pv 0 [] Hs) (hG : ∀ i zs H, i ≤ n → Pv i zs H → G H)
    (hs : ∀ i x zs H H', i < n → Pv i zs H → Y i H x H' → g x (wipe σ vs) H' fun σ2 H2 => wipe σ2 vs = wipe σ vs ∧ te σ2 H2 fun y H3 => zs.length < sizeLine ∧ Pv (i + 1) (zs ++ [y]) H3) (hd : ∀ zs H, Pv n zs H → Q zs H) :
    ∃ W : Nat → Nat → List V → Hp → Prop, (∃ m, W 0 m [] Hs) ∧ Gx.Turns J g te vs σ Q W := by
  refine ⟨fun i m zs H => m + i = n ∧ Pv i zs H, ⟨n, rfl, h0⟩, ?_⟩
  rintro i m zs H ⟨e, p⟩
  have q := hG i zs H (by omega) p
  cases m with
  | zero =>
    have e' : i = n := by omega
    subst e'
    exact .inl ⟨w.stops H q, hd zs H p⟩
  | succ m => exact .inr ⟨w.goes i H (by omega) q, Pv (i + 1), fun zs H' p' => ⟨m, by omega, by omega, p'⟩, fun x H' y => hs i x zs H H' (by omega) p (w.yields i H x H' (by omega) q y)⟩
/-! ### defs that ask for repr: promises where it is known that no repr is under way -/
open PySem.Spec PyProof.Rows in
structure FnG (P : Program) (w : World) (K : PySem.W.Frag) (mg : Str → Option Value) (base : Heap) (k : Nat) (f : Addr) (fd : FuncData) (ps : List Str) (sp : Sp) : Prop where
  len : ∀ {vs H Q E}, sp vs H Q E → vs.length = ps.length
  go : ∀ {A' : Around} {outer : List Env} {s : Shared} {H : Hp} {args : Args} {us : List Value} {vs : List V} {Q : VK} {E : XK}, A'.guards = some [] → Room k A' → Env0 P w K mg base A' outer s H → BindsTo s fd args (ps.zip us) → Vals vs us → sp vs H Q E →
    codeAny (model P w) A' (.call (.ref f) args) (CR CX0 outer P w H s Q E) s
open PySem.Spec PyProof.Rows in
theorem okG {P : Program} {w : World} {K : PySem.W.Frag} {mg : Str → Option Value} {base : Heap} {x qual : Str} {st : Stmt} {f : Addr} {fd : FuncData} {N ps : List Str} {k : Nat} {sp : Sp} (F : Fun K x qual st f fd) (S : FnScope N ps (defScope st)) (len : ∀ {vs H Q E}, sp vs H Q E → vs.length = ps.length)
    (body : ∀ (cdv : Value) (A' : Around) (outer : List Env) (s : Shared) (H : Hp) (vs : List V) (Q : VK) (E : XK), A'.guards = some [] → Room k (A'.deeper (envOfC qual (defScope st) s.heap.objs.size f cdv)) → sp vs H Q E →
      ∃ t, PSs (cxOf CX0 P w K mg base N qual (defScope st) f cdv A' outer s H E).nox (defBody st) t ∧ t { nx := fun _ H' => Q .non H', rt := Q } (start N vs) H) : FnG P w K mg base (k + 1) f fd ps sp :=
  ⟨len, fun hg hr e0 hb rv h => at_call F S (len h) hr e0 hb rv fun cdv hr' => body cdv _ _ _ _ _ _ _ hg hr' h⟩
section
open PySem.Spec PyProof.Rows
variable {X : Cx} {k : Nat} {f : Addr} {fd : FuncData} {ps : List Str} {sp : Sp} {x : Str} {p pos : Pos} {e : Expr} {es : List Expr} {t : TA}
theorem run_g {pins : List (Addr × Obj)} {σ : L2.St} {H : Hp} {s : Shared} {Q : VK} {us : List Value} {vs : List V} (F : FnG X.prog X.w X.K X.mg X.base k f fd ps sp) (hgd : X.A.guards = some []) (hr : Room k X.A) (hb : Binds X.K fd ps []) (I : L2.Inv X pins σ H s) (r : Vals vs us) (h : sp vs H Q E0) : wpAny (model X.prog X.w) X.A (call (.ref f) us) (EP X pins σ Q) X.xe s := by
  have hl : (us ++ []).length = ps.length := by
    rw [List.append_nil, ← r.length]
    exact F.len h
  have bnd := hb s us I.kIn hl
  rw [List.append_nil] at bnd
  refine wpAny_call (codeAny_mono (F.go hgd hr I.env0 bnd r h) fun r s' hq => ?_)
  match r, hq with
  | .ok (.ret _), hq => exact I.after hq
theorem pe_callG (F : FnG X.prog X.w X.K X.mg X.base k f fd ps sp) (hgd : X.A.guards = some []) (hr : Room k X.A) (hg : Gl X x) (hm : X.mg x = some (.ref f)) (hk : PySem.W.keepIn X.K (.ref f) = true) (hb : Binds X.K fd ps []) (ha : PA X (e :: es) t)
    (hdb : (x == ("__debug__" : Str)) = false := by decide) (he : starEach (e :: es) X.env = (false, eval e X.env) :: starEach es X.env := by rfl) (hpl : (backTo pos (starEach es X.env)).any (·.1) = false := by rfl) : PE X (.Call (.Name x p) (e :: es) [] pos) (tCall sp [] E0 t) :=
  ⟨fun pins s σ H Q I h => wpAny_Call_Name_kw (ld_glob I hg hm (PySem.W.callWith_K (h₀ := X.base) I.ok.mod.kin hk (thn (ha.run pos pins s σ H _ I h) fun us s1 ⟨vs, H1, I1, r, q⟩ => ⟨I1.kIn, run_g F hgd hr hb I1 r (by have z : sp (vs ++ []) H1 Q E0 := q; rw [List.append_nil] at z; exact z)⟩) he hpl) hdb)⟩
end
section
variable {P : Program} {w : World} {K : PySem.W.Frag} {mg : Str → Option Value} {base : Heap} {A : Ad} {C : Cd}
/-! ### the deck -/
def spDeck (K : PySem.W.Frag) : Sp := fun vs H Q _ => ∃ (a : Addr) (ns : List Int), vs = [.ref a] ∧ SqL K H a (ns.map V.int) ∧ ns.length ≤ 63 ∧
  ∀ (d g c : Addr) (H' : Hp), Same H H' → H d = none → H g = none → H c = none → Dk d g c 0 H' → Q (.ref d) H'
theorem ok__law_deck (T : Tx K mg A) : FnOk P w K mg base CX0 1 A.f__law_deck A.d__law_deck ["_law_script"] (spDeck K) := by
  refine T.d__law_deck.F.ok sc__law_deck (fun vs H Q E h => ?_) (fun cdv A outer s H vs Q E hr h => ?_)
  · obtain ⟨a, ns, rfl, _⟩ := h
    rfl
  · obtain ⟨a, ns, rfl, hS, hlen, k⟩ := h
    refine ⟨_, (pss_cons (ps_setLc (i := 1) (own := [("_law_cell", 2)]) rfl sc__law_deck.nd rfl rfl (sw_true rfl rfl rfl (by decide +kernel)) (pi_list (pv 0)) (blkOk_by (N := N__law_deck) (sc := defScope s__law_deck) (by decide +kernel)) (fun _ _ _ _ _ => (pg_name (i := 2) sc__law_deck.nd rfl (.inl rfl))) (fun _ _ _ _ _ => pts_nil) (fun _ _ _ _ _ => (pe_callB call_abs (by rfl) T.b_abs PyProof.Rows.boot_abs (pa_cons (pv 2) pa_nil))))
        (pss_one (ps_ret (pe_lst (pa_cons (pe_lc (own := [("_law_cell", 2)]) rfl sc__law_deck.nd (pi_list (pv 1)) (blkOk_by (N := N__law_deck) (sc := defScope s__law_deck) (by decide +kernel)) (fun _ _ _ _ _ => (pg_name (i := 2) sc__law_deck.nd rfl (.inl rfl))) (fun _ _ _ _ _ => (pts_one (pt_cmpR op_ge (pv 2) (pe_op op_pow pe_int pe_int) (nomark _)))) (fun _ _ _ _ _ => (pv 2))) (pa_cons (pe_op op_cat (pv 1) (pe_lst (pa_cons (pe_op op_add (pe_callB call_len_seq (by rfl) T.b_len PySem.boot_len (pa_cons (pv 1) pa_nil)) pe_int) pa_nil))) (pa_cons pe_int pa_nil))))))), ?_⟩
    -- cells = [abs(cell) for cell in script]
    refine ⟨.ref a, rfl, a, rfl, ⟨_, hS⟩, fun D hD => lc_list (xs := ns.map V.int) (fun i H' => Same H H' ∧ ∃ cs : List Int, cs.length = i ∧ H' D = some (.lst (cs.map V.int))) ⟨same_upd hD, [], rfl, upd_same⟩ (fun i H' _ h => h.1.seq hS) ?_ ?_⟩
    · rintro i x H' hi ⟨s1, cs, hc, hDs⟩
      obtain ⟨u, rfl⟩ := int_of_map hi
      have hi63 : i < ns.length := by
        have q := (List.getElem?_eq_some_iff.mp hi).1
        rw [List.length_map] at q
        exact q
      refine ⟨rfl, .int u, rfl, u, rfl, cs.map V.int, hDs, by rw [List.length_map]; exact small1000 (by omega), ?_⟩
      refine ⟨fun b o e => ?_, cs ++ [if u < 0 then -u else u], by rw [List.length_append, hc]; rfl, by rw [upd_same, List.map_append]; rfl⟩
      rw [upd_ne (ne_of_none e hD)]
      exact s1 _ _ e
    · rintro H1 ⟨s1, cs, hc, hDs⟩
      rw [List.length_map] at hc
      -- the great ones
      refine ⟨.ref D, rfl, D, rfl, ⟨_, .inl (.inl hDs)⟩, fun G hG => lc_list (xs := cs.map V.int) (fun i H' => Same H1 H' ∧ ∃ gs : List Int, gs.length ≤ i ∧ H' G = some (.lst (gs.map V.int))) ⟨same_upd hG, [], Nat.le_refl _, upd_same⟩ (fun i H' _ h => h.1.seq (.inl (.inl hDs))) ?_ ?_⟩
      · rintro i x H' hi ⟨s2, gs, hg, hGs⟩
        obtain ⟨u, rfl⟩ := int_of_map hi
        have hi63 : i < cs.length := by
          have q := (List.getElem?_eq_some_iff.mp hi).1
          rw [List.length_map] at q
          exact q
        refine ⟨rfl, .int u, rfl, _, _, rfl, rfl, ⟨by decide, by decide, by decide⟩, u, _, rfl, rfl, _, rfl, ite2 (fun _ => ?_) (fun _ => ?_)⟩
        · refine ⟨.int u, rfl, gs.map V.int, hGs, by rw [List.length_map]; exact small1000 (by omega), fun b o e => ?_, gs ++ [u], ?_, by rw [upd_same, List.map_append]; rfl⟩
          · rw [upd_ne (ne_of_none e hG)]
            exact s2 _ _ e
          · rw [List.length_append, List.length_singleton]
            omega
        · exact ⟨s2, gs, by omega, hGs⟩
      · rintro H2 ⟨s2, gs, hg, hGs⟩
        rw [List.length_map] at hg
        have hD2 : H2 D = some (.lst (cs.map V.int)) := s2 _ _ hDs
        -- cells + [len(cells) + 3]
        refine ⟨.ref D, rfl, .ref D, rfl, D, _, rfl, .inl (.inl (.inl hD2)), _, _, rfl, rfl, (by show 1 ≤ sizeLine; decide), fun p hp => ?_⟩
        have npD : D ≠ p := ne_of_none hD2 hp
        have npG : G ≠ p := ne_of_none hGs hp
        refine ⟨D, p, cs.map V.int, _, rfl, rfl, by rw [upd_ne npD]; exact hD2, upd_same, ?_, fun c hc' => ?_⟩
        · rw [List.length_map]
          exact Nat.le_of_lt (small1000 (by show cs.length + 1 ≤ 1000; omega))
        · have ncp : c ≠ p := fun e => by
            rw [e, upd_same] at hc'
            cases hc'
          have hc2 : H2 c = none := by
            rw [upd_ne ncp] at hc'
            exact hc'
          have ncG : G ≠ c := ne_of_none hGs hc2
          refine ⟨(by show 3 ≤ sizeLine; decide), fun d hd => ?_⟩
          have ndc : d ≠ c := fun e => by
            rw [e, upd_same] at hd
            cases hd
          rw [upd_ne ndc] at hd
          have ndp : d ≠ p := fun e => by
            rw [e, upd_same] at hd
            cases hd
          rw [upd_ne ndp] at hd
          have ndG : G ≠ d := ne_of_none hGs hd
          have s3 : Same H H2 := s1.trans s2
          refine k d G c _ (fun b o e => ?_) (s3.free hd) (s1.free hG) (s3.free hc2) ⟨⟨gs, cs ++ [((cs.length : Nat) : Int) + 3], 0, upd_same, ?_, ?_, ?_, ?_, by decide, by decide⟩, ndG.symm, ndc, ncG⟩
          · have e2 := s3 _ _ e
            rw [upd_ne (ne_of_none e2 hd), upd_ne (ne_of_none e2 hc2), upd_ne (ne_of_none e2 hp)]
            exact e2
          · rw [upd_ne ndG, upd_ne ncG, upd_ne npG]
            exact hGs
          · rw [upd_ne ndc.symm, upd_same, List.map_append, List.length_map]
            rfl
          · rw [List.length_append]
            show 0 < cs.length + 1
            omega
          · rw [List.length_append]
            show cs.length + 1 ≤ 100
            omega
def spNext : Sp := fun vs H Q _ => ∃ (d g c : Addr) (k m : Int), vs = [.ref d, .int m] ∧ 0 < m ∧ m < 1208925819614629174706176 ∧ Dk d g c k H ∧ k ≤ 1000000000 ∧
  ∀ (r : Int) (H' : Hp), 0 ≤ r → r < m → Dk d g c (k + 1) H' → Fr d g H H' → Q (.int r) H'
def lenAt (g : Addr) (H : Hp) : Nat := match H g with
  | some (.lst xs) => xs.length
  | _ => 0
theorem lenAt_of {g : Addr} {H : Hp} {xs : List V} (h : H g = some (.lst xs)) : lenAt g H = xs.length := by
  unfold lenAt
  rw [h]
theorem ok__law_next (T : Tx K mg A) : FnOk P w K mg base CX0 1 A.f__law_next A.d__law_next ["_law_deck_here", "_law_many"] spNext := by
  refine T.d__law_next.F.ok sc__law_next (fun vs H Q E h => ?_) (fun cdv A outer s H vs Q E hr h => ?_)
  · obtain ⟨d, g, c, k, m, rfl, _⟩ := h
    rfl
  · obtain ⟨d, g, c, k, m, rfl, hm, hm2, D0, hk, q⟩ := h
    have hW : m.natAbs < 2 ^ 80 := by
      show m.natAbs < 1208925819614629174706176
      omega
    refine ⟨_, (pss_cons (ps_while PassesOwn.never (pt_cmpR (op_neD hr.units) (pe_ix ix_list (pv 0) pe_int (fun _ _ => rfl)) (pe_lst pa_nil) (nomark _))
        (pss_cons (ps_set (i := 4) sc__law_next.nd rfl (.inl rfl) (pe_ix ix_list (pe_ix ix_list (pv 0) pe_int (fun _ _ => rfl)) pe_int (fun _ _ => rfl)))
        (pss_cons (ps_if (pt_cmpR op_gt (pv 4) pe_int (nomark _))
        (pss_cons (ps_asg (pe_op op_fdivW (pv 4) (pv 1)) (pg_sub (pe_ix ix_list (pv 0) pe_int (fun _ _ => rfl)) pe_int set_list))
        (pss_one (ps_ret (pe_op op_mod (pv 4) (pv 1)))))
        pss_nil)
        (pss_one (ps_expr (pe_bm PySem.F.plainAttrs_list PySem.F.slot_list_pop PySem.F.type_list_pop mt_popAt (pe_ix ix_list (pv 0) pe_int (fun _ _ => rfl)) (pa_cons pe_int pa_nil)))))))
        (pss_cons (ps_asg (pe_op op_add (pe_ix ix_list (pv 0) pe_int (fun _ _ => rfl)) pe_int) (pg_sub (pv 0) pe_int set_list))
        (pss_cons (ps_set (i := 2) sc__law_next.nd rfl (.inl rfl) (pe_op op_mod (pe_ix ix_list (pe_ix ix_list (pv 0) pe_int (fun _ _ => rfl)) (pe_op op_mod (pe_ix ix_list (pv 0) pe_int (fun _ _ => rfl)) (pe_callB call_len_seq (by rfl) T.b_len PySem.boot_len (pa_cons (pe_ix ix_list (pv 0) pe_int (fun _ _ => rfl)) pa_nil))) (fun _ _ => rfl)) pe_int))
        (pss_cons (ps_set (i := 3) sc__law_next.nd rfl (.inl rfl) (pe_op op_add (pe_op op_add (pe_op op_mul (pv 2) (pe_op op_add pe_int (pe_op op_mul pe_int (pe_ix ix_list (pv 0) pe_int (fun _ _ => rfl))))) (pe_op op_mul (pe_op op_mul pe_int (pe_ix ix_list (pv 0) pe_int (fun _ _ => rfl))) (pe_ix ix_list (pv 0) pe_int (fun _ _ => rfl)))) pe_int))
        (pss_cons (ps_set (i := 3) sc__law_next.nd rfl (.inl rfl) (pe_op op_mod (pv 3) pe_int))
        (pss_one (ps_ret (pe_op op_mod (pe_op op_fdivW (pe_op op_mod (pe_op op_mul (pv 3) (pv 3)) pe_int) pe_int) (pv 1))))))))), ?_⟩
    refine while_by (fun σ H' => ∃ v2 v3 v4, σ = [some (.ref d), some (.int m), v2, v3, v4] ∧ Dk d g c k H' ∧ Fr d g H H') (fun _ H' => lenAt g H') ⟨none, none, none, rfl, D0, Fr.refl _ _ _⟩ ?_ ?_
    · rintro σ H1 ⟨v2, v3, v4, rfl, D1, f1⟩
      obtain ⟨gs, cs, n, h1, h2, h3, h4, h5, h6, h7⟩ := D1.ex
      refine ⟨.ref d, rfl, d, _, 0, .ref g, rfl, rfl, SqL.of h1, atI_zero, Nat.zero_le _, fun p hp => ?_⟩
      obtain ⟨npd, npg, npc⟩ := D1.nd hp
      have k1 : upd H1 p (.lst []) d = some (.lst [.ref g, .ref c, .int n]) := by
        rw [upd_ne npd.symm]
        exact h1
      have k2 : upd H1 p (.lst []) g = some (.lst (gs.map V.int)) := by
        rw [upd_ne npg.symm]
        exact h2
      have k3 : upd H1 p (.lst []) c = some (.lst (cs.map V.int)) := by
        rw [upd_ne npc.symm]
        exact h3
      have f2 : Fr d g H (upd H1 p (.lst [])) := f1.trans (.new hp)
      have eL : lenAt g H1 = gs.length := by rw [lenAt_of h2, List.length_map]
      have k4 : upd H1 p (.lst []) p = some (.lst []) := upd_same
      generalize upd H1 p (.lst []) = H2 at k1 k2 k3 k4 f2 ⊢
      refine ⟨.list (gs.map PyData.int), .list ([].map PyData.int), .lst (SqL.of k2) (dp_ints gs), .lst (SqL.of k4) .nil, sh_ints gs, sh_ints [], _, rfl, ?_⟩
      cases gs with
      | cons x r =>
        -- rest = deck[0][0]
        refine ⟨.ref d, rfl, d, _, 0, _, rfl, rfl, SqL.of k1, atI_zero, g, _, 0, _, rfl, rfl, SqL.of k2, atI_zero, ?_⟩
        refine ⟨.int x, rfl, x, 0, rfl, rfl, _, rfl, ite2 (fun _ => ?_) (fun _ => ?_)⟩
        · -- deck[0][0] = rest // many; return rest % many
          refine ⟨.int x, rfl, .int m, rfl, x, m, rfl, rfl, wide_div hm hW (by decide) (by decide), .ref d, rfl, d, _, 0, _, rfl, rfl, SqL.of k1, atI_zero, g, _, 0, 0, rfl, rfl, k2, ixN_zero (by simp), ?_⟩
          refine ⟨.int x, rfl, .int m, rfl, x, m, rfl, rfl, hm, ?_⟩
          refine q _ _ (Int.emod_nonneg _ (by omega)) (Int.emod_lt_of_pos _ hm) ⟨⟨(x / m) :: r, cs, n, ?_, ?_, ?_, h4, h5, h6, by omega⟩, D1.dg, D1.dc, D1.gc⟩ (f2.trans .atg)
          · rw [upd_ne D1.dg]
            exact k1
          · rw [upd_same]
            rfl
          · rw [upd_ne D1.gc.symm]
            exact k3
        · -- deck[0].pop(0)
          refine ⟨.ref d, rfl, d, _, 0, _, rfl, rfl, SqL.of k1, atI_zero, .inl ⟨rfl, _, SqL.of k2⟩, g, _, 0, 0, .int x, rfl, rfl, k2, by decide, by decide, ixN_seq0 (by simp), rfl, ?_⟩
          refine ⟨⟨_, _, _, rfl, ⟨⟨r, cs, n, ?_, ?_, ?_, h4, h5, h6, h7⟩, D1.dg, D1.dc, D1.gc⟩, f2.trans .atg⟩, ?_⟩
          · rw [upd_ne D1.dg]
            exact k1
          · rw [upd_same]
            rfl
          · rw [upd_ne D1.gc.symm]
            exact k3
          · show lenAt g (upd H2 g _) < lenAt g H1
            rw [eL, lenAt_of upd_same]
            show (r.map V.int).length < r.length + 1
            rw [List.length_map]
            omega
      | nil =>
        -- deck[2] = deck[2] + 1
        refine ⟨.ref d, rfl, d, _, 2, _, rfl, rfl, SqL.of k1, atI_nat (j := 2) rfl, n, 1, rfl, rfl, .ref d, rfl, d, _, 2, 2, rfl, rfl, k1, rfl, ?_⟩
        have j1 : upd H2 d (.lst ([V.ref g, V.ref c, V.int n].set 2 (V.int (n + 1)))) d = some (.lst [.ref g, .ref c, .int (n + 1)]) := upd_same
        have j2 : upd H2 d (.lst ([V.ref g, V.ref c, V.int n].set 2 (V.int (n + 1)))) g = some (.lst []) := by
          rw [upd_ne D1.dg.symm]
          exact k2
        have j3 : upd H2 d (.lst ([V.ref g, V.ref c, V.int n].set 2 (V.int (n + 1)))) c = some (.lst (cs.map V.int)) := by
          rw [upd_ne D1.dc.symm]
          exact k3
        have f3 : Fr d g H (upd H2 d (.lst ([V.ref g, V.ref c, V.int n].set 2 (V.int (n + 1))))) := f2.trans .atd
        generalize upd H2 d (.lst ([V.ref g, V.ref c, V.int n].set 2 (V.int (n + 1)))) = H3 at j1 j2 j3 f3 ⊢
        have hl : (0 : Int) < (cs.map V.int).length := by
          rw [List.length_map]
          omega
        obtain ⟨v, hv⟩ := ints_at (cs := cs) (i := (n + 1) % ((cs.map V.int).length : Int)) (Int.emod_nonneg _ (by omega)) (by
          have z := Int.emod_lt_of_pos (n + 1) hl
          rw [List.length_map] at z ⊢
          exact z)
        -- the cell
        refine ⟨.ref d, rfl, d, _, 1, _, rfl, rfl, SqL.of j1, atI_nat (j := 1) rfl, .ref d, rfl, d, _, 2, _, rfl, rfl, SqL.of j1, atI_nat (j := 2) rfl, .ref d, rfl, d, _, 1, _, rfl, rfl, SqL.of j1, atI_nat (j := 1) rfl, c, _, rfl, .inl (SqL.of j3), n + 1, _, rfl, rfl, hl, c, _, _, .int v, rfl, rfl, SqL.of j3, hv, v, 2147483647, rfl, rfl, (by show (0 : Int) < 2147483647; decide), ?_⟩
        have q0 : 0 ≤ v % 2147483647 := Int.emod_nonneg _ (by decide)
        have q1 : v % 2147483647 < 2147483647 := Int.emod_lt_of_pos _ (by decide)
        refine ⟨.int (v % 2147483647), rfl, .ref d, rfl, d, _, 2, _, rfl, rfl, SqL.of j1, atI_nat (j := 2) rfl, 69621, n + 1, rfl, rfl, .inl ⟨by decide, by decide⟩, 48271, _, rfl, rfl, v % 2147483647, _, rfl, rfl, .inl ⟨by omega, by omega⟩,
          .ref d, rfl, d, _, 2, _, rfl, rfl, SqL.of j1, atI_nat (j := 2) rfl, 40692, n + 1, rfl, rfl, .inl ⟨by decide, by decide⟩, .ref d, rfl, d, _, 2, _, rfl, rfl, SqL.of j1, atI_nat (j := 2) rfl, _, n + 1, rfl, rfl, .inr ⟨by omega, by omega⟩, _, _, rfl, rfl, _, 11, rfl, rfl, ?_⟩
        refine ⟨_, rfl, _, 2147483629, rfl, rfl, (by show (0 : Int) < 2147483629; decide), ?_⟩
        refine ⟨_, rfl, _, rfl, _, _, rfl, rfl, .inl (mod_in (by decide) (by decide)), _, 2147483587, rfl, rfl, (by show (0 : Int) < 2147483587; decide), _, 16, rfl, rfl, wide_div (b := 5) (by decide) (by decide) (by decide) (by decide), .int m, rfl, _, m, rfl, rfl, hm, ?_⟩
        exact q _ _ (Int.emod_nonneg _ (by omega)) (Int.emod_lt_of_pos _ hm) ⟨⟨[], cs, n + 1, j1, j2, j3, h4, h5, by omega, by omega⟩, D1.dg, D1.dc, D1.gc⟩ f3
    · rintro σ H1 Q1 Q2 hq ⟨v, e, p, xs, i, v', e1, e2, hs, ha, hz, f⟩
      refine ⟨v, e, p, xs, i, v', e1, e2, hs, ha, hz, fun r hr => ?_⟩
      obtain ⟨d1, d2, a1, a2, a3, a4, kk, ek, qk⟩ := f r hr
      exact ⟨d1, d2, a1, a2, a3, a4, kk, ek, hq _ _ qk⟩
/-! ### what is drawn -/
def prs : List Int := [2, 3, 5, 7, 11, 13]
theorem prs_bd : ∀ p ∈ prs, 2 ≤ p ∧ p ≤ 13 := by decide
theorem ints_mem {cs : List Int} {i : Int} (h0 : 0 ≤ i) (h1 : i < cs.length) : ∃ v : Int, v ∈ cs ∧ atI (cs.map V.int) i = some (V.int v) := by
  obtain ⟨j, rfl⟩ := Int.eq_ofNat_of_zero_le h0
  have hj : j < cs.length := by omega
  refine ⟨cs[j], List.getElem_mem hj, ?_⟩
  apply atI_nat
  rw [List.getElem?_map, List.getElem?_eq_getElem hj]
  rfl
def spPrm : Sp := fun vs H Q _ => ∃ (d g c : Addr) (k : Int), vs = [.ref d] ∧ Dk d g c k H ∧ k ≤ 1000000 ∧
  ∀ (p : Int) (H' : Hp), p ∈ prs → Dk d g c (k + 1) H' → Fr d g H H' → Q (.int p) H'
theorem ok__law_prime (T : Tx K mg A) : FnOk P w K mg base CX0 2 A.f__law_prime A.d__law_prime ["_law_deck_here"] spPrm := by
  have G__law_next : FnOk P w K mg base CX0 1 A.f__law_next A.d__law_next ["_law_deck_here", "_law_many"] spNext := ok__law_next T
  refine T.d__law_prime.F.ok sc__law_prime (fun vs H Q E h => ?_) (fun cdv A outer s H vs Q E hr h => ?_)
  · obtain ⟨d, g, c, k, rfl, _⟩ := h
    rfl
  · obtain ⟨d, g, c, k, rfl, D0, hk, q⟩ := h
    refine ⟨_, (pss_one (ps_ret (pe_ix ix_tup (pe_tup (pa_cons pe_int (pa_cons pe_int (pa_cons pe_int (pa_cons pe_int (pa_cons pe_int (pa_cons pe_int pa_nil))))))) (pe_call G__law_next hr (by rfl) T.d__law_next.g T.d__law_next.F.kp T.d__law_next.b .nil pass0 (pa_cons (pv 0) (pa_cons pe_int pa_nil))) (fun _ _ => rfl)))), ?_⟩
    refine ⟨(by show 6 ≤ sizeLine; decide), fun t ht => ?_⟩
    have nt := D0.nd ht
    refine ⟨.ref d, rfl, d, g, c, k, 6, rfl, by decide, by decide, D0.same (same_upd ht), by omega, fun r H1 r0 r1 D1 f1 => ?_⟩
    obtain ⟨v, hv, ev⟩ := ints_mem (cs := prs) r0 r1
    exact ⟨t, _, r, .int v, rfl, rfl, SqT.of (f1 t _ nt.1 nt.2.1 upd_same), ev, q v H1 hv D1 ((Fr.new ht).trans f1)⟩
/-! ### rows that are drawn -/
def In (p : Int) (r : Row) : Prop := ∀ u ∈ r, (0 ≤ u.1 ∧ u.1 < p) ∧ 0 ≤ u.2 ∧ u.2 < p
theorem In.fit {p : Int} {r : Row} (h : In p r) (h2 : p ≤ 13) (h3 : r.length ≤ 20) : Fit r := ⟨h3, fun u hu => by have := h u hu; omega⟩
theorem Dk.nt {d g c a : Addr} {k : Int} {H : Hp} {xs : List V} (D : Dk d g c k H) (h : H a = some (.tup xs)) : a ≠ d ∧ a ≠ g := by
  obtain ⟨gs, cs, n, h1, h2, _⟩ := D.ex
  exact ⟨ne_of h h1 (by intro z; cases z), ne_of h h2 (by intro z; cases z)⟩
theorem Dk.ntb {d g c a : Addr} {k : Int} {H : Hp} (D : Dk d g c k H) (h : GxR.TabG H a) : a ≠ d ∧ a ≠ g := by
  obtain ⟨gs, cs, n, h1, h2, _⟩ := D.ex
  obtain ⟨ps, h, _⟩ := h
  exact ⟨ne_of h h1 (by intro z; cases z), ne_of h h2 (by intro z; cases z)⟩
theorem Dk.sm {d g c : Addr} {k : Int} {H H' : Hp} (D : Dk d g c k H) (s : Sm H H') : Dk d g c k H' := by
  obtain ⟨gs, cs, n, h1, h2, h3, h4, h5, h6, h7⟩ := D.ex
  exact ⟨⟨gs, cs, n, s.lst h1, s.lst h2, s.lst h3, h4, h5, h6, h7⟩, D.dg, D.dc, D.gc⟩
section
variable {d g c L : Addr} {k : Int} {H H' : Hp} {xs : List V} {r : Row} {t : Addr}
theorem Fr.tup (f : Fr d g H H') (D : Dk d g c k H) (h : H t = some (.tup xs)) : H' t = some (.tup xs) := f _ _ (D.nt h).1 (D.nt h).2 h
theorem Fr.tab (f : Fr d g H H') (D : Dk d g c k H) (h : GxR.TabG H t) : GxR.TabG H' t := let n := D.ntb h; let ⟨ps, e, z⟩ := h; ⟨ps, f _ _ n.1 n.2 e, z⟩
theorem Prs.fr (h : Prs H xs r) (D : Dk d g c k H) (f : Fr d g H H') : Prs H' xs r := ⟨h.len, fun e => let ⟨u, e2, a, ea, p⟩ := h.get e; ⟨u, e2, a, ea, f.tup D p⟩⟩
theorem Rw.fr (h : Rw H t r) (D : Dk d g c k H) (f : Fr d g H H') : Rw H' t r := let ⟨xs, e, p⟩ := h; ⟨xs, f.tup D e, p.fr D f⟩
theorem Prs.put {ys : List V} {o : HO} (h : Prs H xs r) (e : H L = some (.lst ys)) : Prs (upd H L o) xs r := ⟨h.len, fun e1 => let ⟨u, e2, a, ea, p⟩ := h.get e1; ⟨u, e2, a, ea, by rw [upd_ne (ne_of p e (by intro z; cases z))]; exact p⟩⟩
theorem Dk.put {o : HO} (D : Dk d g c k H) (h1 : L ≠ d) (h2 : L ≠ g) (h3 : L ≠ c) : Dk d g c k (upd H L o) := by
  obtain ⟨gs, cs, n, e1, e2, e3, h4, h5, h6, h7⟩ := D.ex
  exact ⟨⟨gs, cs, n, by rw [upd_ne h1.symm]; exact e1, by rw [upd_ne h2.symm]; exact e2, by rw [upd_ne h3.symm]; exact e3, h4, h5, h6, h7⟩, D.dg, D.dc, D.gc⟩
end
theorem two_ints {ns : List Int} (h : ns.length = (2 : Int).toNat) : ∃ x y, ns = [x, y] := by
  match ns, h with
  | [x, y], _ => exact ⟨x, y, rfl⟩
/-! rows of so many posts, tables -/
structure Rk (p : Int) (n : Nat) (H : Hp) (t : Addr) (r : Row) : Prop where
  rw : Rw H t r
  inp : In p r
  len : r.length = n
theorem Rk.sm {p : Int} {n : Nat} {H H' : Hp} {t : Addr} {r : Row} (h : Rk p n H t r) (s : Sm H H') : Rk p n H' t r := ⟨h.rw.sm s, h.inp, h.len⟩
theorem Rk.fit {p : Int} {n : Nat} {H : Hp} {t : Addr} {r : Row} (h : Rk p n H t r) (h2 : p ≤ 13) (h3 : n ≤ 20) : Fit r := h.inp.fit h2 (by rw [h.len]; exact h3)
theorem Rk.fr {p : Int} {n : Nat} {H H' : Hp} {t d g c : Addr} {k : Int} {r : Row} (h : Rk p n H t r) (D : Dk d g c k H) (f : Fr d g H H') : Rk p n H' t r := ⟨h.rw.fr D f, h.inp, h.len⟩
theorem Rk.put {p : Int} {n : Nat} {H : Hp} {t L : Addr} {r : Row} {ys : List V} {o : HO} (h : Rk p n H t r) (e : H L = some (.lst ys)) : Rk p n (upd H L o) t r := by
  obtain ⟨⟨xs, h1, h2⟩, h3, h4⟩ := h
  exact ⟨⟨xs, by rw [upd_ne (ne_of h1 e (by intro z; cases z))]; exact h1, h2.put e⟩, h3, h4⟩
/-! ### the program's rows -/
def spNought : Sp := fun vs H Q _ => ∃ (n : Int), vs = [.int n] ∧ 0 ≤ n ∧ n ≤ 20 ∧ ∀ t H', Sm H H' → Rw H' t (noR n.toNat) → Q (.ref t) H'
theorem rep_one {α : Type} (x : α) : ∀ k : Nat, (List.replicate k [x]).flatten = List.replicate k x
  | 0 => rfl
  | k + 1 => by
    rw [List.replicate_succ, List.flatten_cons, rep_one x k]
    rfl
theorem prs_rep {H : Hp} {x : V} {u : Int × Int} (p : Pr H x u) (k : Nat) : Prs H (List.replicate k x) (List.replicate k u) := by
  refine ⟨by simp, fun {i y} e => ?_⟩
  have hi : i < k := by
    have := (List.getElem?_eq_some_iff.mp e).1
    simpa using this
  rw [List.getElem?_replicate, if_pos hi] at e
  cases e
  exact ⟨u, by rw [List.getElem?_replicate, if_pos hi], p⟩
/-! ### the program's clearing, of lists and of tuples -/
/-- a list or a tuple in the heap -/
def At (k : Zm.Kd) (H : Hp) (a : Addr) (xs : List V) : Prop := match k with
  | .l => H a = some (.lst xs)
  | .t => H a = some (.tup xs)
theorem At.sm {k : Zm.Kd} {H H' : Hp} {a : Addr} {xs : List V} (h : At k H a xs) (s : Sm H H') : At k H' a xs := by
  cases k with
  | l => exact s.lst h
  | t => exact s.tup h
theorem At.sq {k : Zm.Kd} {H : Hp} {a : Addr} {xs : List V} (h : At k H a xs) : Zm.Sq k K H a xs := by
  cases k with
  | l => exact SqL.of h
  | t => exact SqT.of h
theorem At.upd {k : Zm.Kd} {H : Hp} {a d : Addr} {xs : List V} {kvs : List (Key × V)} {o : HO} (h : At k H a xs) (e : H d = some (.dK kvs)) : At k (L2.upd H d o) a xs := by
  cases k with
  | l =>
    show L2.upd H d o a = _
    rw [upd_ne (ne_of (show H a = some (.lst xs) from h) e (by intro z; cases z))]
    exact h
  | t =>
    show L2.upd H d o a = _
    rw [upd_ne (ne_of (show H a = some (.tup xs) from h) e (by intro z; cases z))]
    exact h
theorem At.updF {k : Zm.Kd} {H : Hp} {a d : Addr} {xs : List V} {od : Obj} {o' o : HO} (h : At k H a xs) (e : H d = some (.frz od o')) : At k (L2.upd H d o) a xs := by
  cases k with
  | l =>
    show L2.upd H d o a = _
    rw [upd_ne (ne_of (show H a = some (.lst xs) from h) e (by intro z; cases z))]
    exact h
  | t =>
    show L2.upd H d o a = _
    rw [upd_ne (ne_of (show H a = some (.tup xs) from h) e (by intro z; cases z))]
    exact h
def Fl (H : Hp) (a : Addr) (us : List Int) : Prop := H a = some (.lst (us.map V.int))
def Fk (k : Zm.Kd) (H : Hp) (a : Addr) (us : List Int) : Prop := At k H a (us.map V.int)
open Lin (lessZ lessL clearL PL Rg Up vec scaled moreL)
def spLess : Sp := fun vs H Q _ => ∃ (p n : Int) (a b : Addr) (k : Zm.Kd) (us ws : List Int), vs = [.int p, .ref a, .int n, .ref b] ∧ 0 < p ∧ 0 ≤ n ∧ n < 13 ∧ Fk k H a us ∧ Fl H b ws ∧ us.length = ws.length ∧ us.length ≤ 100 ∧ ∀ t k' H', Sm H H' → (k = .l → k' = .l) → Fk k' H' t (lessL p us n ws) → Q (.ref t) H'
theorem ok_lessened (T : Tx K mg A) : FnOk P w K mg base CX0 1 A.f_lessened A.d_lessened ["p", "flat", "number", "other"] spLess := by
  refine T.d_lessened.F.ok sc_lessened (fun vs H Q E h => ?_) (fun cdv A outer s H vs Q E hr h => ?_)
  · obtain ⟨p, n, a, b, k, us, ws, rfl, _⟩ := h
    rfl
  · obtain ⟨p, n, a, b, k, us, ws, rfl, p0, n0, n1, ha, hb, hle, hl, q⟩ := h
    refine ⟨_, (pss_cons (ps_if (pt_cmpR op_eq (pv 2) pe_int (nomark _))
        (pss_one (ps_ret (pv 1)))
        pss_nil)
        (pss_one (ps_ret (pe_lc (own := [("mine", 4), ("its", 5)]) (g := (gTup K 2 (gCons (gName 4) (gCons (gName 5) gNil)))) rfl sc_lessened.nd (Zm.pi_zipK (by rfl) T.b_zip (pa_cons (pv 1) (pa_cons (pv 3) pa_nil))) (blkOk_by (N := N_lessened) (sc := defScope s_lessened) (by decide +kernel)) (fun _ _ _ _ _ => (pg_tup rfl (pgs_cons (pg_name (i := 4) sc_lessened.nd rfl (.inl rfl)) (pgs_cons (pg_name (i := 5) sc_lessened.nd rfl (.inl rfl)) pgs_nil)))) (fun _ _ _ _ _ => pts_nil) (fun _ _ _ _ _ => (pe_op op_mod (pe_op op_sub (pv 4) (pe_op op_mul (pv 2) (pv 5))) (pv 0))))))), ?_⟩
    refine ⟨.int n, rfl, rfl, _, rfl, ite2 (fun e => ?_) (fun e => ?_)⟩
    · have e0 : n = 0 := V.int.inj (of_decide_eq_true e)
      refine ⟨.ref a, rfl, q a k H (.refl _) (fun z => z) ?_⟩
      unfold lessL
      rw [if_pos e0]
      exact ha
    · have e0 : n ≠ 0 := fun z => e (decide_eq_true (congrArg V.int z))
      have hlm : (us.map V.int).length = (ws.map V.int).length := by rw [List.length_map, List.length_map, hle]
      refine ⟨.ref a, rfl, .ref b, rfl, k, .l, a, b, _, _, rfl, At.sq ha, SqL.of hb, fun L hL => ?_⟩
      refine lc_it (σ := [some (.int p), some (.ref a), some (.int n), some (.ref b), none, none]) (vs := [4, 5]) (Zm.walk2 hlm) (fun i H' => Sm H H' ∧ H' L = some (.lst (((lessZ p n us ws).take i).map V.int))) ⟨.new hL, upd_same⟩ (fun i H' _ h => ⟨(At.sm ha h.1).sq, SqL.of (h.1.lst hb)⟩) ?_ ?_
      · rintro i z H' H2 hi ⟨s3, hz⟩ ⟨T1, x, y, rfl, hT, rfl, hx, hy⟩
        dsimp only at hx hy
        rw [List.getElem?_map] at hx hy
        obtain ⟨u, eu, rfl⟩ := Option.map_eq_some_iff.mp hx
        obtain ⟨v, ev, rfl⟩ := Option.map_eq_some_iff.mp hy
        have s4 := s3.trans (.new (o := .tup [.int u, .int v]) hT)
        have e2 : (lessZ p n us ws)[i]? = some ((u - n * v) % p) := by
          unfold lessZ
          rw [List.getElem?_zipWith, eu, ev]
        have nT : L ≠ T1 := ne_of_none hz hT
        refine ⟨T1, [.int u, .int v], rfl, SqT.of upd_same, rfl, .int u, [.int v], rfl, .int v, [], rfl, rfl, ?_⟩
        dsimp only [wipe, List.set]
        refine ⟨rfl, .int u, rfl, .int n, rfl, .int v, rfl, n, v, rfl, rfl, cmul ⟨n0, n1⟩, _, _, rfl, rfl, .int p, rfl, _, p, rfl, rfl, p0, _, (by rw [upd_ne nT]; exact hz), ?_, s4.put hL, ?_⟩
        · rw [List.length_map, List.length_take]
          unfold lessZ
          rw [List.length_zipWith]
          exact small (by omega)
        · rw [upd_same, take_snoc e2, List.map_append]
          rfl
      · rintro H' ⟨s3, hz⟩
        have e2 : (lessZ p n us ws).take (us.map V.int).length = lessZ p n us ws := by
          rw [List.length_map]
          exact List.take_of_length_le (by unfold lessZ; rw [List.length_zipWith]; omega)
        rw [e2] at hz
        refine q L .l H' s3 (fun _ => rfl) ?_
        unfold lessL
        rw [if_neg e0]
        exact hz
def spFirst : Sp := fun vs H Q _ => ∃ (a : Addr) (k : Zm.Kd) (us : List Int), vs = [.ref a] ∧ Fk k H a us ∧ us.length ≤ 100 ∧ (∀ (i : Nat) (u : Int) (H' : Hp), us[i]? = some u → u ≠ 0 → (∀ j, j < i → us[j]? = some 0) → Sm H H' → Q (.int (i : Nat)) H') ∧ ∀ H', (∀ x ∈ us, x = 0) → Sm H H' → Q .non H'
theorem ok_first_place (T : Tx K mg A) : FnOk P w K mg base CX0 1 A.f_first_place A.d_first_place ["flat"] spFirst := by
  refine T.d_first_place.F.ok sc_first_place (fun vs H Q E h => ?_) (fun cdv A outer s H vs Q E hr h => ?_)
  · obtain ⟨a, k, us, rfl, _⟩ := h
    rfl
  · obtain ⟨a, k, us, rfl, ha, hl, q1, q2⟩ := h
    refine ⟨_, (pss_cons (ps_for PassesOwn.never rfl (En.pi_enumK (by rfl) T.b_enumerate (pa_cons (pv 0) pa_nil)) (pg_tup rfl (pgs_cons (pg_name (i := 1) sc_first_place.nd rfl (.inl rfl)) (pgs_cons (pg_name (i := 2) sc_first_place.nd rfl (.inl rfl)) pgs_nil)))
        (pss_one (ps_if (pt_cmpR op_ne (pv 2) pe_int (nomark _))
        (pss_one (ps_ret (pv 1)))
        pss_nil)))
        (pss_one (ps_ret pe_non))), ?_⟩
    refine ⟨.ref a, rfl, k, a, _, rfl, At.sq ha, for_it En.walkE (fun i σ H' => ∃ v1 v2, σ = [some (.ref a), v1, v2] ∧ Sm H H' ∧ ∀ j, j < i → us[j]? = some 0) ⟨_, _, rfl, .refl _, fun j hj => absurd hj (Nat.not_lt_zero _)⟩ (fun i σ H' _ h => by obtain ⟨_, _, _, s, _⟩ := h; exact (At.sm ha s).sq) ?_ ?_⟩
    · rintro i z σ H' H2 hi ⟨v1, v2, rfl, s1, hz⟩ ⟨T1, y, x, rfl, hT, rfl, hy, hx⟩
      cases hy
      dsimp only at hx
      rw [List.getElem?_map] at hx
      obtain ⟨u, eu, rfl⟩ := Option.map_eq_some_iff.mp hx
      have s2 := s1.trans (.new (o := .tup [.int (i : Nat), .int u]) hT)
      refine ⟨T1, [.int (i : Nat), .int u], rfl, SqT.of upd_same, rfl, .int (i : Nat), [.int u], rfl, .int u, [], rfl, rfl, ?_⟩
      refine ⟨.int u, rfl, rfl, _, rfl, ite2 (fun e => ?_) (fun e => ?_)⟩
      · have hu : u ≠ 0 := fun z => by
          subst z
          simp at e
        exact ⟨.int (i : Nat), rfl, q1 i u _ eu hu hz s2⟩
      · have hu : u = 0 := by
          by_cases z : u = 0
          · exact z
          · exact absurd (by simp [z]) e
        refine ⟨_, _, rfl, s2, fun j hj => ?_⟩
        by_cases h : j < i
        · exact hz j h
        · have ej : j = i := by omega
          rw [ej, eu, hu]
    · rintro σ H' ⟨v1, v2, rfl, s1, hz⟩
      refine q2 H' (fun x hx => ?_) s1
      obtain ⟨j, hj, rfl⟩ := List.mem_iff_getElem.mp hx
      have z := hz j (by rw [List.length_map]; exact hj)
      rw [List.getElem?_eq_getElem hj] at z
      exact Option.some.inj z
open Lin (flatR flat_len flat_snoc)
def spFlat : Sp := fun vs H Q _ => ∃ (a : Addr) (r : Row), vs = [.ref a] ∧ Rw H a r ∧ r.length ≤ 20 ∧ ∀ t H', Sm H H' → H t = none → Fl H' t (flatR r) → Q (.ref t) H'
/-! ### the inverse -/
def pw (p n : Int) : Nat → Int
  | 0 => 1
  | i + 1 => pw p n i * n % p
theorem pw_all : ∀ p ∈ ([2, 3, 5, 7, 11, 13] : List Int), ∀ i ∈ List.range 12, (i : Int) + 1 < p → 0 < pw p (1 + (i : Nat)) (p - 2).toNat ∧ pw p (1 + (i : Nat)) (p - 2).toNat < p ∧ pw p (1 + (i : Nat)) (p - 2).toNat * (1 + (i : Nat)) % p = 1 := by decide +kernel
theorem pw_inv {p n : Int} (hp : p ∈ ([2, 3, 5, 7, 11, 13] : List Int)) (h0 : 0 < n) (h1 : n < p) : 0 < pw p n (p - 2).toNat ∧ pw p n (p - 2).toNat < p ∧ pw p n (p - 2).toNat * n % p = 1 := by
  have p13 : p ≤ 13 := by
    have all : ∀ p ∈ ([2, 3, 5, 7, 11, 13] : List Int), p ≤ 13 := by decide
    exact all p hp
  obtain ⟨j, hj⟩ := Int.eq_ofNat_of_zero_le (show 0 ≤ n - 1 by omega)
  have e : n = 1 + (j : Nat) := by omega
  rw [e]
  exact pw_all p hp j (List.mem_range.mpr (by omega)) (by omega)
def spInv : Sp := fun vs H Q _ => ∃ (p n : Int), vs = [.int p, .int n] ∧ 2 ≤ p ∧ p ≤ 13 ∧ 0 ≤ n ∧ n < p ∧ Q (.int (pw p n (p - 2).toNat)) H
theorem ok_inverse (T : Tx K mg A) : FnOk P w K mg base CX0 1 A.f_inverse A.d_inverse ["p", "number"] spInv := by
  refine T.d_inverse.F.ok sc_inverse (fun vs H Q E h => ?_) (fun cdv A outer s H vs Q E hr h => ?_)
  · obtain ⟨p, n, rfl, _⟩ := h
    rfl
  · obtain ⟨p, n, rfl, h2, h13, h0, hn, q⟩ := h
    refine ⟨_, (pss_cons (ps_set (i := 2) sc_inverse.nd rfl (.inl rfl) pe_int)
        (pss_cons (ps_for PassesOwn.never rfl (pi_range1 (by rfl) T.b_range (pa_cons (pe_op op_sub (pv 0) pe_int) pa_nil)) (pg_name (i := 3) sc_inverse.nd rfl (.inl rfl))
        (pss_one (ps_set (i := 2) sc_inverse.nd rfl (.inl rfl) (pe_op op_mod (pe_op op_mul (pv 2) (pv 1)) (pv 0)))))
        (pss_one (ps_ret (pv 2))))), ?_⟩
    refine ⟨.int p, rfl, p, 2, rfl, rfl, p - 2, rfl, by omega, by omega, for_range (fun i σ H' => ∃ v, σ = [some (.int p), some (.int n), some (.int (pw p n i)), v] ∧ H' = H) ⟨none, rfl, rfl⟩ ?_ ?_⟩
    · rintro i σ H' hi ⟨v, rfl, rfl⟩
      exact ⟨.int (pw p n i), rfl, .int n, rfl, _, n, rfl, rfl, .inr ⟨by omega, by omega⟩, .int p, rfl, _, p, rfl, rfl, (by show 0 < p; omega), _, rfl, rfl⟩
    · rintro σ H' ⟨v, rfl, rfl⟩
      exact ⟨_, rfl, q⟩
/-! ### dicts of leads -/
inductive KvL (H : Hp) : List (Key × V) → List (Nat × List Int) → Prop
  | nil : KvL H [] []
  | cons {q : Nat} {us : List Int} {a : Addr} {kvs : List (Key × V)} {L : List (Nat × List Int)} : Fl H a us → KvL H kvs L → KvL H ((Sum.inl (q : Int), .ref a) :: kvs) ((q, us) :: L)
theorem KvL.len {H : Hp} {kvs : List (Key × V)} {L : List (Nat × List Int)} (h : KvL H kvs L) : kvs.length = L.length := by
  induction h with
  | nil => rfl
  | cons _ _ ih => rw [List.length_cons, List.length_cons, ih]
theorem KvL.keys {H : Hp} {kvs : List (Key × V)} {L : List (Nat × List Int)} (h : KvL H kvs L) : kvs.map (·.1) = (L.map fun x => ((x.1 : Nat) : Int)).map Sum.inl := by
  induction h with
  | nil => rfl
  | cons _ _ ih => rw [List.map_cons, ih]; rfl
theorem KvL.mono {H H' : Hp} {kvs : List (Key × V)} {L : List (Nat × List Int)} (h : KvL H kvs L) (s : ∀ a us, Fl H a us → Fl H' a us) : KvL H' kvs L := by
  induction h with
  | nil => exact .nil
  | cons f _ ih => exact .cons (s _ _ f) ih
theorem KvL.sm {H H' : Hp} {kvs : List (Key × V)} {L : List (Nat × List Int)} (h : KvL H kvs L) (s : Sm H H') : KvL H' kvs L := h.mono fun _ _ f => s.lst f
theorem fl_upd {H : Hp} {a d : Addr} {us : List Int} {kvs : List (Key × V)} {o : HO} (f : Fl H a us) (e : H d = some (.dK kvs)) : Fl (upd H d o) a us := by
  unfold Fl
  rw [upd_ne (ne_of f e (by intro z; cases z))]
  exact f
theorem KvL.upd {H : Hp} {kvs kvs' : List (Key × V)} {L : List (Nat × List Int)} {d : Addr} {o : HO} (h : KvL H kvs L) (e : H d = some (.dK kvs')) : KvL (L2.upd H d o) kvs L := h.mono fun _ _ f => fl_upd f e
theorem KvL.get {H : Hp} {kvs : List (Key × V)} {L : List (Nat × List Int)} (h : KvL H kvs L) : ∀ {i : Nat} {q : Nat} {us : List Int}, L[i]? = some (q, us) → ∃ a, kvs[i]? = some (Sum.inl (q : Int), .ref a) ∧ Fl H a us := by
  induction h with
  | nil => intro i q us e; simp at e
  | cons f _ ih =>
    intro i q us e
    cases i with
    | zero => cases e; exact ⟨_, rfl, f⟩
    | succ i => exact ih (by simpa using e)
theorem KvL.none {H : Hp} {kvs : List (Key × V)} {L : List (Nat × List Int)} (h : KvL H kvs L) {q : Nat} (n : q ∉ L.map (·.1)) : valV kvs (Sum.inl (q : Int)) = none := by
  induction h with
  | nil => rfl
  | @cons q' us a kvs L f h ih =>
    have n1 : q ≠ q' := fun e => n (by simp [e])
    have n2 : q ∉ L.map (·.1) := fun m => n (by simp [m])
    rw [valV_neg (by intro z; cases z; exact n1 rfl)]
    exact ih n2
theorem KvL.val {H : Hp} {kvs : List (Key × V)} {L : List (Nat × List Int)} (h : KvL H kvs L) (nd : (L.map (·.1)).Nodup) {q : Nat} {us : List Int} (m : (q, us) ∈ L) : ∃ a, valV kvs (Sum.inl (q : Int)) = some (.ref a) ∧ Fl H a us := by
  induction h with
  | nil => cases m
  | @cons q' us' a kvs L f h ih =>
    have nd' := List.nodup_cons.mp (by simpa using nd : (q' :: L.map (·.1)).Nodup)
    rcases List.mem_cons.mp m with e | m
    · cases e
      exact ⟨a, valV_pos rfl, f⟩
    · have ne : q ≠ q' := fun e => nd'.1 (by rw [← e]; exact List.mem_map.mpr ⟨_, m, rfl⟩)
      rw [valV_neg (by intro z; cases z; exact ne rfl)]
      exact ih nd'.2 m
theorem KvL.app {H : Hp} {kvs : List (Key × V)} {L : List (Nat × List Int)} (h : KvL H kvs L) {q : Nat} {us : List Int} {a : Addr} (f : Fl H a us) : KvL H (kvs ++ [(Sum.inl (q : Int), .ref a)]) (L ++ [(q, us)]) := by
  induction h with
  | nil => exact .cons f .nil
  | cons g _ ih => exact .cons g ih
theorem KvL.putNew {H : Hp} {kvs : List (Key × V)} {L : List (Nat × List Int)} (h : KvL H kvs L) {q : Nat} {us : List Int} {a : Addr} (n : q ∉ L.map (·.1)) (f : Fl H a us) : KvL H (putK kvs (Sum.inl (q : Int)) (.ref a)) (L ++ [(q, us)]) := by
  unfold putK
  rw [if_neg]
  · exact h.app f
  · rw [valV_any, h.none n]
    simp
theorem mapK_id {kvs : List (Key × V)} {k : Key} {v : V} (h : ∀ x ∈ kvs, x.1 ≠ k) : kvs.map (fun kv => if kv.1 = k then (kv.1, v) else kv) = kvs := by
  conv => rhs; rw [← List.map_id kvs]
  apply List.map_congr_left
  intro x hx
  rw [if_neg (h x hx)]
  rfl
theorem KvL.putOld {H : Hp} {kvs : List (Key × V)} {L : List (Nat × List Int)} (h : KvL H kvs L) (nd : (L.map (·.1)).Nodup) {i q : Nat} {us ws : List Int} {b : Addr} (e : L[i]? = some (q, us)) (f : Fl H b ws) : KvL H (putK kvs (Sum.inl (q : Int)) (.ref b)) (L.set i (q, ws)) := by
  have m : (q, us) ∈ L := List.mem_of_getElem? e
  obtain ⟨a, hv, _⟩ := h.val nd m
  unfold putK
  rw [if_pos (by rw [valV_any, hv]; rfl)]
  clear hv m
  induction h generalizing i with
  | nil => simp at e
  | @cons q' us' a' kvs L f' h ih =>
    have nd' := List.nodup_cons.mp (by simpa using nd : (q' :: L.map (·.1)).Nodup)
    cases i with
    | zero =>
      cases e
      rw [List.map_cons, if_pos rfl, mapK_id]
      · exact .cons f h
      · intro x hx z
        have k : x.1 ∈ kvs.map (·.1) := List.mem_map.mpr ⟨x, hx, rfl⟩
        rw [h.keys, z] at k
        obtain ⟨y, hy, ey⟩ := List.mem_map.mp k
        obtain ⟨w, hw, ew⟩ := List.mem_map.mp hy
        cases ey
        have ew' : w.1 = q := by omega
        exact nd'.1 (by rw [← ew']; exact List.mem_map.mpr ⟨w, hw, rfl⟩)
    | succ i =>
      have e' : L[i]? = some (q, us) := by simpa using e
      have ne : q' ≠ q := fun z => nd'.1 (by rw [z]; exact List.mem_map.mpr ⟨_, List.mem_of_getElem? e', rfl⟩)
      rw [List.map_cons, if_neg (by intro z; cases z; exact ne rfl)]
      exact .cons f' (ih nd'.2 e')
/-! ### a dict that is walked -/
theorem Sm.unlock {H H' : Hp} {d : Addr} {kvs : List (Key × V)} {od : Obj} (e : H d = some (.dK kvs)) (s : Sm (L2.upd H d (.frz od (.dK kvs))) H') : Sm H (L2.upd H' d (.dK kvs)) := by
  refine ⟨fun a o n h => ?_, fun P ⟨ps, h, t⟩ => ?_⟩
  · by_cases z : a = d
    · rw [z] at h ⊢
      rw [e] at h
      cases h
      exact upd_same
    · rw [upd_ne z]
      exact s.kp a o n (by rw [upd_ne z]; exact h)
  · have z : P ≠ d := ne_of h e (by intro z; cases z)
    obtain ⟨qs, h2, t2⟩ := s.tb P ⟨ps, by rw [upd_ne z]; exact h, t⟩
    exact ⟨qs, by rw [upd_ne z]; exact h2, t2⟩
theorem KvL.lock {H : Hp} {kvs kvs' : List (Key × V)} {L : List (Nat × List Int)} {d : Addr} {o : HO} (h : KvL H kvs L) (e : H d = some (.dK kvs')) : KvL (L2.upd H d o) kvs L := h.upd e
def spClear : Sp := fun vs H Q _ => ∃ (p : Int) (n : Nat) (a d : Addr) (k0 : Zm.Kd) (us : List Int) (kvs : List (Key × V)) (L : List (Nat × List Int)), vs = [.int p, .ref a, .ref d] ∧ 0 < p ∧ p ≤ 13 ∧ n ≤ 100 ∧ Fk k0 H a us ∧ us.length = n ∧ Rg p us ∧ H d = some (.dK kvs) ∧ KvL H kvs L ∧
  (L.map (·.1)).Nodup ∧ (∀ x ∈ L, x.2.length = n ∧ x.1 < n) ∧ ∀ t k' H', Sm H H' → Fk k' H' t (clearL p us L) → Q (.ref t) H'
theorem ok_cleared (T : Tx K mg A) : FnOk P w K mg base CX0 2 A.f_cleared A.d_cleared ["p", "flat", "leads"] spClear := by
  have G_lessened : FnOk P w K mg base CX0 1 A.f_lessened A.d_lessened ["p", "flat", "number", "other"] spLess := ok_lessened T
  refine T.d_cleared.F.ok sc_cleared (fun vs H Q E h => ?_) (fun cdv A outer s H vs Q E hr h => ?_)
  · obtain ⟨p, n, a, d, k0, us, kvs, L, rfl, _⟩ := h
    rfl
  · obtain ⟨p, n, a, d, k0, us, kvs, L, rfl, p0, p13, n1, ha, hl, hrg, hd, hk, nd, hL, q⟩ := h
    refine ⟨_, (pss_cons (ps_lock (ps_for PassesOwn.never rfl (pi_keys (pv 2)) (pg_name (i := 3) sc_cleared.nd rfl (.inl rfl))
        (pss_one (ps_set (i := 1) sc_cleared.nd rfl (.inl rfl) (pe_call G_lessened hr (by rfl) T.d_lessened.g T.d_lessened.F.kp T.d_lessened.b .nil pass0 (pa_cons (pv 0) (pa_cons (pv 1) (pa_cons (pe_ix En.ix_kd (pv 1) (pv 3) (fun _ _ => rfl)) (pa_cons (pe_dget (hu_of hr) (pv 2) (pv 3) (fun _ _ => rfl)) pa_nil)))))))))
        (pss_one (ps_ret (pv 1)))), ?_⟩
    refine ⟨d, .dK kvs, hd, trivial, fun od => ?_⟩
    have hk0 := hk.lock (o := .frz od (.dK kvs)) hd
    have ha0 : Fk k0 (upd H d (.frz od (.dK kvs))) a us := At.upd ha hd
    have hn : kvs.length = L.length := hk.len
    refine ⟨.ref d, rfl, d, od, rfl, .inl ⟨kvs, upd_same, for_it walk_keys (fun i σ H' => ∃ t v k', σ = [some (.int p), some (.ref t), some (.ref d), v] ∧ H' d = some (.frz od (.dK kvs)) ∧ Sm (upd H d (.frz od (.dK kvs))) H' ∧ Fk k' H' t (clearL p us (L.take i))) ⟨a, _, k0, rfl, upd_same, .refl _, by simpa [clearL] using ha0⟩ (fun i σ H' _ h => by obtain ⟨_, _, _, _, e, _⟩ := h; exact e) ?_ ?_⟩⟩
    · rintro i x σ H1 H2 hi ⟨t, v, k1, rfl, e1, s1, f1⟩ ⟨rfl, k, u, ek, rfl⟩
      have hi2 : i < L.length := by omega
      obtain ⟨b, eb, fb⟩ := (hk0.sm s1).get (i := i) (q := (L[i]).1) (us := (L[i]).2) (List.getElem?_eq_getElem hi2)
      rw [ek] at eb
      cases eb
      have m := List.getElem_mem hi2
      obtain ⟨ml, mp⟩ := hL _ m
      have cl := Lin.clear_len (p := p) (L.take i) (n := n) (fun x hx => (hL x (List.mem_of_mem_take hx)).1) hl
      have cr := Lin.clear_rg p0 (L.take i) hrg
      have hq : (L[i]).1 < (clearL p us (L.take i)).length := by omega
      have ew : (clearL p us (L.take i))[(L[i]).1]? = some ((clearL p us (L.take i))[(L[i]).1]) := List.getElem?_eq_getElem hq
      have rw_ := cr _ (List.getElem_mem hq)
      obtain ⟨c, ec, fc⟩ := (hk0.sm s1).val nd (q := (L[i]).1) (us := (L[i]).2) m
      refine ⟨.int p, rfl, .ref t, rfl, .ref t, rfl, .int ((L[i]).1 : Nat), rfl, t, k1, _, ((L[i]).1 : Nat), .int ((clearL p us (L.take i))[(L[i]).1]), rfl, rfl, At.sq f1, atI_nat (by rw [List.getElem?_map, ew]; rfl), .ref d, rfl, .int ((L[i]).1 : Nat), rfl, d, .ref c, rfl, .inl ⟨kvs, _, .inr ⟨od, e1⟩, rfl, ec.symm⟩, ?_⟩
      refine ⟨p, _, t, c, k1, _, _, rfl, p0, rw_.1, by omega, f1, fc, by omega, by omega, fun t2 k2 H3 s3 _ f3 => ?_⟩
      refine ⟨t2, _, k2, rfl, s3.kp _ _ (by intro ps z; cases z) e1, s1.trans s3, ?_⟩
      have e2 : L.take (i + 1) = L.take i ++ [L[i]] := by rw [List.take_append_getElem]
      rw [e2, Lin.clear_snoc]
      have e3 : (clearL p us (L.take i)).getD (L[i]).1 0 = (clearL p us (L.take i))[(L[i]).1] := by
        rw [List.getD_eq_getElem?_getD, ew]
        rfl
      rw [e3]
      exact f3
    · rintro σ H1 ⟨t, v, k1, rfl, e1, s1, f1⟩
      have e2 : L.take kvs.length = L := List.take_of_length_le (by omega)
      rw [e2] at f1
      exact ⟨e1, .ref t, rfl, q t k1 _ (s1.unlock hd) (At.updF f1 e1)⟩
/-! ### leads of lists of numbers -/
structure Fls (k0 : Zm.Kd) (H : Hp) (xs : List V) (fs : List (List Int)) : Prop where
  len : xs.length = fs.length
  get : ∀ {i : Nat} {x : V}, xs[i]? = some x → ∃ a f, x = .ref a ∧ fs[i]? = some f ∧ Fk k0 H a f
theorem Fls.sm {k0 : Zm.Kd} {H H' : Hp} {xs : List V} {fs : List (List Int)} (h : Fls k0 H xs fs) (s : Sm H H') : Fls k0 H' xs fs := ⟨h.len, fun e => let ⟨a, f, h1, h2, h3⟩ := h.get e; ⟨a, f, h1, h2, At.sm h3 s⟩⟩
theorem Fls.nil {k0 : Zm.Kd} {H : Hp} : Fls k0 H [] [] := ⟨rfl, fun e => by simp at e⟩
theorem Fls.snoc {k0 : Zm.Kd} {H : Hp} {xs : List V} {fs : List (List Int)} {a : Addr} {f : List Int} (h : Fls k0 H xs fs) (k : Fk k0 H a f) : Fls k0 H (xs ++ [.ref a]) (fs ++ [f]) := by
  refine ⟨by simp [h.len], fun {i x} e => ?_⟩
  by_cases hi : i < xs.length
  · rw [List.getElem?_append_left hi] at e
    rw [List.getElem?_append_left (by rw [← h.len]; exact hi)]
    exact h.get e
  · rw [List.getElem?_append_right (by omega)] at e
    rw [List.getElem?_append_right (by rw [← h.len]; omega), ← h.len]
    cases hk : i - xs.length with
    | zero =>
      rw [hk] at e
      cases e
      exact ⟨a, f, rfl, rfl, k⟩
    | succ m =>
      rw [hk] at e
      simp at e
/-- leads of which the first j are lessened by a new one -/
def uptoL (p : Int) (q : Nat) (l : List Int) (L : List (Nat × List Int)) (j : Nat) : List (Nat × List Int) := moreL p q l (L.take j) ++ L.drop j
theorem upto_zero {p : Int} {q : Nat} {l : List Int} {L : List (Nat × List Int)} : uptoL p q l L 0 = L := by simp [uptoL, moreL]
theorem upto_all {p : Int} {q : Nat} {l : List Int} {L : List (Nat × List Int)} : uptoL p q l L L.length = moreL p q l L := by simp [uptoL]
theorem upto_len {p : Int} {q : Nat} {l : List Int} {L : List (Nat × List Int)} {j : Nat} : (uptoL p q l L j).length = L.length := by simp [uptoL, moreL]; omega
theorem upto_get {p : Int} {q : Nat} {l : List Int} {L : List (Nat × List Int)} {j : Nat} (h : j < L.length) : (uptoL p q l L j)[j]? = some L[j] := by
  unfold uptoL
  rw [List.getElem?_append_right (by simp [moreL]; omega)]
  have e : j - (moreL p q l (L.take j)).length = 0 := by simp [moreL]; omega
  rw [e, List.getElem?_drop]
  simp [h]
theorem upto_set {p : Int} {q : Nat} {l : List Int} {L : List (Nat × List Int)} {j : Nat} (h : j < L.length) : (uptoL p q l L j).set j ((L[j]).1, lessL p (L[j]).2 ((L[j]).2.getD q 0) l) = uptoL p q l L (j + 1) := by
  have lm : (moreL p q l (L.take j)).length = j := by simp [moreL]; omega
  unfold uptoL
  rw [List.set_append_right _ _ (by omega), lm, Nat.sub_self, List.drop_eq_getElem_cons h]
  have e2 : L.take (j + 1) = L.take j ++ [L[j]] := by rw [List.take_append_getElem]
  rw [e2]
  have e3 : moreL p q l (L.take j ++ [L[j]]) = moreL p q l (L.take j) ++ [((L[j]).1, lessL p (L[j]).2 ((L[j]).2.getD q 0) l)] := by
    unfold moreL
    rw [List.map_append]
    rfl
  rw [e3, List.append_assoc]
  rfl
theorem upto_places {p : Int} {q : Nat} {l : List Int} {L : List (Nat × List Int)} {j : Nat} : (uptoL p q l L j).map (·.1) = L.map (·.1) := by
  unfold uptoL
  rw [List.map_append]
  have e : (moreL p q l (L.take j)).map (·.1) = (L.take j).map (·.1) := by
    unfold moreL
    rw [List.map_map]
    rfl
  rw [e, ← List.map_append, List.take_append_drop]
theorem perm_map {α β : Type} {g : α → β} {ys zs : List β} (h : ys.Perm zs) : ∀ {L : List α}, zs = L.map g → ∃ M : List α, M.Perm L ∧ ys = M.map g := by
  induction h with
  | nil =>
    intro L e
    cases L with
    | nil => exact ⟨[], .refl _, rfl⟩
    | cons _ _ => cases e
  | cons x _ ih =>
    intro L e
    cases L with
    | nil => cases e
    | cons y L =>
      obtain ⟨e1, e2⟩ := List.cons.inj e
      obtain ⟨M, m1, m2⟩ := ih e2
      exact ⟨y :: M, m1.cons y, by rw [e1, m2]; rfl⟩
  | swap x y l =>
    intro L e
    match L, e with
    | u :: v :: L, e =>
      obtain ⟨e1, e2⟩ := List.cons.inj e
      obtain ⟨e3, e4⟩ := List.cons.inj e2
      exact ⟨v :: u :: L, .swap u v L, by rw [e1, e3, e4]; rfl⟩
  | trans _ _ ih1 ih2 =>
    intro L e
    obtain ⟨M, m1, m2⟩ := ih2 e
    obtain ⟨N, n1, n2⟩ := ih1 m2
    exact ⟨N, n1.trans m1, n2⟩
theorem up_of {L : List (Nat × List Int)} (s : (L.map fun x => ((x.1 : Nat) : Int)).Pairwise (· ≤ ·)) (nd : (L.map (·.1)).Nodup) : Up L := by
  unfold Up
  rw [List.pairwise_map] at s ⊢
  have n2 : L.Pairwise fun a b => a.1 ≠ b.1 := by
    have := nd
    unfold List.Nodup at this
    rw [List.pairwise_map] at this
    exact this
  exact (s.and n2).imp fun {a b} h => by omega
def spLeads : Sp := fun vs H Q _ => ∃ (p : Int) (n : Nat) (a : Addr) (k0 : Zm.Kd) (xs : List V) (fs : List (List Int)), vs = [.int p, .ref a] ∧ p ∈ ([2, 3, 5, 7, 11, 13] : List Int) ∧ n < 64 ∧ H a = some (.lst xs) ∧ Fls k0 H xs fs ∧ xs.length ≤ 1000 ∧ (∀ f ∈ fs, f.length = n ∧ Rg p f) ∧
  ∀ (d : Addr) (kvs : List (Key × V)) (L : List (Nat × List Int)) (H' : Hp), Sm H H' → H' d = some (.dK kvs) → KvL H' kvs L → PL p n fs L → Up L → Q (.ref d) H'
theorem below_len : ∀ (n : Nat) (xs : List Nat), xs.Nodup → (∀ x ∈ xs, x < n) → xs.length ≤ n
  | 0, [], _, _ => Nat.le_refl _
  | 0, x :: _, _, h => absurd (h x (by simp)) (Nat.not_lt_zero _)
  | n + 1, xs, nd, h => by
    have k := below_len n (xs.erase n) (nd.erase n) fun x hx => by
      have m := (nd.mem_erase_iff).mp hx
      have := h x m.2
      omega
    by_cases hn : n ∈ xs
    · rw [List.length_erase_of_mem hn] at k
      omega
    · rw [List.erase_of_not_mem hn] at k
      omega
theorem pl_le {p : Int} {n : Nat} {fs : List (List Int)} {L : List (Nat × List Int)} (h : PL p n fs L) : L.length ≤ n := by
  have k := below_len n (L.map (·.1)) h.nd fun x hx => by
    obtain ⟨y, hy, rfl⟩ := List.mem_map.mp hx
    exact h.plc y hy
  simpa using k
theorem ok_leads_of (T : Tx K mg A) : FnOk P w K mg base CX0 3 A.f_leads_of A.d_leads_of ["p", "flats"] spLeads := by
  have G_lessened : FnOk P w K mg base CX0 1 A.f_lessened A.d_lessened ["p", "flat", "number", "other"] spLess := ok_lessened T
  have G_cleared : FnOk P w K mg base CX0 2 A.f_cleared A.d_cleared ["p", "flat", "leads"] spClear := ok_cleared T
  have G_first_place : FnOk P w K mg base CX0 1 A.f_first_place A.d_first_place ["flat"] spFirst := ok_first_place T
  have G_inverse : FnOk P w K mg base CX0 1 A.f_inverse A.d_inverse ["p", "number"] spInv := ok_inverse T
  refine T.d_leads_of.F.ok sc_leads_of (fun vs H Q E h => ?_) (fun cdv A outer s H vs Q E hr h => ?_)
  · obtain ⟨p, n, a, k0, xs, fs, rfl, _⟩ := h
    rfl
  · obtain ⟨p, n, a, k0, xs, fs, rfl, hp, n64, ha, hfs, hxl, hf, q⟩ := h
    have pall : ∀ p ∈ ([2, 3, 5, 7, 11, 13] : List Int), 2 ≤ p ∧ p ≤ 13 := by decide
    obtain ⟨p2, p13⟩ := pall p hp
    have p0 : 0 < p := by omega
    refine ⟨_, (pss_cons (ps_set (i := 2) sc_leads_of.nd rfl (.inr rfl) pe_dnewK)
        (pss_cons (ps_for PassesOwn.never rfl (pi_list (pv 1)) (pg_name (i := 3) sc_leads_of.nd rfl (.inl rfl))
        (pss_cons (ps_set (i := 4) sc_leads_of.nd rfl (.inl rfl) (pe_call G_cleared hr (by rfl) T.d_cleared.g T.d_cleared.F.kp T.d_cleared.b .nil pass0 (pa_cons (pv 0) (pa_cons (pv 3) (pa_cons (pv 2) pa_nil)))))
        (pss_cons (ps_set (i := 5) sc_leads_of.nd rfl (.inl rfl) (pe_call G_first_place (hr.mono (by decide)) (by rfl) T.d_first_place.g T.d_first_place.F.kp T.d_first_place.b .nil pass0 (pa_cons (pv 4) pa_nil)))
        (pss_one (ps_if (pt_cmpR op_notN (pv 5) pe_non (nomark _))
        (pss_cons (ps_set (i := 6) sc_leads_of.nd rfl (.inr rfl) (pe_call G_inverse (hr.mono (by decide)) (by rfl) T.d_inverse.g T.d_inverse.F.kp T.d_inverse.b .nil pass0 (pa_cons (pv 0) (pa_cons (pe_ix En.ix_kd (pv 4) (pv 5) (fun _ _ => rfl)) pa_nil))))
        (pss_cons (ps_setLc (i := 7) (own := [("number", 9)]) rfl sc_leads_of.nd rfl rfl (sw_true rfl rfl rfl (by decide +kernel)) (Zm.pi_kd (pv 4)) (blkOk_by (N := N_leads_of) (sc := defScope s_leads_of) (by decide +kernel)) (fun _ _ _ _ _ => (pg_name (i := 9) sc_leads_of.nd rfl (.inl rfl))) (fun _ _ _ _ _ => pts_nil) (fun _ _ _ _ _ => (pe_op op_mod (pe_op op_mul (pv 6) (pv 9)) (pv 0))))
        (pss_cons (ps_for PassesOwn.never rfl (pi_list (pe_callTy (call_list_dK rfl) (by rfl) T.b_list PyProof.Rows.boot_list (pa_cons (pv 2) pa_nil))) (pg_name (i := 8) sc_leads_of.nd rfl (.inl rfl))
        (pss_one (ps_asg (pe_call G_lessened (hr.mono (by decide)) (by rfl) T.d_lessened.g T.d_lessened.F.kp T.d_lessened.b .nil pass0 (pa_cons (pv 0) (pa_cons (pe_dget (hu_of hr) (pv 2) (pv 8) (fun _ _ => rfl)) (pa_cons (pe_ix ix_list (pe_dget (hu_of hr) (pv 2) (pv 8) (fun _ _ => rfl)) (pv 5) (fun _ _ => rfl)) (pa_cons (pv 7) pa_nil))))) (pg_sub (pv 2) (pv 8) (set_dict (hu_of hr))))))
        (pss_one (ps_asg (pv 7) (pg_sub (pv 2) (pv 5) (set_dict (hu_of hr))))))))
        pss_nil)))))
        (pss_one (ps_ret (pe_dc (own := [("place", 8)]) rfl sc_leads_of.nd (pi_list (pe_callB (call_sortedDI rfl) (by rfl) T.b_sorted PyProof.Rows.boot_sorted (pa_cons (pv 2) pa_nil))) (blkOk_by (N := N_leads_of) (sc := defScope s_leads_of) (by decide +kernel)) (fun _ _ _ _ _ => (pg_name (i := 8) sc_leads_of.nd rfl (.inl rfl))) (fun _ _ _ _ _ => pts_nil) (fun _ _ _ _ _ => (pv 8)) (fun _ _ _ _ _ => (pe_dget (hu_of hr) (pv 2) (pv 8) (fun _ _ => rfl)))))))), ?_⟩
    refine fun d hd => ⟨.ref a, rfl, a, rfl, ⟨_, SqL.of ((Sm.new hd).lst ha)⟩, for_it walk_list (fun i σ H' => ∃ v3 v4 v5 v6 v7 v8 v9, σ = [some (.int p), some (.ref a), some (.ref d), v3, v4, v5, v6, v7, v8, v9] ∧ Sm H H' ∧ ∃ kvs L, H' d = some (.dK kvs) ∧ KvL H' kvs L ∧ PL p n (fs.take i) L)
      ⟨_, _, _, _, _, _, _, rfl, .new hd, [], [], upd_same, .nil, by simpa using PL.nil⟩ (fun i σ H' _ h => by obtain ⟨_, _, _, _, _, _, _, _, s, _⟩ := h; exact SqL.of (s.lst ha)) ?_ ?_⟩
    · rintro i x σ H1 H2 hi ⟨v3, v4, v5, v6, v7, v8, v9, rfl, s1, kvs, L, ed, kv, pl⟩ ⟨rfl, hx⟩
      obtain ⟨f, us, rfl, ef, ff⟩ := (hfs.sm s1).get hx
      obtain ⟨ul, ur⟩ := hf us (List.mem_of_getElem? ef)
      have et : fs.take (i + 1) = fs.take i ++ [us] := take_snoc ef
      have cl := Lin.clear_len (p := p) L pl.len ul
      have cr := Lin.clear_rg p0 L ur
      refine ⟨.int p, rfl, .ref f, rfl, .ref d, rfl, p, n, f, d, k0, us, kvs, L, rfl, p0, p13, by omega, ff, ul, ur, ed, kv, pl.nd, fun x hx => ⟨pl.len x hx, pl.plc x hx⟩, fun t k1 H3 s3 ft => ?_⟩
      have s13 := s1.trans s3
      have ed3 : H3 d = some (.dK kvs) := s3.kp _ _ (by intro ps z; cases z) ed
      refine ⟨.ref t, rfl, t, k1, _, rfl, ft, by omega, fun j u H4 eu u0 ah s4 => ?_, fun H4 z s4 => ?_⟩
      · have ur2 := cr u (List.mem_of_getElem? eu)
        have hj : j < n := by
          have := (List.getElem?_eq_some_iff.mp eu).1
          omega
        obtain ⟨c0, c1, ci⟩ := pw_inv (n := u) hp (by omega) ur2.2
        have ft4 : Fk k1 H4 t (clearL p us L) := At.sm ft s4
        have ed4 : H4 d = some (.dK kvs) := s4.kp _ _ (by intro ps z; cases z) ed3
        have kv4 : KvL H4 kvs L := (kv.sm s3).sm s4
        have s14 := s13.trans s4
        refine ⟨.int (j : Nat), rfl, rfl, _, rfl, ite2 (fun _ => ?_) (fun e => absurd (by simp) e)⟩
        -- the new lead
        refine ⟨.int p, rfl, .ref t, rfl, .int (j : Nat), rfl, t, k1, _, (j : Nat), .int u, rfl, rfl, At.sq ft4, atI_nat (by rw [List.getElem?_map, eu]; rfl), p, u, rfl, p2, p13, ur2.1, ur2.2, ?_⟩
        generalize hc : pw p u (p - 2).toNat = c at c0 c1 ci ⊢
        refine ⟨.ref t, rfl, t, k1, _, rfl, At.sq ft4, fun ld hld => lc_it Zm.walkq (fun k H' => Sm H4 H' ∧ Fl H' ld ((scaled p c (clearL p us L)).take k)) ⟨.new hld, by simpa [Fl] using upd_same⟩ (fun k H' _ h => (At.sm ft4 h.1).sq) ?_ ?_⟩
        · rintro k y H5 H6 hk ⟨s5, f5⟩ ⟨rfl, hy⟩
          rw [List.getElem?_map] at hy
          obtain ⟨w, ew, rfl⟩ := Option.map_eq_some_iff.mp hy
          have e2 : (scaled p c (clearL p us L))[k]? = some (c * w % p) := by
            unfold scaled
            rw [List.getElem?_map, ew]
            rfl
          refine ⟨rfl, .int c, rfl, .int w, rfl, c, w, rfl, rfl, cmul ⟨by omega, by omega⟩, .int p, rfl, _, p, rfl, rfl, p0, _, f5, ?_, s5.put hld, ?_⟩
          · rw [List.length_map, List.length_take]
            rw [List.length_map] at hk
            exact small (by omega)
          · unfold Fl
            rw [upd_same, take_snoc e2, List.map_append]
            rfl
        · rintro H5 ⟨s5, f5⟩
          rw [List.length_map, List.take_of_length_le (by unfold scaled; rw [List.length_map]; exact Nat.le_refl _)] at f5
          have ed5 : H5 d = some (.dK kvs) := s5.kp _ _ (by intro ps z; cases z) ed4
          have kv5 := kv4.sm s5
          have s15 := s14.trans s5
          have pls := pl.step (by omega) ul ur eu u0 ah ci
          have sl : (scaled p c (clearL p us L)).length = n := by
            unfold scaled
            rw [List.length_map]
            exact cl
          have lle := pl_le pl
          -- the others are lessened
          refine ⟨.ref d, rfl, d, kvs, rfl, ed5, fun KL hKL => ?_⟩
          have sK : Sm H5 (upd H5 KL (.lst (kvs.map fun kv => kV kv.1))) := .new hKL
          refine ⟨KL, rfl, ⟨_, SqL.of upd_same⟩, for_it walk_list (fun m σ H' => ∃ v8, σ = [some (.int p), some (.ref a), some (.ref d), some (.ref f), some (.ref t), some (.int (j : Nat)), some (.int c), some (.ref ld), v8, v9] ∧ Sm H H' ∧ Fl H' ld (scaled p c (clearL p us L)) ∧ H' KL = some (.lst (kvs.map fun kv => kV kv.1)) ∧ ∃ kvs', H' d = some (.dK kvs') ∧ KvL H' kvs' (uptoL p j (scaled p c (clearL p us L)) L m))
            ⟨_, rfl, s15.trans sK, sK.lst f5, upd_same, kvs, sK.kp _ _ (by intro ps z; cases z) ed5, by rw [upto_zero]; exact kv5.sm sK⟩ (fun m σ H' _ h => by obtain ⟨_, _, _, _, e, _⟩ := h; exact SqL.of e) ?_ ?_⟩
          · rintro m y σ H6 H7 hm ⟨v8, rfl, s6, f6, eK, kvs', ed6, kv6⟩ ⟨rfl, hy⟩
            rw [List.length_map] at hm
            have hm2 : m < L.length := by rw [← kv.len]; exact hm
            obtain ⟨b0, eb0, _⟩ := kv.get (i := m) (q := (L[m]).1) (us := (L[m]).2) (List.getElem?_eq_getElem hm2)
            rw [List.getElem?_map, eb0] at hy
            cases hy
            have nd6 : ((uptoL p j (scaled p c (clearL p us L)) L m).map (·.1)).Nodup := by
              rw [upto_places]
              exact pl.nd
            have eg := upto_get (p := p) (q := j) (l := scaled p c (clearL p us L)) hm2
            obtain ⟨b, eb, fb⟩ := kv6.val nd6 (q := (L[m]).1) (us := (L[m]).2) (List.mem_of_getElem? eg)
            have mm := List.getElem_mem hm2
            have bl := pl.len _ mm
            have bj : j < (L[m]).2.length := by omega
            have ew : (L[m]).2[j]? = some ((L[m]).2[j]) := List.getElem?_eq_getElem bj
            have rw_ := pl.rg _ mm _ (List.getElem_mem bj)
            refine ⟨.int p, rfl, .ref d, rfl, .int ((L[m]).1 : Nat), rfl, d, .ref b, rfl, .inl ⟨kvs', _, .inl ed6, rfl, eb.symm⟩, .ref d, rfl, .int ((L[m]).1 : Nat), rfl, d, .ref b, rfl, .inl ⟨kvs', _, .inl ed6, rfl, eb.symm⟩, .int (j : Nat), rfl, b, _, (j : Nat), .int ((L[m]).2[j]), rfl, rfl, SqL.of fb, atI_nat (by rw [List.getElem?_map, ew]; rfl), .ref ld, rfl, ?_⟩
            refine ⟨p, _, b, ld, .l, _, _, rfl, p0, rw_.1, by omega, fb, f6, by omega, by omega, fun t2 k8 H8 s8 hk8 f8 => ?_⟩
            have e8 : k8 = .l := hk8 rfl
            subst e8
            have ed8 : H8 d = some (.dK kvs') := s8.kp _ _ (by intro ps z; cases z) ed6
            have kv8 := kv6.sm s8
            have l8 := kv8.len
            rw [upto_len] at l8
            refine ⟨.ref d, rfl, .int ((L[m]).1 : Nat), rfl, d, _, rfl, DPut.k (k := Sum.inl ((L[m]).1 : Nat)) ed8 (small (by omega)), ?_⟩
            refine ⟨_, rfl, (s6.trans s8).put hd, fl_upd (s8.lst f6) ed8, ?_, _, upd_same, ?_⟩
            · rw [upd_ne (ne_of (s8.lst eK) ed8 (by intro z; cases z))]
              exact s8.lst eK
            · rw [← upto_set hm2]
              have e3 : (L[m]).2.getD j 0 = (L[m]).2[j] := by
                rw [List.getD_eq_getElem?_getD, ew]
                rfl
              rw [e3]
              exact (kv8.putOld nd6 eg f8).upd ed8
          · rintro σ H6 ⟨v8, rfl, s6, f6, eK, kvs', ed6, kv6⟩
            rw [List.length_map, kv.len, upto_all] at kv6
            have nq : j ∉ (moreL p j (scaled p c (clearL p us L)) L).map (·.1) := by
              have z := pls.nd
              rw [List.map_append] at z
              intro m
              exact (List.nodup_append.mp z).2.2 j m j (by simp) rfl
            have l6 := kv6.len
            have l7 : (moreL p j (scaled p c (clearL p us L)) L).length = L.length := by simp [moreL]
            refine ⟨.ref ld, rfl, .ref d, rfl, .int (j : Nat), rfl, d, _, rfl, DPut.k (k := Sum.inl (j : Nat)) ed6 (small (by omega)), ?_⟩
            refine ⟨_, _, _, _, _, _, _, rfl, s6.put hd, _, _, upd_same, (kv6.putNew nq f6).upd ed6, ?_⟩
            rw [et]
            exact pls
      · refine ⟨.non, rfl, rfl, _, rfl, ite2 (fun e => absurd e (by simp)) (fun _ => ?_)⟩
        refine ⟨_, _, _, _, _, _, _, rfl, s13.trans s4, kvs, L, s4.kp _ _ (by intro ps z; cases z) ed3, (kv.sm s3).sm s4, ?_⟩
        rw [et]
        exact pl.skip p0 ul ur z
    · rintro σ H1 ⟨v3, v4, v5, v6, v7, v8, v9, rfl, s1, kvs, L, ed, kv, pl⟩
      have ef : fs.take xs.length = fs := List.take_of_length_le (by rw [hfs.len]; exact Nat.le_refl _)
      rw [ef] at pl
      have lle := pl_le pl
      refine ⟨.ref d, rfl, d, kvs, _, rfl, .inl ed, kv.keys, by rw [List.length_map]; omega, fun ys KL pm srt hKL => ?_⟩
      obtain ⟨M, pM, rfl⟩ := perm_map pm rfl
      have plM := pl.perm pM.symm
      have upM := up_of srt plM.nd
      have sK : Sm H1 (upd H1 KL (.lst ((M.map fun x => ((x.1 : Nat) : Int)).map V.int))) := .new hKL
      have edK := sK.kp _ _ (by intro ps z; cases z) ed
      have kvK := kv.sm sK
      have eK : upd H1 KL (.lst ((M.map fun x => ((x.1 : Nat) : Int)).map V.int)) KL = some (.lst ((M.map fun x => ((x.1 : Nat) : Int)).map V.int)) := upd_same
      generalize upd H1 KL (.lst ((M.map fun x => ((x.1 : Nat) : Int)).map V.int)) = H2 at sK edK kvK eK ⊢
      have s2 := s1.trans sK
      refine ⟨KL, rfl, ⟨_, SqL.of eK⟩, fun D hD => Zm.dc_it walk_list (fun i H' => Sm H2 H' ∧ ∃ kvs', H' D = some (.dK kvs') ∧ KvL H' kvs' (M.take i)) ⟨.new hD, [], upd_same, by simpa using KvL.nil⟩ (fun i H' _ h => SqL.of (h.1.lst eK)) ?_ ?_⟩
      · rintro i x H3 H4 hi ⟨s3, kvs', eD, kvD⟩ ⟨rfl, hx⟩
        rw [List.length_map, List.length_map] at hi
        rw [List.getElem?_map, List.getElem?_map, List.getElem?_eq_getElem hi] at hx
        cases hx
        have m1 := List.getElem_mem hi
        obtain ⟨b, eb, fb⟩ := (kvK.sm s3).val pl.nd (q := (M[i]).1) (us := (M[i]).2) (pM.mem_iff.mp m1)
        have l3 := kvD.len
        rw [List.length_take] at l3
        have llm := pl_le plM
        refine ⟨rfl, .int ((M[i]).1 : Nat), rfl, .ref d, rfl, .int ((M[i]).1 : Nat), rfl, d, .ref b, rfl, .inl ⟨kvs, _, .inl (s3.kp _ _ (by intro ps z; cases z) edK), rfl, eb.symm⟩, kvs', Sum.inl ((M[i]).1 : Nat), rfl, eD, small (by omega), s3.put hD, _, upd_same, ?_⟩
        have e2 : M.take (i + 1) = M.take i ++ [M[i]] := by rw [List.take_append_getElem]
        rw [e2]
        refine (kvD.putNew ?_ fb).upd eD
        intro mm
        obtain ⟨y, hy, ey⟩ := List.mem_map.mp mm
        have z := upM
        unfold Up at z
        rw [← List.take_append_drop i M, List.map_append, List.pairwise_append] at z
        have z2 := z.2.2 y.1 (List.mem_map.mpr ⟨y, hy, rfl⟩) (M[i]).1 (List.mem_map.mpr ⟨M[i], List.mem_of_getElem? (i := 0) (by rw [List.getElem?_drop]; simp [hi]), rfl⟩)
        omega
      · rintro H3 ⟨s3, kvs', eD, kvD⟩
        rw [List.length_map, List.length_map, List.take_length] at kvD
        exact q D kvs' M H3 (s2.trans s3) eD kvD plM upM
/-! ### leads of rows -/
structure Rws (p : Int) (n : Nat) (H : Hp) (xs : List V) (rs : List Row) : Prop where
  len : xs.length = rs.length
  get : ∀ {i : Nat} {x : V}, xs[i]? = some x → ∃ a r, x = .ref a ∧ rs[i]? = some r ∧ Rw H a r
  fit : ∀ r ∈ rs, In p r ∧ r.length = n
theorem Rws.sm {p : Int} {n : Nat} {H H' : Hp} {xs : List V} {rs : List Row} (h : Rws p n H xs rs) (s : Sm H H') : Rws p n H' xs rs := ⟨h.len, fun e => let ⟨a, r, h1, h2, h3⟩ := h.get e; ⟨a, r, h1, h2, h3.sm s⟩, h.fit⟩
theorem flat_rg {p : Int} {r : Row} (h : In p r) : Rg p (flatR r) := by
  intro u hu
  obtain ⟨v, hv, hm⟩ := List.mem_flatMap.mp hu
  have := h v hv
  have m : u = v.1 ∨ u = v.2 := by simpa using hm
  rcases m with e | e
  · rw [e]; exact this.1
  · rw [e]; exact this.2
def spRowLeads : Sp := fun vs H Q _ => ∃ (p : Int) (n : Nat) (a : Addr) (k : Zm.Kd) (xs : List V) (rs : List Row), vs = [.int p, .ref a] ∧ p ∈ ([2, 3, 5, 7, 11, 13] : List Int) ∧ n ≤ 20 ∧ At k H a xs ∧ Rws p n H xs rs ∧ xs.length ≤ 200 ∧
  ∀ (d : Addr) (kvs : List (Key × V)) (L : List (Nat × List Int)) (H' : Hp), Sm H H' → H' d = some (.dK kvs) → KvL H' kvs L → PL p (2 * n) (rs.map flatR) L → Up L → Q (.ref d) H'
/-! ### the law's rows -/
theorem same_put {H H1 : Hp} {L : Addr} {o : HO} (s : Same H H1) (h : H L = none) : Same H (upd H1 L o) := fun b u e => by
  rw [upd_ne (ne_of_none e h)]
  exact s _ _ e
theorem Prs.same {H H1 : Hp} {xs : List V} {r : Row} (h : Prs H xs r) (s : Same H H1) : Prs H1 xs r := h.sm (.of_same s)
theorem in_addR {p : Int} (h : 0 < p) : ∀ r s : Row, In p (addR p r s)
  | [], _ => fun u hu => by simp [addR] at hu
  | _ :: _, [] => fun u hu => by simp [addR] at hu
  | v :: r, w :: s => fun u hu => by
    have e : addR p (v :: r) (w :: s) = ((v.1 + w.1) % p, (v.2 + w.2) % p) :: addR p r s := rfl
    rw [e] at hu
    rcases List.mem_cons.mp hu with rfl | hu
    · exact ⟨⟨Int.emod_nonneg _ (by omega), Int.emod_lt_of_pos _ h⟩, Int.emod_nonneg _ (by omega), Int.emod_lt_of_pos _ h⟩
    · exact in_addR h r s u hu
theorem in_timR {p n : Int} (h : 0 < p) (r : Row) : In p (timR p n r) := fun u hu => by
  obtain ⟨v, _, rfl⟩ := List.mem_map.mp hu
  exact ⟨⟨Int.emod_nonneg _ (by omega), Int.emod_lt_of_pos _ h⟩, Int.emod_nonneg _ (by omega), Int.emod_lt_of_pos _ h⟩
theorem in_noR {p : Int} (h : 0 < p) (m : Nat) : In p (noR m) := fun u hu => by
  rw [(List.mem_replicate.mp hu).2]
  exact ⟨⟨by decide, h⟩, by decide, h⟩
theorem Rws.fr {p : Int} {n : Nat} {H H' : Hp} {xs : List V} {rs : List Row} {d g c : Addr} {k : Int} (h : Rws p n H xs rs) (D : Dk d g c k H) (f : Fr d g H H') : Rws p n H' xs rs := ⟨h.len, fun e => let ⟨a, r, h1, h2, h3⟩ := h.get e; ⟨a, r, h1, h2, h3.fr D f⟩, h.fit⟩
theorem Rw.put {H : Hp} {t L : Addr} {r : Row} {ys : List V} {o : HO} (h : Rw H t r) (e : H L = some (.lst ys)) : Rw (upd H L o) t r := by
  obtain ⟨xs, h1, h2⟩ := h
  exact ⟨xs, by rw [upd_ne (ne_of h1 e (by intro z; cases z))]; exact h1, h2.put e⟩
theorem Rws.put {p : Int} {n : Nat} {H : Hp} {xs ys : List V} {rs : List Row} {L : Addr} {o : HO} (h : Rws p n H xs rs) (e : H L = some (.lst ys)) : Rws p n (upd H L o) xs rs := ⟨h.len, fun e2 => let ⟨a, r, h1, h2, h3⟩ := h.get e2; ⟨a, r, h1, h2, h3.put e⟩, h.fit⟩
theorem Rws.rk {p : Int} {n : Nat} {H : Hp} {xs : List V} {rs : List Row} (h : Rws p n H xs rs) {i : Nat} {x : V} (e : xs[i]? = some x) : ∃ a r, x = .ref a ∧ rs[i]? = some r ∧ Rk p n H a r := by
  obtain ⟨a, r, h1, h2, h3⟩ := h.get e
  obtain ⟨h4, h5⟩ := h.fit r (List.mem_of_getElem? h2)
  exact ⟨a, r, h1, h2, h3, h4, h5⟩
theorem Rws.nil {p : Int} {n : Nat} {H : Hp} : Rws p n H [] [] := ⟨rfl, fun e => by simp at e, fun r hr => by simp at hr⟩
open Lin (sumP)
theorem sumP_snoc {p : Int} {m : Nat} {ns : List Int} {rs : List Row} {i : Nat} {n : Int} {r : Row} (h1 : ns[i]? = some n) (h2 : rs[i]? = some r) : sumP p (noR m) ((ns.zip rs).take (i + 1)) = addR p (sumP p (noR m) ((ns.zip rs).take i)) (timR p n r) := by
  have e : (ns.zip rs)[i]? = some (n, r) := by
    unfold List.zip
    rw [List.getElem?_zipWith, h1, h2]
  rw [take_snoc e, Lin.sum_snoc]
  rfl
theorem read_rep {H : Hp} {σ : L2.St} {i m : Nat} {Q : VK} (hs : σ[i]? = some (some (.int m))) (hm : m ≤ 20) (q : ∀ t H', Same H H' → Rw H' t (noR m) → Q (.ref t) H') :
    tOp (Gx.rRepA K) (tTup (tCons (tTup (tCons (tC (.int 0)) (tCons (tC (.int 0)) tNil))) tNil)) (tVar i) σ H Q := by
  refine ⟨(by show 2 ≤ sizeLine; decide), fun t ht => ⟨(by show 1 ≤ sizeLine; decide), fun t2 ht2 => ?_⟩⟩
  have e1 : upd (upd H t (.tup [.int 0, .int 0])) t2 (.tup [.ref t]) t = some (.tup [.int 0, .int 0]) := by
    rw [upd_ne (ne_of_none upd_same ht2)]
    exact upd_same
  have s2 : Same H (upd (upd H t (.tup [.int 0, .int 0])) t2 (.tup [.ref t])) := (same_upd ht).trans (same_upd ht2)
  refine ⟨.int m, hs, t2, m, _, rfl, rfl, SqT.of upd_same, by simp, by omega, by omega, (by show 1 ≤ 1000; decide), fun e => ?_, fun _ t3 ht3 => ?_⟩
  · have e' : m = 1 := by omega
    subst e'
    exact q t2 _ s2 ⟨_, upd_same, prs_rep (k := 1) ⟨t, rfl, e1⟩⟩
  · refine q t3 _ (s2.trans (same_upd ht3)) ⟨_, upd_same, ?_⟩
    rw [rep_one, Int.toNat_natCast]
    exact (prs_rep ⟨t, rfl, e1⟩ m).sm (.new ht3)
theorem At.same {k : Zm.Kd} {H H' : Hp} {a : Addr} {xs : List V} (h : At k H a xs) (s : Same H H') : At k H' a xs := h.sm (.of_same s)
/-! ### stirred -/
theorem inv_of {p n : Int} (hp : p ∈ prs) (h0 : 0 < n) (h1 : n < p) : ∃ c, Lin.Cg p (c * n) 1 := by
  obtain ⟨_, _, e⟩ := pw_inv hp h0 h1
  refine ⟨pw p n (p - 2).toNat, ?_⟩
  have a := Lin.Cg.mod (p := p) (pw p n (p - 2).toNat * n)
  rw [e] at a
  exact a.symm
def Span (p : Int) (rs ss : List Row) : Prop := ∀ u, Lin.Lot p (Lin.spn (rs.map flatR)) u ↔ Lin.Lot p (Lin.spn (ss.map flatR)) u
theorem Span.refl {p : Int} {rs : List Row} : Span p rs rs := fun _ => Iff.rfl
theorem Span.trans {p : Int} {rs ss ts : List Row} (a : Span p rs ss) (b : Span p ss ts) : Span p rs ts := fun u => (a u).trans (b u)
theorem Span.symm {p : Int} {rs ss : List Row} (a : Span p rs ss) : Span p ss rs := fun u => (a u).symm
theorem map_set {α β : Type} (f : α → β) (l : List α) (i : Nat) (x : α) : (l.set i x).map f = (l.map f).set i (f x) := List.map_set
theorem span_add {p c : Int} {rs : List Row} {i j : Nat} {r s : Row} (ne : i ≠ j) (hi : rs[i]? = some r) (hj : rs[j]? = some s) (hl : r.length = s.length) : Span p (rs.set i (addR p r (timR p c s))) rs := by
  intro u
  rw [map_set]
  refine Lin.lot_set_add (c := c) ne (by rw [List.getElem?_map, hi]; rfl) (by rw [List.getElem?_map, hj]; rfl) (fun k => ?_) u
  exact (Lin.vec_addP (p := p) (r := r) (s := timR p c s) (by unfold timR; rw [List.length_map]; exact hl) k).trans (Lin.Cg.rfl'.add (Lin.vec_timP k))
theorem span_mul {p c : Int} {rs : List Row} {i : Nat} {r : Row} (hi : rs[i]? = some r) (hc : ∃ d, Lin.Cg p (d * c) 1) : Span p (rs.set i (timR p c r)) rs := by
  intro u
  obtain ⟨d, hd⟩ := hc
  rw [map_set]
  exact Lin.lot_set_mul (by rw [List.getElem?_map, hi]; rfl) (fun k => Lin.vec_timP k) hd u
theorem Rws.set {p : Int} {n : Nat} {H : Hp} {xs : List V} {rs : List Row} (h : Rws p n H xs rs) {i : Nat} {a : Addr} {r : Row} (k : Rk p n H a r) : Rws p n H (xs.set i (.ref a)) (rs.set i r) := by
  refine ⟨by rw [List.length_set, List.length_set, h.len], fun {j x} e => ?_, fun s hs => ?_⟩
  · by_cases hji : j = i
    · subst hji
      have hj : j < xs.length := by
        have := (List.getElem?_eq_some_iff.mp e).1
        rw [List.length_set] at this
        exact this
      rw [List.getElem?_set_self hj] at e
      cases e
      exact ⟨a, r, rfl, List.getElem?_set_self (by rw [← h.len]; exact hj), k.rw⟩
    · rw [List.getElem?_set_ne (fun z => hji z.symm)] at e
      rw [List.getElem?_set_ne (fun z => hji z.symm)]
      exact h.get e
  · rcases List.mem_or_eq_of_mem_set hs with m | m
    · exact h.fit s m
    · rw [m]
      exact ⟨k.inp, k.len⟩
theorem ixN_nat {n j : Nat} (h : j < n) : ixN n (j : Int) = some j := by
  unfold ixN
  rw [if_pos (by omega), if_pos (by omega), Int.toNat_natCast]
-- CUT
/-! ### a plain set that is drawn -/
theorem flat_take {r : Row} {i : Nat} {u : Int × Int} (e : r[i]? = some u) : flatR (r.take (i + 1)) = flatR (r.take i) ++ [u.1, u.2] := by
  rw [take_snoc e, flat_snoc]
theorem ev2_same {α : Type} : ∀ xs : List α, Lz.ev2 xs = Lin.ev2 xs
  | [] => rfl
  | [_] => rfl
  | a :: b :: r => by
    show a :: Lz.ev2 r = a :: Lin.ev2 r
    rw [ev2_same r]
theorem zip_get? {α β : Type} {xs : List α} {ys : List β} {i : Nat} {x : α} {y : β} (h1 : xs[i]? = some x) (h2 : ys[i]? = some y) : (xs.zip ys)[i]? = some (x, y) := by
  unfold List.zip
  rw [List.getElem?_zipWith, h1, h2]
theorem pairwise_lt_of {l : List Nat} (s : (l.map fun x => ((x : Nat) : Int)).Pairwise (· ≤ ·)) (nd : l.Nodup) : l.Pairwise (· < ·) := by
  rw [List.pairwise_map] at s
  exact (s.and nd).imp fun {a b} h => by omega
open Lin (Pln rowL)
/-- what a row of a plain set is, as far as its zeros are put -/
structure Prow (p : Int) (n q : Nat) (os : List Nat) (us : List Int) : Prop where
  len : us.length = n
  rg : Rg p us
  ah : ∀ j, j < q → vec us j = 0
  one : vec us q = 1
  oth : ∀ o ∈ os, q < o → vec us o = 0
theorem Prow.start {p : Int} {n q : Nat} {ns : List Int} (p1 : 1 < p) (hq : q < n) (hl : ns.length = n - q - 1) (hn : ∀ x ∈ ns, 0 ≤ x ∧ x < p) : Prow p n q [] (List.replicate q 0 ++ [1] ++ ns) := by
  have lr : (List.replicate q (0 : Int)).length = q := List.length_replicate
  refine ⟨?_, ?_, ?_, ?_, fun o ho => by simp at ho⟩
  · rw [List.length_append, List.length_append, lr, List.length_singleton]
    omega
  · intro u hu
    rcases List.mem_append.mp hu with hu | hu
    · rcases List.mem_append.mp hu with hu | hu
      · rw [(List.mem_replicate.mp hu).2]
        omega
      · rw [List.mem_singleton.mp hu]
        omega
    · exact hn u hu
  · intro j hj
    apply Lin.vec_some
    rw [List.append_assoc, List.getElem?_append_left (by omega), List.getElem?_replicate, if_pos hj]
  · apply Lin.vec_some
    rw [List.append_assoc, List.getElem?_append_right (by omega), lr, Nat.sub_self]
    rfl
theorem vec_set {us : List Int} {o j : Nat} {x : Int} (h : o < us.length) : vec (us.set o x) j = if j = o then x else vec us j := by
  by_cases e : j = o
  · rw [if_pos e, e]
    exact Lin.vec_some (List.getElem?_set_self h)
  · rw [if_neg e]
    show (us.set o x).getD j 0 = us.getD j 0
    rw [List.getD_eq_getElem?_getD, List.getD_eq_getElem?_getD, List.getElem?_set_ne (fun z => e z.symm)]
theorem Prow.zero {p : Int} {n q o : Nat} {os : List Nat} {us : List Int} (p0 : 0 < p) (h : Prow p n q os us) (ho : q < o) (hn : o < n) : Prow p n q (os ++ [o]) (us.set o 0) := by
  have ol : o < us.length := by rw [h.len]; exact hn
  refine ⟨by rw [List.length_set]; exact h.len, fun u hu => ?_, fun j hj => ?_, ?_, fun w hw hqw => ?_⟩
  · rcases List.mem_or_eq_of_mem_set hu with m | m
    · exact h.rg u m
    · rw [m]
      omega
  · rw [vec_set ol, if_neg (by omega)]
    exact h.ah j hj
  · rw [vec_set ol, if_neg (by omega)]
    exact h.one
  · rw [vec_set ol]
    split
    · rfl
    · rename_i ne
      rcases List.mem_append.mp hw with m | m
      · exact h.oth w m hqw
      · exact absurd (List.mem_singleton.mp m) ne
theorem Prow.skip {p : Int} {n q o : Nat} {os : List Nat} {us : List Int} (h : Prow p n q os us) (ho : ¬ q < o) : Prow p n q (os ++ [o]) us := by
  refine ⟨h.len, h.rg, h.ah, h.one, fun w hw hqw => ?_⟩
  rcases List.mem_append.mp hw with m | m
  · exact h.oth w m hqw
  · rw [List.mem_singleton.mp m] at hqw
    exact absurd hqw ho
theorem Rws.snoc {p : Int} {n : Nat} {H : Hp} {xs : List V} {rs : List Row} {a : Addr} {r : Row} (h : Rws p n H xs rs) (k : Rk p n H a r) : Rws p n H (xs ++ [.ref a]) (rs ++ [r]) := by
  refine ⟨by rw [List.length_append, List.length_append, h.len]; rfl, fun {i x} e => ?_, fun s hs => ?_⟩
  · by_cases hi : i < xs.length
    · rw [List.getElem?_append_left hi] at e
      rw [List.getElem?_append_left (by rw [← h.len]; exact hi)]
      exact h.get e
    · rw [List.getElem?_append_right (by omega)] at e
      rw [List.getElem?_append_right (by rw [← h.len]; omega), ← h.len]
      cases hk : i - xs.length with
      | zero =>
        rw [hk] at e
        cases e
        exact ⟨a, r, rfl, rfl, k.rw⟩
      | succ m =>
        rw [hk] at e
        simp at e
  · rcases List.mem_append.mp hs with m | m
    · exact h.fit s m
    · rw [List.mem_singleton.mp m]
      exact ⟨k.inp, k.len⟩
def natV (l : List Nat) : List V := l.map fun j => V.int (j : Nat)
theorem natV_len {l : List Nat} : (natV l).length = l.length := List.length_map ..
theorem natV_int {l : List Nat} : natV l = (l.map fun x => ((x : Nat) : Int)).map V.int := by
  unfold natV
  rw [List.map_map]
  rfl
theorem natV_get {l : List Nat} {i : Nat} {x : Nat} (h : l[i]? = some x) : (natV l)[i]? = some (V.int (x : Nat)) := by
  unfold natV
  rw [List.getElem?_map, h]
  rfl
theorem natV_erase {l : List Nat} {i : Nat} : (natV l).eraseIdx i = natV (l.eraseIdx i) := by
  unfold natV
  rw [List.eraseIdx_eq_take_drop_succ, List.eraseIdx_eq_take_drop_succ, List.map_append, List.map_take, List.map_drop]
theorem rgV_nat {n : Nat} : rgV 0 (n : Int) = natV (List.range n) := by
  unfold rgV natV
  have e : ((n : Int) - 0).toNat = n := by omega
  rw [e]
  apply List.map_congr_left
  intro i _
  rw [Int.zero_add]
theorem ixN_seqN {n j : Nat} (h : j < n) : seqIndex? (j : Int) n = some j := (ixN_seq (ixN_nat h)).1
/-! ### rows that span a lot -/
theorem insert_get {xs : List V} {rs : List Row} {p : Int} {n : Nat} {H : Hp} (h : Rws p n H xs rs) {i : Nat} (hi : i ≤ xs.length) {a : Addr} {r : Row} (k : Rk p n H a r) : Rws p n H (xs.take i ++ [.ref a] ++ xs.drop i) (rs.take i ++ [r] ++ rs.drop i) := by
  have ht : Rws p n H (xs.take i) (rs.take i) := by
    refine ⟨by rw [List.length_take, List.length_take, h.len], fun {j x} e => ?_, fun s hs => h.fit s (List.mem_of_mem_take hs)⟩
    have hj : j < i := by
      have := (List.getElem?_eq_some_iff.mp e).1
      rw [List.length_take] at this
      omega
    rw [List.getElem?_take, if_pos hj] at e
    rw [List.getElem?_take, if_pos hj]
    exact h.get e
  have hd : Rws p n H (xs.drop i) (rs.drop i) := by
    refine ⟨by rw [List.length_drop, List.length_drop, h.len], fun {j x} e => ?_, fun s hs => h.fit s (List.mem_of_mem_drop hs)⟩
    rw [List.getElem?_drop] at e ⊢
    exact h.get e
  have h1 := ht.snoc k
  refine ⟨by have a := h1.len; have b := hd.len; simp only [List.length_append] at *; omega, fun {j x} e => ?_, fun s hs => ?_⟩
  · by_cases hj : j < (xs.take i ++ [V.ref a]).length
    · rw [List.getElem?_append_left hj] at e
      rw [List.getElem?_append_left (by rw [← h1.len]; exact hj)]
      exact h1.get e
    · rw [List.getElem?_append_right (by omega)] at e
      rw [List.getElem?_append_right (by rw [← h1.len]; omega), ← h1.len]
      exact hd.get e
  · rcases List.mem_append.mp hs with m | m
    · exact h1.fit s m
    · exact hd.fit s m
theorem span_insert {p : Int} {rs ss : List Row} {i : Nat} {r : Row} (h : Span p ss rs) (hr : Lin.Lot p (Lin.spn (rs.map flatR)) (vec (flatR r))) : Span p (ss.take i ++ [r] ++ ss.drop i) rs := by
  refine Span.trans (fun u => ?_) h
  refine Lin.lot_more_rows (f := flatR r) ((h _).mpr hr) (fun g => ?_) u
  constructor
  · intro hg
    obtain ⟨s, hs, rfl⟩ := List.mem_map.mp hg
    rcases List.mem_append.mp hs with m | m
    · rcases List.mem_append.mp m with m | m
      · exact .inl (List.mem_map.mpr ⟨s, List.mem_of_mem_take m, rfl⟩)
      · rw [List.mem_singleton.mp m]
        exact .inr rfl
    · exact .inl (List.mem_map.mpr ⟨s, List.mem_of_mem_drop m, rfl⟩)
  · rintro (hg | rfl)
    · obtain ⟨s, hs, rfl⟩ := List.mem_map.mp hg
      refine List.mem_map.mpr ⟨s, ?_, rfl⟩
      rw [← List.take_append_drop i ss] at hs
      rcases List.mem_append.mp hs with m | m
      · exact List.mem_append.mpr (.inl (List.mem_append.mpr (.inl m)))
      · exact List.mem_append.mpr (.inr m)
    · exact List.mem_map.mpr ⟨r, by simp, rfl⟩
theorem sum_in {p : Int} {m : Nat} {ns : List Int} {rs : List Row} (hl : ∀ r ∈ rs, r.length = m) : Lin.Lot p (Lin.spn (rs.map flatR)) (vec (flatR (sumP p (noR m) (ns.zip rs)))) :=
  Lin.sum_lot (l := ns.zip rs) (fun x hx => hl _ (List.of_mem_zip hx).2) fun x hx => (List.of_mem_zip hx).2
-- CUT
/-! ### a hold and a table that are drawn -/
theorem mod2 {n : Int} (h0 : 0 ≤ n) (h1 : n < 2) : n = 0 ∨ n = 1 := by omega
def spHold : Sp := fun vs H Q _ => ∃ (d g c : Addr) (k : Int) (m : Nat), vs = [.ref d, .int m] ∧ Dk d g c k H ∧ k ≤ 900000 ∧ m ≤ 10 ∧
  ∀ (t : Addr) (hs : List Int) (H' : Hp), (∀ n ∈ hs, n = 0 ∨ n = 1) → hs.length = m → H' t = some (.tup (hs.map V.int)) → Dk d g c (k + m) H' → Fr d g H H' → Q (.ref t) H'
theorem ok__law_hold (T : Tx K mg A) : FnOk P w K mg base CX0 2 A.f__law_hold A.d__law_hold ["_law_deck_here", "_law_posts"] spHold := by
  have G__law_next : FnOk P w K mg base CX0 1 A.f__law_next A.d__law_next ["_law_deck_here", "_law_many"] spNext := ok__law_next T
  refine T.d__law_hold.F.ok sc__law_hold (fun vs H Q E h => ?_) (fun cdv A outer s H vs Q E hr h => ?_)
  · obtain ⟨d, g, c, k, m, rfl, _⟩ := h
    rfl
  · obtain ⟨d, g, c, k, m, rfl, D0, hk, hm, q⟩ := h
    refine ⟨_, (pss_one (ps_ret (pe_callTy call_tuple_of (by rfl) T.b_tuple PyProof.Rows.boot_tuple (pa_cons (pe_lc (own := [("_law_k", 2)]) rfl sc__law_hold.nd (pi_range1 (by rfl) T.b_range (pa_cons (pv 1) pa_nil)) (blkOk_by (N := N__law_hold) (sc := defScope s__law_hold) (by decide +kernel)) (fun _ _ _ _ _ => (pg_name (i := 2) sc__law_hold.nd rfl (.inl rfl))) (fun _ _ _ _ _ => pts_nil) (fun _ _ _ _ _ => (pe_call G__law_next hr (by rfl) T.d__law_next.g T.d__law_next.F.kp T.d__law_next.b .nil pass0 (pa_cons (pv 0) (pa_cons pe_int pa_nil))))) pa_nil)))), ?_⟩
    refine ⟨.int m, rfl, m, rfl, by omega, by omega, fun L hL => lc_range (fun i H' => Dk d g c (k + i) H' ∧ Fr d g H H' ∧ ∃ ns : List Int, (∀ n ∈ ns, n = 0 ∨ n = 1) ∧ ns.length = i ∧ H' L = some (.lst (ns.map V.int))) ⟨(D0.same (same_upd hL)).mono (by omega), .new hL, [], by simp, rfl, upd_same⟩ ?_ ?_⟩
    · rintro i H1 hi ⟨D1, f1, ns, hns, hlen, eL⟩
      rw [Int.toNat_natCast] at hi
      have nL := D0.nd hL
      refine ⟨rfl, .ref d, rfl, d, g, c, _, 2, rfl, by decide, by decide, D1, by omega, fun r H2 r0 r1 D2 f2 => ?_⟩
      have eL2 := f2 L _ nL.1 nL.2.1 eL
      refine ⟨_, eL2, by rw [List.length_map]; exact small (by omega), (D2.put nL.1 nL.2.1 nL.2.2).mono (by omega), fun b o e1 e2 e => ?_, ns ++ [r], ?_, by rw [List.length_append, hlen]; rfl, by rw [upd_same, List.map_append]; rfl⟩
      · rw [upd_ne (ne_of_none e hL)]
        exact f2 _ _ e1 e2 (f1 _ _ e1 e2 e)
      · intro n hn
        rcases List.mem_append.mp hn with hn | hn
        · exact hns n hn
        · rw [List.mem_singleton.mp hn]
          exact mod2 r0 r1
    · rintro H1 ⟨D1, f1, ns, hns, hlen, eL⟩
      rw [Int.toNat_natCast] at hlen D1
      exact ⟨L, _, rfl, .inl ⟨SqL.of eL, fun t ht => q t ns _ hns hlen upd_same (D1.same (same_upd ht)) (f1.trans (.new ht))⟩⟩
/-! ### tables -/
theorem get_snoc {α : Type} {xs : List α} {x y : α} {i : Nat} (e : (xs ++ [x])[i]? = some y) : (i < xs.length ∧ xs[i]? = some y) ∨ (i = xs.length ∧ y = x) := by
  by_cases h : i < xs.length
  · rw [List.getElem?_append_left h] at e
    exact .inl ⟨h, e⟩
  · rw [List.getElem?_append_right (by omega)] at e
    have : i - xs.length = 0 := by
      have := (List.getElem?_eq_some_iff.mp e).1
      simp at this
      exact this
    rw [this] at e
    cases e
    exact .inr ⟨by omega, rfl⟩
theorem snoc_at {α : Type} {xs : List α} {x : α} : (xs ++ [x])[xs.length]? = some x := by
  rw [List.getElem?_append_right (Nat.le_refl _), Nat.sub_self]
  rfl
structure Trs (H : Hp) (ys : List V) (rs : List (List Int)) : Prop where
  len : ys.length = rs.length
  get : ∀ {i : Nat} {y : V}, ys[i]? = some y → ∃ e r, y = .ref e ∧ rs[i]? = some r ∧ H e = some (.tup (r.map V.int))
theorem Trs.same {H H' : Hp} {ys : List V} {rs : List (List Int)} (h : Trs H ys rs) (s : Same H H') : Trs H' ys rs := ⟨h.len, fun e => let ⟨a, r, h1, h2, h3⟩ := h.get e; ⟨a, r, h1, h2, s _ _ h3⟩⟩
theorem nd_inj {as : List Addr} (h : as.Nodup) {i j : Nat} {a : Addr} (h1 : as[i]? = some a) (h2 : as[j]? = some a) : i = j := by
  obtain ⟨hi, e1⟩ := List.getElem?_eq_some_iff.mp h1
  obtain ⟨hj, e2⟩ := List.getElem?_eq_some_iff.mp h2
  have pw := List.pairwise_iff_getElem.mp h
  rcases Nat.lt_trichotomy i j with l | l | l
  · exact absurd (e1.trans e2.symm) (pw i j hi hj l)
  · exact l
  · exact absurd (e2.trans e1.symm) (pw j i hj hi l)
structure Grid (p : Int) (H0 : Hp) (d g c F : Addr) (m : Nat) (H : Hp) (as : List Addr) (rs : List (List Int)) : Prop where
  len : as.length = rs.length
  nd : as.Nodup
  get : ∀ {i : Nat} {a : Addr}, as[i]? = some a → ∃ r, rs[i]? = some r ∧ H a = some (.lst (r.map V.int))
  ok : ∀ r ∈ rs, r.length = m ∧ Rg p r
  ne : ∀ a ∈ as, a ≠ d ∧ a ≠ g ∧ a ≠ c ∧ a ≠ F ∧ H0 a = none
theorem Grid.fr {p : Int} {H0 H H' : Hp} {d g c F : Addr} {m : Nat} {as : List Addr} {rs : List (List Int)} (h : Grid p H0 d g c F m H as rs) (f : Fr d g H H') : Grid p H0 d g c F m H' as rs := ⟨h.len, h.nd, fun e => let ⟨r, h1, h2⟩ := h.get e; ⟨r, h1, f _ _ (h.ne _ (List.mem_of_getElem? e)).1 (h.ne _ (List.mem_of_getElem? e)).2.1 h2⟩, h.ok, h.ne⟩
theorem Grid.putF {p : Int} {H0 H : Hp} {d g c F : Addr} {m : Nat} {as : List Addr} {rs : List (List Int)} {o : HO} (h : Grid p H0 d g c F m H as rs) : Grid p H0 d g c F m (upd H F o) as rs := ⟨h.len, h.nd, fun e => let ⟨r, h1, h2⟩ := h.get e; ⟨r, h1, by rw [upd_ne (h.ne _ (List.mem_of_getElem? e)).2.2.2.1]; exact h2⟩, h.ok, h.ne⟩
theorem Grid.set {p : Int} {H0 H : Hp} {d g c F : Addr} {m : Nat} {as : List Addr} {rs : List (List Int)} (h : Grid p H0 d g c F m H as rs) {i j : Nat} {a : Addr} {r : List Int} {n : Int} (ea : as[i]? = some a) (er : rs[i]? = some r) (hn : 0 ≤ n ∧ n < p) : Grid p H0 d g c F m (upd H a (.lst ((r.map V.int).set j (.int n)))) as (rs.set i (r.set j n)) := by
  have hi : i < rs.length := (List.getElem?_eq_some_iff.mp er).1
  refine ⟨by rw [List.length_set, h.len], h.nd, fun {i' b} e => ?_, fun x hx => ?_, h.ne⟩
  · by_cases e2 : i' = i
    · subst e2
      rw [ea] at e
      cases e
      exact ⟨r.set j n, by rw [List.getElem?_set_self hi], by rw [upd_same, List.map_set]⟩
    · obtain ⟨r', h1, h2⟩ := h.get e
      have nb : b ≠ a := fun z => by
        rw [z] at e
        exact e2 (nd_inj h.nd e ea)
      refine ⟨r', by rw [List.getElem?_set_ne (fun z => e2 z.symm)]; exact h1, by rw [upd_ne nb]; exact h2⟩
  · rcases List.mem_or_eq_of_mem_set hx with m1 | m1
    · exact h.ok x m1
    · rw [m1]
      obtain ⟨l1, l2⟩ := h.ok r (List.mem_of_getElem? er)
      refine ⟨by rw [List.length_set]; exact l1, fun y hy => ?_⟩
      rcases List.mem_or_eq_of_mem_set hy with m2 | m2
      · exact l2 y m2
      · rw [m2]
        exact hn
def spTab : Sp := fun vs H Q _ => ∃ (d g c : Addr) (k p : Int) (m : Nat), vs = [.ref d, .int p, .int m] ∧ Dk d g c k H ∧ k ≤ 900000 ∧ 2 ≤ p ∧ p ≤ 13 ∧ m ≤ 10 ∧
  ∀ (t : Addr) (ys : List V) (rs : List (List Int)) (H' : Hp), H' t = some (.tup ys) → Trs H' ys rs → rs.length = m → (∀ r ∈ rs, r.length = m ∧ Rg p r) → Lin.Sy rs → Dk d g c (k + 220) H' → Fr d g H H' → Q (.ref t) H'
theorem col_set {rs : List (List Int)} {i j : Nat} {q : List Int} {n : Int} (er : rs[i]? = some q) (hj : j < q.length) (a b : Nat) : Lin.col (rs.set i (q.set j n)) b a = if a = i ∧ b = j then n else Lin.col rs b a := by
  have hi : i < rs.length := (List.getElem?_eq_some_iff.mp er).1
  unfold Lin.col
  rw [List.getD_eq_getElem?_getD, List.getD_eq_getElem?_getD]
  by_cases e : a = i
  · subst e
    rw [List.getElem?_set_self hi, er]
    show vec (q.set j n) b = if a = a ∧ b = j then n else vec q b
    rw [vec_set hj]
    by_cases z : b = j
    · rw [if_pos z, if_pos ⟨rfl, z⟩]
    · rw [if_neg z, if_neg (fun w => z w.2)]
  · rw [List.getElem?_set_ne (fun z => e z.symm), if_neg (fun w => e w.1)]
theorem sy_set {rs : List (List Int)} {i j : Nat} {q1 q2 : List Int} {n : Int} (h : Lin.Sy rs) (e1 : rs[i]? = some q1) (l1 : j < q1.length) (e2 : (rs.set i (q1.set j n))[j]? = some q2) (l2 : i < q2.length) : Lin.Sy ((rs.set i (q1.set j n)).set j (q2.set i n)) := fun a b => by
  rw [col_set e2 l2, col_set e1 l1, col_set e2 l2, col_set e1 l1, h a b]
  by_cases x : a = j ∧ b = i
  · rw [if_pos x]
    by_cases y : b = j ∧ a = i
    · rw [if_pos y]
    · rw [if_neg y, if_pos ⟨x.2, x.1⟩]
  · rw [if_neg x]
    by_cases y : b = j ∧ a = i
    · rw [if_pos y, if_pos ⟨y.2, y.1⟩]
    · rw [if_neg y, if_neg (fun z => y ⟨z.2, z.1⟩), if_neg (fun z => x ⟨z.2, z.1⟩)]
theorem sy_zero {i m : Nat} : Lin.Sy (List.replicate i (List.replicate m 0)) := fun a b => by
  have z : ∀ a b, Lin.col (List.replicate i (List.replicate m 0)) b a = 0 := fun a b => by
    unfold Lin.col
    rw [List.getD_eq_getElem?_getD, List.getElem?_replicate]
    split
    · show (List.replicate m (0 : Int)).getD b 0 = 0
      rw [List.getD_eq_getElem?_getD, List.getElem?_replicate]
      split <;> rfl
    · rfl
  rw [z, z]
set_option maxHeartbeats 2000000 in
theorem ok__law_table (T : Tx K mg A) : FnOk P w K mg base CX0 2 A.f__law_table A.d__law_table ["_law_deck_here", "_law_p", "_law_posts"] spTab := by
  have G__law_next : FnOk P w K mg base CX0 1 A.f__law_next A.d__law_next ["_law_deck_here", "_law_many"] spNext := ok__law_next T
  refine T.d__law_table.F.ok sc__law_table (fun vs H Q E h => ?_) (fun cdv A outer s H vs Q E hr h => ?_)
  · obtain ⟨d, g, c, k, p, m, rfl, _⟩ := h
    rfl
  · obtain ⟨d, g, c, k, p, m, rfl, D0, hk, p2, p13, hm, q⟩ := h
    refine ⟨_, (pss_cons (ps_setLc (i := 3) (own := [("_law_k", 4)]) rfl sc__law_table.nd rfl rfl (sw_true rfl rfl rfl (by decide +kernel)) (pi_range1 (by rfl) T.b_range (pa_cons (pv 2) pa_nil)) (blkOk_by (N := N__law_table) (sc := defScope s__law_table) (by decide +kernel)) (fun _ _ _ _ _ => (pg_name (i := 4) sc__law_table.nd rfl (.inl rfl))) (fun _ _ _ _ _ => pts_nil) (fun _ _ _ _ _ => (pe_op op_rep (pe_lst (pa_cons pe_int pa_nil)) (pv 2))))
        (pss_cons (ps_for PassesOwn.never rfl (pi_range1 (by rfl) T.b_range (pa_cons (pv 2) pa_nil)) (pg_name (i := 4) sc__law_table.nd rfl (.inl rfl))
        (pss_one (ps_for PassesOwn.never rfl (pi_range2 (by rfl) T.b_range (pa_cons (pv 4) (pa_cons (pv 2) pa_nil))) (pg_name (i := 5) sc__law_table.nd rfl (.inl rfl))
        (pss_cons (ps_set (i := 6) sc__law_table.nd rfl (.inl rfl) (pe_op op_mul (pe_call G__law_next hr (by rfl) T.d__law_next.g T.d__law_next.F.kp T.d__law_next.b .nil pass0 (pa_cons (pv 0) (pa_cons (pv 1) pa_nil))) (pe_callTy call_int1 (by rfl) T.b_int PyProof.Rows.boot_int (pa_cons (pe_cmpR op_gt (pe_call G__law_next hr (by rfl) T.d__law_next.g T.d__law_next.F.kp T.d__law_next.b .nil pass0 (pa_cons (pv 0) (pa_cons pe_int pa_nil))) pe_int (nomark _)) pa_nil))))
        (pss_cons (ps_asg (pv 6) (pg_sub (pe_ix ix_list (pv 3) (pv 4) (fun _ _ => rfl)) (pv 5) set_list))
        (pss_one (ps_asg (pv 6) (pg_sub (pe_ix ix_list (pv 3) (pv 5) (fun _ _ => rfl)) (pv 4) set_list))))))))
        (pss_one (ps_ret (pe_callTy call_tuple_of (by rfl) T.b_tuple PyProof.Rows.boot_tuple (pa_cons (pe_lc (own := [("_law_row", 7)]) rfl sc__law_table.nd (pi_list (pv 3)) (blkOk_by (N := N__law_table) (sc := defScope s__law_table) (by decide +kernel)) (fun _ _ _ _ _ => (pg_name (i := 7) sc__law_table.nd rfl (.inl rfl))) (fun _ _ _ _ _ => pts_nil) (fun _ _ _ _ _ => (pe_callTy (show CallR _ _ (rTupOf K) from call_tuple_of) (by rfl) T.b_tuple PyProof.Rows.boot_tuple (pa_cons (pv 7) pa_nil)))) pa_nil)))))), ?_⟩
    refine ⟨.int m, rfl, m, rfl, by omega, by omega, fun F hF => lc_range (fun i H' => Same H H' ∧ ∃ as, H' F = some (.lst (as.map V.ref)) ∧ as.length = i ∧ Grid p H d g c F m H' as (List.replicate i (List.replicate m 0))) ⟨same_upd hF, [], upd_same, rfl, ⟨rfl, List.nodup_nil, fun e => by simp at e, fun r hr => by simp at hr, fun a ha => by cases ha⟩⟩ ?_ ?_⟩
    · rintro i H1 hi ⟨s1, as, eF, al, gr⟩
      rw [Int.toNat_natCast] at hi
      have D1 := D0.same s1
      refine ⟨rfl, (by show 1 ≤ sizeLine; decide), fun a1 h1 => ⟨.int m, rfl, a1, _, _, rfl, rfl, upd_same, by omega, by omega, ?_, fun a2 h2 => ?_⟩⟩
      · exact Nat.le_of_lt (small (by show 1 * ((m : Nat) : Int).toNat ≤ 1000; omega))
      rw [rep_one, Int.toNat_natCast]
      have S2 : Same H1 (upd (upd H1 a1 (.lst [.int 0])) a2 (.lst (List.replicate m (V.int 0)))) := (same_upd h1).trans (same_upd h2)
      have n2 := (D1.same (same_upd (o := .lst [.int 0]) h1)).nd h2
      have h2' : H1 a2 = none := (same_upd h1).free h2
      have h2'' : H a2 = none := s1.free h2'
      have nF : F ≠ a2 := ne_of_none eF h2'
      have e2 : upd (upd H1 a1 (.lst [.int 0])) a2 (.lst (List.replicate m (V.int 0))) a2 = some (.lst (List.replicate m (V.int 0))) := upd_same
      have eF2 := S2 _ _ eF
      have gr2 := gr.fr (Fr.of_same S2)
      generalize upd (upd H1 a1 (.lst [.int 0])) a2 (.lst (List.replicate m (V.int 0))) = H2 at S2 e2 eF2 gr2 ⊢
      refine ⟨_, eF2, by rw [List.length_map]; exact small (by omega), same_put (s1.trans S2) hF, as ++ [a2], by rw [upd_same, List.map_append]; rfl, by rw [List.length_append, al]; rfl, ?_⟩
      refine ⟨by rw [List.length_append, al, List.length_replicate]; rfl, ?_, fun {j b} e => ?_, fun r hr' => ?_, fun b hb => ?_⟩
      · rw [List.nodup_append]
        refine ⟨gr.nd, by simp, fun x hx y hy => ?_⟩
        rw [List.mem_singleton.mp hy]
        intro z
        subst z
        obtain ⟨j, hj, ej⟩ := List.mem_iff_getElem.mp hx
        obtain ⟨r, _, h3⟩ := gr.get (List.getElem?_eq_getElem hj)
        rw [ej, h2'] at h3
        cases h3
      · rcases get_snoc e with ⟨hj, e⟩ | ⟨hj, rfl⟩
        · obtain ⟨r, h3, h4⟩ := gr2.putF (o := .lst (as.map V.ref ++ [V.ref a2])) |>.get e
          refine ⟨r, ?_, h4⟩
          rw [List.replicate_succ', List.getElem?_append_left (by rw [List.length_replicate]; omega)]
          exact h3
        · refine ⟨List.replicate m 0, ?_, by rw [upd_ne nF.symm, e2, List.map_replicate]⟩
          rw [hj, al, List.getElem?_replicate, if_pos (Nat.lt_succ_self i)]
      · rw [(List.mem_replicate.mp hr').2]
        exact ⟨List.length_replicate, fun n hn => by rw [(List.mem_replicate.mp hn).2]; omega⟩
      · rcases List.mem_append.mp hb with hb | hb
        · exact gr.ne b hb
        · rw [List.mem_singleton.mp hb]
          exact ⟨n2.1, n2.2.1, n2.2.2, nF.symm, h2''⟩
    · rintro H1 ⟨s1, as, eF, al, gr⟩
      rw [Int.toNat_natCast] at al gr
      have nF := D0.nd hF
      have D1 := D0.same s1
      refine ⟨.int m, rfl, m, rfl, by omega, by omega, for_range (fun i σ H' => ∃ v4 v5 v6 v7 rs, σ = [some (.ref d), some (.int p), some (.int m), some (.ref F), v4, v5, v6, v7] ∧ Dk d g c (k + 20 * i) H' ∧ Fr d g H H' ∧ H' F = some (.lst (as.map V.ref)) ∧ Grid p H d g c F m H' as rs ∧ Lin.Sy rs) ⟨_, _, _, _, _, rfl, D1.mono (by omega), .of_same s1, eF, gr, sy_zero⟩ ?_ ?_⟩
      · rintro i σ H2 hi ⟨v4, v5, v6, v7, rs, rfl, D2, f2, eF2, gr2, sy2⟩
        rw [Int.toNat_natCast] at hi
        have e0 : (0 + (i : Nat) : Int) = (i : Nat) := by omega
        rw [e0]
        refine ⟨.int (i : Nat), rfl, .int m, rfl, (i : Nat), m, rfl, ⟨by omega, by omega, by omega, by omega⟩, for_range (fun j σ H' => ∃ v5 v6 rs, σ = [some (.ref d), some (.int p), some (.int m), some (.ref F), some (.int (i : Nat)), v5, v6, v7] ∧ Dk d g c (k + 20 * i + 2 * j) H' ∧ Fr d g H H' ∧ H' F = some (.lst (as.map V.ref)) ∧ Grid p H d g c F m H' as rs ∧ Lin.Sy rs) ⟨_, _, _, rfl, D2.mono (by omega), f2, eF2, gr2, sy2⟩ ?_ ?_⟩
        · rintro j σ H3 hj ⟨v5, v6, rs, rfl, D3, f3, eF3, gr3, sy3⟩
          have hj' : i + j < m := by omega
          have e1 : ((i : Nat) + (j : Nat) : Int) = ((i + j : Nat) : Int) := by omega
          rw [e1]
          refine ⟨.ref d, rfl, .int p, rfl, d, g, c, _, p, rfl, by omega, by omega, D3, by omega, fun r H4 r0 r1 D4 f4 => ?_⟩
          refine ⟨.ref d, rfl, d, g, c, _, 3, rfl, by decide, by decide, D4, by omega, fun r2 H5 _ _ D5 f5 => ?_⟩
          have f35 := f4.trans f5
          have eF5 := f35 F _ nF.1 nF.2.1 eF3
          have gr5 := gr3.fr f35
          refine ⟨r2, 0, rfl, rfl, .inr ⟨_, rfl, r, _, rfl, rfl, .inl ⟨by omega, by omega⟩, ?_⟩⟩
          have hz : 0 ≤ r * (if decide (0 < r2) = true then 1 else 0) ∧ r * (if decide (0 < r2) = true then 1 else 0) < p := by
            cases decide (0 < r2) with
            | true => simp; omega
            | false => simp; omega
          dsimp only
          generalize r * (if decide (0 < r2) = true then 1 else 0) = n at hz ⊢
          have rl5 := gr5.len
          -- found[k][j]
          have ea1 : as[i]? = some as[i] := List.getElem?_eq_getElem (by omega)
          have ea2 : as[i + j]? = some as[i + j] := List.getElem?_eq_getElem (by omega)
          obtain ⟨q1, eq1, hq1⟩ := gr5.get ea1
          have ql1 := (gr5.ok q1 (List.mem_of_getElem? eq1)).1
          refine ⟨.int n, rfl, .ref F, rfl, .int (i : Nat), rfl, F, _, (i : Nat), .ref as[i], rfl, rfl, SqL.of eF5, atI_nat (by rw [List.getElem?_map, ea1]; rfl), .int ((i + j : Nat)), rfl, as[i], _, ((i + j : Nat) : Int), i + j, rfl, rfl, hq1, ixN_nat (by rw [List.length_map]; omega), ?_⟩
          have gr6 := gr5.set (j := i + j) ea1 eq1 hz
          have ne1 := gr5.ne _ (List.mem_of_getElem? ea1)
          have D6 := D5.put (o := .lst ((q1.map V.int).set (i + j) (.int n))) ne1.1 ne1.2.1 ne1.2.2.1
          have eF6 : upd H5 as[i] (.lst ((q1.map V.int).set (i + j) (.int n))) F = some (.lst (as.map V.ref)) := by
            rw [upd_ne ne1.2.2.2.1.symm]
            exact eF5
          have f6 : Fr d g H (upd H5 as[i] (.lst ((q1.map V.int).set (i + j) (.int n)))) := fun b o e1 e2 e => by
            rw [upd_ne (ne_of_none e ne1.2.2.2.2)]
            exact f35 _ _ e1 e2 (f3 _ _ e1 e2 e)
          generalize upd H5 as[i] (.lst ((q1.map V.int).set (i + j) (.int n))) = H6 at gr6 D6 eF6 f6 ⊢
          -- found[j][k]
          obtain ⟨q2, eq2, hq2⟩ := gr6.get ea2
          have ql2 := (gr6.ok q2 (List.mem_of_getElem? eq2)).1
          refine ⟨.int n, rfl, .ref F, rfl, .int ((i + j : Nat)), rfl, F, _, ((i + j : Nat) : Int), .ref as[i + j], rfl, rfl, SqL.of eF6, atI_nat (by rw [List.getElem?_map, ea2]; rfl), .int (i : Nat), rfl, as[i + j], _, (i : Nat), i, rfl, rfl, hq2, ixN_nat (by rw [List.length_map]; omega), ?_⟩
          have gr7 := gr6.set (j := i) ea2 eq2 hz
          have ne2 := gr6.ne _ (List.mem_of_getElem? ea2)
          have D7 := D6.put (o := .lst ((q2.map V.int).set i (.int n))) ne2.1 ne2.2.1 ne2.2.2.1
          refine ⟨_, _, _, rfl, D7.mono (by omega), fun b o e1 e2 e => ?_, ?_, gr7, sy_set sy3 eq1 (by omega) eq2 (by omega)⟩
          · rw [upd_ne (ne_of_none e ne2.2.2.2.2)]
            exact f6 _ _ e1 e2 e
          · rw [upd_ne ne2.2.2.2.1.symm]
            exact eF6
        · rintro σ H3 ⟨v5, v6, rs, rfl, D3, f3, eF3, gr3, sy3⟩
          exact ⟨_, _, _, _, _, rfl, D3.mono (by omega), f3, eF3, gr3, sy3⟩
      · rintro σ H2 ⟨v4, v5, v6, v7, rs, rfl, D2, f2, eF2, gr2, sy2⟩
        rw [Int.toNat_natCast] at D2
        have rl2 := gr2.len
        refine ⟨.ref F, rfl, F, rfl, ⟨_, SqL.of eF2⟩, fun D hD => lc_it (walk_list (xs := as.map V.ref)) (fun i H' => Same H2 H' ∧ ∃ ys, H' D = some (.lst ys) ∧ Trs H' ys (rs.take i)) ⟨same_upd hD, [], upd_same, rfl, fun e => by simp at e⟩ (fun i H' _ h => SqL.of (h.1 _ _ eF2)) ?_ ?_⟩
        · rintro i x H3 H4 hi ⟨s3, ys, eD, tr⟩ ⟨rfl, hx⟩
          rw [List.getElem?_map] at hx
          obtain ⟨a, ea, rfl⟩ := Option.map_eq_some_iff.mp hx
          obtain ⟨r, er, hr2⟩ := gr2.get ea
          have yl := tr.len
          rw [List.length_take] at yl
          have hi' : i < rs.length := (List.getElem?_eq_some_iff.mp er).1
          refine ⟨rfl, .ref a, rfl, a, _, rfl, .inl ⟨SqL.of (s3 _ _ hr2), fun t ht => ?_⟩⟩
          have nD : D ≠ t := ne_of_none eD ht
          have eD2 : upd H4 t (.tup (r.map V.int)) D = some (.lst ys) := by
            rw [upd_ne nD]
            exact eD
          refine ⟨ys, eD2, small (by omega), same_put (s3.trans (same_upd ht)) hD, ys ++ [.ref t], upd_same, ?_, fun {j y} e => ?_⟩
          · rw [List.length_append, List.length_take]
            show ys.length + 1 = _
            omega
          · rw [take_snoc er]
            rcases get_snoc e with ⟨hj, e⟩ | ⟨hj, rfl⟩
            · obtain ⟨b, r', h1, h2, h3⟩ := tr.get e
              refine ⟨b, r', h1, ?_, ?_⟩
              · rw [List.getElem?_append_left (by rw [List.length_take]; omega)]
                exact h2
              · rw [upd_ne (ne_of (same_upd (o := .tup (r.map V.int)) ht _ _ h3) eD2 (by intro z; cases z))]
                exact same_upd ht _ _ h3
            · refine ⟨t, r, rfl, ?_, by rw [upd_ne nD.symm]; exact upd_same⟩
              have e3 : (rs.take i).length = j := by rw [List.length_take]; omega
              rw [← e3]
              exact snoc_at
        · rintro H3 ⟨s3, ys, eD, tr⟩
          rw [List.length_map, List.take_of_length_le (by omega)] at tr
          refine ⟨D, _, rfl, .inl ⟨SqL.of eD, fun t ht => ?_⟩⟩
          exact q t ys rs _ upd_same (tr.same (same_upd ht)) (by omega) gr2.ok sy2 (((D2.same s3).same (same_upd ht)).mono (by omega)) ((f2.trans (.of_same s3)).trans (.new ht))
/-! ### stands by a hold and a table -/
structure HdAt (H : Hp) (t : Addr) (hs : List Int) : Prop where
  at_ : H t = some (.tup (hs.map V.int))
  bit : ∀ h ∈ hs, h = 0 ∨ h = 1
  len : hs.length ≤ 10
structure TbAt (p : Int) (m : Nat) (H : Hp) (t : Addr) (gs : List (List Int)) : Prop where
  at_ : ∃ ys, H t = some (.tup ys) ∧ Trs H ys gs
  len : gs.length = m
  ok : ∀ r ∈ gs, r.length = m ∧ Rg p r
  sy : Lin.Sy gs
theorem HdAt.same {H H' : Hp} {t : Addr} {hs : List Int} (h : HdAt H t hs) (s : Same H H') : HdAt H' t hs := ⟨s _ _ h.at_, h.bit, h.len⟩
theorem TbAt.same {p : Int} {m : Nat} {H H' : Hp} {t : Addr} {gs : List (List Int)} (h : TbAt p m H t gs) (s : Same H H') : TbAt p m H' t gs := ⟨let ⟨ys, e, r⟩ := h.at_; ⟨ys, s _ _ e, r.same s⟩, h.len, h.ok, h.sy⟩
theorem HdAt.fr {d g c : Addr} {k : Int} {H H' : Hp} {t : Addr} {hs : List Int} (h : HdAt H t hs) (D : Dk d g c k H) (f : Fr d g H H') : HdAt H' t hs := ⟨f.tup D h.at_, h.bit, h.len⟩
theorem TbAt.fr {d g c : Addr} {k : Int} {p : Int} {m : Nat} {H H' : Hp} {t : Addr} {gs : List (List Int)} (h : TbAt p m H t gs) (D : Dk d g c k H) (f : Fr d g H H') : TbAt p m H' t gs := ⟨let ⟨ys, e, r⟩ := h.at_; ⟨ys, f.tup D e, ⟨r.len, fun e => let ⟨a, u, h1, h2, h3⟩ := r.get e; ⟨a, u, h1, h2, f.tup D h3⟩⟩⟩, h.len, h.ok, h.sy⟩
theorem vec_get {us : List Int} {i : Nat} (h : i < us.length) : us[i]? = some (vec us i) := by
  have e := List.getElem?_eq_getElem h
  rw [e, Lin.vec_some e]
theorem bit_at {hs : List Int} (h : ∀ x ∈ hs, x = 0 ∨ x = 1) (j : Nat) : vec hs j = 0 ∨ vec hs j = 1 := by
  cases e : hs[j]? with
  | none =>
    left
    show hs.getD j 0 = 0
    rw [List.getD_eq_getElem?_getD, e]
    rfl
  | some x =>
    rw [Lin.vec_some e]
    exact h x (List.mem_of_getElem? e)
def spStand : Sp := fun vs H Q _ => ∃ (p : Int) (t1 t2 t3 : Addr) (hs : List Int) (gs : List (List Int)) (ns : List Int), vs = [.int p, .ref t1, .ref t2, .ref t3] ∧ 0 < p ∧ p ≤ 13 ∧ HdAt H t1 hs ∧ TbAt p hs.length H t2 gs ∧ H t3 = some (.tup (ns.map V.int)) ∧ ns.length = hs.length ∧ Rg p ns ∧
  ∀ t H', Same H H' → Rk p hs.length H' t (Lin.stP p hs gs ns) → Q (.ref t) H'
set_option maxHeartbeats 1000000 in
theorem ok__law_stand (T : Tx K mg A) : FnOk P w K mg base CX0 1 A.f__law_stand A.d__law_stand ["_law_p", "_law_hold_here", "_law_grid", "_law_held_here"] spStand := by
  refine T.d__law_stand.F.ok sc__law_stand (fun vs H Q E h => ?_) (fun cdv A outer s H vs Q E hr h => ?_)
  · obtain ⟨p, t1, t2, t3, hs, gs, ns, rfl, _⟩ := h
    rfl
  · obtain ⟨p, t1, t2, t3, hs, gs, ns, rfl, p0, p13, hh, ht, hn, nl, rg, q⟩ := h
    obtain ⟨ys, hy, tr⟩ := ht.at_
    have hl := hh.len
    have gl := ht.len
    refine ⟨_, (pss_cons (ps_set (i := 4) sc__law_stand.nd rfl (.inl rfl) (pe_lst pa_nil))
        (pss_cons (ps_for PassesOwn.never rfl (pi_range1 (by rfl) T.b_range (pa_cons (pe_callB call_len_seq (by rfl) T.b_len PySem.boot_len (pa_cons (pv 1) pa_nil)) pa_nil)) (pg_name (i := 5) sc__law_stand.nd rfl (.inr rfl))
        (pss_cons (ps_set (i := 6) sc__law_stand.nd rfl (.inl rfl) (pe_op op_mod (pe_callB (cr_sum rfl) (by rfl) T.b_sum PyProof.Rows.boot_sum (pa_cons (pe_lc (own := [("_law_k", 7)]) rfl sc__law_stand.nd (pi_range1 (by rfl) T.b_range (pa_cons (pe_callB call_len_seq (by rfl) T.b_len PySem.boot_len (pa_cons (pv 1) pa_nil)) pa_nil)) (blkOk_by (N := N__law_stand) (sc := defScope s__law_stand) (by decide +kernel)) (fun _ _ _ _ _ => (pg_name (i := 7) sc__law_stand.nd rfl (.inl rfl))) (fun _ _ _ _ _ => pts_nil) (fun _ _ _ _ _ => (pe_op op_mul (pe_ix (show IxR _ (rIxT K) from ix_tup) (pv 3) (pv 7) (fun _ _ => rfl)) (pe_ix (show IxR _ (rIxT K) from ix_tup) (pe_ix (show IxR _ (rIxT K) from ix_tup) (pv 2) (pv 7) (fun _ _ => rfl)) (pv 5) (fun _ _ => rfl))))) pa_nil)) (pv 0)))
        (pss_one (ps_expr (pe_bm PySem.F.plainAttrs_list PySem.F.slot_list_append PySem.F.type_list_append mt_append (pv 4) (pa_cons (pe_ix ix_list (pe_lst (pa_cons (pe_tup (pa_cons (pe_ix ix_tup (pv 3) (pv 5) (fun _ _ => rfl)) (pa_cons (pv 6) pa_nil))) (pa_cons (pe_tup (pa_cons (pe_op op_mod (pe_op op_sub pe_int (pv 6)) (pv 0)) (pa_cons (pe_ix ix_tup (pv 3) (pv 5) (fun _ _ => rfl)) pa_nil))) pa_nil))) (pe_ix ix_tup (pv 1) (pv 5) (fun _ _ => rfl)) (fun _ _ => rfl)) pa_nil))))))
        (pss_one (ps_ret (pe_callTy call_tuple_of (by rfl) T.b_tuple PyProof.Rows.boot_tuple (pa_cons (pv 4) pa_nil)))))), ?_⟩
    refine ⟨Nat.zero_le _, fun F hF => ?_⟩
    have s0 : Same H (upd H F (.lst [])) := same_upd hF
    refine ⟨.ref t1, rfl, t1, _, rfl, .inr (SqT.of (s0 _ _ hh.at_)), _, rfl, by omega, by rw [List.length_map]; omega, for_range (fun j σ H' => ∃ v5 v6, σ = [some (.int p), some (.ref t1), some (.ref t2), some (.ref t3), some (.ref F), v5, v6, none] ∧ Same H H' ∧ ∃ zs, H' F = some (.lst zs) ∧ Prs H' zs ((Lin.stP p hs gs ns).take j)) ⟨_, _, rfl, s0, [], upd_same, by simpa using Prs.nil⟩ ?_ ?_⟩
    · rintro j σ H1 hj ⟨v5, v6, rfl, s1, zs, eF, hz⟩
      rw [List.length_map, Int.toNat_natCast] at hj
      have e0 : (0 + (j : Nat) : Int) = (j : Nat) := by omega
      rw [e0]
      have zl := hz.len
      rw [List.length_take, Lin.st_len] at zl
      refine ⟨.ref t1, rfl, t1, _, rfl, .inr (SqT.of (s1 _ _ hh.at_)), _, rfl, by omega, by rw [List.length_map]; omega, fun D hD => lc_range (fun i H' => Same H1 H' ∧ H' D = some (.lst (((List.range i).map fun k => vec ns k * Lin.col gs j k).map V.int))) ⟨same_upd hD, upd_same⟩ ?_ ?_⟩
      · rintro i H2 hi ⟨s2, eD⟩
        rw [List.length_map, Int.toNat_natCast] at hi
        have s12 := s1.trans s2
        have i0 : (0 + (i : Nat) : Int) = (i : Nat) := by omega
        have hiy : i < ys.length := by
          have := tr.len
          omega
        have eyi : ys[i]? = some ys[i] := List.getElem?_eq_getElem hiy
        obtain ⟨a, r, ea, er, ha⟩ := tr.get eyi
        have hr' := ht.ok r (List.mem_of_getElem? er)
        have ec : Lin.col gs j i = vec r j := by
          unfold Lin.col
          rw [List.getD_eq_getElem?_getD, er]
          rfl
        have vn := rg.vec p0 i
        rw [i0]
        refine ⟨rfl, .ref t3, rfl, .int (i : Nat), rfl, t3, _, (i : Nat), .int (vec ns i), rfl, rfl, SqT.of (s12 _ _ hn), atI_nat (by rw [List.getElem?_map, vec_get (by omega)]; rfl), .ref t2, rfl, .int (i : Nat), rfl, t2, _, (i : Nat), .ref a, rfl, rfl, SqT.of (s12 _ _ hy), atI_nat (by rw [eyi, ea]), .int (j : Nat), rfl, a, _, (j : Nat), .int (vec r j), rfl, rfl, SqT.of (s12 _ _ ha), atI_nat (by rw [List.getElem?_map, vec_get (by omega)]; rfl), vec ns i, vec r j, rfl, rfl, cmul ⟨vn.1, by omega⟩, _, eD, ?_, same_put s2 hD, ?_⟩
        · rw [List.length_map, List.length_map, List.length_range]
          exact small (by omega)
        · rw [upd_same, List.range_succ, List.map_append, List.map_append, ← ec]
          rfl
      · rintro H2 ⟨s2, eD⟩
        rw [List.length_map, Int.toNat_natCast] at eD
        have tv : (((List.range hs.length).map fun k => vec ns k * Lin.col gs j k)).sum = Lin.toldV gs (vec ns) hs.length j := Lin.sum_range _ _ _
        have s12 := s1.trans s2
        refine ⟨D, _, rfl, SqL.of eD, .int p, rfl, _, p, rfl, rfl, p0, ?_⟩
        rw [tv]
        have eF2 := s2 _ _ eF
        have eg := Lin.st_get (p := p) (gs := gs) (ns := ns) hj
        generalize Lin.toldV gs (vec ns) hs.length j = tl at eg ⊢
        refine ⟨.ref F, rfl, .inl ⟨rfl, _, SqL.of eF2⟩, .ref t3, rfl, .int (j : Nat), rfl, t3, _, (j : Nat), .int (vec ns j), rfl, rfl, SqT.of (s12 _ _ hn), atI_nat (by rw [List.getElem?_map, vec_get (by omega)]; rfl), .int (tl % p), rfl, (by show 2 ≤ sizeLine; decide), fun q1 hq1 => ?_⟩
        have s3 : Same H (upd H2 q1 (.tup [.int (vec ns j), .int (tl % p)])) := s12.trans (same_upd hq1)
        refine ⟨.int (tl % p), rfl, 0, _, rfl, rfl, .int p, rfl, _, p, rfl, rfl, p0, .ref t3, rfl, .int (j : Nat), rfl, t3, _, (j : Nat), .int (vec ns j), rfl, rfl, SqT.of (s3 _ _ hn), atI_nat (by rw [List.getElem?_map, vec_get (by omega)]; rfl), (by show 2 ≤ sizeLine; decide), fun q2 hq2 => ⟨(by show 2 ≤ sizeLine; decide), fun q3 hq3 => ?_⟩⟩
        have s4 : Same H2 (upd (upd (upd H2 q1 (.tup [.int (vec ns j), .int (tl % p)])) q2 (.tup [.int ((0 - tl % p) % p), .int (vec ns j)])) q3 (.lst [.ref q1, .ref q2])) := ((same_upd hq1).trans (same_upd hq2)).trans (same_upd hq3)
        have eq1 : upd (upd (upd H2 q1 (.tup [.int (vec ns j), .int (tl % p)])) q2 (.tup [.int ((0 - tl % p) % p), .int (vec ns j)])) q3 (.lst [.ref q1, .ref q2]) q1 = some (.tup [.int (vec ns j), .int (tl % p)]) := same_upd hq3 _ _ (same_upd hq2 _ _ upd_same)
        have eq2 : upd (upd (upd H2 q1 (.tup [.int (vec ns j), .int (tl % p)])) q2 (.tup [.int ((0 - tl % p) % p), .int (vec ns j)])) q3 (.lst [.ref q1, .ref q2]) q2 = some (.tup [.int ((0 - tl % p) % p), .int (vec ns j)]) := same_upd hq3 _ _ upd_same
        have eq3 : upd (upd (upd H2 q1 (.tup [.int (vec ns j), .int (tl % p)])) q2 (.tup [.int ((0 - tl % p) % p), .int (vec ns j)])) q3 (.lst [.ref q1, .ref q2]) q3 = some (.lst [.ref q1, .ref q2]) := upd_same
        generalize upd (upd (upd H2 q1 (.tup [.int (vec ns j), .int (tl % p)])) q2 (.tup [.int ((0 - tl % p) % p), .int (vec ns j)])) q3 (.lst [.ref q1, .ref q2]) = H3 at s4 eq1 eq2 eq3 ⊢
        have s14 := s12.trans s4
        have eF3 := s4 _ _ eF2
        obtain ⟨qx, ux, ex, px, ux_⟩ : ∃ (qx : Addr) (ux : Int × Int), atI [V.ref q1, V.ref q2] (vec hs j) = some (.ref qx) ∧ H3 qx = some (.tup [.int ux.1, .int ux.2]) ∧ (Lin.stP p hs gs ns)[j]? = some ux := by
          rcases bit_at hh.bit j with z | z
          · rw [if_pos z] at eg
            rw [z]
            exact ⟨q1, _, rfl, eq1, eg⟩
          · rw [if_neg (by rw [z]; decide)] at eg
            rw [z]
            exact ⟨q2, _, rfl, eq2, eg⟩
        refine ⟨.ref t1, rfl, .int (j : Nat), rfl, t1, _, (j : Nat), .int (vec hs j), rfl, rfl, SqT.of (s14 _ _ hh.at_), atI_nat (by rw [List.getElem?_map, vec_get (by omega)]; rfl), q3, _, _, .ref qx, rfl, rfl, SqL.of eq3, ex, F, zs, .ref qx, rfl, rfl, eF3, small (by omega), ?_⟩
        refine ⟨_, _, rfl, same_put s14 hF, zs ++ [.ref qx], upd_same, ?_⟩
        rw [take_snoc ux_]
        exact ((hz.sm (.of_same (s2.trans s4))).snoc ⟨qx, rfl, px⟩).put eF3
    · rintro σ H1 ⟨v5, v6, rfl, s1, zs, eF, hz⟩
      rw [List.length_map, Int.toNat_natCast, List.take_of_length_le (by rw [Lin.st_len]; exact Nat.le_refl _)] at hz
      refine ⟨.ref F, rfl, F, _, rfl, .inl ⟨SqL.of eF, fun t ht' => ?_⟩⟩
      exact q t _ (s1.trans (same_upd ht')) ⟨⟨zs, upd_same, hz.sm (.new ht')⟩, Lin.st_in p0 rg, Lin.st_len⟩
def spUnits : Sp := fun vs H Q _ => ∃ (p : Int) (t1 t2 : Addr) (hs : List Int) (gs : List (List Int)), vs = [.int p, .ref t1, .ref t2] ∧ 1 < p ∧ p ≤ 13 ∧ HdAt H t1 hs ∧ TbAt p hs.length H t2 gs ∧
  ∀ t xs H', Same H H' → H' t = some (.tup xs) → Rws p hs.length H' xs (Lin.unitsP p hs gs) → Q (.ref t) H'
theorem ok__law_units (T : Tx K mg A) : FnOk P w K mg base CX0 2 A.f__law_units A.d__law_units ["_law_p", "_law_hold_here", "_law_grid"] spUnits := by
  have G__law_stand : FnOk P w K mg base CX0 1 A.f__law_stand A.d__law_stand ["_law_p", "_law_hold_here", "_law_grid", "_law_held_here"] spStand := ok__law_stand T
  refine T.d__law_units.F.ok sc__law_units (fun vs H Q E h => ?_) (fun cdv A outer s H vs Q E hr h => ?_)
  · obtain ⟨p, t1, t2, hs, gs, rfl, _⟩ := h
    rfl
  · obtain ⟨p, t1, t2, hs, gs, rfl, p1, p13, hh, ht, q⟩ := h
    have hl := hh.len
    refine ⟨_, (pss_cons (ps_set (i := 3) sc__law_units.nd rfl (.inr rfl) (pe_callB call_len_seq (by rfl) T.b_len PySem.boot_len (pa_cons (pv 1) pa_nil)))
        (pss_one (ps_ret (pe_callTy call_tuple_of (by rfl) T.b_tuple PyProof.Rows.boot_tuple (pa_cons (pe_lc (own := [("_law_k", 4)]) rfl sc__law_units.nd (pi_range1 (by rfl) T.b_range (pa_cons (pv 3) pa_nil)) (blkOk_by (N := N__law_units) (sc := defScope s__law_units) (by decide +kernel)) (fun _ _ _ _ _ => (pg_name (i := 4) sc__law_units.nd rfl (.inr rfl))) (fun _ _ _ _ _ => pts_nil) (fun _ _ _ _ _ => (pe_call G__law_stand hr (by rfl) T.d__law_stand.g T.d__law_stand.F.kp T.d__law_stand.b .nil pass0 (pa_cons (pv 0) (pa_cons (pv 1) (pa_cons (pv 2) (pa_cons (pe_callTy (show CallR _ _ (rTupOf K) from call_tuple_of) (by rfl) T.b_tuple PyProof.Rows.boot_tuple (pa_cons (pe_lc (own := [("_law_j", 5)]) rfl sc__law_units.nd (pi_range1 (by rfl) T.b_range (pa_cons (pv 3) pa_nil)) (blkOk_by (N := N__law_units) (by kernel_rfl)) (fun _ _ _ _ _ => (pg_name (i := 5) sc__law_units.nd rfl (.inl rfl))) (fun _ _ _ _ _ => pts_nil) (fun _ _ _ _ _ => (pe_callTy call_int1 (by rfl) T.b_int PyProof.Rows.boot_int (pa_cons (pe_cmpR op_eq (pv 5) (pv 4) (nomark _)) pa_nil)))) pa_nil)) pa_nil))))))) pa_nil))))), ?_⟩
    refine ⟨.ref t1, rfl, t1, _, rfl, .inr (SqT.of hh.at_), ?_⟩
    rw [List.length_map]
    refine ⟨.int (hs.length : Nat), rfl, _, rfl, by omega, by omega, fun D hD => lc_range (fun i H' => Same H H' ∧ ∃ xs, H' D = some (.lst xs) ∧ Rws p hs.length H' xs ((Lin.unitsP p hs gs).take i)) ⟨same_upd hD, [], upd_same, by simpa using Rws.nil⟩ ?_ ?_⟩
    · rintro i H1 hi ⟨s1, xs, eD, hx⟩
      rw [Int.toNat_natCast] at hi
      dsimp only [wipe, gName, List.map, List.set]
      refine ⟨rfl, .int p, rfl, .ref t1, rfl, .ref t2, rfl, .int (hs.length : Nat), rfl, _, rfl, by omega, by omega, fun E1 hE => lc_range (fun j H' => Same H1 H' ∧ H' E1 = some (.lst (((Lin.unitL hs.length i).take j).map V.int))) ⟨same_upd hE, upd_same⟩ ?_ ?_⟩
      · rintro j H2 hj ⟨s2, eE⟩
        rw [Int.toNat_natCast] at hj
        have eu : (Lin.unitL hs.length i)[j]? = some (if j = i then 1 else 0) := by
          unfold Lin.unitL
          rw [List.getElem?_map, List.getElem?_range hj]
          rfl
        refine ⟨rfl, .int (0 + (j : Nat)), rfl, .int (0 + (i : Nat)), rfl, rfl, .inr ⟨_, rfl, _, eE, ?_, same_put s2 hE, ?_⟩⟩
        · rw [List.length_map, List.length_take]
          exact small (by omega)
        · rw [upd_same, take_snoc eu, List.map_append]
          have ei : (if decide (V.int (0 + (j : Nat)) = V.int (0 + (i : Nat))) = true then (1 : Int) else 0) = if j = i then 1 else 0 := by
            by_cases z : j = i
            · rw [if_pos z, z, if_pos (by simp)]
            · rw [if_neg z, if_neg]
              intro w
              have := V.int.inj (of_decide_eq_true w)
              omega
          rw [ei]
          rfl
      · rintro H2 ⟨s2, eE⟩
        rw [Int.toNat_natCast, List.take_of_length_le (by rw [Lin.unit_len]; exact Nat.le_refl _)] at eE
        refine ⟨E1, _, rfl, .inl ⟨SqL.of eE, fun t3 ht3 => ?_⟩⟩
        have s3 : Same H (upd H2 t3 (.tup ((Lin.unitL hs.length i).map V.int))) := (s1.trans s2).trans (same_upd ht3)
        refine ⟨p, t1, t2, t3, hs, gs, Lin.unitL hs.length i, rfl, by omega, p13, hh.same s3, ht.same s3, upd_same, Lin.unit_len, Lin.unit_rg p1, fun t4 H4 s4 k4 => ?_⟩
        have s14 := (s2.trans (same_upd ht3)).trans s4
        have eD4 := s14 _ _ eD
        have xl := hx.len
        rw [List.length_take, Lin.units_len] at xl
        refine ⟨xs, eD4, small (by omega), same_put (s1.trans s14) hD, xs ++ [.ref t4], upd_same, ?_⟩
        rw [take_snoc (Lin.units_get hi)]
        exact ((hx.sm (.of_same s14)).snoc k4).put eD4
    · rintro H1 ⟨s1, xs, eD, hx⟩
      rw [Int.toNat_natCast, List.take_of_length_le (by rw [Lin.units_len]; exact Nat.le_refl _)] at hx
      refine ⟨D, _, rfl, .inl ⟨SqL.of eD, fun t ht' => ?_⟩⟩
      exact q t xs _ (s1.trans (same_upd ht')) upd_same (hx.sm (.new ht'))
-- CUT
/-! ### rows by the sides of a hold -/
def spSided : Sp := fun vs H Q _ => ∃ (p : Int) (t1 t2 : Addr) (hs : List Int) (r : Row), vs = [.int p, .ref t1, .ref t2] ∧ 0 < p ∧ p ≤ 13 ∧ HdAt H t1 hs ∧ Rk p hs.length H t2 r ∧ ∀ t H', Same H H' → H t = none → Fl H' t (Lin.sdP p hs r) → Q (.ref t) H'
set_option maxHeartbeats 1000000 in
theorem ok_sided (T : Tx K mg A) : FnOk P w K mg base CX0 1 A.f_sided A.d_sided ["p", "hold", "row"] spSided := by
  refine T.d_sided.F.ok sc_sided (fun vs H Q E h => ?_) (fun cdv A outer s H vs Q E hr h => ?_)
  · obtain ⟨p, t1, t2, hs, r, rfl, _⟩ := h
    rfl
  · obtain ⟨p, t1, t2, hs, r, rfl, p0, p13, hh, kr, q⟩ := h
    have hl := hh.len
    obtain ⟨⟨xs, ex, hx⟩, inr, lr⟩ := kr
    have xl := hx.len
    refine ⟨_, (pss_cons (ps_setLc (i := 3) (own := [("side", 5), ("pair", 6)]) (g := (gTup K 2 (gCons (gName 5) (gCons (gName 6) gNil)))) rfl sc_sided.nd rfl rfl (sw_true rfl rfl rfl (by decide +kernel)) (Zm.pi_zipK (by rfl) T.b_zip (pa_cons (pv 1) (pa_cons (pv 2) pa_nil))) (blkOk_by (N := N_sided) (sc := defScope s_sided) (by decide +kernel)) (fun _ _ _ _ _ => (pg_tup rfl (pgs_cons (pg_name (i := 5) sc_sided.nd rfl (.inl rfl)) (pgs_cons (pg_name (i := 6) sc_sided.nd rfl (.inl rfl)) pgs_nil)))) (fun _ _ _ _ _ => pts_nil) (fun _ _ _ _ _ => (pe_ix (show IxR _ (rIxT K) from ix_tup) (pv 6) (pv 5) (fun _ _ => rfl))))
        (pss_cons (ps_setLc (i := 4) (own := [("side", 5), ("push", 7), ("answer", 8)]) (g := (gTup K 2 (gCons (gName 5) (gCons (gTup K 2 (gCons (gName 7) (gCons (gName 8) gNil))) gNil)))) rfl sc_sided.nd rfl rfl (sw_true rfl rfl rfl (by decide +kernel)) (Zm.pi_zipK (by rfl) T.b_zip (pa_cons (pv 1) (pa_cons (pv 2) pa_nil))) (blkOk_by (N := N_sided) (sc := defScope s_sided) (by decide +kernel)) (fun _ _ _ _ _ => (pg_tup rfl (pgs_cons (pg_name (i := 5) sc_sided.nd rfl (.inl rfl)) (pgs_cons (pg_tup rfl (pgs_cons (pg_name (i := 7) sc_sided.nd rfl (.inl rfl)) (pgs_cons (pg_name (i := 8) sc_sided.nd rfl (.inl rfl)) pgs_nil))) pgs_nil)))) (fun _ _ _ _ _ => pts_nil) (fun _ _ _ _ _ => (pe_ifExp (pt_cmpR op_eq (pv 5) pe_int (nomark _)) (pv 8) (pe_op op_mod (pe_un un_neg (pv 7)) (pv 0)))))
        (pss_one (ps_ret (pe_op op_cat (pv 3) (pv 4)))))), ?_⟩
    refine ⟨.ref t1, rfl, .ref t2, rfl, .t, .t, t1, t2, _, _, rfl, SqT.of hh.at_, SqT.of ex, fun D hD => lc_it (σ := [some (.int p), some (.ref t1), some (.ref t2), none, none, none, none, none, none]) (vs := [5, 6]) (Zm.walk2 (xs := hs.map V.int) (ys := xs) (by rw [List.length_map]; omega)) (fun i H' => Same H H' ∧ H' D = some (.lst (((List.zipWith (fun h u => if h = 0 then u.1 else u.2) hs r).take i).map V.int))) ⟨same_upd hD, upd_same⟩ (fun i H' _ h => ⟨SqT.of (h.1 _ _ hh.at_), SqT.of (h.1 _ _ ex)⟩) ?_ ?_⟩
    · rintro i x H1 H2 hi ⟨s1, eD⟩ ⟨T1, x1, y1, rfl, hT, rfl, hx1, hy1⟩
      dsimp only at hx1 hy1
      rw [List.getElem?_map] at hx1
      obtain ⟨h, eh, rfl⟩ := Option.map_eq_some_iff.mp hx1
      obtain ⟨u, eu, b, rfl, hb⟩ := hx.get hy1
      have s2 : Same H (upd H1 T1 (.tup [.int h, .ref b])) := s1.trans (same_upd hT)
      have eD2 : upd H1 T1 (.tup [.int h, .ref b]) D = _ := same_upd hT _ _ eD
      have ez : (List.zipWith (fun h u => if h = 0 then u.1 else u.2) hs r)[i]? = some (if h = 0 then u.1 else u.2) := by
        rw [List.getElem?_zipWith, eh, eu]
      have ea : atI [V.int u.1, V.int u.2] h = some (.int (if h = 0 then u.1 else u.2)) := by
        rcases hh.bit h (List.mem_of_getElem? eh) with z | z
        · subst z
          rfl
        · subst z
          rfl
      refine ⟨T1, [.int h, .ref b], rfl, SqT.of upd_same, rfl, .int h, [.ref b], rfl, .ref b, [], rfl, rfl, ?_⟩
      dsimp only [wipe, List.set]
      refine ⟨rfl, .ref b, rfl, .int h, rfl, b, _, h, .int (if h = 0 then u.1 else u.2), rfl, rfl, SqT.of (s2 _ _ hb), ea, _, eD2, ?_, same_put s2 hD, ?_⟩
      · rw [List.length_map, List.length_take, List.length_zipWith]
        exact small (by omega)
      · rw [upd_same, take_snoc ez, List.map_append]
        rfl
    · rintro H1 ⟨s1, eD⟩
      rw [List.take_of_length_le (by rw [List.length_zipWith, List.length_map]; omega)] at eD
      refine ⟨.ref t1, rfl, .ref t2, rfl, .t, .t, t1, t2, _, _, rfl, SqT.of (s1 _ _ hh.at_), SqT.of (s1 _ _ ex), fun D2 hD2 => lc_it (σ := [some (.int p), some (.ref t1), some (.ref t2), some (.ref D), none, none, none, none, none]) (vs := [5, 7, 8]) (Zm.walk2 (xs := hs.map V.int) (ys := xs) (by rw [List.length_map]; omega)) (fun i H' => Same H1 H' ∧ H' D2 = some (.lst (((List.zipWith (fun h u => if h = 0 then u.2 else -u.1 % p) hs r).take i).map V.int))) ⟨same_upd hD2, upd_same⟩ (fun i H' _ h => ⟨SqT.of ((s1.trans h.1) _ _ hh.at_), SqT.of ((s1.trans h.1) _ _ ex)⟩) ?_ ?_⟩
      · rintro i x H2 H3 hi ⟨s2, eD2⟩ ⟨T1, x1, y1, rfl, hT, rfl, hx1, hy1⟩
        dsimp only at hx1 hy1
        rw [List.getElem?_map] at hx1
        obtain ⟨h, eh, rfl⟩ := Option.map_eq_some_iff.mp hx1
        obtain ⟨u, eu, b, rfl, hb⟩ := hx.get hy1
        have s3 : Same H1 (upd H2 T1 (.tup [.int h, .ref b])) := s2.trans (same_upd hT)
        have eD3 : upd H2 T1 (.tup [.int h, .ref b]) D2 = _ := same_upd hT _ _ eD2
        have hb3 := (s1.trans s3) _ _ hb
        have ez : (List.zipWith (fun h u => if h = 0 then u.2 else -u.1 % p) hs r)[i]? = some (if h = 0 then u.2 else -u.1 % p) := by
          rw [List.getElem?_zipWith, eh, eu]
        have zl : (((List.zipWith (fun h u => if h = 0 then u.2 else -u.1 % p) hs r).take i).map V.int).length < sizeLine := by
          rw [List.length_map, List.length_take, List.length_zipWith]
          exact small (by omega)
        refine ⟨T1, [.int h, .ref b], rfl, SqT.of upd_same, rfl, .int h, [.ref b], rfl, .ref b, [], rfl, ?_⟩
        refine ⟨b, [.int u.1, .int u.2], rfl, SqT.of hb3, rfl, .int u.1, [.int u.2], rfl, .int u.2, [], rfl, rfl, rfl, ?_⟩
        dsimp only [wipe, List.set]
        refine ⟨rfl, .int h, rfl, rfl, _, rfl, ite2 (fun e => ?_) (fun e => ?_)⟩
        · have e' : h = 0 := V.int.inj (of_decide_eq_true e)
          rw [if_pos e'] at ez
          refine ⟨.int u.2, rfl, _, eD3, zl, same_put s3 hD2, ?_⟩
          rw [upd_same, take_snoc ez, List.map_append]
          rfl
        · have e' : ¬ h = 0 := fun z => e (decide_eq_true (congrArg V.int z))
          rw [if_neg e'] at ez
          refine ⟨.int u.1, rfl, _, rfl, .int p, rfl, _, p, rfl, rfl, p0, _, eD3, zl, same_put s3 hD2, ?_⟩
          rw [upd_same, take_snoc ez, List.map_append]
          rfl
      · rintro H2 ⟨s2, eD2⟩
        rw [List.take_of_length_le (by rw [List.length_zipWith, List.length_map]; omega)] at eD2
        refine ⟨.ref D, rfl, .ref D2, rfl, D, D2, _, _, rfl, rfl, s2 _ _ eD, eD2, ?_, fun t ht => ?_⟩
        · rw [List.length_map, List.length_map, List.length_zipWith, List.length_zipWith]
          exact Nat.le_of_lt (small (by omega))
        · refine q t _ ((s1.trans s2).trans (same_upd ht)) ((s1.trans s2).free ht) ?_
          unfold Fl Lin.sdP
          rw [upd_same, List.map_append]
def spSLeads : Sp := fun vs H Q _ => ∃ (p : Int) (t1 a : Addr) (hs : List Int) (k : Zm.Kd) (xs : List V) (rs : List Row), vs = [.int p, .ref t1, .ref a] ∧ p ∈ ([2, 3, 5, 7, 11, 13] : List Int) ∧ HdAt H t1 hs ∧ At k H a xs ∧ Rws p hs.length H xs rs ∧ xs.length ≤ 200 ∧
  ∀ (d : Addr) (kvs : List (Key × V)) (L : List (Nat × List Int)) (H' : Hp), Sm H H' → H' d = some (.dK kvs) → KvL H' kvs L → PL p (2 * hs.length) (rs.map (Lin.sdP p hs)) L → Up L → Q (.ref d) H'
theorem HdAt.sm {H H' : Hp} {t : Addr} {hs : List Int} (h : HdAt H t hs) (s : Sm H H') : HdAt H' t hs := ⟨s.tup h.at_, h.bit, h.len⟩
theorem ok_side_leads (T : Tx K mg A) : FnOk P w K mg base CX0 4 A.f_side_leads A.d_side_leads ["p", "hold", "rows"] spSLeads := by
  have G_leads_of : FnOk P w K mg base CX0 3 A.f_leads_of A.d_leads_of ["p", "flats"] spLeads := ok_leads_of T
  have G_sided : FnOk P w K mg base CX0 1 A.f_sided A.d_sided ["p", "hold", "row"] spSided := ok_sided T
  refine T.d_side_leads.F.ok sc_side_leads (fun vs H Q E h => ?_) (fun cdv A outer s H vs Q E hr h => ?_)
  · obtain ⟨p, t1, a, hs, k, xs, rs, rfl, _⟩ := h
    rfl
  · obtain ⟨p, t1, a, hs, k, xs, rs, rfl, hp, hh, ha, hrs, hxl, q⟩ := h
    have pall : ∀ p ∈ ([2, 3, 5, 7, 11, 13] : List Int), 2 ≤ p ∧ p ≤ 13 := by decide
    obtain ⟨p2, p13⟩ := pall p hp
    have hl := hh.len
    refine ⟨_, (pss_one (ps_ret (pe_call G_leads_of hr (by rfl) T.d_leads_of.g T.d_leads_of.F.kp T.d_leads_of.b .nil pass0 (pa_cons (pv 0) (pa_cons (pe_lc (own := [("row", 3)]) rfl sc_side_leads.nd (Zm.pi_kd (pv 2)) (blkOk_by (N := N_side_leads) (sc := defScope s_side_leads) (by decide +kernel)) (fun _ _ _ _ _ => (pg_name (i := 3) sc_side_leads.nd rfl (.inl rfl))) (fun _ _ _ _ _ => pts_nil) (fun _ _ _ _ _ => (pe_call G_sided (hr.mono (by decide)) (by rfl) T.d_sided.g T.d_sided.F.kp T.d_sided.b .nil pass0 (pa_cons (pv 0) (pa_cons (pv 1) (pa_cons (pv 3) pa_nil)))))) pa_nil))))), ?_⟩
    refine ⟨.int p, rfl, .ref a, rfl, a, k, xs, rfl, ha.sq, fun D hD => lc_it Zm.walkq (fun i H' => Sm H H' ∧ ∃ ys, H' D = some (.lst ys) ∧ V.ref D ∉ ys ∧ Fls .l H' ys ((rs.map (Lin.sdP p hs)).take i)) ⟨.new hD, [], upd_same, by simp, by simpa using Fls.nil⟩ (fun i H' _ h => (ha.sm h.1).sq) ?_ ?_⟩
    · rintro i x H1 H2 hi ⟨s1, ys, eD, nD, fy⟩ ⟨rfl, hx⟩
      obtain ⟨b, r, rfl, er, kr⟩ := (hrs.sm s1).rk hx
      refine ⟨rfl, .int p, rfl, .ref t1, rfl, .ref b, rfl, p, t1, b, hs, r, rfl, by omega, p13, hh.sm s1, kr, fun t H3 s3 ht f3 => ?_⟩
      have neD : D ≠ t := ne_of_none eD ht
      have eD3 := s3 _ _ eD
      have ly := fy.len
      rw [List.length_take, List.length_map] at ly
      have nD' : V.ref D ∉ ys ++ [V.ref t] := fun z => by
        rcases List.mem_append.mp z with z | z
        · exact nD z
        · exact neD (V.ref.inj (List.mem_singleton.mp z))
      refine ⟨ys, eD3, small (by omega), (s1.trans (.of_same s3)).put hD, ys ++ [.ref t], upd_same, nD', ?_⟩
      have e2 : (rs.map (Lin.sdP p hs))[i]? = some (Lin.sdP p hs r) := by rw [List.getElem?_map, er]; rfl
      rw [take_snoc e2]
      have z := (fy.sm (.of_same s3)).snoc f3
      refine ⟨z.len, fun e => ?_⟩
      obtain ⟨c, g, h1, h2, h3⟩ := z.get e
      refine ⟨c, g, h1, h2, ?_⟩
      show L2.upd H3 D _ c = _
      rw [upd_ne]
      · exact h3
      · intro w
        exact nD' (by rw [← w, ← h1]; exact List.mem_of_getElem? e)
    · rintro H1 ⟨s1, ys, eD, _, fy⟩
      have e2 : (rs.map (Lin.sdP p hs)).take xs.length = rs.map (Lin.sdP p hs) := List.take_of_length_le (by rw [List.length_map, hrs.len]; exact Nat.le_refl _)
      rw [e2] at fy
      refine ⟨p, 2 * hs.length, D, .l, ys, _, rfl, hp, by omega, eD, fy, ?_, ?_, fun d kvs L H2 s2 ed kv pl up => q d kvs L H2 (s1.trans s2) ed kv pl up⟩
      · rw [fy.len, List.length_map, ← hrs.len]
        omega
      · intro f hf
        obtain ⟨r, hr2, rfl⟩ := List.mem_map.mp hf
        obtain ⟨h1, h2⟩ := hrs.fit r hr2
        exact ⟨Lin.sd_len h2, Lin.sd_rg (by omega) h1⟩
-- CUT
/-! ### rows out of sides, tables -/
def rosP (p : Int) (hs ns ts : List Int) : Row := (List.range hs.length).map fun j => if vec hs j = 0 then (vec ns j, vec ts j) else (-vec ts j % p, vec ns j)
theorem ros_len {p : Int} {hs ns ts : List Int} : (rosP p hs ns ts).length = hs.length := by
  unfold rosP
  rw [List.length_map, List.length_range]
theorem ros_get {p : Int} {hs ns ts : List Int} {j : Nat} (h : j < hs.length) : (rosP p hs ns ts)[j]? = some (if vec hs j = 0 then (vec ns j, vec ts j) else (-vec ts j % p, vec ns j)) := by
  unfold rosP
  rw [List.getElem?_map, List.getElem?_range h]
  rfl
theorem ros_in {p : Int} {hs ns ts : List Int} (p0 : 0 < p) (h1 : Rg p ns) (h2 : Rg p ts) : In p (rosP p hs ns ts) := fun u hu => by
  obtain ⟨j, _, rfl⟩ := List.mem_map.mp hu
  have a := h1.vec p0 j
  have b := h2.vec p0 j
  split
  · exact ⟨a, b⟩
  · exact ⟨⟨Int.emod_nonneg _ (by omega), Int.emod_lt_of_pos _ p0⟩, a⟩
theorem ros_st {p : Int} {hs ns : List Int} {gs : List (List Int)} (p0 : 0 < p) : rosP p hs ns (Lin.toldL p gs ns hs.length) = Lin.stP p hs gs ns := by
  unfold rosP Lin.stP
  apply List.map_congr_left
  intro j hj
  have hj' := List.mem_range.mp hj
  have e : vec (Lin.toldL p gs ns hs.length) j = Lin.toldV gs (vec ns) hs.length j % p := by
    refine Lin.vec_some ?_
    unfold Lin.toldL
    rw [List.getElem?_map, List.getElem?_range hj']
    rfl
  rw [e, Int.zero_sub]
def spRos (P1 : Addr) : Sp := fun vs H Q _ => ∃ (p : Int) (t1 t2 t3 : Addr) (j k : Zm.Kd) (hs ns ts : List Int), vs = [.int p, .ref t1, .ref t2, .ref t3] ∧ 0 < p ∧ HdAt H t1 hs ∧ At j H t2 (ns.map V.int) ∧ At k H t3 (ts.map V.int) ∧ ns.length = hs.length ∧ ts.length = hs.length ∧ Rg p ns ∧ Rg p ts ∧ GxR.TabG H P1 ∧
  ∀ t H', Sm H H' → Rk p hs.length H' t (rosP p hs ns ts) → Q (.ref t) H'
set_option maxHeartbeats 1000000 in
theorem ok_row_of_sides (T : Tx K mg A) (B : Tb K mg base A C) : FnOk P w K mg base CX0 6 A.f_row_of_sides A.d_row_of_sides ["p", "hold", "held", "told"] (spRos C.p_row_of_sides) := by
  refine B.k_row_of_sides.ok sc_row_of_sides (fun vs H Q E h => ?_) (fun A outer s H vs Q E hr h => ?_)
  · obtain ⟨p, t1, t2, t3, j, k, hs, ns, ts, rfl, _⟩ := h
    rfl
  · obtain ⟨p, t1, t2, t3, j, k, hs, ns, ts, rfl, p0, hh, h2, h3, l2, l3, r2, r3, tg, q⟩ := h
    have hl := hh.len
    refine ⟨_, (pss_one (ps_ret (Gx.pe_tupGx (k := 0) (own := [("side", 4), ("mine", 5), ("its", 6)]) (g := (gTup K 3 (gCons (gName 4) (gCons (gName 5) (gCons (gName 6) gNil))))) rfl hr sc_row_of_sides.nd (by rfl) T.b_tuple B.t_row_of_sides rfl (Z3.pi_zip3 (by rfl) T.b_zip (pa_cons (pv 1) (pa_cons (pv 2) (pa_cons (pv 3) pa_nil)))) (blkOk_by (N := N_row_of_sides) (sc := defScope s_row_of_sides) (by decide +kernel)) rfl rfl (fun _ _ _ _ _ _ => (pg_tup rfl (pgs_cons (pg_name (i := 4) sc_row_of_sides.nd rfl (.inl rfl) (.inr rfl)) (pgs_cons (pg_name (i := 5) sc_row_of_sides.nd rfl (.inl rfl) (.inr rfl)) (pgs_cons (pg_name (i := 6) sc_row_of_sides.nd rfl (.inl rfl) (.inr rfl)) pgs_nil))))) (fun _ _ _ _ _ _ hq => (pe_ifExp (pt_cmpR op_eq (pv 4) pe_int (nomark _)) (pe_tup (pa_cons (pv 5) (pa_cons (pv 6) pa_nil))) (pe_tup (pa_cons (pe_op op_mod (pe_un un_neg (pv 6)) (pv 0)) (pa_cons (pv 5) pa_nil))))) (fun _ => rfl)))), ?_⟩
    refine ⟨.ref t1, rfl, .ref t2, rfl, .ref t3, rfl, .t, j, k, t1, t2, t3, _, _, _, rfl, SqT.of hh.at_, h2.sq, h3.sq, tg, fun H2 tb => ?_⟩
    have s2 := Sm.tabbed tg tb
    refine gx_it (σ := [some (.int p), some (.ref t1), some (.ref t2), some (.ref t3), none, none, none]) (vs := [4, 5, 6]) (Z3.walk3 (xs := hs.map V.int) (ys := ns.map V.int) (zs := ts.map V.int) (by rw [List.length_map, List.length_map]; omega) (by rw [List.length_map, List.length_map]; omega)) (fun i zs H' => Sm H H' ∧ Prs H' zs ((rosP p hs ns ts).take i)) ⟨s2, by simpa using Prs.nil⟩ (fun i zs H' _ h => ⟨SqT.of (h.1.tup hh.at_), (h2.sm h.1).sq, (h3.sm h.1).sq⟩) ?_ ?_
    · rintro i x zs H3 H4 hi ⟨s3, hz⟩ ⟨T1, x1, y1, z1, rfl, hT, rfl, hx, hy, hzz⟩
      rw [List.length_map] at hi
      rw [List.getElem?_map, vec_get hi] at hx
      cases hx
      rw [List.getElem?_map, vec_get (by omega)] at hy
      cases hy
      rw [List.getElem?_map, vec_get (by omega)] at hzz
      cases hzz
      have s4 := s3.trans (.new (o := .tup [.int (vec hs i), .int (vec ns i), .int (vec ts i)]) hT)
      have hzl := hz.len
      rw [List.length_take, ros_len] at hzl
      refine ⟨T1, [.int (vec hs i), .int (vec ns i), .int (vec ts i)], rfl, SqT.of upd_same, rfl, .int (vec hs i), [.int (vec ns i), .int (vec ts i)], rfl, .int (vec ns i), [.int (vec ts i)], rfl, .int (vec ts i), [], rfl, rfl, ?_⟩
      dsimp only [wipe, List.set]
      have eg := ros_get (p := p) (ns := ns) (ts := ts) hi
      refine ⟨rfl, .int (vec hs i), rfl, rfl, _, rfl, ite2 (fun e => ?_) (fun e => ?_)⟩
      · have e' : vec hs i = 0 := V.int.inj (of_decide_eq_true e)
        rw [if_pos e'] at eg
        refine ⟨.int (vec ns i), rfl, .int (vec ts i), rfl, (by show 2 ≤ sizeLine; decide), fun t ht => ⟨small (by omega), s4.trans (.new ht), ?_⟩⟩
        rw [take_snoc eg]
        exact ((hz.sm (.new hT)).sm (.new ht)).snoc (u := (vec ns i, vec ts i)) ⟨t, rfl, upd_same⟩
      · have e' : ¬ vec hs i = 0 := fun z => e (decide_eq_true (congrArg V.int z))
        rw [if_neg e'] at eg
        refine ⟨.int (vec ts i), rfl, vec ts i, rfl, .int p, rfl, _, p, rfl, rfl, p0, .int (vec ns i), rfl, (by show 2 ≤ sizeLine; decide), fun t ht => ⟨small (by omega), s4.trans (.new ht), ?_⟩⟩
        rw [take_snoc eg]
        exact ((hz.sm (.new hT)).sm (.new ht)).snoc (u := (-vec ts i % p, vec ns i)) ⟨t, rfl, upd_same⟩
    · rintro zs H3 ⟨s3, hz⟩ t ht
      rw [List.length_map, List.take_of_length_le (by rw [ros_len]; exact Nat.le_refl _)] at hz
      exact q t _ (s3.trans (.new ht)) ⟨⟨zs, upd_same, hz.sm (.new ht)⟩, ros_in p0 r2 r3, ros_len⟩
/-! the table of a thing by a hold that stands -/
theorem cut_fromI {us : List Int} {n : Nat} (h : n ≤ us.length) : cutV (us.map V.int) (some (n : Nat)) none = (us.drop n).map V.int := by
  unfold cutV
  rw [HT.sIx_nat, HT.sIx_none, List.length_map, Nat.min_eq_left h, ← List.map_drop, List.take_of_length_le (by rw [List.length_map, List.length_drop]; exact Nat.le_refl _)]
theorem Trs.snoc {H : Hp} {ys : List V} {gs : List (List Int)} {t : Addr} {g : List Int} (h : Trs H ys gs) (e : H t = some (.tup (g.map V.int))) : Trs H (ys ++ [.ref t]) (gs ++ [g]) := by
  refine ⟨by rw [List.length_append, List.length_append, h.len]; rfl, fun {i y} ey => ?_⟩
  rcases Nat.lt_or_ge i ys.length with l | l
  · rw [List.getElem?_append_left l] at ey
    obtain ⟨c, r, h1, h2, h3⟩ := h.get ey
    exact ⟨c, r, h1, by rw [List.getElem?_append_left (by rw [← h.len]; exact l)]; exact h2, h3⟩
  · rw [List.getElem?_append_right l] at ey
    have l2 : i - ys.length = 0 := by
      rcases Nat.eq_zero_or_pos (i - ys.length) with z | z
      · exact z
      · rw [List.getElem?_eq_none (by show 1 ≤ _; omega)] at ey
        cases ey
    rw [l2] at ey
    cases ey
    exact ⟨t, g, rfl, by rw [List.getElem?_append_right (by rw [← h.len]; exact l), ← h.len, l2]; rfl, e⟩
def spTabOf (P1 : Addr) : Sp := fun vs H Q _ => ∃ (p : Int) (t1 a : Addr) (hs : List Int) (gs : List (List Int)) (k : Zm.Kd) (xs : List V) (rs : List Row), vs = [.int p, .ref t1, .ref a] ∧ p ∈ ([2, 3, 5, 7, 11, 13] : List Int) ∧ HdAt H t1 hs ∧ At k H a xs ∧ Rws p hs.length H xs rs ∧ xs.length ≤ 200 ∧ gs.length = hs.length ∧ (∀ g ∈ gs, g.length = hs.length ∧ Rg p g) ∧ Span p rs (Lin.unitsP p hs gs) ∧ GxR.TabG H P1 ∧
  ∀ t ys H', Sm H H' → H' t = some (.tup ys) → Trs H' ys gs → Q (.ref t) H'
set_option maxHeartbeats 1000000 in
theorem ok_table_of (T : Tx K mg A) (B : Tb K mg base A C) : FnOk P w K mg base CX0 7 A.f_table_of A.d_table_of ["p", "hold", "rows"] (spTabOf C.p_table_of) := by
  have G_side_leads : FnOk P w K mg base CX0 4 A.f_side_leads A.d_side_leads ["p", "hold", "rows"] spSLeads := ok_side_leads T
  refine B.k_table_of.ok sc_table_of (fun vs H Q E h => ?_) (fun A outer s H vs Q E hr h => ?_)
  · obtain ⟨p, t1, a, hs, gs, k, xs, rs, rfl, _⟩ := h
    rfl
  · obtain ⟨p, t1, a, hs, gs, k, xs, rs, rfl, hp, hh, ha, hrs, hxl, gl, gok, sp, tg, q⟩ := h
    have pall : ∀ p ∈ ([2, 3, 5, 7, 11, 13] : List Int), 2 ≤ p ∧ p ≤ 13 := by decide
    obtain ⟨p2, p13⟩ := pall p hp
    have p1 : 1 < p := by omega
    have hl := hh.len
    refine ⟨_, (pss_cons (ps_set (i := 3) sc_table_of.nd rfl (.inr rfl) (pe_callB call_len_seq (by rfl) T.b_len PySem.boot_len (pa_cons (pv 1) pa_nil)))
        (pss_cons (ps_set (i := 4) sc_table_of.nd rfl (.inr rfl) (pe_call G_side_leads (hr.mono (by decide)) (by rfl) T.d_side_leads.g T.d_side_leads.F.kp T.d_side_leads.b .nil pass0 (pa_cons (pv 0) (pa_cons (pv 1) (pa_cons (pv 2) pa_nil)))))
        (pss_cons (ps_if (pt_val (pe_callB (cr_any rfl) (by rfl) T.b_any PyProof.Rows.boot_any (pa_cons (pe_lock (pe_lc (own := [("place", 5)]) rfl sc_table_of.nd (pi_keys (pv 4)) (blkOk_by (N := N_table_of) (sc := defScope s_table_of) (by decide +kernel)) (fun _ _ _ _ _ => (pg_name (i := 5) sc_table_of.nd rfl (.inl rfl))) (fun _ _ _ _ _ => pts_nil) (fun _ _ _ _ _ => (pe_cmpR op_ge (pv 5) (pv 3) (nomark _))))) pa_nil)))
        (pss_one (ps_ret pe_non))
        pss_nil)
        (pss_one (ps_ret (Gx.pe_tupGx (k := 1) (own := [("post", 6)]) (g := (gName 6)) rfl hr sc_table_of.nd (by rfl) T.b_tuple B.t_table_of rfl (pi_range1 (by rfl) T.b_range (pa_cons (pv 3) pa_nil)) (blkOk_by (N := N_table_of) (sc := defScope s_table_of) (by decide +kernel)) rfl rfl (fun _ _ _ _ _ _ => (pg_name (i := 6) sc_table_of.nd rfl (.inl rfl) (.inr rfl))) (fun _ _ _ _ _ _ hq => (pe_callTy (show CallR _ _ (rTupOf K) from call_tuple_of) (by rfl) T.b_tuple PyProof.Rows.boot_tuple (pa_cons (pe_slice (show SlR _ (rSlL K) from sl_list) (pe_dget (hu_of (hq.deeper _)) (pv 4) (pv 6) (fun _ _ => rfl)) (po_some (pv 3)) po_none) pa_nil))) (fun _ => rfl))))))), ?_⟩
    refine ⟨.ref t1, rfl, t1, _, rfl, .inr (SqT.of hh.at_), ?_⟩
    rw [List.length_map]
    refine ⟨.int p, rfl, .ref t1, rfl, .ref a, rfl, p, t1, a, hs, k, xs, rs, rfl, hp, hh, ha, hrs, hxl, fun d kvs L H1 s1 ed kv pl up => ?_⟩
    have eL := Lin.lead_table p1 gl gok pl up (Lin.span_sd (fun r hr => (hrs.fit r hr).2) (fun r hr => (Lin.units_fit p1 r hr).2) sp)
    have Ll : L.length = hs.length := by
      rw [eL, List.length_zip, List.length_map, List.length_range, Nat.min_self]
    have Lg : ∀ {i : Nat}, i < hs.length → L[i]? = some (i, Lin.unitL hs.length i ++ gs.getD i []) := fun {i} hi => by
      rw [eL]
      unfold List.zip
      rw [List.getElem?_zipWith, List.getElem?_range hi, List.getElem?_map, List.getElem?_range hi]
      rfl
    have hn := kv.len
    refine ⟨d, .dK kvs, ed, trivial, fun od => ⟨.ref d, rfl, d, od, rfl, .inl ⟨kvs, upd_same, fun D hD => ?_⟩⟩⟩
    have kv0 := kv.lock (o := .frz od (.dK kvs)) ed
    have nD : D ≠ d := fun z => by
      rw [z, upd_same] at hD
      cases hD
    refine lc_it walk_keys (fun i H' => Sm (upd H1 d (.frz od (.dK kvs))) H' ∧ H' d = some (.frz od (.dK kvs)) ∧ H' D = some (.lst ((List.replicate i false).map V.bl))) ⟨.new hD, by rw [upd_ne nD.symm]; exact upd_same, upd_same⟩ (fun i H' _ h => h.2.1) ?_ ?_
    · rintro i x H2 H3 hi ⟨s2, e2, eD⟩ ⟨rfl, key, v, ek, rfl⟩
      have hi2 : i < hs.length := by omega
      obtain ⟨b, eb, fb⟩ := (kv0.sm s2).get (Lg hi2)
      rw [ek] at eb
      cases eb
      refine ⟨rfl, .int (i : Nat), rfl, .int (hs.length : Nat), rfl, _, _, rfl, rfl, _, eD, ?_, s2.put hD, ?_, ?_⟩
      · rw [List.length_map, List.length_replicate]
        exact small (by omega)
      · rw [upd_ne nD.symm]
        exact e2
      · rw [upd_same, List.replicate_succ', List.map_append]
        have e : decide (((hs.length : Nat) : Int) ≤ (i : Nat)) = false := decide_eq_false (by omega)
        show some (HO.lst (_ ++ [V.bl (decide (((hs.length : Nat) : Int) ≤ (i : Nat)))])) = _
        rw [e]
        rfl
    · rintro H2 ⟨s2, e2, eD⟩
      have s3 : Sm H1 (upd H2 d (.dK kvs)) := s2.unlock ed
      have eD3 : upd H2 d (.dK kvs) D = _ := (upd_ne nD).trans eD
      have kv3 := kv.sm s3
      refine ⟨e2, D, _, rfl, SqL.of eD3, _, rfl, ite2 (fun z => ?_) (fun _ => ?_)⟩
      · exfalso
        rw [List.any_eq_true] at z
        obtain ⟨b, h1, h2⟩ := z
        rw [List.eq_of_mem_replicate h1] at h2
        cases h2
      · refine ⟨.int (hs.length : Nat), rfl, _, rfl, by omega, by omega, s3.tb _ (s1.tb _ tg), fun H4 tb => ?_⟩
        have s4 := Sm.tabbed (s3.tb _ (s1.tb _ tg)) tb
        have nP : d ≠ C.p_table_of := fun z => by
          obtain ⟨ps, e, _⟩ := s3.tb _ (s1.tb _ tg)
          rw [← z, upd_same] at e
          cases e
        have ed4 : H4 d = some (.dK kvs) := (tb.2 d nP).trans upd_same
        refine gx_it walk_range (fun i zs H' => Sm H4 H' ∧ H' d = some (.dK kvs) ∧ Trs H' zs (gs.take i)) ⟨.refl _, ed4, rfl, fun e => by simp at e⟩ (fun i zs H' _ h => trivial) ?_ ?_
        · rintro i x zs H5 H6 hi ⟨s5, e5, tr⟩ ⟨rfl, rfl⟩
          rw [Int.toNat_natCast] at hi
          have kv5 := (kv3.sm s4).sm s5
          obtain ⟨c, ec, fc⟩ := kv5.val pl.nd (List.mem_of_getElem? (Lg hi))
          have gi : gs[i]? = some (gs.getD i []) := by
            rw [List.getD_eq_getElem?_getD, List.getElem?_eq_getElem (by omega)]
            rfl
          have cu := cut_fromI (us := Lin.unitL hs.length i ++ gs.getD i []) (n := hs.length) (by rw [List.length_append, Lin.unit_len]; omega)
          rw [List.drop_left' Lin.unit_len] at cu
          have zl := tr.len
          rw [List.length_take] at zl
          refine ⟨rfl, .ref d, rfl, .int (0 + (i : Nat)), rfl, d, .ref c, rfl, .inl ⟨kvs, Sum.inl (i : Nat), .inl e5, by rw [Int.zero_add]; rfl, ec.symm⟩, .int (hs.length : Nat), rfl, _, rfl, c, _, rfl, SqL.of fc, fun t1 h1 => ?_⟩
          refine ⟨t1, _, rfl, .inl ⟨SqL.of upd_same, fun t2 h2 => ⟨small (by omega), (s5.trans (.new h1)).trans (.new h2), same_upd h2 _ _ (same_upd h1 _ _ e5), ?_⟩⟩⟩
          rw [take_snoc gi]
          refine Trs.snoc ((tr.same (same_upd h1)).same (same_upd h2)) ?_
          rw [upd_same, ← cu]
        · rintro zs H5 ⟨s5, e5, tr⟩ t ht
          rw [Int.toNat_natCast, List.take_of_length_le (by omega)] at tr
          exact q t zs _ ((((s1.trans s3).trans s4).trans s5).trans (.new ht)) upd_same (tr.same (same_upd ht))
-- CUT
/-! ### the table of a hold, or none -/
theorem inv_six {p : Int} (hp : p ∈ ([2, 3, 5, 7, 11, 13] : List Int)) : ∀ u, 0 < u → u < p → ∃ c, c * u % p = 1 := fun u h0 h1 => ⟨_, (pw_inv hp h0 h1).2.2⟩
def spTabG (P1 : Addr) : Sp := fun vs H Q _ => ∃ (p : Int) (t1 a : Addr) (hs : List Int) (k : Zm.Kd) (xs : List V) (rs : List Row), vs = [.int p, .ref t1, .ref a] ∧ p ∈ ([2, 3, 5, 7, 11, 13] : List Int) ∧ HdAt H t1 hs ∧ At k H a xs ∧ Rws p hs.length H xs rs ∧ Lin.Lag p hs.length rs ∧ GxR.TabG H P1 ∧
  (¬ Lin.Std p hs rs → ∀ H', Sm H H' → Q .non H') ∧ ∀ gs t ys H', Lin.Std p hs rs → Lin.Tbl p hs.length gs → Span p rs (Lin.unitsP p hs gs) → Sm H H' → H' t = some (.tup ys) → Trs H' ys gs → Q (.ref t) H'
theorem any_place {n : Nat} {L : List (Nat × List Int)} : ((L.map fun x => decide (((n : Nat) : Int) ≤ (x.1 : Nat))).any id = true) ↔ ¬ ∀ x ∈ L, x.1 < n := by
  rw [List.any_map, List.any_eq_true]
  constructor
  · rintro ⟨x, hx, h⟩ k
    have := k x hx
    have h' := of_decide_eq_true h
    omega
  · intro h
    refine Classical.byContradiction fun z => h fun x hx => ?_
    rcases Nat.lt_or_ge x.1 n with k | k
    · exact k
    · exact absurd ⟨x, hx, decide_eq_true (by omega)⟩ z
set_option maxHeartbeats 1000000 in
theorem ok_table_ofG (T : Tx K mg A) (B : Tb K mg base A C) : FnOk P w K mg base CX0 7 A.f_table_of A.d_table_of ["p", "hold", "rows"] (spTabG C.p_table_of) := by
  have G_side_leads : FnOk P w K mg base CX0 4 A.f_side_leads A.d_side_leads ["p", "hold", "rows"] spSLeads := ok_side_leads T
  refine B.k_table_of.ok sc_table_of (fun vs H Q E h => ?_) (fun A outer s H vs Q E hr h => ?_)
  · obtain ⟨p, t1, a, hs, k, xs, rs, rfl, _⟩ := h
    rfl
  · obtain ⟨p, t1, a, hs, k, xs, rs, rfl, hp, hh, ha, hrs, lag, tg, qn, q⟩ := h
    have pall : ∀ p ∈ ([2, 3, 5, 7, 11, 13] : List Int), 2 ≤ p ∧ p ≤ 13 := by decide
    obtain ⟨p2, p13⟩ := pall p hp
    have p1 : 1 < p := by omega
    have hl := hh.len
    have xl := hrs.len
    have rl := lag.len
    refine ⟨_, (pss_cons (ps_set (i := 3) sc_table_of.nd rfl (.inr rfl) (pe_callB call_len_seq (by rfl) T.b_len PySem.boot_len (pa_cons (pv 1) pa_nil)))
        (pss_cons (ps_set (i := 4) sc_table_of.nd rfl (.inr rfl) (pe_call G_side_leads (hr.mono (by decide)) (by rfl) T.d_side_leads.g T.d_side_leads.F.kp T.d_side_leads.b .nil pass0 (pa_cons (pv 0) (pa_cons (pv 1) (pa_cons (pv 2) pa_nil)))))
        (pss_cons (ps_if (pt_val (pe_callB (cr_any rfl) (by rfl) T.b_any PyProof.Rows.boot_any (pa_cons (pe_lock (pe_lc (own := [("place", 5)]) rfl sc_table_of.nd (pi_keys (pv 4)) (blkOk_by (N := N_table_of) (sc := defScope s_table_of) (by decide +kernel)) (fun _ _ _ _ _ => (pg_name (i := 5) sc_table_of.nd rfl (.inl rfl))) (fun _ _ _ _ _ => pts_nil) (fun _ _ _ _ _ => (pe_cmpR op_ge (pv 5) (pv 3) (nomark _))))) pa_nil)))
        (pss_one (ps_ret pe_non))
        pss_nil)
        (pss_one (ps_ret (Gx.pe_tupGx (k := 1) (own := [("post", 6)]) (g := (gName 6)) rfl hr sc_table_of.nd (by rfl) T.b_tuple B.t_table_of rfl (pi_range1 (by rfl) T.b_range (pa_cons (pv 3) pa_nil)) (blkOk_by (N := N_table_of) (sc := defScope s_table_of) (by decide +kernel)) rfl rfl (fun _ _ _ _ _ _ => (pg_name (i := 6) sc_table_of.nd rfl (.inl rfl) (.inr rfl))) (fun _ _ _ _ _ _ hq => (pe_callTy (show CallR _ _ (rTupOf K) from call_tuple_of) (by rfl) T.b_tuple PyProof.Rows.boot_tuple (pa_cons (pe_slice (show SlR _ (rSlL K) from sl_list) (pe_dget (hu_of (hq.deeper _)) (pv 4) (pv 6) (fun _ _ => rfl)) (po_some (pv 3)) po_none) pa_nil))) (fun _ => rfl))))))), ?_⟩
    refine ⟨.ref t1, rfl, t1, _, rfl, .inr (SqT.of hh.at_), ?_⟩
    rw [List.length_map]
    refine ⟨.int p, rfl, .ref t1, rfl, .ref a, rfl, p, t1, a, hs, k, xs, rs, rfl, hp, hh, ha, hrs, by omega, fun d kvs L H1 s1 ed kv pl up => ?_⟩
    have Ll := Lin.lead_many p1 (inv_six hp) lag pl
    have hn := kv.len
    refine ⟨d, .dK kvs, ed, trivial, fun od => ⟨.ref d, rfl, d, od, rfl, .inl ⟨kvs, upd_same, fun D hD => ?_⟩⟩⟩
    have kv0 := kv.lock (o := .frz od (.dK kvs)) ed
    have nD : D ≠ d := fun z => by
      rw [z, upd_same] at hD
      cases hD
    refine lc_it walk_keys (fun i H' => Sm (upd H1 d (.frz od (.dK kvs))) H' ∧ H' d = some (.frz od (.dK kvs)) ∧ H' D = some (.lst (((L.take i).map fun x => decide (((hs.length : Nat) : Int) ≤ (x.1 : Nat))).map V.bl))) ⟨.new hD, by rw [upd_ne nD.symm]; exact upd_same, upd_same⟩ (fun i H' _ h => h.2.1) ?_ ?_
    · rintro i x H2 H3 hi ⟨s2, e2, eD⟩ ⟨rfl, key, v, ek, rfl⟩
      have hi2 : i < L.length := by omega
      obtain ⟨b, eb, fb⟩ := (kv0.sm s2).get (i := i) (q := (L[i]).1) (us := (L[i]).2) (List.getElem?_eq_getElem hi2)
      rw [ek] at eb
      cases eb
      refine ⟨rfl, .int ((L[i]).1 : Nat), rfl, .int (hs.length : Nat), rfl, _, _, rfl, rfl, _, eD, ?_, s2.put hD, ?_, ?_⟩
      · rw [List.length_map, List.length_map, List.length_take]
        exact small (by omega)
      · rw [upd_ne nD.symm]
        exact e2
      · rw [upd_same, take_snoc (List.getElem?_eq_getElem hi2), List.map_append, List.map_append]
        rfl
    · rintro H2 ⟨s2, e2, eD⟩
      rw [hn, List.take_length] at eD
      have s3 : Sm H1 (upd H2 d (.dK kvs)) := s2.unlock ed
      have eD3 : upd H2 d (.dK kvs) D = _ := (upd_ne nD).trans eD
      have kv3 := kv.sm s3
      refine ⟨e2, D, _, rfl, SqL.of eD3, _, rfl, ite2 (fun z => ?_) (fun z => ?_)⟩
      · exact qn (fun st => any_place.mp z ((Lin.std_iff p1 (fun r hr => (lag.fit r hr).2) pl).mp st)) _ (s1.trans s3)
      · have lt : ∀ x ∈ L, x.1 < hs.length := Classical.byContradiction fun k => z (any_place.mpr k)
        have st := (Lin.std_iff p1 (fun r hr => (lag.fit r hr).2) pl).mpr lt
        obtain ⟨gs, tbl, Lg, sp⟩ := Lin.table_get p1 (inv_six hp) lag pl up lt
        have gl := tbl.len
        refine ⟨.int (hs.length : Nat), rfl, _, rfl, by omega, by omega, s3.tb _ (s1.tb _ tg), fun H4 tb => ?_⟩
        have s4 := Sm.tabbed (s3.tb _ (s1.tb _ tg)) tb
        have nP : d ≠ C.p_table_of := fun z => by
          obtain ⟨ps, e, _⟩ := s3.tb _ (s1.tb _ tg)
          rw [← z, upd_same] at e
          cases e
        have ed4 : H4 d = some (.dK kvs) := (tb.2 d nP).trans upd_same
        refine gx_it walk_range (fun i zs H' => Sm H4 H' ∧ H' d = some (.dK kvs) ∧ Trs H' zs (gs.take i)) ⟨.refl _, ed4, rfl, fun e => by simp at e⟩ (fun i zs H' _ h => trivial) ?_ ?_
        · rintro i x zs H5 H6 hi ⟨s5, e5, tr⟩ ⟨rfl, rfl⟩
          rw [Int.toNat_natCast] at hi
          have kv5 := (kv3.sm s4).sm s5
          obtain ⟨c, ec, fc⟩ := kv5.val pl.nd (List.mem_of_getElem? (Lg i hi))
          have gi : gs[i]? = some (gs.getD i []) := by
            rw [List.getD_eq_getElem?_getD, List.getElem?_eq_getElem (by omega)]
            rfl
          have cu := cut_fromI (us := Lin.unitL hs.length i ++ gs.getD i []) (n := hs.length) (by rw [List.length_append, Lin.unit_len]; omega)
          rw [List.drop_left' Lin.unit_len] at cu
          have zl := tr.len
          rw [List.length_take] at zl
          refine ⟨rfl, .ref d, rfl, .int (0 + (i : Nat)), rfl, d, .ref c, rfl, .inl ⟨kvs, Sum.inl (i : Nat), .inl e5, by rw [Int.zero_add]; rfl, ec.symm⟩, .int (hs.length : Nat), rfl, _, rfl, c, _, rfl, SqL.of fc, fun t1 h1 => ?_⟩
          refine ⟨t1, _, rfl, .inl ⟨SqL.of upd_same, fun t2 h2 => ⟨small (by omega), (s5.trans (.new h1)).trans (.new h2), same_upd h2 _ _ (same_upd h1 _ _ e5), ?_⟩⟩⟩
          rw [take_snoc gi]
          refine Trs.snoc ((tr.same (same_upd h1)).same (same_upd h2)) ?_
          rw [upd_same, ← cu]
        · rintro zs H5 ⟨s5, e5, tr⟩ t ht
          rw [Int.toNat_natCast, List.take_of_length_le (by omega)] at tr
          exact q gs t zs _ st tbl sp ((((s1.trans s3).trans s4).trans s5).trans (.new ht)) upd_same (tr.same (same_upd ht))
-- CUT
theorem At.len2 {k : Zm.Kd} {H : Hp} {a : Addr} {xs : List V} (h : At k H a xs) : SqL K H a xs ∨ SqT K H a xs := match k, h with
  | .l, h => .inl (SqL.of h)
  | .t, h => .inr (SqT.of h)
/-! ### mending -/
theorem Trs.sm {H H' : Hp} {ys : List V} {gs : List (List Int)} (h : Trs H ys gs) (s : Sm H H') : Trs H' ys gs := ⟨h.len, fun e => let ⟨a, u, h1, h2, h3⟩ := h.get e; ⟨a, u, h1, h2, s.tup h3⟩⟩
theorem Trs.putL {H : Hp} {ys zs : List V} {gs : List (List Int)} {L : Addr} {o : HO} (h : Trs H ys gs) (e : H L = some (.lst zs)) : Trs (upd H L o) ys gs := ⟨h.len, fun e1 => let ⟨a, u, h1, h2, h3⟩ := h.get e1; ⟨a, u, h1, h2, by rw [upd_ne (ne_of h3 e (by intro z; cases z))]; exact h3⟩⟩
theorem Trs.app {H : Hp} {xs ys : List V} {fs gs : List (List Int)} (h : Trs H xs fs) (h2 : Trs H ys gs) : Trs H (xs ++ ys) (fs ++ gs) := by
  refine ⟨by rw [List.length_append, List.length_append, h.len, h2.len], fun {i x} e => ?_⟩
  by_cases hi : i < xs.length
  · rw [List.getElem?_append_left hi] at e
    rw [List.getElem?_append_left (by rw [← h.len]; exact hi)]
    exact h.get e
  · rw [List.getElem?_append_right (by omega)] at e
    rw [List.getElem?_append_right (by rw [← h.len]; omega), ← h.len]
    exact h2.get e
theorem in_natM {x : Nat} {qs : List Nat} : inV (.int (x : Nat)) (natV qs) = decide (x ∈ qs) := by
  unfold inV natV
  rw [List.any_map, Bool.eq_iff_iff, List.any_eq_true, decide_eq_true_iff]
  constructor
  · rintro ⟨y, hy, e⟩
    have e2 : ((y : Nat) : Int) = (x : Nat) := by simpa [eqV] using e
    have e3 : y = x := by omega
    rw [← e3]
    exact hy
  · intro h
    exact ⟨x, h, by simp [eqV]⟩
theorem flat_natM {qs : List Nat} : (natV qs).all flatV = true := by
  unfold natV
  rw [List.all_map, List.all_eq_true]
  intro x _
  rfl
theorem first_is {p : Int} {n : Nat} {fs : List (List Int)} {M : List (Nat × List Int)} (p1 : 1 < p) (pm : PL p n fs M) {x : Nat × List Int} (hx : x ∈ M) {i : Nat} {u : Int} (e : x.2[i]? = some u) (nz : u ≠ 0) (ah : ∀ j, j < i → x.2[j]? = some 0) : i = x.1 := by
  have mx : (x.1, vec x.2) ∈ Lin.vecs M := Lin.mem_vecs.mpr ⟨x, hx, rfl⟩
  rcases Nat.lt_trichotomy i x.1 with k | k | k
  · exfalso
    have z := pm.ahead _ mx i k
    have z' : Lin.Cg p (vec x.2 i) 0 := z
    rw [Lin.vec_some e] at z'
    have := pm.rg x hx u (List.mem_of_getElem? e)
    exact nz (Lin.cg_eq this ⟨Int.le_refl 0, by omega⟩ z')
  · exact k
  · exfalso
    have s : Lin.Cg p (vec x.2 x.1) 1 := pm.leads.self _ mx
    rw [Lin.vec_some (ah _ k)] at s
    exact Lin.one_zero p1 s.symm
def spOthS (P1 : Addr) : Sp := fun vs H Q _ => ∃ (t1 b : Addr) (hs : List Int) (k : Zm.Kd) (ps : List Nat), vs = [.ref t1, .ref b] ∧ HdAt H t1 hs ∧ At k H b (natV ps) ∧ GxR.TabG H P1 ∧ ∀ t H', Sm H H' → HdAt H' t (Lin.flipL hs ps) → Q (.ref t) H'
set_option maxHeartbeats 2000000 in
theorem ok_other_sides (T : Tx K mg A) (B : Tb K mg base A C) : FnOk P w K mg base CX0 6 A.f_other_sides A.d_other_sides ["hold", "posts"] (spOthS C.p_other_sides) := by
  refine B.k_other_sides.ok sc_other_sides (fun vs H Q E h => ?_) (fun A outer s H vs Q E hr h => ?_)
  · obtain ⟨t1, b, hs, k, ps, rfl, _⟩ := h
    rfl
  · obtain ⟨t1, b, hs, k, ps, rfl, hh, hb, tg, q⟩ := h
    have hl := hh.len
    refine ⟨_, (pss_one (ps_ret (Gx.pe_tupGx (k := 0) (own := [("post", 2), ("side", 3)]) (g := (gTup K 2 (gCons (gName 2) (gCons (gName 3) gNil)))) rfl hr sc_other_sides.nd (by rfl) T.b_tuple B.t_other_sides rfl (En.pi_enumK (by rfl) T.b_enumerate (pa_cons (pv 0) pa_nil)) (blkOk_by (N := N_other_sides) (sc := defScope s_other_sides) (by decide +kernel)) rfl rfl (fun _ _ _ _ _ _ => (pg_tup rfl (pgs_cons (pg_name (i := 2) sc_other_sides.nd rfl (.inl rfl) (.inr rfl)) (pgs_cons (pg_name (i := 3) sc_other_sides.nd rfl (.inl rfl) (.inr rfl)) pgs_nil)))) (fun _ _ _ _ _ _ hq => (pe_ifExp (pt_cmpR (show OpR _ _ (rIn K false) from op_in_seq) (pv 2) (pv 1) (by rfl)) (pe_op op_sub pe_int (pv 3)) (pv 3))) (fun _ => rfl)))), ?_⟩
    refine ⟨.ref t1, rfl, .t, t1, _, rfl, SqT.of hh.at_, tg, fun H2 tb => ?_⟩
    have s2 := Sm.tabbed tg tb
    refine gx_it En.walkE (fun i ws H' => Sm H H' ∧ ws = ((Lin.flipL hs ps).take i).map V.int) ⟨s2, rfl⟩ (fun i ws H' _ h => SqT.of (h.1.tup hh.at_)) ?_ ?_
    · rintro i x ws H3 H4 hi ⟨s3, rfl⟩ ⟨T1, y, x, rfl, hT, rfl, hy, hx⟩
      cases hy
      dsimp only at hx
      rw [List.length_map] at hi
      rw [List.getElem?_map, vec_get hi] at hx
      cases hx
      have s4 := s3.trans (.new (o := .tup [.int (i : Nat), .int (vec hs i)]) hT)
      refine ⟨T1, [.int (i : Nat), .int (vec hs i)], rfl, SqT.of upd_same, rfl, .int (i : Nat), [.int (vec hs i)], rfl, .int (vec hs i), [], rfl, rfl, rfl, ?_⟩
      have ef : (Lin.flipL hs ps)[i]? = some (if i ∈ ps then 1 - vec hs i else vec hs i) := by
        rw [vec_get (by rw [Lin.flip_len]; exact hi), Lin.flip_at hi]
      have wl : (((Lin.flipL hs ps).take i).map V.int).length < sizeLine := by
        rw [List.length_map, List.length_take, Lin.flip_len]
        exact small (by omega)
      refine ⟨.int (i : Nat), rfl, .ref b, rfl, b, _, rfl, (hb.sm s4).len2, rfl, flat_natM, _, rfl, ?_⟩
      rw [in_natM]
      by_cases m : i ∈ ps
      · rw [decide_eq_true m]
        rw [if_pos m] at ef
        refine ⟨.int (vec hs i), rfl, 1, vec hs i, rfl, rfl, wl, s4, ?_⟩
        rw [take_snoc ef, List.map_append]
        rfl
      · rw [decide_eq_false m]
        rw [if_neg m] at ef
        refine ⟨.int (vec hs i), rfl, wl, s4, ?_⟩
        rw [take_snoc ef, List.map_append]
        rfl
    · rintro ws H3 ⟨s3, rfl⟩ t2 ht2
      rw [List.length_map, List.take_of_length_le (by rw [Lin.flip_len]; exact Nat.le_refl _)]
      exact q t2 _ (s3.trans (.new ht2)) ⟨upd_same, Lin.flip_bits hh.bit, by rw [Lin.flip_len]; exact hl⟩
/-! the rows of a table -/
def spRbt (P1 : Addr) : Sp := fun vs H Q _ => ∃ (p : Int) (t1 t2 : Addr) (hs : List Int) (gs : List (List Int)) (ys : List V), vs = [.int p, .ref t1, .ref t2] ∧ 1 < p ∧ p ≤ 13 ∧ HdAt H t1 hs ∧ H t2 = some (.tup ys) ∧ Trs H ys gs ∧ gs.length = hs.length ∧ (∀ g ∈ gs, g.length = hs.length ∧ Rg p g) ∧ GxR.TabG H P1 ∧
  ∀ b xs H', Sm H H' → H' b = some (.lst xs) → Rws p hs.length H' xs (Lin.unitsP p hs gs) → Q (.ref b) H'
set_option maxHeartbeats 1000000 in
theorem ok_rows_by_table (T : Tx K mg A) (B : Tb K mg base A C) : FnOk P w K mg base CX0 7 A.f_rows_by_table A.d_rows_by_table ["p", "hold", "table"] (spRbt C.p_row_of_sides) := by
  have G_row_of_sides : FnOk P w K mg base CX0 6 A.f_row_of_sides A.d_row_of_sides ["p", "hold", "held", "told"] (spRos C.p_row_of_sides) := ok_row_of_sides T B
  refine T.d_rows_by_table.F.ok sc_rows_by_table (fun vs H Q E h => ?_) (fun cdv A outer s H vs Q E hr h => ?_)
  · obtain ⟨p, t1, t2, hs, gs, ys, rfl, _⟩ := h
    rfl
  · obtain ⟨p, t1, t2, hs, gs, ys, rfl, p1, p13, hh, ht, tr, gl, gok, tg, q⟩ := h
    have hl := hh.len
    refine ⟨_, (pss_cons (ps_set (i := 3) sc_rows_by_table.nd rfl (.inr rfl) (pe_callB call_len_seq (by rfl) T.b_len PySem.boot_len (pa_cons (pv 1) pa_nil)))
        (pss_cons (ps_setLc (i := 4) (own := [("post", 5)]) rfl sc_rows_by_table.nd rfl rfl (sw_true rfl rfl rfl (by decide +kernel)) (pi_range1 (by rfl) T.b_range (pa_cons (pv 3) pa_nil)) (blkOk_by (N := N_rows_by_table) (sc := defScope s_rows_by_table) (by decide +kernel)) (fun _ _ _ _ _ => (pg_name (i := 5) sc_rows_by_table.nd rfl (.inr rfl))) (fun _ _ _ _ _ => pts_nil) (fun _ _ _ _ _ => (pe_lc (own := [("other", 6)]) rfl sc_rows_by_table.nd (pi_range1 (by rfl) T.b_range (pa_cons (pv 3) pa_nil)) (blkOk_by (N := N_rows_by_table) (by kernel_rfl)) (fun _ _ _ _ _ => (pg_name (i := 6) sc_rows_by_table.nd rfl (.inl rfl))) (fun _ _ _ _ _ => pts_nil) (fun _ _ _ _ _ => (pe_ifExp (pt_cmpR op_eq (pv 6) (pv 5) (nomark _)) pe_int pe_int)))))
        (pss_one (ps_ret (pe_lc (own := [("held", 7), ("told", 8)]) (g := (gTup K 2 (gCons (gName 7) (gCons (gName 8) gNil)))) rfl sc_rows_by_table.nd (Zm.pi_zipK (by rfl) T.b_zip (pa_cons (pv 4) (pa_cons (pv 2) pa_nil))) (blkOk_by (N := N_rows_by_table) (sc := defScope s_rows_by_table) (by decide +kernel)) (fun _ _ _ _ _ => (pg_tup rfl (pgs_cons (pg_name (i := 7) sc_rows_by_table.nd rfl (.inl rfl)) (pgs_cons (pg_name (i := 8) sc_rows_by_table.nd rfl (.inl rfl)) pgs_nil)))) (fun _ _ _ _ _ => pts_nil) (fun _ _ _ _ _ => (pe_call G_row_of_sides hr (by rfl) T.d_row_of_sides.g T.d_row_of_sides.F.kp T.d_row_of_sides.b .nil pass0 (pa_cons (pv 0) (pa_cons (pv 1) (pa_cons (pv 7) (pa_cons (pv 8) pa_nil))))))))))), ?_⟩
    refine ⟨.ref t1, rfl, t1, _, rfl, .inr (SqT.of hh.at_), ?_⟩
    rw [List.length_map]
    refine ⟨.int (hs.length : Nat), rfl, (hs.length : Nat), rfl, by omega, by omega, fun D hD => lc_range (fun i H' => Same H H' ∧ ∃ zs, H' D = some (.lst zs) ∧ V.ref D ∉ zs ∧ Fls .l H' zs ((List.range i).map (Lin.unitL hs.length))) ⟨same_upd hD, [], upd_same, by simp, by simpa using Fls.nil⟩ ?_ ?_⟩
    · rintro i H1 hi ⟨s1, zs, eD, nD, fz⟩
      rw [Int.toNat_natCast] at hi
      refine ⟨rfl, .int (hs.length : Nat), rfl, (hs.length : Nat), rfl, by omega, by omega, fun D2 hD2 => lc_range (fun j H' => Same H1 H' ∧ H' D2 = some (.lst (((List.range j).map fun j => if j = i then (1 : Int) else 0).map V.int))) ⟨same_upd hD2, upd_same⟩ ?_ ?_⟩
      · rintro j H2 hj ⟨s2, e2⟩
        rw [Int.toNat_natCast] at hj
        have lz : ((((List.range j).map fun j => if j = i then (1 : Int) else 0)).map V.int).length < sizeLine := by
          rw [List.length_map, List.length_map, List.length_range]
          exact small (by omega)
        refine ⟨rfl, .int (0 + (j : Nat)), rfl, .int (0 + (i : Nat)), rfl, rfl, _, rfl, ite2 (fun e => ?_) (fun e => ?_)⟩
        · have e' : j = i := by
            have := V.int.inj (of_decide_eq_true e)
            omega
          refine ⟨_, e2, lz, same_put s2 hD2, ?_⟩
          rw [upd_same, List.range_succ, List.map_append, List.map_append]
          show _ = some (HO.lst (_ ++ [V.int (if j = i then 1 else 0)]))
          rw [if_pos e']
        · have e' : ¬ j = i := fun z => e (decide_eq_true (by rw [z]))
          refine ⟨_, e2, lz, same_put s2 hD2, ?_⟩
          rw [upd_same, List.range_succ, List.map_append, List.map_append]
          show _ = some (HO.lst (_ ++ [V.int (if j = i then 1 else 0)]))
          rw [if_neg e']
      · rintro H2 ⟨s2, e2⟩
        rw [Int.toNat_natCast] at e2
        have eD2 := s2 _ _ eD
        have neD : D ≠ D2 := ne_of_none eD hD2
        have nD' : V.ref D ∉ zs ++ [V.ref D2] := fun z => by
          rcases List.mem_append.mp z with z | z
          · exact nD z
          · exact neD (V.ref.inj (List.mem_singleton.mp z))
        have zl := fz.len
        rw [List.length_map, List.length_range] at zl
        refine ⟨zs, eD2, small (by omega), same_put (s1.trans s2) hD, zs ++ [.ref D2], upd_same, nD', ?_⟩
        rw [List.range_succ, List.map_append]
        have z := (fz.sm (.of_same s2)).snoc (f := Lin.unitL hs.length i) e2
        refine ⟨z.len, fun e => ?_⟩
        obtain ⟨c, g, h1, h2, h3⟩ := z.get e
        refine ⟨c, g, h1, h2, ?_⟩
        show L2.upd H2 D _ c = _
        rw [upd_ne]
        · exact h3
        · intro w
          exact nD' (by rw [← w, ← h1]; exact List.mem_of_getElem? e)
    · rintro H1 ⟨s1, zs, eD, nD, fz⟩
      rw [Int.toNat_natCast] at fz
      have zl := fz.len
      rw [List.length_map, List.length_range] at zl
      have yl := tr.len
      refine ⟨.ref D, rfl, .ref t2, rfl, .l, .t, D, t2, _, _, rfl, SqL.of eD, SqT.of (s1 _ _ ht), fun D2 hD2 => lc_it (σ := [some (.int p), some (.ref t1), some (.ref t2), some (.int (hs.length : Nat)), some (.ref D), none, none, none, none]) (vs := [7, 8]) (Zm.walk2 (xs := zs) (ys := ys) (by omega)) (fun i H' => Sm H1 H' ∧ ∃ xs, H' D2 = some (.lst xs) ∧ Rws p hs.length H' xs ((Lin.unitsP p hs gs).take i)) ⟨.new hD2, [], upd_same, by simpa using Rws.nil⟩ (fun i H' _ h => ⟨SqL.of (h.1.lst eD), SqT.of (h.1.tup (s1 _ _ ht))⟩) ?_ ?_⟩
      · rintro i x H2 H3 hi ⟨s2, xs, eD2, rx⟩ ⟨T1, x1, y1, rfl, hT, rfl, hx1, hy1⟩
        obtain ⟨b, us, rfl, eu, fb⟩ := fz.get hx1
        rw [List.getElem?_map, List.getElem?_range (by omega)] at eu
        cases eu
        obtain ⟨c, g, rfl, eg, hc⟩ := tr.get hy1
        obtain ⟨g1, g2⟩ := gok g (List.mem_of_getElem? eg)
        have s3 : Sm H1 (upd H2 T1 (.tup [.ref b, .ref c])) := s2.trans (.new hT)
        have s03 := (Sm.of_same s1).trans s3
        have hb3 : upd H2 T1 (.tup [.ref b, .ref c]) b = some (.lst ((Lin.unitL hs.length i).map V.int)) := s3.lst fb
        have hc3 := s03.tup hc
        refine ⟨T1, [.ref b, .ref c], rfl, SqT.of upd_same, rfl, .ref b, [.ref c], rfl, .ref c, [], rfl, rfl, ?_⟩
        dsimp only [wipe, List.set]
        refine ⟨rfl, .int p, rfl, .ref t1, rfl, .ref b, rfl, .ref c, rfl, p, t1, b, c, .l, .t, hs, Lin.unitL hs.length i, g, rfl, by omega, hh.sm s03, hb3, hc3, Lin.unit_len, g1, Lin.unit_rg p1, g2, s03.tb _ tg, fun t H4 s4 k4 => ?_⟩
        have eD4 := (Sm.trans (.new hT) s4).lst eD2
        have e5 := Lin.told_unit (p := p) (show i < hs.length by omega) eg g1 g2 (by omega)
        have e6 := ros_st (p := p) (hs := hs) (ns := Lin.unitL hs.length i) (gs := gs) (by omega)
        rw [e5] at e6
        rw [e6] at k4
        have xl := rx.len
        rw [List.length_take] at xl
        have e7 : (Lin.unitsP p hs gs)[i]? = some (Lin.stP p hs gs (Lin.unitL hs.length i)) := by
          unfold Lin.unitsP
          rw [List.getElem?_map, List.getElem?_range (by omega)]
          rfl
        refine ⟨xs, eD4, small (by omega), (s3.trans s4).put hD2, xs ++ [.ref t], upd_same, ?_⟩
        rw [take_snoc e7]
        exact (((rx.sm (.new hT)).sm s4).snoc k4).put eD4
      · rintro H2 ⟨s2, xs, eD2, rx⟩
        rw [List.take_of_length_le (by rw [Lin.units_len]; omega)] at rx
        exact q D2 xs H2 ((Sm.of_same s1).trans s2) eD2 rx
-- CUT
/-! ### exchanged at some posts, told in a list or a tuple -/
def spFlipK : Sp := fun vs H Q _ => ∃ (a b : Addr) (hs : List Int) (kd : Zm.Kd) (ps : List Nat), vs = [.ref a, .ref b] ∧ HdAt H a hs ∧ At kd H b (natV ps) ∧ ∀ t H', Same H H' → HdAt H' t (Lin.flipL hs ps) → Q (.ref t) H'
theorem ok__law_flippedK (T : Tx K mg A) : FnOk P w K mg base CX0 1 A.f__law_flipped A.d__law_flipped ["_law_hold_here", "_law_posts"] spFlipK := by
  refine T.d__law_flipped.F.ok sc__law_flipped (fun vs H Q E h => ?_) (fun cdv A outer s H vs Q E hr h => ?_)
  · obtain ⟨a, b, hs, kd, ps, rfl, _⟩ := h
    rfl
  · obtain ⟨a, b, hs, kd, ps, rfl, hh, hb, q⟩ := h
    have hsq : ∀ {H' : Hp}, Same H H' → (SqL K H' b (natV ps) ∨ SqT K H' b (natV ps)) := by
      intro H' s
      cases kd
      · exact .inl (SqL.of (s _ _ hb))
      · exact .inr (SqT.of (s _ _ hb))
    have hl := hh.len
    refine ⟨_, (pss_one (ps_ret (pe_callTy call_tuple_of (by rfl) T.b_tuple PyProof.Rows.boot_tuple (pa_cons (pe_lc (own := [("_law_post", 2), ("_law_side", 3)]) (g := (gTup K 2 (gCons (gName 2) (gCons (gName 3) gNil)))) rfl sc__law_flipped.nd (En.pi_enumK (by rfl) T.b_enumerate (pa_cons (pv 0) pa_nil)) (blkOk_by (N := N__law_flipped) (sc := defScope s__law_flipped) (by decide +kernel)) (fun _ _ _ _ _ => (pg_tup rfl (pgs_cons (pg_name (i := 2) sc__law_flipped.nd rfl (.inl rfl)) (pgs_cons (pg_name (i := 3) sc__law_flipped.nd rfl (.inl rfl)) pgs_nil)))) (fun _ _ _ _ _ => pts_nil) (fun _ _ _ _ _ => (pe_ix (show IxR _ (rIxL K) from ix_list) (pe_lst (pa_cons (pv 3) (pa_cons (pe_op op_sub pe_int (pv 3)) pa_nil))) (pe_callTy call_int1 (by rfl) T.b_int PyProof.Rows.boot_int (pa_cons (pe_cmpR (show OpR _ _ (rIn K false) from op_in_seq) (pv 2) (pv 1) (by rfl)) pa_nil)) (fun _ _ => rfl)))) pa_nil)))), ?_⟩
    refine ⟨.ref a, rfl, .t, a, _, rfl, SqT.of hh.at_, fun D hD => lc_it En.walkE (fun i H' => Same H H' ∧ H' D = some (.lst (((Lin.flipL hs ps).take i).map V.int))) ⟨same_upd hD, upd_same⟩ (fun i H' _ h => SqT.of (h.1 _ _ hh.at_)) ?_ ?_⟩
    · rintro i x H3 H4 hi ⟨s3, eD⟩ ⟨T1, y, x, rfl, hT, rfl, hy, hx⟩
      cases hy
      dsimp only at hx
      rw [List.length_map] at hi
      rw [List.getElem?_map, vec_get hi] at hx
      cases hx
      have s4 : Same H (upd H3 T1 (.tup [.int (i : Nat), .int (vec hs i)])) := s3.trans (same_upd hT)
      have eD4 : upd H3 T1 (.tup [.int (i : Nat), .int (vec hs i)]) D = _ := same_upd hT _ _ eD
      refine ⟨T1, [.int (i : Nat), .int (vec hs i)], rfl, SqT.of upd_same, rfl, .int (i : Nat), [.int (vec hs i)], rfl, .int (vec hs i), [], rfl, rfl, rfl, ?_⟩
      generalize upd H3 T1 (.tup [.int (i : Nat), .int (vec hs i)]) = H5 at s4 eD4 ⊢
      have ef : (Lin.flipL hs ps)[i]? = some (if i ∈ ps then 1 - vec hs i else vec hs i) := by
        rw [vec_get (by rw [Lin.flip_len]; exact hi), Lin.flip_at hi]
      have wl : (((Lin.flipL hs ps).take i).map V.int).length < sizeLine := by
        rw [List.length_map, List.length_take, Lin.flip_len]
        exact small (by omega)
      refine ⟨.int (vec hs i), rfl, .int (vec hs i), rfl, 1, vec hs i, rfl, rfl, (by show 2 ≤ sizeLine; decide), fun l hl => ?_⟩
      have s6 : Same H (upd H5 l (.lst [.int (vec hs i), .int (1 - vec hs i)])) := s4.trans (same_upd hl)
      refine ⟨.int (i : Nat), rfl, .ref b, rfl, b, _, rfl, hsq s6, rfl, flat_natM, .inr ⟨_, rfl, ?_⟩⟩
      have done : ∀ x : Int, (Lin.flipL hs ps)[i]? = some x → ∃ acc, upd H5 l (.lst [.int (vec hs i), .int (1 - vec hs i)]) D = some (HO.lst acc) ∧ acc.length < sizeLine ∧ Same H (upd (upd H5 l (.lst [.int (vec hs i), .int (1 - vec hs i)])) D (HO.lst (acc ++ [V.int x]))) ∧ upd (upd H5 l (.lst [.int (vec hs i), .int (1 - vec hs i)])) D (HO.lst (acc ++ [V.int x])) D = some (HO.lst (((Lin.flipL hs ps).take (i + 1)).map V.int)) := fun x ex => by
        refine ⟨_, same_upd hl _ _ eD4, wl, same_put s6 hD, ?_⟩
        rw [upd_same, take_snoc ex, List.map_append]
        rfl
      by_cases m : i ∈ ps
      · rw [if_pos m] at ef
        refine ⟨l, _, 1, .int (1 - vec hs i), rfl, ?_, SqL.of upd_same, rfl, done _ ef⟩
        show V.int (if inV (.int (i : Nat)) (natV ps) = true then 1 else 0) = _
        rw [in_natM, decide_eq_true m]
        rfl
      · rw [if_neg m] at ef
        refine ⟨l, _, 0, .int (vec hs i), rfl, ?_, SqL.of upd_same, rfl, done _ ef⟩
        show V.int (if inV (.int (i : Nat)) (natV ps) = true then 1 else 0) = _
        rw [in_natM, decide_eq_false m]
        rfl
    · rintro H3 ⟨s3, eD⟩
      rw [List.length_map, List.take_of_length_le (by rw [Lin.flip_len]; exact Nat.le_refl _)] at eD
      exact ⟨D, _, rfl, .inl ⟨SqL.of eD, fun t ht => q t _ (s3.trans (same_upd ht)) ⟨upd_same, Lin.flip_bits hh.bit, by rw [Lin.flip_len]; exact hl⟩⟩⟩
/-! ### how much a corner lacks -/
def spInvL : Sp := fun vs H Q _ => ∃ (p n : Int), vs = [.int p, .int n] ∧ p ∈ ([2, 3, 5, 7, 11, 13] : List Int) ∧ 0 < n ∧ n < p ∧ ∀ w H', Same H H' → w * n % p = 1 → 0 < w → w < p → Q (.int w) H'
theorem ok__law_inverse (T : Tx K mg A) : FnOk P w K mg base CX0 1 A.f__law_inverse A.d__law_inverse ["_law_p", "_law_number"] spInvL := by
  refine T.d__law_inverse.F.ok sc__law_inverse (fun vs H Q E h => ?_) (fun cdv A outer s H vs Q E hr h => ?_)
  · obtain ⟨p, n, rfl, _⟩ := h
    rfl
  · obtain ⟨p, n, rfl, hp, n0, n1, q⟩ := h
    have pall : ∀ p ∈ ([2, 3, 5, 7, 11, 13] : List Int), 2 ≤ p ∧ p ≤ 13 := by decide
    obtain ⟨p2, p13⟩ := pall p hp
    obtain ⟨w0, w1, we⟩ := pw_inv hp n0 n1
    generalize pw p n (p - 2).toNat = w at w0 w1 we
    refine ⟨_, (pss_one (ps_ret (pe_ix ix_list (pe_lc (own := [("_law_k", 2)]) rfl sc__law_inverse.nd (pi_range2 (by rfl) T.b_range (pa_cons pe_int (pa_cons (pv 0) pa_nil))) (blkOk_by (N := N__law_inverse) (sc := defScope s__law_inverse) (by decide +kernel)) (fun _ _ _ _ _ => (pg_name (i := 2) sc__law_inverse.nd rfl (.inl rfl))) (fun _ _ _ _ _ => (pts_one (pt_cmpR op_eq (pe_op op_mod (pe_op op_mul (pv 2) (pv 1)) (pv 0)) pe_int (nomark _)))) (fun _ _ _ _ _ => (pv 2))) pe_int (fun _ _ => rfl)))), ?_⟩
    refine ⟨.int p, rfl, 1, p, rfl, ⟨by omega, by omega, by omega, by omega⟩, fun D hD => lc_range (fun i H' => Same H H' ∧ ∃ fs : List Int, H' D = some (.lst (fs.map V.int)) ∧ fs.length ≤ i ∧ (∀ f ∈ fs, 0 < f ∧ f < p ∧ f * n % p = 1) ∧ (fs = [] → ∀ k : Int, 1 ≤ k → k < 1 + (i : Nat) → ¬ k * n % p = 1)) ⟨same_upd hD, [], upd_same, Nat.le_refl _, (fun f hf => by cases hf), fun _ k h1 h2 => by omega⟩ ?_ ?_⟩
    · rintro i H1 hi ⟨s1, fs, eD, fl, hf, hn⟩
      have hi' : 1 + (i : Nat) < p := by omega
      refine ⟨rfl, .int (1 + (i : Nat)), rfl, .int n, rfl, 1 + (i : Nat), n, rfl, rfl, .inl ⟨by omega, by omega⟩, .int p, rfl, _, p, rfl, rfl, by omega, rfl, _, rfl, ite2 (fun e => ?_) (fun e => ?_)⟩
      · have e' : (1 + (i : Nat)) * n % p = 1 := V.int.inj (of_decide_eq_true e)
        refine ⟨.int (1 + (i : Nat)), rfl, _, eD, by rw [List.length_map]; exact small (by omega), same_put s1 hD, fs ++ [((1 : Int) + (i : Nat))], by rw [upd_same, List.map_append]; rfl, by rw [List.length_append, List.length_singleton]; omega, fun f hf' => ?_, fun z => absurd z (by simp)⟩
        rcases List.mem_append.mp hf' with m | m
        · exact hf f m
        · rw [List.mem_singleton.mp m]
          exact ⟨by omega, hi', e'⟩
      · refine ⟨s1, fs, eD, by omega, hf, fun z k h1 h2 => ?_⟩
        by_cases e2 : k = 1 + (i : Nat)
        · intro y
          exact e (decide_eq_true (by rw [← e2]; show V.int (k * n % p) = V.int 1; rw [y]))
        · exact hn z k h1 (by omega)
    · rintro H1 ⟨s1, fs, eD, fl, hf, hn⟩
      rcases fs with _ | ⟨f, fr⟩
      · exact absurd we (hn rfl w (by omega) (by omega))
      · obtain ⟨f0, f1, f2⟩ := hf f (by simp)
        exact ⟨D, _, 0, .int f, rfl, rfl, SqL.of eD, atI_zero, q f H1 s1 f2 f0 f1⟩
/-- lists of numbers in a list at F -/
structure Lrs (F : Addr) (H : Hp) (ys : List V) (R : List (List Int)) : Prop where
  len : ys.length = R.length
  get : ∀ {i : Nat} {y : V}, ys[i]? = some y → ∃ a r, y = .ref a ∧ R[i]? = some r ∧ a ≠ F ∧ H a = some (.lst (r.map V.int))
theorem Lrs.nil {F : Addr} {H : Hp} : Lrs F H [] [] := ⟨rfl, fun e => by simp at e⟩
theorem Lrs.same {F : Addr} {H H' : Hp} {ys : List V} {R : List (List Int)} (h : Lrs F H ys R) (s : Same H H') : Lrs F H' ys R := ⟨h.len, fun e => let ⟨a, r, h1, h2, h3, h4⟩ := h.get e; ⟨a, r, h1, h2, h3, s _ _ h4⟩⟩
theorem Lrs.put {F : Addr} {H : Hp} {ys : List V} {R : List (List Int)} {o : HO} (h : Lrs F H ys R) : Lrs F (upd H F o) ys R := ⟨h.len, fun e => let ⟨a, r, h1, h2, h3, h4⟩ := h.get e; ⟨a, r, h1, h2, h3, by rw [upd_ne h3]; exact h4⟩⟩
theorem Lrs.snoc {F : Addr} {H : Hp} {ys : List V} {R : List (List Int)} {a : Addr} {r : List Int} (h : Lrs F H ys R) (n : a ≠ F) (e : H a = some (.lst (r.map V.int))) : Lrs F H (ys ++ [.ref a]) (R ++ [r]) := by
  refine ⟨by rw [List.length_append, List.length_append, h.len]; rfl, fun {i y} e2 => ?_⟩
  rcases get_snoc e2 with ⟨hj, e2⟩ | ⟨hj, rfl⟩
  · obtain ⟨b, u, h1, h2, h3, h4⟩ := h.get e2
    have := h.len
    exact ⟨b, u, h1, by rw [List.getElem?_append_left (by omega)]; exact h2, h3, h4⟩
  · refine ⟨a, r, rfl, ?_, n, e⟩
    rw [hj, h.len]
    exact snoc_at
theorem Lrs.set {F : Addr} {H : Hp} {ys : List V} {R : List (List Int)} {k : Nat} {a : Addr} {r : List Int} (h : Lrs F H ys R) (n : a ≠ F) (e : H a = some (.lst (r.map V.int))) : Lrs F H (ys.set k (.ref a)) (R.set k r) := by
  refine ⟨by rw [List.length_set, List.length_set, h.len], fun {i y} e2 => ?_⟩
  have l := h.len
  by_cases hk : i = k
  · subst hk
    have hi : i < ys.length := by
      have := (List.getElem?_eq_some_iff.mp e2).1
      rw [List.length_set] at this
      exact this
    rw [List.getElem?_set_self hi] at e2
    cases e2
    exact ⟨a, r, rfl, by rw [List.getElem?_set_self (by omega)], n, e⟩
  · rw [List.getElem?_set_ne (fun z => hk z.symm)] at e2
    obtain ⟨b, u, h1, h2, h3, h4⟩ := h.get e2
    exact ⟨b, u, h1, by rw [List.getElem?_set_ne (fun z => hk z.symm)]; exact h2, h3, h4⟩
theorem Lrs.at_ {F : Addr} {H : Hp} {ys : List V} {R : List (List Int)} (h : Lrs F H ys R) {j : Nat} (hj : j < R.length) : ∃ a, ys[j]? = some (.ref a) ∧ a ≠ F ∧ H a = some (.lst ((R.getD j []).map V.int)) := by
  have l := h.len
  obtain ⟨a, r, h1, h2, h3, h4⟩ := h.get (List.getElem?_eq_getElem (show j < ys.length by omega))
  refine ⟨a, by rw [List.getElem?_eq_getElem (by omega), h1], h3, ?_⟩
  have e : R.getD j [] = r := by
    rw [List.getD_eq_getElem?_getD, h2]
    rfl
  rw [e]
  exact h4
theorem rows_vec {r : List Int} {n i : Nat} (l : r.length = n) (h : i < n) : (r.map V.int)[i]? = some (.int (vec r i)) := by
  rw [List.getElem?_map, vec_get (by omega)]
  rfl
def spLacks : Sp := fun vs H Q _ => ∃ (p : Int) (tt pa : Addr) (g : List (List Int)) (m : Nat) (k : Zm.Kd) (ps : List Nat), vs = [.int p, .ref tt, .ref pa] ∧ p ∈ ([2, 3, 5, 7, 11, 13] : List Int) ∧ TbAt p m H tt g ∧ At k H pa (natV ps) ∧ (∀ x ∈ ps, x < m) ∧ ps.length ≤ 10 ∧ m ≤ 10 ∧ ∀ r : Nat, ∀ H', Same H H' → Lin.Lacks p g ps r → Q (.int r) H'
set_option maxHeartbeats 4000000 in
theorem ok__law_lacks (T : Tx K mg A) : FnOk P w K mg base CX0 2 A.f__law_lacks A.d__law_lacks ["_law_p", "_law_grid", "_law_posts"] spLacks := by
  have G__law_inverse : FnOk P w K mg base CX0 1 A.f__law_inverse A.d__law_inverse ["_law_p", "_law_number"] spInvL := ok__law_inverse T
  refine T.d__law_lacks.F.ok sc__law_lacks (fun vs H Q E h => ?_) (fun cdv A outer s H vs Q E hr h => ?_)
  · obtain ⟨p, tt, pa, g, m, k, ps, rfl, _⟩ := h
    rfl
  · obtain ⟨p, tt, pa, g, m, k, ps, rfl, hp, tb, ha, lt, l10, m10, q⟩ := h
    have pall : ∀ p ∈ ([2, 3, 5, 7, 11, 13] : List Int), 2 ≤ p ∧ p ≤ 13 := by decide
    obtain ⟨p2, p13⟩ := pall p hp
    have p1 : 1 < p := by omega
    obtain ⟨gy, egy, hgy⟩ := tb.at_
    have gl := tb.len
    have gyl := hgy.len
    have ha' : ∀ H', Same H H' → At k H' pa (natV ps) := fun H' s => ha.sm (.of_same s)
    have cell : ∀ {i j : Nat}, i < m → j < m → ∃ e, gy[i]? = some (.ref e) ∧ H e = some (.tup ((g.getD i []).map V.int)) ∧ ((g.getD i []).map V.int)[j]? = some (.int (Lin.col g j i)) := fun {i j} hi hj => by
      obtain ⟨e, r, h1, h2, h3⟩ := hgy.get (List.getElem?_eq_getElem (show i < gy.length by omega))
      have er : g.getD i [] = r := by
        rw [List.getD_eq_getElem?_getD, h2]
        rfl
      have hr := tb.ok r (List.mem_of_getElem? h2)
      refine ⟨e, by rw [List.getElem?_eq_getElem (by omega), h1], by rw [er]; exact h3, ?_⟩
      unfold Lin.col
      rw [er]
      exact rows_vec hr.1 hj
    refine ⟨_, (pss_cons (ps_set (i := 3) sc__law_lacks.nd rfl (.inr rfl) (pe_lc (own := [("_law_k", 7)]) rfl sc__law_lacks.nd (Zm.pi_kd (pv 2)) (blkOk_by (N := N__law_lacks) (sc := defScope s__law_lacks) (by decide +kernel)) (fun _ _ _ _ _ => (pg_name (i := 7) sc__law_lacks.nd rfl (.inr rfl))) (fun _ _ _ _ _ => pts_nil) (fun _ _ _ _ _ => (pe_lc (own := [("_law_j", 9)]) rfl sc__law_lacks.nd (show PI _ _ _ (Zm.iKd K (tVar 2)) from Zm.pi_kd (pv 2)) (blkOk_by (N := N__law_lacks) (by kernel_rfl)) (fun _ _ _ _ _ => (pg_name (i := 9) sc__law_lacks.nd rfl (.inl rfl))) (fun _ _ _ _ _ => pts_nil) (fun _ _ _ _ _ => (pe_ix (show IxR _ (rIxT K) from ix_tup) (pe_ix (show IxR _ (rIxT K) from ix_tup) (pv 1) (pv 7) (fun _ _ => rfl)) (pv 9) (fun _ _ => rfl)))))))
        (pss_cons (ps_set (i := 4) sc__law_lacks.nd rfl (.inl rfl) pe_int)
        (pss_cons (ps_for PassesOwn.never rfl (pi_range1 (by rfl) T.b_range (pa_cons (pe_callB call_len_seq (by rfl) T.b_len PySem.boot_len (pa_cons (pv 2) pa_nil)) pa_nil)) (pg_name (i := 5) sc__law_lacks.nd rfl (.inr rfl))
        (pss_cons (ps_setLc (i := 6) (own := [("_law_k", 7)]) rfl sc__law_lacks.nd rfl rfl (sw_true rfl rfl rfl (by decide +kernel)) (pi_range2 (by rfl) T.b_range (pa_cons (pv 4) (pa_cons (pe_callB call_len_seq (by rfl) T.b_len PySem.boot_len (pa_cons (pv 3) pa_nil)) pa_nil))) (blkOk_by (N := N__law_lacks) (sc := defScope s__law_lacks) (by decide +kernel)) (fun _ _ _ _ _ => (pg_name (i := 7) sc__law_lacks.nd rfl (.inl rfl))) (fun _ _ _ _ _ => (pts_one (pt_cmpR op_ne (pe_ix (show IxR _ (rIxL K) from ix_list) (pe_ix (show IxR _ (rIxL K) from ix_list) (pv 3) (pv 7) (fun _ _ => rfl)) (pv 5) (fun _ _ => rfl)) pe_int (nomark _)))) (fun _ _ _ _ _ => (pv 7)))
        (pss_one (ps_if (pt_cmpR (op_neL0 (ru80 hr)) (pv 6) (pe_lst pa_nil) (nomark _))
        (pss_cons (ps_asg (pe_tup (pa_cons (pe_ix ix_list (pv 3) (pe_ix ix_list (pv 6) pe_int (fun _ _ => rfl)) (fun _ _ => rfl)) (pa_cons (pe_ix ix_list (pv 3) (pv 4) (fun _ _ => rfl)) pa_nil))) (pg_tup rfl (pgs_cons (pg_sub (pv 3) (pv 4) set_list) (pgs_cons (pg_sub (pv 3) (pe_ix ix_list (pv 6) pe_int (fun _ _ => rfl)) set_list) pgs_nil))))
        (pss_cons (ps_set (i := 8) sc__law_lacks.nd rfl (.inl rfl) (pe_call G__law_inverse hr (by rfl) T.d__law_inverse.g T.d__law_inverse.F.kp T.d__law_inverse.b .nil pass0 (pa_cons (pv 0) (pa_cons (pe_ix ix_list (pe_ix ix_list (pv 3) (pv 4) (fun _ _ => rfl)) (pv 5) (fun _ _ => rfl)) pa_nil))))
        (pss_cons (ps_for PassesOwn.never rfl (pi_range2 (by rfl) T.b_range (pa_cons (pe_op op_add (pv 4) pe_int) (pa_cons (pe_callB call_len_seq (by rfl) T.b_len PySem.boot_len (pa_cons (pv 3) pa_nil)) pa_nil))) (pg_name (i := 7) sc__law_lacks.nd rfl (.inl rfl))
        (pss_cons (ps_set (i := 10) sc__law_lacks.nd rfl (.inr rfl) (pe_op op_mul (pe_ix ix_list (pe_ix ix_list (pv 3) (pv 7) (fun _ _ => rfl)) (pv 5) (fun _ _ => rfl)) (pv 8)))
        (pss_one (ps_asg (pe_lc (own := [("_law_one", 11), ("_law_other", 12)]) (g := (gTup K 2 (gCons (gName 11) (gCons (gName 12) gNil)))) rfl sc__law_lacks.nd (Zm.pi_zipK (by rfl) T.b_zip (pa_cons (pe_ix ix_list (pv 3) (pv 7) (fun _ _ => rfl)) (pa_cons (pe_ix ix_list (pv 3) (pv 4) (fun _ _ => rfl)) pa_nil))) (blkOk_by (N := N__law_lacks) (sc := defScope s__law_lacks) (by decide +kernel)) (fun _ _ _ _ _ => (pg_tup rfl (pgs_cons (pg_name (i := 11) sc__law_lacks.nd rfl (.inl rfl)) (pgs_cons (pg_name (i := 12) sc__law_lacks.nd rfl (.inl rfl)) pgs_nil)))) (fun _ _ _ _ _ => pts_nil) (fun _ _ _ _ _ => (pe_op op_mod (pe_op op_sub (pv 11) (pe_op op_mul (pv 10) (pv 12))) (pv 0)))) (pg_sub (pv 3) (pv 7) set_list)))))
        (pss_one (ps_set (i := 4) sc__law_lacks.nd rfl (.inl rfl) (pe_op op_add (pv 4) pe_int))))))
        pss_nil))))
        (pss_one (ps_ret (pe_op op_sub (pe_callB call_len_seq (by rfl) T.b_len PySem.boot_len (pa_cons (pv 3) pa_nil)) (pv 4))))))), ?_⟩
    refine ⟨.ref pa, rfl, pa, k, _, rfl, ha.sq, fun F hF => lc_it Zm.walkq (fun i H' => Same H H' ∧ ∃ ys, H' F = some (.lst ys) ∧ Lrs F H' ys ((Lin.corner g ps).take i)) ⟨same_upd hF, [], upd_same, Lrs.nil⟩ (fun i H' _ h => (ha' _ h.1).sq) ?_ ?_⟩
    · rintro i x H1 H2 hi ⟨s1, ys, eF, lr⟩ ⟨rfl, hx⟩
      unfold natV at hx
      rw [List.getElem?_map] at hx
      obtain ⟨k0, ek, rfl⟩ := Option.map_eq_some_iff.mp hx
      have hk0 := lt k0 (List.mem_of_getElem? ek)
      have ec : (Lin.corner g ps)[i]? = some (ps.map fun j => Lin.col g j k0) := by
        unfold Lin.corner
        rw [List.getElem?_map, ek]
        rfl
      have pl : (natV ps).length = ps.length := natV_len
      refine ⟨rfl, .ref pa, rfl, pa, k, _, rfl, (ha' _ s1).sq, fun D hD => lc_it Zm.walkq (fun j H' => Same H2 H' ∧ H' D = some (.lst (((ps.map fun j => Lin.col g j k0).take j).map V.int))) ⟨same_upd hD, upd_same⟩ (fun j H' _ h => (ha' _ (s1.trans h.1)).sq) ?_ ?_⟩
      · rintro j y H3 H4 hj ⟨s3, eD⟩ ⟨rfl, hy⟩
        unfold natV at hy
        rw [List.getElem?_map] at hy
        obtain ⟨j0, ej, rfl⟩ := Option.map_eq_some_iff.mp hy
        have hj0 := lt j0 (List.mem_of_getElem? ej)
        obtain ⟨e, c1, c2, c3⟩ := cell hk0 hj0
        have s4 := s1.trans s3
        refine ⟨rfl, .ref tt, rfl, .int (k0 : Nat), rfl, tt, _, _, .ref e, rfl, rfl, SqT.of (s4 _ _ egy), atI_nat c1, .int (j0 : Nat), rfl, e, _, _, .int (Lin.col g j0 k0), rfl, rfl, SqT.of (s4 _ _ c2), atI_nat c3, _, eD, ?_, same_put s3 hD, ?_⟩
        · rw [List.length_map, List.length_take, List.length_map]
          exact small (by omega)
        · have e2 : (ps.map fun j => Lin.col g j k0)[j]? = some (Lin.col g j0 k0) := by rw [List.getElem?_map, ej]; rfl
          rw [upd_same, take_snoc e2, List.map_append]
          rfl
      · rintro H3 ⟨s3, eD⟩
        rw [pl, List.take_of_length_le (by rw [List.length_map]; exact Nat.le_refl _)] at eD
        have nD : D ≠ F := (ne_of_none eF hD).symm
        have yl := lr.len
        rw [List.length_take] at yl
        refine ⟨ys, s3 _ _ eF, small (by omega), same_put (s1.trans s3) hF, ys ++ [.ref D], upd_same, ?_⟩
        rw [take_snoc ec]
        exact ((lr.same s3).snoc nD eD).put
    · rintro H1 ⟨s1, ys, eF, lr⟩
      have pl : (natV ps).length = ps.length := natV_len
      have cl : (Lin.corner g ps).length = ps.length := by unfold Lin.corner; rw [List.length_map]
      rw [pl, List.take_of_length_le (by omega)] at lr
      have cok := Lin.corner_ok (p := p) (g := g) ⟨tb.len, tb.ok, tb.sy⟩ lt
      have yl0 := lr.len
      refine ⟨.ref pa, rfl, pa, _, rfl, (match k, ha' _ s1 with | .l, h => .inl (SqL.of h) | .t, h => .inr (SqT.of h)), ?_⟩
      refine ⟨_, rfl, by omega, by omega, for_range (fun c σ H' => ∃ (v5 v6 v7 v8 v10 : Option V) (d : Nat) (ys : List V) (R : List (List Int)), σ = [some (.int p), some (.ref tt), some (.ref pa), some (.ref F), some (.int (d : Nat)), v5, v6, v7, v8, none, v10, none, none] ∧ Same H H' ∧ H' F = some (.lst ys) ∧ Lrs F H' ys R ∧ Lin.Ec p ps.length (Lin.corner g ps) R c d) ⟨_, _, _, _, _, 0, _, _, rfl, s1, eF, lr, Lin.Ec.start cl cok⟩ ?_ ?_⟩
      · rintro c σ H2 hc ⟨v5, v6, v7, v8, v10, d, ys, R, rfl, s2, eF2, lr2, ec⟩
        rw [pl, Int.toNat_natCast] at hc
        have rl := ec.len
        have yl := lr2.len
        have dn := ec.dn
        have num : ∀ {H' : Hp} {ys : List V} {R : List (List Int)}, (∀ r ∈ R, r.length = ps.length ∧ Rg p r) → Lrs F H' ys R → ∀ {j : Nat}, j < R.length → ∃ a, ys[j]? = some (.ref a) ∧ a ≠ F ∧ H' a = some (.lst ((R.getD j []).map V.int)) ∧ ((R.getD j []).map V.int)[c]? = some (.int (Lin.rw_ R j c)) ∧ 0 ≤ Lin.rw_ R j c ∧ Lin.rw_ R j c < p ∧ (R.getD j []).length = ps.length := fun {H' ys R} ok lr {j} hj => by
          obtain ⟨a, h1, h2, h3⟩ := lr.at_ hj
          obtain ⟨l, rg⟩ := ok _ (Lin.getD_mem hj).2
          have b := rg.vec (by omega) c
          exact ⟨a, h1, h2, h3, rows_vec l (by omega), b.1, b.2, l⟩
        have e0 : (0 + (c : Nat) : Int) = (c : Nat) := by omega
        rw [e0]
        refine ⟨.int (d : Nat), rfl, .ref F, rfl, F, ys, rfl, .inl (SqL.of eF2), _, _, rfl, ⟨by omega, by omega, by omega, by omega⟩, fun D hD => lc_range (fun i H' => Same H2 H' ∧ ∃ fs : List Nat, H' D = some (.lst (natV fs)) ∧ fs.length ≤ i ∧ (∀ f ∈ fs, d ≤ f ∧ f < ps.length ∧ Lin.rw_ R f c ≠ 0) ∧ (fs = [] → ∀ j, d ≤ j → j < d + i → Lin.rw_ R j c = 0)) ⟨same_upd hD, [], upd_same, Nat.le_refl _, (fun f hf => by cases hf), fun _ j h1 h2 => by omega⟩ ?_ ?_⟩
        · rintro i H3 hi ⟨s3, fs, eD, fl, hf, hz⟩
          have hj : d + i < R.length := by omega
          obtain ⟨a, a1, a2, a3, a4, _⟩ := num ec.ok lr2 hj
          have ei : ((d : Nat) : Int) + (i : Nat) = ((d + i : Nat) : Int) := by omega
          rw [ei]
          refine ⟨rfl, .ref F, rfl, .int ((d + i : Nat) : Int), rfl, F, _, _, .ref a, rfl, rfl, SqL.of (s3 _ _ eF2), atI_nat a1, .int (c : Nat), rfl, a, _, _, .int (Lin.rw_ R (d + i) c), rfl, rfl, SqL.of (s3 _ _ a3), atI_nat a4, rfl, _, rfl, ite2 (fun e => ?_) (fun e => ?_)⟩
          · have nz : Lin.rw_ R (d + i) c ≠ 0 := fun z => by
              rw [z] at e
              cases e
            refine ⟨.int ((d + i : Nat) : Int), rfl, _, eD, by rw [natV_len]; exact small (by omega), same_put s3 hD, fs ++ [d + i], ?_, by rw [List.length_append, List.length_singleton]; omega, fun f hf' => ?_, fun z => absurd z (by simp)⟩
            · rw [upd_same]
              unfold natV
              rw [List.map_append]
              rfl
            · rcases List.mem_append.mp hf' with w | w
              · exact hf f w
              · rw [List.mem_singleton.mp w]
                exact ⟨by omega, by omega, nz⟩
          · have z0 : Lin.rw_ R (d + i) c = 0 := Classical.byContradiction fun z => e (by
              rw [decide_eq_false fun w => z (V.int.inj w)]
              rfl)
            refine ⟨s3, fs, eD, by omega, hf, fun z j h1 h2 => ?_⟩
            by_cases ej : j = d + i
            · rw [ej]; exact z0
            · exact hz z j h1 (by omega)
        · rintro H3 ⟨s3, fs, eD, fl, hf, hz⟩
          have s03 := s2.trans s3
          have nDF : D ≠ F := (ne_of_none eF2 hD).symm
          refine ⟨.ref D, rfl, Nat.zero_le _, fun e1 he1 => ?_⟩
          have s34 : Same H3 (upd H3 e1 (.lst [])) := same_upd he1
          refine ⟨D, e1, _, rfl, rfl, SqL.of (s34 _ _ eD), SqL.of upd_same, _, rfl, ?_⟩
          generalize upd H3 e1 (.lst []) = H4 at s34 ⊢
          have s24 := s3.trans s34
          have s04 := s2.trans s24
          have eF4 := s24 _ _ eF2
          have eD4 := s34 _ _ eD
          have lr4 := lr2.same s24
          rcases fs with _ | ⟨f, fr⟩
          · refine ⟨_, _, _, _, _, d, ys, R, rfl, s04, eF4, lr4, ec.none fun j h1 h2 => hz rfl j h1 ?_⟩
            omega
          · obtain ⟨f1, f2, f3⟩ := hf f (by simp)
            obtain ⟨af, af1, af2, af3, _⟩ := num ec.ok lr4 (show f < R.length by omega)
            obtain ⟨ad, ad1, ad2, ad3, _⟩ := num ec.ok lr4 (show d < R.length by omega)
            have mid := ec.swap f1 f2 f3
            refine ⟨.ref F, rfl, .ref D, rfl, D, _, 0, .int (f : Nat), rfl, rfl, SqL.of eD4, atI_zero, F, _, _, .ref af, rfl, rfl, SqL.of eF4, atI_nat af1, .ref F, rfl, .int (d : Nat), rfl, F, _, _, .ref ad, rfl, rfl, SqL.of eF4, atI_nat ad1, (by show 2 ≤ sizeLine; decide), fun t ht => ?_⟩
            have s45 : Same H4 (upd H4 t (.tup [.ref af, .ref ad])) := same_upd ht
            refine ⟨t, [.ref af, .ref ad], rfl, SqT.of upd_same, rfl, .ref af, [.ref ad], rfl, .ref F, rfl, .int (d : Nat), rfl, F, ys, (d : Nat), d, rfl, rfl, s45 _ _ eF4, ixN_nat (by omega), ?_⟩
            generalize upd H4 t (.tup [.ref af, .ref ad]) = H5 at s45 ⊢
            have lr5 := (lr4.same s45).set (k := d) af2 (s45 _ _ af3)
            have eD5 : upd H5 F (.lst (ys.set d (.ref af))) D = some (.lst (natV (f :: fr))) := by
              rw [upd_ne nDF]
              exact s45 _ _ eD4
            refine ⟨.ref ad, [], rfl, .ref F, rfl, .ref D, rfl, D, _, 0, .int (f : Nat), rfl, rfl, SqL.of eD5, atI_zero, F, _, (f : Nat), f, rfl, rfl, upd_same, ixN_nat (by rw [List.length_set]; omega), rfl, ?_⟩
            have lr6 : Lrs F (upd (upd H5 F (.lst (ys.set d (.ref af)))) F (.lst ((ys.set d (.ref af)).set f (.ref ad)))) ((ys.set d (.ref af)).set f (.ref ad)) ((R.set d (R.getD f [])).set f (R.getD d [])) := (lr5.set (k := f) ad2 (s45 _ _ ad3)).put.put
            have s6 : Same H (upd (upd H5 F (.lst (ys.set d (.ref af)))) F (.lst ((ys.set d (.ref af)).set f (.ref ad)))) := same_put (same_put (s04.trans s45) hF) hF
            have eF6 : upd (upd H5 F (.lst (ys.set d (.ref af)))) F (.lst ((ys.set d (.ref af)).set f (.ref ad))) F = some (.lst ((ys.set d (.ref af)).set f (.ref ad))) := upd_same
            generalize upd (upd H5 F (.lst (ys.set d (.ref af)))) F (.lst ((ys.set d (.ref af)).set f (.ref ad))) = H6 at lr6 s6 eF6 ⊢
            generalize (ys.set d (.ref af)).set f (.ref ad) = ys6 at lr6 eF6
            generalize (R.set d (R.getD f [])).set f (R.getD d []) = R6 at lr6 mid
            have rl6 := mid.len
            have dn6 := mid.dn
            obtain ⟨a1, a11, a12, a13, a14, a15, a16, _⟩ := num mid.ok lr6 (show d < R6.length by omega)
            have mat := mid.at_
            refine ⟨.int p, rfl, .ref F, rfl, .int (d : Nat), rfl, F, _, _, .ref a1, rfl, rfl, SqL.of eF6, atI_nat a11, .int (c : Nat), rfl, a1, _, _, .int (Lin.rw_ R6 d c), rfl, rfl, SqL.of a13, atI_nat a14, p, Lin.rw_ R6 d c, rfl, hp, by omega, a16, fun b H7 s7 hb b0 b1 => ?_⟩
            have yl6 := lr6.len
            refine ⟨.int (d : Nat), rfl, _, 1, rfl, rfl, .ref F, rfl, F, _, rfl, .inl (SqL.of (s7 _ _ eF6)), _, _, rfl, ⟨by omega, by omega, by omega, by omega⟩, for_range (fun i σ H' => ∃ (v7 v10 : Option V) (ys : List V) (R : List (List Int)), σ = [some (.int p), some (.ref tt), some (.ref pa), some (.ref F), some (.int (d : Nat)), some (.int (c : Nat)), some (.ref D), v7, some (.int b), none, v10, none, none] ∧ Same H H' ∧ H' F = some (.lst ys) ∧ Lrs F H' ys R ∧ Lin.Mid p ps.length (Lin.corner g ps) R c d (d + 1 + i) ∧ b * Lin.rw_ R d c % p = 1) ⟨_, _, _, _, rfl, s6.trans s7, s7 _ _ eF6, lr6.same s7, mid, hb⟩ ?_ ?_⟩
            · rintro i σ H8 hi ⟨v7, v10, ys8, R8, rfl, s8, eF8, lr8, mid8, hb8⟩
              have rl8 := mid8.len
              have yl8 := lr8.len
              have hk : d + 1 + i < R8.length := by omega
              obtain ⟨ak, k1, k2, k3, k4, k5, k6, k7⟩ := num mid8.ok lr8 hk
              obtain ⟨ad', d1, d2, d3, d4, d5, d6, d7⟩ := num mid8.ok lr8 (show d < R8.length by omega)
              have ei : (d : Nat) + 1 + (i : Nat) = (((d + 1 + i : Nat) : Nat) : Int) := by omega
              rw [ei]
              refine ⟨.ref F, rfl, .int ((d + 1 + i : Nat) : Int), rfl, F, _, _, .ref ak, rfl, rfl, SqL.of eF8, atI_nat k1, .int (c : Nat), rfl, ak, _, _, .int (Lin.rw_ R8 (d + 1 + i) c), rfl, rfl, SqL.of k3, atI_nat k4, .int b, rfl, _, b, rfl, rfl, .inl ⟨by omega, by omega⟩, ?_⟩
              refine ⟨.ref F, rfl, .int ((d + 1 + i : Nat) : Int), rfl, F, _, _, .ref ak, rfl, rfl, SqL.of eF8, atI_nat k1, .ref F, rfl, .int (d : Nat), rfl, F, _, _, .ref ad', rfl, rfl, SqL.of eF8, atI_nat d1, .l, .l, ak, ad', _, _, rfl, SqL.of k3, SqL.of d3, fun D2 hD2 => ?_⟩
              have zl : (Lin.subL p (Lin.rw_ R8 (d + 1 + i) c * b) (R8.getD (d + 1 + i) []) (R8.getD d [])).length = ps.length := Lin.sub_lenL k7 d7
              refine lc_it (σ := [some (.int p), some (.ref tt), some (.ref pa), some (.ref F), some (.int (d : Nat)), some (.int (c : Nat)), some (.ref D), some (.int ((d + 1 + i : Nat) : Int)), some (.int b), none, some (.int (Lin.rw_ R8 (d + 1 + i) c * b)), none, none]) (vs := [11, 12]) (Zm.walk2 (xs := (R8.getD (d + 1 + i) []).map V.int) (ys := (R8.getD d []).map V.int) (by rw [List.length_map, List.length_map, k7, d7])) (fun j H' => Same H8 H' ∧ H' D2 = some (.lst (((Lin.subL p (Lin.rw_ R8 (d + 1 + i) c * b) (R8.getD (d + 1 + i) []) (R8.getD d [])).take j).map V.int))) ⟨same_upd hD2, upd_same⟩ (fun j H' _ h => ⟨SqL.of (h.1 _ _ k3), SqL.of (h.1 _ _ d3)⟩) ?_ ?_
              · rintro j x H9 H9' hj ⟨s9, eD9⟩ ⟨T1, x1, y1, rfl, hT, rfl, hx1, hy1⟩
                dsimp only at hx1 hy1
                rw [List.length_map, k7] at hj
                rw [rows_vec k7 hj] at hx1
                rw [rows_vec d7 hj] at hy1
                cases hx1
                cases hy1
                have bd := (mid8.ok _ (Lin.getD_mem (R := R8) (j := d) (by omega)).2).2.vec (by omega) j
                have s10 : Same H8 (upd H9 T1 (.tup [.int (vec (R8.getD (d + 1 + i) []) j), .int (vec (R8.getD d []) j)])) := s9.trans (same_upd hT)
                have eD10 : upd H9 T1 (.tup [.int (vec (R8.getD (d + 1 + i) []) j), .int (vec (R8.getD d []) j)]) D2 = _ := same_upd hT _ _ eD9
                refine ⟨T1, [.int (vec (R8.getD (d + 1 + i) []) j), .int (vec (R8.getD d []) j)], rfl, SqT.of upd_same, rfl, .int (vec (R8.getD (d + 1 + i) []) j), [.int (vec (R8.getD d []) j)], rfl, .int (vec (R8.getD d []) j), [], rfl, rfl, ?_⟩
                dsimp only [wipe, List.set]
                refine ⟨rfl, .int (vec (R8.getD (d + 1 + i) []) j), rfl, .int (Lin.rw_ R8 (d + 1 + i) c * b), rfl, .int (vec (R8.getD d []) j), rfl, _, _, rfl, rfl, .inr ⟨by omega, by omega⟩, _, _, rfl, rfl, .int p, rfl, _, p, rfl, rfl, by omega, _, eD10, ?_, same_put s10 hD2, ?_⟩
                · rw [List.length_map, List.length_take]
                  exact small (by omega)
                · have e2 : (Lin.subL p (Lin.rw_ R8 (d + 1 + i) c * b) (R8.getD (d + 1 + i) []) (R8.getD d []))[j]? = some ((vec (R8.getD (d + 1 + i) []) j - Lin.rw_ R8 (d + 1 + i) c * b * vec (R8.getD d []) j) % p) := by
                    rw [vec_get (by omega), Lin.sub_vecL (by rw [k7, d7])]
                  rw [upd_same, take_snoc e2, List.map_append]
                  rfl
              · rintro H9 ⟨s9, eD9⟩
                rw [List.length_map, List.take_of_length_le (by omega)] at eD9
                have nD2 : D2 ≠ F := (ne_of_none eF8 hD2).symm
                refine ⟨.ref F, rfl, .int ((d + 1 + i : Nat) : Int), rfl, F, ys8, ((d + 1 + i : Nat) : Int), d + 1 + i, rfl, rfl, s9 _ _ eF8, ixN_nat (by omega), ?_⟩
                have gd : Lin.rw_ (R8.set (d + 1 + i) (Lin.subL p (Lin.rw_ R8 (d + 1 + i) c * b) (R8.getD (d + 1 + i) []) (R8.getD d []))) d c = Lin.rw_ R8 d c := by
                  show vec (List.getD _ d []) c = _
                  rw [Lin.getD_set hk, if_neg (by omega)]
                exact ⟨_, _, _, _, rfl, same_put (s8.trans s9) hF, upd_same, ((lr8.same s9).set nD2 eD9).put, mid8.step p1 (by omega) (by omega) hb8, by rw [gd]; exact hb8⟩
            · rintro σ H8 ⟨v7, v10, ys8, R8, rfl, s8, eF8, lr8, mid8, hb8⟩
              have en : d + 1 + ((ys6.length : Nat) - ((d : Nat) + 1 : Int)).toNat = ps.length := by omega
              rw [en] at mid8
              have ed : ((d : Nat) : Int) + 1 = ((d + 1 : Nat) : Int) := by omega
              refine ⟨.int (d : Nat), rfl, _, 1, rfl, rfl, ?_⟩
              dsimp only
              rw [ed]
              exact ⟨_, _, _, _, _, d + 1, ys8, R8, rfl, s8, eF8, lr8, mid8.done⟩
      · rintro σ H2 ⟨v5, v6, v7, v8, v10, d, ys, R, rfl, s2, eF2, lr2, ec⟩
        rw [pl, Int.toNat_natCast] at ec
        have rl := ec.len
        have dn := ec.dn
        have yl := lr2.len
        refine ⟨.ref F, rfl, F, _, rfl, .inl (SqL.of eF2), .int (d : Nat), rfl, _, _, rfl, rfl, ?_⟩
        have e : ((ys.length : Nat) : Int) - (d : Nat) = ((ps.length - d : Nat) : Int) := by omega
        show Q (.int (((ys.length : Nat) : Int) - (d : Nat))) H2
        rw [e]
        exact q _ H2 s2 (ec.lacks p1 (inv_six hp))
-- CUT
/-! ### rows told -/
def pairD (u : Int × Int) : PyData := .tuple [.int u.1, .int u.2]
def rowD (r : Row) : PyData := .tuple (r.map pairD)
theorem dq_prs {H : Hp} : ∀ {xs : List V} {r : Row}, Prs H xs r → DqAll H xs (r.map pairD)
  | [], [], _ => .nil
  | [], _ :: _, h => by have := h.len; simp at this
  | _ :: _, [], h => by have := h.len; simp at this
  | x :: xs, u :: r, h => by
    obtain ⟨v, e, a, rfl, ha⟩ := h.get (i := 0) (x := x) rfl
    cases e
    refine .cons (.tup ha (.cons (.int _) (.cons (.int _) .nil))) (dq_prs (xs := xs) (r := r) ⟨by have := h.len; simpa using this, fun {i y} e => h.get (i := i + 1) e⟩)
theorem dq_row {H : Hp} {t : Addr} {r : Row} (h : Rw H t r) : Dq H (.ref t) (rowD r) := let ⟨_, e, p⟩ := h; .tup e (dq_prs p)
theorem gd_num {i : Int} (h : 0 ≤ i ∧ i < 13) : Gd 5 0 (.int i) := Gd.int (k := 4) (by decide) (by decide) (by show i.natAbs < 16; omega)
theorem gd_pairs : ∀ {r : Row}, In 13 r → GdAll (13 * r.length) 1 (r.map pairD)
  | [], _ => .nil
  | u :: r, h => by
    have hu := h u (by simp)
    have g : Gd 12 1 (pairD u) := Gd.tup ((GdAll.cons (gd_num hu.1) (GdAll.cons (gd_num hu.2) (GdAll.nil (n := 0)))).mono (by decide) (by decide))
    have k := gd_pairs (r := r) fun v hv => h v (List.mem_cons_of_mem _ hv)
    exact (GdAll.cons g k).mono (by rw [List.length_cons]; omega) (by decide)
theorem gd_row {r : Row} (h : In 13 r) (hl : r.length ≤ 100) : Gd 1300 2 (rowD r) := (Gd.tup (gd_pairs h)).mono (by omega) (by decide)
theorem in13 {p : Int} {r : Row} (h : In p r) (hp : p ≤ 13) : In 13 r := fun u hu => by have := h u hu; omega
theorem md {p : Int} (h : 0 < p) (a : Int) : 0 ≤ a % p ∧ a % p < p := ⟨Int.emod_nonneg a (by omega), Int.emod_lt_of_pos a h⟩
/-! lists and tuples of rows told; rows compared -/
theorem gd_row20 {r : Row} (h : In 13 r) (hl : r.length ≤ 20) : Gd 300 2 (rowD r) := (Gd.tup (gd_pairs h)).mono (by omega) (by decide)
theorem gd_rows : ∀ {rs : List Row}, (∀ r ∈ rs, In 13 r ∧ r.length ≤ 20) → GdAll (301 * rs.length) 2 (rs.map rowD)
  | [], _ => .nil
  | r :: rs, h => by
    have hr := h r (by simp)
    have k := gd_rows (rs := rs) fun s hs => h s (List.mem_cons_of_mem _ hs)
    exact (GdAll.cons (gd_row20 hr.1 hr.2) k).mono (by rw [List.length_cons]; omega) (by decide)
theorem Rws.dq {p : Int} {n : Nat} {H : Hp} : ∀ {xs : List V} {rs : List Row}, Rws p n H xs rs → DqAll H xs (rs.map rowD)
  | [], [], _ => .nil
  | [], _ :: _, h => by have := h.len; simp at this
  | _ :: _, [], h => by have := h.len; simp at this
  | x :: xs, r :: rs, h => by
    obtain ⟨a, s, rfl, e, w⟩ := h.get (i := 0) (x := x) rfl
    cases e
    exact .cons (dq_row w) (Rws.dq (p := p) (n := n) (xs := xs) (rs := rs) ⟨by have := h.len; simpa using this, fun {i y} e => h.get (i := i + 1) e, fun s hs => h.fit s (List.mem_cons_of_mem _ hs)⟩)
def manyD (k : Zm.Kd) (ds : List PyData) : PyData := match k with
  | .l => .list ds
  | .t => .tuple ds
theorem dq_many {k : Zm.Kd} {p : Int} {n : Nat} {H : Hp} {a : Addr} {xs : List V} {rs : List Row} (e : At k H a xs) (h : Rws p n H xs rs) : Dq H (.ref a) (manyD k (rs.map rowD)) := match k, e with
  | .l, e => .lst e h.dq
  | .t, e => .tup e h.dq
theorem gd_many {k : Zm.Kd} {rs : List Row} (h : ∀ r ∈ rs, In 13 r ∧ r.length ≤ 20) (hl : rs.length ≤ 100) : Gd 40000 3 (manyD k (rs.map rowD)) := match k with
  | .l => (Gd.lst (gd_rows h)).mono (by omega) (by decide)
  | .t => (Gd.tup (gd_rows h)).mono (by omega) (by decide)
theorem dp_prs {H : Hp} : ∀ {xs : List V} {r : Row}, Prs H xs r → DpAll K H xs (r.map pairD)
  | [], [], _ => .nil
  | [], _ :: _, h => by have := h.len; simp at this
  | _ :: _, [], h => by have := h.len; simp at this
  | x :: xs, u :: r, h => by
    obtain ⟨v, e, a, rfl, ha⟩ := h.get (i := 0) (x := x) rfl
    cases e
    exact .cons (.tup (SqT.of ha) (.cons (.int _) (.cons (.int _) .nil))) (dp_prs (xs := xs) (r := r) ⟨by have := h.len; simpa using this, fun {i y} e => h.get (i := i + 1) e⟩)
theorem dp_row {H : Hp} {t : Addr} {r : Row} (h : Rw H t r) : Dp K H (.ref t) (rowD r) := let ⟨_, e, p⟩ := h; .tup (SqT.of e) (dp_prs p)
theorem lay_pairs : ∀ r : Row, PyData.canLayAll0 (r.map pairD) = true
  | [] => by simp [PyData.canLayAll0]
  | u :: r => by simp [PyData.canLayAll0, PyData.canLay0, pairD, lay_pairs r]
theorem dep_pairs : ∀ r : Row, PyData.depthAll (r.map pairD) ≤ 1
  | [] => by simp [PyData.depthAll]
  | u :: r => by
    have := dep_pairs r
    simp [PyData.depthAll, PyData.depth, pairD]
    omega
theorem sh_row (r : Row) : SeqAt.shaped (rowD r) = true := by
  have h1 := dep_pairs r
  have h2 : PyData.depth (rowD r) ≤ 64 := by
    unfold rowD
    simp only [PyData.depth]
    omega
  show (PyData.canLay0 (rowD r) && decide (PyData.depth (rowD r) ≤ 64)) = true
  rw [Bool.and_eq_true]
  exact ⟨by unfold rowD; simp only [PyData.canLay0]; exact lay_pairs r, decide_eq_true h2⟩
theorem eqv_pairs : ∀ r s : Row, PyData.eqvAll (r.map pairD) (s.map pairD) = decide (r = s)
  | [], [] => by simp [PyData.eqvAll]
  | [], _ :: _ => by simp [PyData.eqvAll]
  | _ :: _, [] => by simp [PyData.eqvAll]
  | u :: r, v :: s => by
    have ih := eqv_pairs r s
    have e : PyData.eqv (pairD u) (pairD v) = decide (u = v) := by
      obtain ⟨a, b⟩ := u
      obtain ⟨c, d⟩ := v
      rw [Bool.eq_iff_iff]
      simp [pairD, PyData.eqv, PyData.eqvAll]
    simp only [List.map_cons, PyData.eqvAll, e, ih]
    simp
theorem eqv_row (r s : Row) : PyData.eqv (rowD r) (rowD s) = decide (r = s) := by
  unfold rowD
  simp only [PyData.eqv]
  exact eqv_pairs r s
/-! ### all but the deck and tables stays -/
structure Fs (d g : Addr) (H H' : Hp) : Prop where
  kp : ∀ a o, (∀ ps, o ≠ HO.tbl ps) → a ≠ d → a ≠ g → H a = some o → H' a = some o
  tb : ∀ P, P ≠ d → P ≠ g → GxR.TabG H P → GxR.TabG H' P
section
variable {d g c : Addr} {k : Int} {H H1 H2 : Hp}
theorem Fs.refl (d g : Addr) (H : Hp) : Fs d g H H := ⟨fun _ _ _ _ _ e => e, fun _ _ _ e => e⟩
theorem Fs.trans (a : Fs d g H H1) (b : Fs d g H1 H2) : Fs d g H H2 := ⟨fun x o n h1 h2 e => b.kp x o n h1 h2 (a.kp x o n h1 h2 e), fun P h1 h2 e => b.tb P h1 h2 (a.tb P h1 h2 e)⟩
theorem Fs.of_fr (f : Fr d g H H1) : Fs d g H H1 := ⟨fun x o _ h1 h2 e => f x o h1 h2 e, fun P h1 h2 ⟨ps, e, t⟩ => ⟨ps, f P _ h1 h2 e, t⟩⟩
theorem Fs.of_sm (s : Sm H H1) : Fs d g H H1 := ⟨fun x o n _ _ e => s.kp x o n e, fun P _ _ e => s.tb P e⟩
theorem Fs.of_same (s : Same H H1) : Fs d g H H1 := .of_sm (.of_same s)
theorem Fs.fr (a : Fs d g H H1) (f : Fr d g H1 H2) : Fs d g H H2 := a.trans (.of_fr f)
theorem Fs.sm (a : Fs d g H H1) (s : Sm H1 H2) : Fs d g H H2 := a.trans (.of_sm s)
theorem Fs.tup {t : Addr} {xs : List V} (f : Fs d g H H1) (D : Dk d g c k H) (h : H t = some (.tup xs)) : H1 t = some (.tup xs) := f.kp _ _ (fun _ z => by cases z) (D.nt h).1 (D.nt h).2 h
theorem Fs.lst {t : Addr} {xs : List V} (f : Fs d g H H1) (h1 : t ≠ d) (h2 : t ≠ g) (h : H t = some (.lst xs)) : H1 t = some (.lst xs) := f.kp _ _ (fun _ z => by cases z) h1 h2 h
theorem Fs.tab {t : Addr} (f : Fs d g H H1) (D : Dk d g c k H) (h : GxR.TabG H t) : GxR.TabG H1 t := f.tb _ (D.ntb h).1 (D.ntb h).2 h
theorem Prs.fs {xs : List V} {r : Row} (h : Prs H xs r) (D : Dk d g c k H) (f : Fs d g H H1) : Prs H1 xs r := ⟨h.len, fun e => let ⟨u, e2, a, ea, p⟩ := h.get e; ⟨u, e2, a, ea, f.tup D p⟩⟩
theorem Rw.fs {t : Addr} {r : Row} (h : Rw H t r) (D : Dk d g c k H) (f : Fs d g H H1) : Rw H1 t r := let ⟨xs, e, p⟩ := h; ⟨xs, f.tup D e, p.fs D f⟩
theorem Rk.fs {p : Int} {n : Nat} {t : Addr} {r : Row} (h : Rk p n H t r) (D : Dk d g c k H) (f : Fs d g H H1) : Rk p n H1 t r := ⟨h.rw.fs D f, h.inp, h.len⟩
theorem Rws.fs {p : Int} {n : Nat} {xs : List V} {rs : List Row} (h : Rws p n H xs rs) (D : Dk d g c k H) (f : Fs d g H H1) : Rws p n H1 xs rs := ⟨h.len, fun e => let ⟨a, r, h1, h2, h3⟩ := h.get e; ⟨a, r, h1, h2, h3.fs D f⟩, h.fit⟩
end
/-! ### things by units: the mathematics over rows -/
theorem cg_mod0 {p a : Int} (h : Lin.Cg p a 0) : a % p = 0 := by
  obtain ⟨c, hc⟩ := h
  rw [hc, Int.zero_add]
  exact Int.mul_emod_right ..
theorem inv_all {p : Int} (hp : p ∈ prs) : ∀ u, 0 < u → u < p → ∃ c, c * u % p = 1 := fun u h0 h1 => ⟨_, (pw_inv hp h0 h1).2.2⟩
theorem units_rw_fair {p : Int} {hs : List Int} {gs : List (List Int)} {rs : List Row} (p1 : 1 < p) (sy : Lin.Sy gs) (lr : ∀ r ∈ rs, r.length = hs.length) (lt : ∀ r ∈ rs, Lin.Lot p (Lin.spn ((Lin.unitsP p hs gs).map flatR)) (vec (flatR r))) : ∀ r ∈ rs, ∀ s ∈ rs, metR p r s = 0 := fun r hr s hs' => by
  unfold metR mets
  exact cg_mod0 (Lin.lot_fair (m := hs.length) (rs := Lin.unitsP p hs gs) (fun r hr => (Lin.units_fit p1 r hr).2) (Lin.units_fair sy) (lr r hr) (lr s hs') (lt r hr) (lt s hs'))
theorem rows_same {rs ss : List Row} (h : rs.map flatR = ss.map flatR) : rs = ss := by
  induction rs generalizing ss with
  | nil =>
    cases ss with
    | nil => rfl
    | cons _ _ => cases h
  | cons r rs ih =>
    cases ss with
    | nil => cases h
    | cons s ss =>
      obtain ⟨h1, h2⟩ := List.cons.inj h
      rw [Lin.flat_inj h1, ih h2]
theorem span_app {p : Int} {ss ts us : List Row} (h : Span p ss us) (k : ∀ r ∈ ts, Lin.Lot p (Lin.spn (us.map flatR)) (vec (flatR r))) : Span p (ss ++ ts) us := fun u => by
  refine Lin.Lot.iff (fun v hv => ?_) (fun v hv => ?_) u
  · obtain ⟨f, hf, rfl⟩ := hv
    obtain ⟨r, hr, rfl⟩ := List.mem_map.mp hf
    rcases List.mem_append.mp hr with m | m
    · exact (h _).mp (.of ⟨flatR r, List.mem_map.mpr ⟨r, m, rfl⟩, rfl⟩)
    · exact k r m
  · have a := (h v).mpr (.of hv)
    refine Lin.Lot.sub (fun w hw => ?_) a
    obtain ⟨f, hf, rfl⟩ := hw
    obtain ⟨r, hr, rfl⟩ := List.mem_map.mp hf
    exact .of ⟨flatR r, List.mem_map.mpr ⟨r, List.mem_append_left _ hr, rfl⟩, rfl⟩
theorem no_lot {p : Int} {m : Nat} {R : Lin.Vc → Prop} : Lin.Lot p R (vec (flatR (noR m))) := .eqv .zero fun i => by
  have e : vec (flatR (noR m)) i = 0 := Lin.vec_noP m
  rw [e]
  exact Lin.Cg.rfl'
theorem span_mem {p : Int} {ss us : List Row} (h : Span p ss us) {r : Row} (hr : r ∈ ss) : Lin.Lot p (Lin.spn (us.map flatR)) (vec (flatR r)) := (h _).mp (.of ⟨flatR r, List.mem_map.mpr ⟨r, hr, rfl⟩, rfl⟩)
/-- a thing is made: what stood stays -/
theorem make_sm {H H' : Hp} {x dx c : Addr} (nx : H x = none) (ndx : H dx = none) (f : Fs x x (upd (upd H dx (.own x)) x (.ins c dx [])) H') : Sm H H' := by
  have k : ∀ b o, H b = some o → b ≠ x ∧ upd (upd H dx (.own x)) x (.ins c dx []) b = some o := fun b o e => by
    have n1 : b ≠ x := ne_of_none e nx
    exact ⟨n1, by rw [upd_ne n1, upd_ne (ne_of_none e ndx)]; exact e⟩
  refine ⟨fun b o n e => ?_, fun P ⟨ps, e, t⟩ => ?_⟩
  · obtain ⟨n1, e1⟩ := k b o e
    exact f.kp b o n n1 n1 e1
  · obtain ⟨n1, e1⟩ := k P _ e
    exact f.tb P n1 n1 ⟨ps, e1, t⟩
theorem make_same {H : Hp} {x dx c : Addr} (nx : H x = none) (ndx : H dx = none) (ne : dx ≠ x) : Same H (upd (upd H dx (.own x)) x (.ins c dx [])) := fun b o e => by
  rw [upd_ne (ne_of_none e nx), upd_ne (ne_of_none e ndx)]
  exact e
theorem Rws.takeT {p : Int} {n : Nat} {H : Hp} {xs : List V} {rs : List Row} (h : Rws p n H xs rs) (k : Nat) : Rws p n H (xs.take k) (rs.take k) := by
  refine ⟨by rw [List.length_take, List.length_take, h.len], fun {i x} e => ?_, fun s hs => h.fit s (List.mem_of_mem_take hs)⟩
  have hi : i < k := by
    have := (List.getElem?_eq_some_iff.mp e).1
    rw [List.length_take] at this
    omega
  rw [List.getElem?_take, if_pos hi] at e
  rw [List.getElem?_take, if_pos hi]
  exact h.get e
theorem Rws.app {p : Int} {n : Nat} {H : Hp} {xs ys : List V} {rs ss : List Row} (h : Rws p n H xs rs) (h2 : Rws p n H ys ss) : Rws p n H (xs ++ ys) (rs ++ ss) := by
  refine ⟨by rw [List.length_append, List.length_append, h.len, h2.len], fun {i x} e => ?_, fun r hr => ?_⟩
  · by_cases hi : i < xs.length
    · rw [List.getElem?_append_left hi] at e
      rw [List.getElem?_append_left (by rw [← h.len]; exact hi)]
      exact h.get e
    · rw [List.getElem?_append_right (by omega)] at e
      rw [List.getElem?_append_right (by rw [← h.len]; omega), ← h.len]
      exact h2.get e
  · rcases List.mem_append.mp hr with m | m
    · exact h.fit r m
    · exact h2.fit r m
theorem rep_read {H : Hp} {Q : VK} {l : Addr} {x : V} {k : Int} (hl : H l = some (.tup [x])) (h0 : 0 ≤ k) (h1 : k ≤ 1000) (q : ∀ t H', Same H H' → H' t = some (.tup (List.replicate k.toNat x)) → Q (.ref t) H') : Gx.rRepA K (.ref l) (.int k) H Q := by
  refine ⟨l, k, [x], rfl, rfl, SqT.of hl, by simp, h0, h1, (by show 1 ≤ 1000; decide), fun e => ?_, fun _ t ht => q t _ (same_upd ht) (by rw [upd_same, rep_one])⟩
  subst e
  exact q l H (Same.refl _) hl
/-! ### rows that meet all of a lot with 0 -/
theorem bl_cg {p a : Int} (h : a % p = 0) : Lin.Cg p a 0 := ⟨a / p, by have := Int.emod_def a p; rw [Int.zero_add]; omega⟩
theorem bar_lot0 {p : Int} {m : Nat} {rs : List Row} {r u : Row} (lu : u.length = m) (lr : r.length = m) (lrs : ∀ s ∈ rs, s.length = m) (h : Lin.Lot p (Lin.spn (rs.map flatR)) (vec (flatR r))) (z : ∀ s ∈ rs, metR p u s = 0) : metR p u r = 0 := by
  have key : Lin.Cg p (Lin.dot (Lin.crs (vec (flatR u))) (vec (flatR r)) (2 * m)) 0 := by
    refine Lin.dot_lotR h fun v hv => ?_
    obtain ⟨f, hf, rfl⟩ := hv
    obtain ⟨s, hs, rfl⟩ := List.mem_map.mp hf
    have e := z s hs
    have s1 := Lin.meet_dot (r := u) (s := s) (by rw [lu, lrs s hs])
    rw [lu] at s1
    unfold metR mets at e
    rw [s1] at e
    exact bl_cg e
  have s1 := Lin.meet_dot (r := u) (s := r) (by rw [lu, lr])
  rw [lu] at s1
  unfold metR mets
  rw [s1]
  exact cg_mod0 key
theorem met_flip {p : Int} {r s : Row} (h : metR p r s = 0) : metR p s r = 0 := by
  have anti : ∀ r s : Row, (mets r s).sum = - (mets s r).sum := fun r => by
    induction r with
    | nil => intro s; cases s <;> rfl
    | cons u r ih =>
      intro s
      cases s with
      | nil => rfl
      | cons v s =>
        show (u.1 * v.2 - v.1 * u.2) + (mets r s).sum = -((v.1 * u.2 - u.1 * v.2) + (mets s r).sum)
        rw [ih s]
        omega
  unfold metR at h ⊢
  rw [anti s r]
  exact cg_mod0 (by
    obtain ⟨x, hx⟩ := bl_cg h
    exact ⟨-x, by rw [hx]; grind⟩)
theorem lot_row {p : Int} {rs : List Row} {r : Row} (h : r ∈ rs) : Lin.Lot p (Lin.spn (rs.map flatR)) (vec (flatR r)) := .of ⟨flatR r, List.mem_map.mpr ⟨r, h, rfl⟩, rfl⟩
/-- what meets the rows of a lot with 0 meets any rows that span it so -/
theorem has_due {p : Int} {m : Nat} {ss rs : List Row} {r : Row} (lr : r.length = m) (lss : ∀ s ∈ ss, s.length = m) (lrs : ∀ s ∈ rs, s.length = m) (sp : Span p ss rs) : (ss.all fun s => decide (metR p r s = 0)) = true ↔ ∀ s ∈ rs, metR p s r = 0 := by
  rw [List.all_eq_true]
  constructor
  · intro h s hs
    exact met_flip (bar_lot0 lr (lrs s hs) lss ((sp _).mpr (lot_row hs)) fun u hu => of_decide_eq_true (h u hu))
  · intro h s hs
    exact decide_eq_true (bar_lot0 lr (lss s hs) lrs ((sp _).mp (lot_row hs)) fun u hu => met_flip (h u hu))
theorem th_span {p : Int} {n : Nat} {vs : List (List Int)} {L : List (Nat × List Int)} {us : List Row} (pl : PL p n vs L) (e : us.map flatR = L.map (·.2)) (u : Lin.Vc) : Lin.Lot p (Lin.spn (us.map flatR)) u ↔ Lin.Lot p (Lin.spn vs) u := by
  rw [← pl.lot u, e]
  refine Lin.Lot.iff (fun v hv => ?_) (fun v hv => ?_) u
  · obtain ⟨f, hf, rfl⟩ := hv
    obtain ⟨x, hx, rfl⟩ := List.mem_map.mp hf
    exact .of ⟨(x.1, vec x.2), Lin.mem_vecs.mpr ⟨x, hx, rfl⟩, rfl⟩
  · obtain ⟨y, hy, rfl⟩ := hv
    obtain ⟨x, hx, rfl⟩ := Lin.mem_vecs.mp hy
    exact .of ⟨x.2, List.mem_map.mpr ⟨x, hx, rfl⟩, rfl⟩
/-! ### the program -/
def spWhole : Sp := fun vs H Q _ => ∃ (x : V) (d : PyData), vs = [x] ∧ Dq H x d ∧ Q (.bl (isInt d)) H
def spNum : Sp := fun vs H Q _ => ∃ (p : Int) (x : V) (d : PyData), vs = [.int p, x] ∧ Dq H x d ∧ Q (.bl (isNumD p d)) H
def spPair : Sp := fun vs H Q _ => ∃ (p : Int) (x : V) (d : PyData), vs = [.int p, x] ∧ Dq H x d ∧ Q (.bl (isPairD p d)) H
def spRow : Sp := fun vs H Q _ => ∃ (p n : Int) (x : V) (d : PyData), vs = [.int p, .int n, x] ∧ Dq H x d ∧ (∀ ds, d = .tuple ds → ds.length ≤ 100000) ∧ ∀ H', Same H H' → Q (.bl (isRowD p n d)) H'
/-! ### lists of holds -/
def numT (hs : List Int) : PyData := .tuple (hs.map PyData.int)
theorem dp_hd {H : Hp} {t : Addr} {hs : List Int} (e : H t = some (.tup (hs.map V.int))) : Dp K H (.ref t) (numT hs) := .tup (SqT.of e) (dp_ints _)
theorem dp_trs {H : Hp} : ∀ {xs : List V} {hss : List (List Int)}, Trs H xs hss → DpAll K H xs (hss.map numT)
  | [], [], _ => .nil
  | [], _ :: _, h => by have := h.len; simp at this
  | _ :: _, [], h => by have := h.len; simp at this
  | x :: xs, g :: hss, h => by
    obtain ⟨a, s, rfl, e, w⟩ := h.get (i := 0) (y := x) rfl
    cases e
    exact .cons (dp_hd w) (dp_trs (xs := xs) (hss := hss) ⟨by have := h.len; simpa using this, fun {i y} e => h.get (i := i + 1) e⟩)
theorem sh_numT (hs : List Int) : SeqAt.shaped (numT hs) = true := by
  have h1 := dep_ints hs
  show (PyData.canLay0 (.tuple (hs.map PyData.int)) && decide (PyData.depth (.tuple (hs.map PyData.int)) ≤ 64)) = true
  rw [Bool.and_eq_true]
  exact ⟨by simp only [PyData.canLay0]; exact lay_ints hs, decide_eq_true (by simp only [PyData.depth]; omega)⟩
theorem sh_numTs (hss : List (List Int)) : SeqAt.shaped (.list (hss.map numT)) = true := by
  have al : ∀ hss : List (List Int), PyData.canLayAll0 (hss.map numT) = true ∧ PyData.depthAll (hss.map numT) ≤ 1 := fun hss => by
    induction hss with
    | nil => simp [PyData.canLayAll0, PyData.depthAll]
    | cons g hss ih =>
      have h1 := dep_ints g
      simp only [List.map_cons, PyData.canLayAll0, PyData.depthAll, numT, PyData.canLay0, PyData.depth, lay_ints g, ih.1]
      exact ⟨rfl, by have := ih.2; unfold numT at this; omega⟩
  obtain ⟨a, b⟩ := al hss
  show (PyData.canLay0 (.list (hss.map numT)) && decide (PyData.depth (.list (hss.map numT)) ≤ 64)) = true
  rw [Bool.and_eq_true]
  exact ⟨by simp only [PyData.canLay0]; exact a, decide_eq_true (by simp only [PyData.depth]; omega)⟩
theorem eqv_ints : ∀ xs ys : List Int, PyData.eqvAll (xs.map PyData.int) (ys.map PyData.int) = decide (xs = ys)
  | [], [] => by simp [PyData.eqvAll]
  | [], _ :: _ => by simp [PyData.eqvAll]
  | _ :: _, [] => by simp [PyData.eqvAll]
  | x :: xs, y :: ys => by
    have ih := eqv_ints xs ys
    simp only [List.map_cons, PyData.eqvAll, PyData.eqv, ih]
    simp
    rfl
theorem any_numT {hs : List Int} {hss : List (List Int)} : ((hss.map numT).any fun z => PyData.eqv z (numT hs)) = decide (hs ∈ hss) := by
  rw [List.any_map, Bool.eq_iff_iff, List.any_eq_true, decide_eq_true_iff]
  constructor
  · rintro ⟨g, hg, e⟩
    have e' : PyData.eqv (numT g) (numT hs) = true := e
    unfold numT at e'
    simp only [PyData.eqv] at e'
    rw [eqv_ints] at e'
    rw [← of_decide_eq_true e']
    exact hg
  · intro h
    refine ⟨hs, h, ?_⟩
    show PyData.eqv (numT hs) (numT hs) = true
    unfold numT
    simp only [PyData.eqv]
    rw [eqv_ints, decide_eq_true rfl]
/-- the holds that stand, in a list -/
structure EvAt (H : Hp) (e : Addr) (p : Int) (m : Nat) (ss : List Row) (hss : List (List Int)) : Prop where
  at_ : ∃ ys, H e = some (.lst ys) ∧ Trs H ys hss
  mem : ∀ hs, hs ∈ hss ↔ hs.length = m ∧ Lin.Bits hs ∧ Lin.Std p hs ss
  len : hss.length ≤ 1024
theorem EvAt.sm {H H' : Hp} {e : Addr} {p : Int} {m : Nat} {ss : List Row} {hss : List (List Int)} (h : EvAt H e p m ss hss) (s : Sm H H') : EvAt H' e p m ss hss := ⟨let ⟨ys, h1, h2⟩ := h.at_; ⟨ys, s.lst h1, h2.sm s⟩, h.mem, h.len⟩
theorem EvAt.dp {H : Hp} {e : Addr} {p : Int} {m : Nat} {ss : List Row} {hss : List (List Int)} (h : EvAt H e p m ss hss) : Dp K H (.ref e) (.list (hss.map numT)) := let ⟨_, h1, h2⟩ := h.at_; .lst (SqL.of h1) (dp_trs h2)
/-! a thing made: its own mirror -/
theorem lag_of {p : Int} {hs : List Int} {gs : List (List Int)} {ss s1 : List Row} {L : List (Nat × List Int)} (p1 : 1 < p) (sy : Lin.Sy gs) (pl : PL p (2 * hs.length) (ss.map flatR) L) (es : s1.map flatR = L.map (·.2)) (sl : s1.length = hs.length) (fit : ∀ r ∈ s1, In p r ∧ r.length = hs.length) (sp : Span p s1 (Lin.unitsP p hs gs)) : Lin.Lag p hs.length s1 := by
  refine ⟨fit, sl, Lin.plain_free p1 pl es, fun r hr s hs' => ?_⟩
  have := units_rw_fair p1 sy (fun r hr => (fit r hr).2) (fun r hr => span_mem sp hr) r hr s hs'
  unfold metR mets at this
  exact bl_cg this
theorem std_units {p : Int} {hs : List Int} {gs : List (List Int)} {s1 : List Row} (p1 : 1 < p) (sp : Span p s1 (Lin.unitsP p hs gs)) : Lin.Std p hs s1 := by
  intro u lu z
  obtain ⟨a, ha⟩ := Lin.lot_coef ((sp u).mp lu)
  rw [List.length_map, Lin.units_len] at ha
  have at_ : ∀ k, k < hs.length → Lin.Cg p (a k) 0 := fun k hk => by
    have e := ha (Lin.plc hs k)
    have ec : Lin.dot a (Lin.col ((Lin.unitsP p hs gs).map flatR) (Lin.plc hs k)) hs.length = Lin.dot a (vec (Lin.unitL hs.length k)) hs.length := Lin.dot_ext hs.length (fun i _ => rfl) fun i hi => by
      show vec (((Lin.unitsP p hs gs).map flatR).getD i []) (Lin.plc hs k) = _
      rw [List.getD_eq_getElem?_getD, List.getElem?_map, Lin.units_get hi]
      show vec (flatR (Lin.stP p hs gs (Lin.unitL hs.length i))) (Lin.plc hs k) = _
      rw [Lin.st_held hk, Lin.unit_at, Lin.unit_at]
      by_cases w : k = i
      · rw [if_pos ⟨w, hk⟩, if_pos ⟨w.symm, hi⟩]
      · rw [if_neg (fun y => w y.1), if_neg (fun y => w y.1.symm)]
    rw [ec, Lin.dot_comm, Lin.dot_unit hk] at e
    exact e.symm.trans (z k hk)
  intro j
  refine (ha j).trans ?_
  have := Lin.dot_cgN (p := p) hs.length (u := a) (v := fun _ => 0) (w := Lin.col ((Lin.unitsP p hs gs).map flatR) j) (x := Lin.col ((Lin.unitsP p hs gs).map flatR) j) at_ fun _ _ => Lin.Cg.rfl'
  refine this.trans ?_
  have z0 : ∀ (n : Nat) (v : Lin.Vc), Lin.dot (fun _ => 0) v n = 0 := fun n => by
    induction n with
    | zero => intro v; rfl
    | succ n ih =>
      intro v
      rw [Lin.dot_last, ih]
      omega
  rw [z0]
  exact Lin.Cg.rfl'
/-! ### numbers in tuples and lists, found and due: the same, kinds too -/
def ndD : Nat → PyData → Bool
  | 0, d => isInt d
  | k + 1, d => match d with
    | .int _ => true
    | .tuple ds => decide (ds.length ≤ 5000) && ds.all (ndD k)
    | .list ds => decide (ds.length ≤ 5000) && ds.all (ndD k)
    | _ => false
def smD : Nat → PyData → PyData → Bool
  | 0, d, e => match d, e with
    | .int i, .int j => decide (i = j)
    | _, _ => false
  | k + 1, d, e => match d, e with
    | .int i, .int j => decide (i = j)
    | .tuple xs, .tuple ys => decide (xs.length = ys.length) && (List.zipWith (smD k) xs ys).all id
    | .list xs, .list ys => decide (xs.length = ys.length) && (List.zipWith (smD k) xs ys).all id
    | _, _ => false
def tyN : PyData → String
  | .int _ => "int"
  | .tuple _ => "tuple"
  | _ => "list"
theorem nd_kind {n : Nat} {d : PyData} (h : ndD n d = true) : (∃ i, d = .int i) ∨ (∃ k ds, n = k + 1 ∧ d = .tuple ds ∧ (decide (ds.length ≤ 5000) && ds.all (ndD k)) = true) ∨ (∃ k ds, n = k + 1 ∧ d = .list ds ∧ (decide (ds.length ≤ 5000) && ds.all (ndD k)) = true) := by
  cases n with
  | zero =>
    cases d <;> first | exact .inl ⟨_, rfl⟩ | cases h
  | succ k =>
    cases d <;> first | exact .inl ⟨_, rfl⟩ | exact .inr (.inl ⟨k, _, rfl, rfl, h⟩) | exact .inr (.inr ⟨k, _, rfl, rfl, h⟩) | cases h
theorem Dq.tyN {n : Nat} {H : Hp} {x : V} {d : PyData} (h : Dq H x d) (k : ndD n d = true) : TyX K H x (.type (tyN d)) := by
  rcases nd_kind k with ⟨i, rfl⟩ | ⟨_, ds, _, rfl, _⟩ | ⟨_, ds, _, rfl, _⟩
  · cases h
    exact .base (.int _)
  · cases h with
    | tup e _ => exact .base (.tup e)
  · cases h with
    | lst e _ => exact .base (.lst e)
def kdD : Zm.Kd → List PyData → PyData
  | .t, es => .tuple es
  | .l, es => .list es
def kdT : Zm.Kd → String
  | .t => "tuple"
  | .l => "list"
theorem tyN_kd {kd : Zm.Kd} {es : List PyData} : tyN (kdD kd es) = kdT kd := by cases kd <;> rfl
theorem kdT_in {kd : Zm.Kd} : kdT kd = "tuple" ∨ kdT kd = "list" := by cases kd <;> simp [kdT]
theorem nd_seq {n : Nat} {H : Hp} {x : V} {d : PyData} (h : Dq H x d) (kk : ndD n d = true) : (∃ i, x = .int i ∧ d = .int i) ∨ ∃ (k : Nat) (kd : Zm.Kd) (b : Addr) (ys : List V) (es : List PyData), n = k + 1 ∧ x = .ref b ∧ At kd H b ys ∧ DqAll H ys es ∧ (decide (es.length ≤ 5000) && es.all (ndD k)) = true ∧ d = kdD kd es := by
  rcases nd_kind kk with ⟨i, rfl⟩ | ⟨k, es, h1, rfl, h2⟩ | ⟨k, es, h1, rfl, h2⟩
  · cases h
    exact .inl ⟨i, rfl, rfl⟩
  · cases h with
    | tup a b => exact .inr ⟨k, .t, _, _, es, h1, rfl, a, b, h2, rfl⟩
  · cases h with
    | lst a b => exact .inr ⟨k, .l, _, _, es, h1, rfl, a, b, h2, rfl⟩
theorem kit_int {K : PySem.W.Frag} : PySem.W.kitAny K (.type "int") [.type "tuple", .type "list"] = some false := kitAny_cons (isi_of "tuple" (by simp) (by simp)) (fun _ => kitAny_cons (isi_of "list" (by simp) (by simp)) (fun _ => kitAny_nil) (by decide +kernel)) (by decide +kernel)
theorem kit_tup {K : PySem.W.Frag} : PySem.W.kitAny K (.type "tuple") [.type "tuple", .type "list"] = some true := kitAny_cons (isi_of "tuple" (by simp) (by simp)) (fun h => absurd h (by decide +kernel)) (fun _ => rfl)
theorem kit_lst {K : PySem.W.Frag} : PySem.W.kitAny K (.type "list") [.type "tuple", .type "list"] = some true := kitAny_cons (isi_of "tuple" (by simp) (by simp)) (fun _ => kitAny_cons (isi_of "list" (by simp) (by simp)) (fun h => absurd h (by decide +kernel)) (fun _ => rfl)) (fun _ => rfl)
theorem kit_seq {K : PySem.W.Frag} {T : String} (h : T = "tuple" ∨ T = "list") : PySem.W.kitAny K (.type T) [.type "tuple", .type "list"] = some true := by
  rcases h with rfl | rfl
  · exact kit_tup
  · exact kit_lst
theorem tyN_in {d : PyData} : tyN d = "int" ∨ tyN d = "bool" ∨ tyN d = "NoneType" ∨ tyN d = "str" ∨ tyN d = "list" ∨ tyN d = "tuple" ∨ tyN d = "dict" := by
  cases d <;> simp [tyN]
def spSame (n : Nat) : Sp := fun vs H Q _ => ∃ (x y : V) (d e : PyData), vs = [x, y] ∧ Dq H x d ∧ Dq H y e ∧ ndD n d = true ∧ ndD n e = true ∧ ∀ H', Same H H' → Q (.bl (smD n d e)) H'
def spPrev : Nat → Sp
  | 0 => fun _ _ _ _ => False
  | n + 1 => spSame n
theorem ok__law_whole (T : Tx K mg A) : FnOk P w K mg base CX0 1 A.f__law_whole A.d__law_whole ["_law_thing"] spWhole := by
  refine T.d__law_whole.F.ok sc__law_whole (fun vs H Q E h => ?_) (fun cdv A outer s H vs Q E hr h => ?_)
  · obtain ⟨x, t, rfl, _⟩ := h
    rfl
  · obtain ⟨x, o, rfl, th, q⟩ := h
    obtain ⟨t, ⟨ty, ht⟩, e, _⟩ := th.ty (K := K)
    rw [← e] at q
    refine ⟨_, (pss_one (ps_ret (pe_and (pe_callB call_isi (by rfl) T.b_isinstance PyProof.Rows.boot_isinstance (pa_cons (pv 0) (pa_cons (pe_bltn (v := .ty "int") (by rfl) T.b_int PyProof.Rows.boot_int rfl) pa_nil))) (pe_one (pe_not (pe_callB call_isi (by rfl) T.b_isinstance PyProof.Rows.boot_isinstance (pa_cons (pv 0) (pa_cons (pe_bltn (v := .ty "bool") (by rfl) T.b_bool PyProof.Rows.boot_bool rfl) pa_nil)))))))), ?_⟩
    refine ⟨x, rfl, x, _, _, _, _, rfl, .ty "int", ty, isi_of "int" ht (.inl rfl), _, rfl, ite2 (fun e => ?_) (fun e => ?_)⟩
    · refine ⟨x, rfl, x, _, _, _, _, rfl, .ty "bool", ty, isi_of "bool" ht (.inr (.inl rfl)), _, rfl, ?_⟩
      rw [e] at q
      exact q
    · have e2 : isB t "int" = false := Bool.eq_false_iff.mpr e
      rw [e2] at q
      exact q
theorem same_step (T : Tx K mg A) (n : Nat) (G__law_same : FnOk P w K mg base CX0 (0 + n + 1) A.f__law_same A.d__law_same ["_law_found", "_law_due"] (spPrev n)) : FnOk P w K mg base CX0 (0 + n + 2) A.f__law_same A.d__law_same ["_law_found", "_law_due"] (spSame n) := by
  have G__law_whole : FnOk P w K mg base CX0 1 A.f__law_whole A.d__law_whole ["_law_thing"] spWhole := ok__law_whole T
  refine T.d__law_same.F.ok sc__law_same (fun vs H Q E h => ?_) (fun cdv A outer s H vs Q E hr h => ?_)
  · obtain ⟨x, y, d, e, rfl, _⟩ := h
    rfl
  · obtain ⟨x, y, d, e, rfl, hx, hy, nx, ny, q⟩ := h
    refine ⟨_, (pss_cons (ps_if (pt_val (pe_callB call_isiT (by rfl) T.b_isinstance PyProof.Rows.boot_isinstance (pa_cons (pv 1) (pa_cons (pe_tup (pa_cons (pe_bltn (v := .ty "tuple") (by rfl) T.b_tuple PyProof.Rows.boot_tuple rfl) (pa_cons (pe_bltn (v := .ty "list") (by rfl) T.b_list PyProof.Rows.boot_list rfl) pa_nil))) pa_nil))))
        (pss_cons (ps_if (pt_cmpR op_ne (pe_callB call_isi (by rfl) T.b_isinstance PyProof.Rows.boot_isinstance (pa_cons (pv 0) (pa_cons (pe_bltn (v := .ty "tuple") (by rfl) T.b_tuple PyProof.Rows.boot_tuple rfl) pa_nil))) (pe_callB call_isi (by rfl) T.b_isinstance PyProof.Rows.boot_isinstance (pa_cons (pv 1) (pa_cons (pe_bltn (v := .ty "tuple") (by rfl) T.b_tuple PyProof.Rows.boot_tuple rfl) pa_nil))) (nomark _))
        (pss_one (ps_ret pe_bl))
        pss_nil)
        (pss_cons (ps_if (PW.pt (pw_or (pt_cmpR op_ne (pe_callB call_isi (by rfl) T.b_isinstance PyProof.Rows.boot_isinstance (pa_cons (pv 0) (pa_cons (pe_bltn (v := .ty "list") (by rfl) T.b_list PyProof.Rows.boot_list rfl) pa_nil))) (pe_callB call_isi (by rfl) T.b_isinstance PyProof.Rows.boot_isinstance (pa_cons (pv 1) (pa_cons (pe_bltn (v := .ty "list") (by rfl) T.b_list PyProof.Rows.boot_list rfl) pa_nil))) (nomark _)) (pw_or1 (pt_cmpR op_ne (pe_callB call_len_seq (by rfl) T.b_len PySem.boot_len (pa_cons (pv 0) pa_nil)) (pe_callB call_len_seq (by rfl) T.b_len PySem.boot_len (pa_cons (pv 1) pa_nil)) (nomark _)))))
        (pss_one (ps_ret pe_bl))
        pss_nil)
        (pss_one (ps_ret (pe_callB (cr_all rfl) (by rfl) T.b_all PyProof.Rows.boot_all (pa_cons (pe_lc (own := [("_law_one", 2), ("_law_other", 3)]) (g := (gTup K 2 (gCons (gName 2) (gCons (gName 3) gNil)))) rfl sc__law_same.nd (Zm.pi_zipK (by rfl) T.b_zip (pa_cons (pv 0) (pa_cons (pv 1) pa_nil))) (blkOk_by (N := N__law_same) (sc := defScope s__law_same) (by decide +kernel)) (fun _ _ _ _ _ => (pg_tup rfl (pgs_cons (pg_name (i := 2) sc__law_same.nd rfl (.inl rfl)) (pgs_cons (pg_name (i := 3) sc__law_same.nd rfl (.inl rfl)) pgs_nil)))) (fun _ _ _ _ _ => pts_nil) (fun _ _ _ _ _ => (pe_call G__law_same (hr.mono (by omega)) (by rfl) T.d__law_same.g T.d__law_same.F.kp T.d__law_same.b .nil pass0 (pa_cons (pv 2) (pa_cons (pv 3) pa_nil))))) pa_nil))))))
        pss_nil)
        (pss_cons (ps_if (PW.pt (pw_or (pt_val (pe_callB call_isi (by rfl) T.b_isinstance PyProof.Rows.boot_isinstance (pa_cons (pv 1) (pa_cons (pe_bltn (v := .ty "bool") (by rfl) T.b_bool PyProof.Rows.boot_bool rfl) pa_nil)))) (pw_or1 (pt_val (pe_callB call_isi (by rfl) T.b_isinstance PyProof.Rows.boot_isinstance (pa_cons (pv 0) (pa_cons (pe_bltn (v := .ty "bool") (by rfl) T.b_bool PyProof.Rows.boot_bool rfl) pa_nil)))))))
        (pss_one (ps_ret (pe_and (pe_callB call_isi (by rfl) T.b_isinstance PyProof.Rows.boot_isinstance (pa_cons (pv 1) (pa_cons (pe_bltn (v := .ty "bool") (by rfl) T.b_bool PyProof.Rows.boot_bool rfl) pa_nil))) (pe_and (pe_callB call_isi (by rfl) T.b_isinstance PyProof.Rows.boot_isinstance (pa_cons (pv 0) (pa_cons (pe_bltn (v := .ty "bool") (by rfl) T.b_bool PyProof.Rows.boot_bool rfl) pa_nil))) (pe_one (pe_cmpR op_eq (pv 0) (pv 1) (nomark _)))))))
        pss_nil)
        (pss_cons (ps_if (PW.pt (pw_or (pt_cmpR op_isN (pv 1) pe_non (nomark _)) (pw_or1 (pt_val (pe_callB call_isi (by rfl) T.b_isinstance PyProof.Rows.boot_isinstance (pa_cons (pv 1) (pa_cons (pe_bltn (v := .ty "str") (by rfl) T.b_str PyProof.Rows.boot_str rfl) pa_nil)))))))
        (pss_one Cl.ps_never)
        pss_nil)
        (pss_one (ps_ret (pe_and (pe_call G__law_whole (hr.mono (by omega)) (by rfl) T.d__law_whole.g T.d__law_whole.F.kp T.d__law_whole.b .nil pass0 (pa_cons (pv 0) pa_nil)) (pe_one (pe_cmpR op_eq (pv 0) (pv 1) (nomark _))))))))), ?_⟩
    refine ⟨y, rfl, (by show 2 ≤ sizeLine; decide), fun tp htp => ?_⟩
    have s1 : Same H (upd H tp (.tup [.ty "tuple", .ty "list"])) := same_upd htp
    have et : upd H tp (.tup [.ty "tuple", .ty "list"]) tp = some (.tup [.ty "tuple", .ty "list"]) := upd_same
    generalize upd H tp (.tup [.ty "tuple", .ty "list"]) = H1 at s1 et ⊢
    have hx1 := hx.same s1
    have hy1 := hy.same s1
    have ty1 := hx1.tyN (K := K) nx
    have ty2 := hy1.tyN (K := K) ny
    rcases nd_seq hy1 ny with ⟨j, rfl, rfl⟩ | ⟨k, kd, b, ys, es, rfl, rfl, hb, hys, nes, rfl⟩
    · refine ⟨.int j, tp, _, _, _, false, rfl, et, .cons (.ty _) (.cons (.ty _) .nil), ty2, kit_int, ?_⟩
      refine ⟨false, rfl, ?_⟩
      have nb : isB (tyN d) "bool" = false := by
        rcases nd_kind nx with ⟨i, rfl⟩ | ⟨_, _, _, rfl, _⟩ | ⟨_, _, _, rfl, _⟩
        · show isB "int" "bool" = false; decide +kernel
        · show isB "tuple" "bool" = false; decide +kernel
        · show isB "list" "bool" = false; decide +kernel
      refine ⟨.int j, rfl, .int j, _, _, _, false, rfl, .ty "bool", ty2, isi_of "bool" tyN_in (by simp), false, rfl, x, rfl, x, _, _, _, false, rfl, .ty "bool", ty1, by rw [← nb]; exact isi_of "bool" tyN_in (by simp), false, rfl, ?_⟩
      refine ⟨.int j, rfl, rfl, false, rfl, .int j, rfl, .int j, _, _, _, false, rfl, .ty "str", ty2, isi_of "str" tyN_in (by simp), false, rfl, ?_⟩
      refine ⟨x, rfl, x, d, rfl, hx1, _, rfl, ite2 (fun z => ?_) (fun z => ?_)⟩
      · obtain ⟨i, rfl, rfl⟩ := isInt_of hx1 z
        refine ⟨.int i, rfl, .int j, rfl, rfl, ?_⟩
        have e : smD n (.int i) (.int j) = decide (i = j) := by cases n <;> rfl
        rw [e] at q
        have e2 : decide (V.int i = V.int j) = decide (i = j) := by
          by_cases y : i = j
          · rw [decide_eq_true y, decide_eq_true (congrArg V.int y)]
          · rw [decide_eq_false y, decide_eq_false fun w => y (V.int.inj w)]
        rw [e2]
        exact q H1 s1
      · have e : smD n d (.int j) = false := by
          rcases nd_kind nx with ⟨i, rfl⟩ | ⟨_, _, rfl, rfl, _⟩ | ⟨_, _, rfl, rfl, _⟩
          · exact absurd rfl z
          · rfl
          · rfl
        rw [e] at q
        exact q H1 s1
    · rw [tyN_kd] at ty2
      refine ⟨.ref b, tp, _, _, _, true, rfl, et, .cons (.ty _) (.cons (.ty _) .nil), ty2, kit_seq kdT_in, ?_⟩
      refine ⟨true, rfl, ?_⟩
      refine ⟨x, rfl, x, _, _, _, _, rfl, .ty "tuple", ty1, isi_of "tuple" tyN_in (by simp), .ref b, rfl, .ref b, _, _, _, _, rfl, .ty "tuple", ty2, isi_of "tuple" (by cases kd <;> simp [kdT]) (by simp), rfl, _, rfl, ?_⟩
      have no : tyN d ≠ kdT kd → smD (k + 1) d (kdD kd es) = false := fun w => by
        rcases nd_kind nx with ⟨i, rfl⟩ | ⟨_, _, _, rfl, _⟩ | ⟨_, _, _, rfl, _⟩
        · cases kd <;> rfl
        · cases kd
          · rfl
          · exact absurd rfl w
        · cases kd
          · exact absurd rfl w
          · rfl
      refine ite2 (fun z => ?_) (fun z1 => ?_)
      · rw [no fun w => by rw [w] at z; simp at z] at q
        exact q H1 s1
      · refine ⟨x, rfl, x, _, _, _, _, rfl, .ty "list", ty1, isi_of "list" tyN_in (by simp), .ref b, rfl, .ref b, _, _, _, _, rfl, .ty "list", ty2, isi_of "list" (by cases kd <;> simp [kdT]) (by simp), rfl, _, rfl, ite2 (fun z => ?_) (fun z2 => ?_)⟩
        · rw [no fun w => by rw [w] at z; simp at z] at q
          exact q H1 s1
        · have same : ∃ (a : Addr) (xs : List V) (ds : List PyData), x = .ref a ∧ At kd H1 a xs ∧ DqAll H1 xs ds ∧ (decide (ds.length ≤ 5000) && ds.all (ndD k)) = true ∧ d = kdD kd ds := by
            rcases nd_seq hx1 nx with ⟨i, rfl, rfl⟩ | ⟨k', kd', a, xs, ds, e1, rfl, h2, h3, h4, rfl⟩
            · exfalso
              cases kd
              · simp at z2; revert z2; show ¬ isB "int" "list" = isB "list" "list"; decide +kernel
              · simp at z1; revert z1; show ¬ isB "int" "tuple" = isB "tuple" "tuple"; decide +kernel
            · cases e1
              have ek : kd' = kd := by
                cases kd <;> cases kd'
                · rfl
                · exact False.elim (by simp at z1; revert z1; show ¬ isB "tuple" "tuple" = isB "list" "tuple"; decide +kernel)
                · exact False.elim (by simp at z1; revert z1; show ¬ isB "list" "tuple" = isB "tuple" "tuple"; decide +kernel)
                · rfl
              subst ek
              exact ⟨a, xs, ds, rfl, h2, h3, h4, rfl⟩
          obtain ⟨a, xs, ds, rfl, ha, hxs, nds, rfl⟩ := same
          have sq : ∀ {b : Addr} {ys : List V}, At kd H1 b ys → (SqL K H1 b ys ∨ SqT K H1 b ys) := fun {b ys} h => by
            cases kd
            · exact .inl (SqL.of h)
            · exact .inr (SqT.of h)
          have sk : smD (k + 1) (kdD kd ds) (kdD kd es) = (decide (ds.length = es.length) && (List.zipWith (smD k) ds es).all id) := by cases kd <;> rfl
          rw [sk] at q
          have xl := hxs.length
          have yl := hys.length
          refine ⟨.ref a, rfl, a, xs, rfl, sq ha, .ref b, rfl, b, ys, rfl, sq hb, rfl, _, rfl, ite2 (fun z => ?_) (fun z => ?_)⟩
          · have ne : ¬ ds.length = es.length := fun w => by
              rw [show xs.length = ys.length by omega] at z
              simp at z
            rw [decide_eq_false ne, Bool.false_and] at q
            exact q H1 s1
          · have eq : ds.length = es.length := Classical.byContradiction fun w => z (by
              rw [decide_eq_false fun y => w (by have := V.int.inj y; omega)]
              rfl)
            rw [decide_eq_true eq, Bool.true_and] at q
            have aq : ∀ {H' : Hp}, Same H1 H' → ∀ {b : Addr} {ys : List V}, At kd H1 b ys → At kd H' b ys := by
              intro H' s b ys h
              exact At.sm h (.of_same s)
            refine ⟨.ref a, rfl, .ref b, rfl, kd, kd, a, b, xs, ys, rfl, ha.sq, hb.sq, fun D hD => lc_it (σ := [some (.ref a), some (.ref b), none, none]) (vs := [2, 3]) (Zm.walk2 (xs := xs) (ys := ys) (by omega)) (fun i H' => Same H1 H' ∧ H' D = some (.lst (((List.zipWith (smD k) ds es).take i).map V.bl))) ⟨same_upd hD, upd_same⟩ (fun i H' _ h => ⟨(aq h.1 ha).sq, (aq h.1 hb).sq⟩) ?_ ?_⟩
            · rintro i x H2 H3 hi ⟨s2, eD⟩ ⟨T1, x1, y1, rfl, hT, rfl, hx1', hy1'⟩
              dsimp only at hx1' hy1'
              obtain ⟨d1, ed1, hd1⟩ := hxs.get hx1'
              obtain ⟨e1, ee1, he1⟩ := hys.get hy1'
              have s3 : Same H1 (upd H2 T1 (.tup [x1, y1])) := s2.trans (same_upd hT)
              have eD3 : upd H2 T1 (.tup [x1, y1]) D = _ := same_upd hT _ _ eD
              have ez : (List.zipWith (smD k) ds es)[i]? = some (smD k d1 e1) := by
                rw [List.getElem?_zipWith, ed1, ee1]
              rw [Bool.and_eq_true] at nds nes
              have big : sizeLine = 16777216 := by decide
              have dl := of_decide_eq_true nds.1
              refine ⟨T1, [x1, y1], rfl, SqT.of upd_same, rfl, x1, [y1], rfl, y1, [], rfl, rfl, ?_⟩
              dsimp only [wipe, List.set]
              refine ⟨rfl, x1, rfl, y1, rfl, x1, y1, d1, e1, rfl, hd1.same s3, he1.same s3, List.all_eq_true.mp nds.2 d1 (List.mem_of_getElem? ed1), List.all_eq_true.mp nes.2 e1 (List.mem_of_getElem? ee1), fun H4 s4 => ?_⟩
              refine ⟨_, s4 _ _ eD3, ?_, same_put (s3.trans s4) hD, ?_⟩
              · rw [List.length_map, List.length_take, List.length_zipWith]
                omega
              · rw [upd_same, take_snoc ez, List.map_append]
                rfl
            · rintro H2 ⟨s2, eD⟩
              rw [List.take_of_length_le (by rw [List.length_zipWith]; omega)] at eD
              exact ⟨D, _, rfl, SqL.of eD, q H2 (s1.trans s2)⟩
theorem ok__law_same (T : Tx K mg A) {n : Nat} (hn : n ≤ 20) : FnOk P w K mg base CX0 40 A.f__law_same A.d__law_same ["_law_found", "_law_due"] (spSame n) := by
  have all : ∀ n, FnOk P w K mg base CX0 (0 + n + 2) A.f__law_same A.d__law_same ["_law_found", "_law_due"] (spSame n) := fun n => by
    induction n with
    | zero => exact same_step T 0 (T.d__law_same.F.ok sc__law_same (fun vs H Q E h => h.elim) (fun cdv A outer s H vs Q E hr h => h.elim))
    | succ n ih => exact same_step T (n + 1) ih
  exact (all n).mono (by omega)
/-! holds in lists, as found and due -/
theorem dqI {H : Hp} : ∀ ns : List Int, DqAll H (ns.map V.int) (ns.map PyData.int)
  | [] => .nil
  | n :: ns => .cons (.int n) (dqI ns)
theorem dq_num {H : Hp} {t : Addr} {ns : List Int} (e : H t = some (.tup (ns.map V.int))) : Dq H (.ref t) (numT ns) := .tup e (dqI ns)
theorem dq_trs {H : Hp} : ∀ {xs : List V} {hss : List (List Int)}, Trs H xs hss → DqAll H xs (hss.map numT)
  | [], [], _ => .nil
  | [], _ :: _, h => by have := h.len; simp at this
  | _ :: _, [], h => by have := h.len; simp at this
  | x :: xs, g :: hss, h => by
    obtain ⟨a, s, rfl, e, w⟩ := h.get (i := 0) (y := x) rfl
    cases e
    exact .cons (dq_num w) (dq_trs (xs := xs) (hss := hss) ⟨by have := h.len; simpa using this, fun {i y} e => h.get (i := i + 1) e⟩)
theorem nd_num {hs : List Int} (h : hs.length ≤ 5000) : ndD 1 (numT hs) = true := by
  show (decide ((hs.map PyData.int).length ≤ 5000) && (hs.map PyData.int).all (ndD 0)) = true
  rw [List.length_map, decide_eq_true h, Bool.true_and, List.all_eq_true]
  intro e he
  obtain ⟨i, _, rfl⟩ := List.mem_map.mp he
  rfl
theorem nd_holds {hss : List (List Int)} (l : hss.length ≤ 5000) (h : ∀ hs ∈ hss, hs.length ≤ 10) : ndD 2 (.list (hss.map numT)) = true := by
  show (decide ((hss.map numT).length ≤ 5000) && (hss.map numT).all (ndD 1)) = true
  rw [List.length_map, decide_eq_true l, Bool.true_and, List.all_eq_true]
  intro d hd
  obtain ⟨hs, hm, rfl⟩ := List.mem_map.mp hd
  show (decide ((hs.map PyData.int).length ≤ 5000) && (hs.map PyData.int).all (ndD 0)) = true
  have := h hs hm
  rw [List.length_map, decide_eq_true (by omega), Bool.true_and, List.all_eq_true]
  intro e he
  obtain ⟨i, _, rfl⟩ := List.mem_map.mp he
  rfl
theorem sm_refl : ∀ (n : Nat) (d : PyData), ndD n d = true → smD n d d = true
  | 0, d, h => by
    cases d <;> first | exact decide_eq_true rfl | cases h
  | n + 1, d, h => by
    have all : ∀ ds : List PyData, (decide (ds.length ≤ 5000) && ds.all (ndD n)) = true → (decide (ds.length = ds.length) && (List.zipWith (smD n) ds ds).all id) = true := fun ds h => by
      rw [Bool.and_eq_true] at h
      rw [decide_eq_true rfl, Bool.true_and, List.all_eq_true]
      intro b hb
      obtain ⟨i, hi, rfl⟩ := List.mem_iff_getElem.mp hb
      rw [List.getElem_zipWith]
      exact sm_refl n _ (List.all_eq_true.mp h.2 _ (List.getElem_mem _))
    rcases nd_kind h with ⟨i, rfl⟩ | ⟨k, ds, e, rfl, h2⟩ | ⟨k, ds, e, rfl, h2⟩
    · exact decide_eq_true rfl
    · cases e
      exact all ds h2
    · cases e
      exact all ds h2
-- CUT
/-! ### boards, stands by held numbers -/
theorem ux {a b c : Nat} (h : a + 80 < c) (e : b ≤ a + 16) : b + 64 < c := by omega
theorem u65 {n c : Nat} (h : n + 80 < c) : n + 65 < c := by omega
def spHeld : Sp := fun vs H Q _ => ∃ (p : Int) (a b : Addr) (hs : List Int) (r : Row), vs = [.ref a, .ref b] ∧ HdAt H a hs ∧ Rk p hs.length H b r ∧ ∀ t H', Same H H' → H' t = some (.tup ((Lin.heldL hs r).map V.int)) → Q (.ref t) H'
theorem ok__law_held (T : Tx K mg A) : FnOk P w K mg base CX0 1 A.f__law_held A.d__law_held ["_law_hold_here", "_law_row"] spHeld := by
  refine T.d__law_held.F.ok sc__law_held (fun vs H Q E h => ?_) (fun cdv A outer s H vs Q E hr h => ?_)
  · obtain ⟨p, a, b, hs, r, rfl, _⟩ := h
    rfl
  · obtain ⟨p, a, b, hs, r, rfl, hh, kr, q⟩ := h
    have hl := hh.len
    obtain ⟨⟨xs, ex, hx⟩, inr, lr⟩ := kr
    have xl := hx.len
    have zl := Lin.held_len lr
    refine ⟨_, (pss_one (ps_ret (pe_callTy call_tuple_of (by rfl) T.b_tuple PyProof.Rows.boot_tuple (pa_cons (pe_lc (own := [("_law_pair", 2), ("_law_side", 3)]) (g := (gTup K 2 (gCons (gName 2) (gCons (gName 3) gNil)))) rfl sc__law_held.nd (Zm.pi_zipK (by rfl) T.b_zip (pa_cons (pv 1) (pa_cons (pv 0) pa_nil))) (blkOk_by (N := N__law_held) (sc := defScope s__law_held) (by decide +kernel)) (fun _ _ _ _ _ => (pg_tup rfl (pgs_cons (pg_name (i := 2) sc__law_held.nd rfl (.inl rfl)) (pgs_cons (pg_name (i := 3) sc__law_held.nd rfl (.inl rfl)) pgs_nil)))) (fun _ _ _ _ _ => pts_nil) (fun _ _ _ _ _ => (pe_ix (show IxR _ (rIxT K) from ix_tup) (pv 2) (pv 3) (fun _ _ => rfl)))) pa_nil)))), ?_⟩
    refine ⟨.ref b, rfl, .ref a, rfl, .t, .t, b, a, _, _, rfl, SqT.of ex, SqT.of hh.at_, fun D hD => lc_it (σ := [some (.ref a), some (.ref b), none, none]) (vs := [2, 3]) (Zm.walk2 (xs := xs) (ys := hs.map V.int) (by rw [List.length_map]; omega)) (fun i H' => Same H H' ∧ H' D = some (.lst (((Lin.heldL hs r).take i).map V.int))) ⟨same_upd hD, upd_same⟩ (fun i H' _ h => ⟨SqT.of (h.1 _ _ ex), SqT.of (h.1 _ _ hh.at_)⟩) ?_ ?_⟩
    · rintro i x H1 H2 hi ⟨s1, eD⟩ ⟨T1, x1, y1, rfl, hT, rfl, hx1, hy1⟩
      dsimp only at hx1 hy1
      rw [List.getElem?_map] at hy1
      obtain ⟨h, eh, rfl⟩ := Option.map_eq_some_iff.mp hy1
      obtain ⟨u, eu, c, rfl, hb⟩ := hx.get hx1
      have s2 : Same H (upd H1 T1 (.tup [.ref c, .int h])) := s1.trans (same_upd hT)
      have eD2 : upd H1 T1 (.tup [.ref c, .int h]) D = _ := same_upd hT _ _ eD
      have ez : (Lin.heldL hs r)[i]? = some (if h = 0 then u.1 else u.2) := by
        unfold Lin.heldL
        rw [List.getElem?_zipWith, eh, eu]
      have ea : atI [V.int u.1, V.int u.2] h = some (.int (if h = 0 then u.1 else u.2)) := by
        rcases hh.bit h (List.mem_of_getElem? eh) with z | z
        · subst z
          rfl
        · subst z
          rfl
      refine ⟨T1, [.ref c, .int h], rfl, SqT.of upd_same, rfl, .ref c, [.int h], rfl, .int h, [], rfl, rfl, ?_⟩
      dsimp only [wipe, List.set]
      refine ⟨rfl, .ref c, rfl, .int h, rfl, c, _, h, .int (if h = 0 then u.1 else u.2), rfl, rfl, SqT.of (s2 _ _ hb), ea, _, eD2, ?_, same_put s2 hD, ?_⟩
      · rw [List.length_map, List.length_take]
        exact small (by omega)
      · rw [upd_same, take_snoc ez, List.map_append]
        rfl
    · rintro H1 ⟨s1, eD⟩
      rw [List.take_of_length_le (by omega)] at eD
      exact ⟨D, _, rfl, .inl ⟨SqL.of eD, fun t ht => q t _ (s1.trans (same_upd ht)) upd_same⟩⟩
def spLets : Sp := fun vs H Q _ => ∃ (p : Int) (a tt b : Addr) (hs : List Int) (gs : List (List Int)) (r : Row), vs = [.int p, .ref a, .ref tt, .ref b] ∧ 1 < p ∧ p ≤ 13 ∧ HdAt H a hs ∧ TbAt p hs.length H tt gs ∧ Rk p hs.length H b r ∧ Lin.Lot p (Lin.spn ((Lin.unitsP p hs gs).map flatR)) (vec (flatR r)) ∧ ∀ H', Same H H' → Q (.bl true) H'
theorem ok__law_lets (T : Tx K mg A) : FnOk P w K mg base CX0 2 A.f__law_lets A.d__law_lets ["_law_p", "_law_hold_here", "_law_grid", "_law_row"] spLets := by
  have G__law_stand : FnOk P w K mg base CX0 1 A.f__law_stand A.d__law_stand ["_law_p", "_law_hold_here", "_law_grid", "_law_held_here"] spStand := ok__law_stand T
  have G__law_held : FnOk P w K mg base CX0 1 A.f__law_held A.d__law_held ["_law_hold_here", "_law_row"] spHeld := ok__law_held T
  refine T.d__law_lets.F.ok sc__law_lets (fun vs H Q E h => ?_) (fun cdv A outer s H vs Q E hr h => ?_)
  · obtain ⟨p, a, tt, b, hs, gs, r, rfl, _⟩ := h
    rfl
  · obtain ⟨p, a, tt, b, hs, gs, r, rfl, p1, p13, hh, tb, kr, lt, q⟩ := h
    refine ⟨_, (pss_one (ps_ret (pe_cmpR (op_eqD hr.units) (pe_call G__law_stand hr (by rfl) T.d__law_stand.g T.d__law_stand.F.kp T.d__law_stand.b .nil pass0 (pa_cons (pv 0) (pa_cons (pv 1) (pa_cons (pv 2) (pa_cons (pe_call G__law_held hr (by rfl) T.d__law_held.g T.d__law_held.F.kp T.d__law_held.b .nil pass0 (pa_cons (pv 1) (pa_cons (pv 3) pa_nil))) pa_nil))))) (pv 3) (nomark _)))), ?_⟩
    refine ⟨.int p, rfl, .ref a, rfl, .ref tt, rfl, .ref a, rfl, .ref b, rfl, p, a, b, hs, r, rfl, hh, kr, fun t H1 s1 et => ?_⟩
    have lr := kr.len
    have inr := kr.inp
    have rgh : Rg p (Lin.heldL hs r) := fun u hu => by
      unfold Lin.heldL at hu
      obtain ⟨i, hi, rfl⟩ := List.mem_iff_getElem.mp hu
      rw [List.getElem_zipWith]
      have := inr _ (List.getElem_mem (show i < r.length by rw [List.length_zipWith] at hi; omega))
      split
      · exact this.1
      · exact this.2
    refine ⟨p, a, tt, t, hs, gs, Lin.heldL hs r, rfl, by omega, p13, hh.same s1, tb.same s1, et, Lin.held_len lr, rgh, fun t2 H2 s2 k2 => ?_⟩
    rw [Lin.lot_stand p1 inr lr lt] at k2
    have s02 := s1.trans s2
    refine ⟨.ref b, rfl, rowD r, rowD r, dp_row k2.rw, dp_row (kr.sm (.of_same s02)).rw, sh_row r, sh_row r, ?_⟩
    have e : PyData.eqv (rowD r) (rowD r) = true := by rw [eqv_row, decide_eq_true rfl]
    rw [e]
    exact q H2 s02
-- CUT
def spBoard : Sp := fun vs H Q _ => ∃ (p : Int) (m : Nat) (tt : Addr) (gs : List (List Int)), vs = [.int p, .int m, .ref tt] ∧ 1 < p ∧ p ≤ 13 ∧ m ≤ 10 ∧ TbAt p m H tt gs ∧ ∀ H', Same H H' → Q (.bl true) H'
set_option maxHeartbeats 2000000 in
theorem ok__law_is_board (T : Tx K mg A) : FnOk P w K mg base CX0 2 A.f__law_is_board A.d__law_is_board ["_law_p", "_law_posts", "_law_thing"] spBoard := by
  have G__law_whole : FnOk P w K mg base CX0 1 A.f__law_whole A.d__law_whole ["_law_thing"] spWhole := ok__law_whole T
  refine T.d__law_is_board.F.ok sc__law_is_board (fun vs H Q E h => ?_) (fun cdv A outer s H vs Q E hr h => ?_)
  · obtain ⟨p, m, tt, gs, rfl, _⟩ := h
    rfl
  · obtain ⟨p, m, tt, gs, rfl, p1, p13, m10, tb, q⟩ := h
    obtain ⟨ys, et, tr⟩ := tb.at_
    have gl := tb.len
    have yl := tr.len
    refine ⟨_, (pss_cons (ps_if (PW.pt (pw_or (pt_not (pt_val (pe_callB call_isi (by rfl) T.b_isinstance PyProof.Rows.boot_isinstance (pa_cons (pv 2) (pa_cons (pe_bltn (v := .ty "tuple") (by rfl) T.b_tuple PyProof.Rows.boot_tuple rfl) pa_nil))))) (pw_or1 (pt_cmpR op_ne (pe_callB call_len_seq (by rfl) T.b_len PySem.boot_len (pa_cons (pv 2) pa_nil)) (pv 1) (nomark _)))))
        (pss_one (ps_ret pe_bl))
        pss_nil)
        (pss_cons (ps_for PassesOwn.never rfl (pi_tup (pv 2)) (pg_name (i := 3) sc__law_is_board.nd rfl (.inl rfl))
        (pss_cons (ps_if (PW.pt (pw_or (pt_not (pt_val (pe_callB call_isi (by rfl) T.b_isinstance PyProof.Rows.boot_isinstance (pa_cons (pv 3) (pa_cons (pe_bltn (v := .ty "tuple") (by rfl) T.b_tuple PyProof.Rows.boot_tuple rfl) pa_nil))))) (pw_or (pt_cmpR op_ne (pe_callB call_len_seq (by rfl) T.b_len PySem.boot_len (pa_cons (pv 3) pa_nil)) (pv 1) (nomark _)) (pw_or1 (pt_cmpR (op_neL0 (ru80 hr)) (pe_lc (own := [("_law_one", 5)]) rfl sc__law_is_board.nd (pi_tup (pv 3)) (blkOk_by (N := N__law_is_board) (sc := defScope s__law_is_board) (by decide +kernel)) (fun _ _ _ _ _ => (pg_name (i := 5) sc__law_is_board.nd rfl (.inl rfl))) (fun _ _ _ _ _ => (pts_one (pt_not (pt_val (pe_call G__law_whole hr (by rfl) T.d__law_whole.g T.d__law_whole.F.kp T.d__law_whole.b .nil pass0 (pa_cons (pv 5) pa_nil)))))) (fun _ _ _ _ _ => (pv 5))) (pe_lst pa_nil) (nomark _))))))
        (pss_one (ps_ret pe_bl))
        pss_nil)
        (pss_one (ps_if (pt_cmpR (op_neL0 (ru80 hr)) (pe_lc (own := [("_law_one", 5)]) rfl sc__law_is_board.nd (pi_tup (pv 3)) (blkOk_by (N := N__law_is_board) (sc := defScope s__law_is_board) (by decide +kernel)) (fun _ _ _ _ _ => (pg_name (i := 5) sc__law_is_board.nd rfl (.inl rfl))) (fun _ _ _ _ _ => (pts_one (PW.pt (pw_or (pt_cmpR op_lt (pv 5) pe_int (nomark _)) (pw_or1 (pt_cmpR op_ge (pv 5) (pv 0) (nomark _))))))) (fun _ _ _ _ _ => (pv 5))) (pe_lst pa_nil) (nomark _))
        (pss_one (ps_ret pe_bl))
        pss_nil))))
        (pss_one (ps_ret (pe_cmpR (op_eqL0 (ru80 hr)) (pe_lc (own := [("_law_k", 4)]) rfl sc__law_is_board.nd (pi_range1 (by rfl) T.b_range (pa_cons (pv 1) pa_nil)) (blkOk_by (N := N__law_is_board) (sc := defScope s__law_is_board) (by decide +kernel)) (fun _ _ _ _ _ => (pg_name (i := 4) sc__law_is_board.nd rfl (.inr rfl))) (fun _ _ _ _ _ => (pts_one (pt_cmpR (show OpR _ _ (rNeD K) from op_neD (ux (ru80 hr) (by first | exact Nat.le_add_right _ 16 | exact Nat.le_add_right _ 15 | exact Nat.le_add_right _ 14 | exact Nat.le_add_right _ 13))) (pe_lc (own := [("_law_row", 3)]) rfl sc__law_is_board.nd (show PI _ _ _ (iTup K (tVar 2)) from pi_tup (pv 2)) (blkOk_by (N := N__law_is_board) (by kernel_rfl)) (fun _ _ _ _ _ => (pg_name (i := 3) sc__law_is_board.nd rfl (.inl rfl))) (fun _ _ _ _ _ => pts_nil) (fun _ _ _ _ _ => (pe_ix (show IxR _ (rIxT K) from ix_tup) (pv 3) (pv 4) (fun _ _ => rfl)))) (pe_callTy (show CallR _ _ (rListOf K) from call_list_of) (by rfl) T.b_list PyProof.Rows.boot_list (pa_cons (pe_ix (show IxR _ (rIxT K) from ix_tup) (pv 2) (pv 4) (fun _ _ => rfl)) pa_nil)) (nomark _)))) (fun _ _ _ _ _ => (pv 4))) (pe_lst pa_nil) (nomark _)))))), ?_⟩
    refine ⟨.ref tt, rfl, .ref tt, _, _, _, true, rfl, .ty "tuple", .base (.tup et), kit_ty (by decide +kernel), true, rfl, ?_⟩
    refine ⟨.ref tt, rfl, tt, _, rfl, .inr (SqT.of et), .int (m : Nat), rfl, rfl, _, rfl, ite2 (fun e => ?_) (fun _ => ?_)⟩
    · exfalso
      rw [show ys.length = m by omega] at e
      simp at e
    · refine ⟨.ref tt, rfl, tt, rfl, ⟨_, SqT.of et⟩, for_it (walk_tup (xs := ys)) (fun i σ H' => ∃ v3, σ = [some (.int p), some (.int (m : Nat)), some (.ref tt), v3, none, none] ∧ Same H H') ⟨_, rfl, .refl _⟩ (fun i σ H' _ h => by obtain ⟨_, _, s⟩ := h; exact SqT.of (s _ _ et)) ?_ ?_⟩
      · rintro i z σ H1 H1' hi ⟨v3, rfl, s1⟩ ⟨rfl, hz⟩
        obtain ⟨e, r, rfl, er, he⟩ := tr.get hz
        obtain ⟨rl, rg⟩ := tb.ok r (List.mem_of_getElem? er)
        have he1 := s1 _ _ he
        have rlen : (r.map V.int).length = m := by rw [List.length_map, rl]
        refine ⟨.ref e, rfl, .ref e, _, _, _, true, rfl, .ty "tuple", .base (.tup he1), kit_ty (by decide +kernel), true, rfl, ?_⟩
        refine ⟨.ref e, rfl, e, _, rfl, .inr (SqT.of he1), .int (m : Nat), rfl, rfl, _, rfl, ite2 (fun e => ?_) (fun _ => ?_)⟩
        · exfalso
          rw [rlen] at e
          simp at e
        · refine ⟨.ref e, rfl, e, rfl, ⟨_, SqT.of he1⟩, fun D hD => lc_it (walk_tup (xs := r.map V.int)) (fun j H' => Same H1' H' ∧ H' D = some (.lst [])) ⟨same_upd hD, upd_same⟩ (fun j H' _ h => SqT.of (h.1 _ _ he1)) ?_ ?_⟩
          · rintro j x H2 H2' hj ⟨s2, eD⟩ ⟨rfl, hx⟩
            rw [List.getElem?_map] at hx
            obtain ⟨n, en, rfl⟩ := Option.map_eq_some_iff.mp hx
            refine ⟨rfl, .int n, rfl, .int n, .int n, rfl, .int n, true, rfl, ?_⟩
            exact ⟨s2, eD⟩
          · rintro H2 ⟨s2, eD⟩
            refine ⟨Nat.zero_le _, fun e1 he1' => ?_⟩
            refine ⟨D, e1, _, rfl, rfl, SqL.of (same_upd he1' _ _ eD), SqL.of upd_same, false, rfl, ?_⟩
            have s23 : Same H1' (upd H2 e1 (.lst [])) := s2.trans (same_upd he1')
            generalize upd H2 e1 (.lst []) = H3 at s23 ⊢
            have he3 := s23 _ _ he1
            refine ⟨.ref e, rfl, e, rfl, ⟨_, SqT.of he3⟩, fun D2 hD2 => lc_it (walk_tup (xs := r.map V.int)) (fun j H' => Same H3 H' ∧ H' D2 = some (.lst [])) ⟨same_upd hD2, upd_same⟩ (fun j H' _ h => SqT.of (h.1 _ _ he3)) ?_ ?_⟩
            · rintro j x H4 H4' hj ⟨s4, eD4⟩ ⟨rfl, hx⟩
              rw [List.getElem?_map] at hx
              obtain ⟨n, en, rfl⟩ := Option.map_eq_some_iff.mp hx
              have bn := rg n (List.mem_of_getElem? en)
              refine ⟨rfl, .int n, rfl, n, 0, rfl, rfl, false, bl_f (by omega), .int n, rfl, .int p, rfl, n, p, rfl, rfl, false, bl_f (by omega), ?_⟩
              exact ⟨s4, eD4⟩
            · rintro H4 ⟨s4, eD4⟩
              refine ⟨Nat.zero_le _, fun e2 he2 => ?_⟩
              refine ⟨D2, e2, _, rfl, rfl, SqL.of (same_upd he2 _ _ eD4), SqL.of upd_same, false, rfl, ?_⟩
              exact ⟨_, rfl, s1.trans (s23.trans (s4.trans (same_upd he2)))⟩
      · rintro σ H1 ⟨v3, rfl, s1⟩
        have et1 := s1 _ _ et
        have tr1 := tr.same s1
        refine ⟨.int (m : Nat), rfl, m, rfl, by omega, by omega, fun D hD => lc_range (fun i H' => Same H1 H' ∧ H' D = some (.lst [])) ⟨same_upd hD, upd_same⟩ ?_ ?_⟩
        · rintro k H2 hk ⟨s2, eD⟩
          rw [Int.toNat_natCast] at hk
          have e0 : (0 + (k : Nat) : Int) = (k : Nat) := by omega
          rw [e0]
          refine ⟨rfl, .ref tt, rfl, tt, rfl, ⟨_, SqT.of (s2 _ _ et1)⟩, fun D2 hD2 => lc_it (walk_tup (xs := ys)) (fun j H' => Same H2 H' ∧ H' D2 = some (.lst (((gs.map fun r => vec r k).take j).map V.int))) ⟨same_upd hD2, upd_same⟩ (fun j H' _ h => SqT.of ((s2.trans h.1) _ _ et1)) ?_ ?_⟩
          · rintro j x H3 H3' hj ⟨s3, eD2⟩ ⟨rfl, hx⟩
            obtain ⟨e, r, rfl, er, he⟩ := tr1.get hx
            obtain ⟨rl, rg⟩ := tb.ok r (List.mem_of_getElem? er)
            have ev : (r.map V.int)[k]? = some (.int (vec r k)) := by rw [List.getElem?_map, vec_get (by omega)]; rfl
            have ez : (gs.map fun r => vec r k)[j]? = some (vec r k) := by rw [List.getElem?_map, er]; rfl
            refine ⟨rfl, .ref e, rfl, .int (k : Nat), rfl, e, _, _, _, rfl, rfl, SqT.of ((s2.trans s3) _ _ he), atI_nat ev, _, eD2, ?_, same_put s3 hD2, ?_⟩
            · rw [List.length_map, List.length_take, List.length_map]
              exact small (by omega)
            · rw [upd_same, take_snoc ez, List.map_append]
              rfl
          · rintro H3 ⟨s3, eD2⟩
            rw [List.take_of_length_le (by rw [List.length_map]; omega)] at eD2
            have ek : ys[k]? = some ys[k] := List.getElem?_eq_getElem (by omega)
            obtain ⟨e, r, e1, er, he⟩ := tr1.get ek
            rw [e1] at ek
            obtain ⟨rl, rg⟩ := tb.ok r (List.mem_of_getElem? er)
            have s23 := s2.trans s3
            refine ⟨.ref tt, rfl, .int (k : Nat), rfl, tt, _, _, .ref e, rfl, rfl, SqT.of (s23 _ _ et1), atI_nat ek, ?_⟩
            have ec : (gs.map fun r => vec r k) = r := by
              refine List.ext_getElem? fun j => ?_
              by_cases hj : j < m
              · have ej : gs[j]? = some gs[j] := List.getElem?_eq_getElem (by omega)
                rw [List.getElem?_map, ej, vec_get (by omega)]
                have := tb.sy j k
                unfold Lin.col at this
                rw [List.getD_eq_getElem?_getD, List.getD_eq_getElem?_getD, ej, er] at this
                exact congrArg some this
              · rw [List.getElem?_eq_none (by rw [List.length_map]; omega), List.getElem?_eq_none (by omega)]
            rw [ec] at eD2
            refine ⟨e, _, rfl, .inr (SqT.of (s23 _ _ he)), fun l hl => ?_⟩
            have s34 := same_upd (o := .lst (r.map V.int)) hl
            refine ⟨.list (r.map PyData.int), .list (r.map PyData.int), .lst (SqL.of (s34 _ _ eD2)) (dp_ints _), .lst (SqL.of upd_same) (dp_ints _), sh_ints _, sh_ints _, ?_⟩
            have z : PyData.eqv (.list (r.map PyData.int)) (.list (r.map PyData.int)) = true := by
              simp only [PyData.eqv]
              rw [eqv_ints, decide_eq_true rfl]
            rw [z]
            exact ⟨false, rfl, s23.trans s34, (s3.trans s34) _ _ eD⟩
        · rintro H2 ⟨s2, eD⟩
          refine ⟨Nat.zero_le _, fun e1 he1 => ?_⟩
          refine ⟨D, e1, _, rfl, rfl, SqL.of (same_upd he1 _ _ eD), SqL.of upd_same, q _ (s1.trans (s2.trans (same_upd he1)))⟩
/-! ### fits, put, another grid -/
theorem sl_any {H : Hp} {Q : VK} {a : Addr} {xs : List V} {lo hi : Option Int} (ha : H a = some (.tup xs)) (h : ∀ t H', Same H H' → H' t = some (.tup (cutV xs lo hi)) → Q (.ref t) H') : rSlA K (.ref a) lo hi H Q := by
  refine ⟨a, xs, rfl, SqT.of ha, fun ⟨e1, e2⟩ => h a H (.refl _) ?_, fun _ p hp => h p _ (same_upd hp) upd_same⟩
  rw [ha]
  unfold cutV
  rw [e1, e2, Nat.sub_zero, List.drop_zero, List.take_length]
theorem cat_any {H : Hp} {Q : VK} {a b : Addr} {xs ys : List V} (ha : H a = some (.tup xs)) (hb : H b = some (.tup ys)) (len : xs.length + ys.length ≤ 1000) (h : ∀ t H', Same H H' → H' t = some (.tup (xs ++ ys)) → Q (.ref t) H') : rCatA K (.ref a) (.ref b) H Q := by
  refine ⟨a, b, xs, ys, rfl, rfl, SqT.of ha, SqT.of hb, Nat.le_of_lt (small len), fun e => ?_, fun _ e => ?_, fun _ _ p hp => h p _ (same_upd hp) upd_same⟩
  · subst e
    exact h b H (.refl _) hb
  · subst e
    refine h a H (.refl _) ?_
    rw [List.append_nil]
    exact ha
theorem cutTo {xs : List V} {i : Nat} (h : i ≤ xs.length) : cutV xs none (some (i : Nat)) = xs.take i := by
  unfold cutV
  rw [HT.sIx_none, HT.sIx_nat, Nat.min_eq_left h, List.drop_zero, Nat.sub_zero]
theorem cutFrom {xs : List V} {i : Nat} (h : i ≤ xs.length) : cutV xs (some (i : Nat)) none = xs.drop i := by
  unfold cutV
  rw [HT.sIx_none, HT.sIx_nat, Nat.min_eq_left h, List.take_of_length_le (by rw [List.length_drop]; exact Nat.le_refl _)]
def spPut : Sp := fun vs H Q _ => ∃ (a : Addr) (i : Nat) (x : V) (xs : List V), vs = [.ref a, .int i, x] ∧ H a = some (.tup xs) ∧ i < xs.length ∧ xs.length ≤ 100 ∧ ∀ t H', Same H H' → H' t = some (.tup (xs.set i x)) → Q (.ref t) H'
def spFits : Sp := fun vs H Q _ => ∃ (p : Int) (a tt b u : Addr) (hs h : List Int) (gs gs' : List (List Int)), vs = [.int p, .ref a, .ref tt, .ref b, .ref u] ∧ 1 < p ∧ p ≤ 13 ∧ HdAt H a hs ∧ TbAt p hs.length H tt gs ∧ HdAt H b h ∧ h.length = hs.length ∧ TbAt p hs.length H u gs' ∧ (∀ v, Lin.Lot p (Lin.spn ((Lin.unitsP p h gs').map flatR)) v → Lin.Lot p (Lin.spn ((Lin.unitsP p hs gs).map flatR)) v) ∧ ∀ H', Same H H' → Q (.bl true) H'
theorem ok__law_fits (T : Tx K mg A) : FnOk P w K mg base CX0 3 A.f__law_fits A.d__law_fits ["_law_p", "_law_hold_here", "_law_grid", "_law_other", "_law_told"] spFits := by
  have G__law_is_board : FnOk P w K mg base CX0 2 A.f__law_is_board A.d__law_is_board ["_law_p", "_law_posts", "_law_thing"] spBoard := ok__law_is_board T
  have G__law_units : FnOk P w K mg base CX0 2 A.f__law_units A.d__law_units ["_law_p", "_law_hold_here", "_law_grid"] spUnits := ok__law_units T
  have G__law_lets : FnOk P w K mg base CX0 2 A.f__law_lets A.d__law_lets ["_law_p", "_law_hold_here", "_law_grid", "_law_row"] spLets := ok__law_lets T
  refine T.d__law_fits.F.ok sc__law_fits (fun vs H Q E h => ?_) (fun cdv A outer s H vs Q E hr h => ?_)
  · obtain ⟨p, a, tt, b, u, hs, h, gs, gs', rfl, _⟩ := h
    rfl
  · obtain ⟨p, a, tt, b, u, hs, h, gs, gs', rfl, p1, p13, ha, tb, hb, l, tb', sub, q⟩ := h
    have l10 := ha.len
    refine ⟨_, (pss_cons (ps_if (pt_not (pt_val (pe_call G__law_is_board hr (by rfl) T.d__law_is_board.g T.d__law_is_board.F.kp T.d__law_is_board.b .nil pass0 (pa_cons (pv 0) (pa_cons (pe_callB call_len_seq (by rfl) T.b_len PySem.boot_len (pa_cons (pv 1) pa_nil)) (pa_cons (pv 4) pa_nil))))))
        (pss_one (ps_ret pe_bl))
        pss_nil)
        (pss_one (ps_ret (pe_cmpR (op_eqL0 (ru80 hr)) (pe_lc (own := [("_law_row", 5)]) rfl sc__law_fits.nd (pi_tup (pe_call G__law_units hr (by rfl) T.d__law_units.g T.d__law_units.F.kp T.d__law_units.b .nil pass0 (pa_cons (pv 0) (pa_cons (pv 3) (pa_cons (pv 4) pa_nil))))) (blkOk_by (N := N__law_fits) (sc := defScope s__law_fits) (by decide +kernel)) (fun _ _ _ _ _ => (pg_name (i := 5) sc__law_fits.nd rfl (.inl rfl))) (fun _ _ _ _ _ => (pts_one (pt_not (pt_val (pe_call G__law_lets hr (by rfl) T.d__law_lets.g T.d__law_lets.F.kp T.d__law_lets.b .nil pass0 (pa_cons (pv 0) (pa_cons (pv 1) (pa_cons (pv 2) (pa_cons (pv 5) pa_nil))))))))) (fun _ _ _ _ _ => (pv 5))) (pe_lst pa_nil) (nomark _))))), ?_⟩
    refine ⟨.int p, rfl, .ref a, rfl, a, _, rfl, .inr (SqT.of ha.at_), ?_⟩
    rw [List.length_map]
    refine ⟨.ref u, rfl, p, hs.length, u, gs', rfl, p1, p13, l10, tb', fun H1 s1 => ⟨true, rfl, ?_⟩⟩
    refine ⟨.int p, rfl, .ref b, rfl, .ref u, rfl, p, b, u, h, gs', rfl, p1, p13, hb.same s1, by rw [l]; exact tb'.same s1, fun tu xs H2 s2 eu hu => ?_⟩
    have s02 := s1.trans s2
    refine ⟨tu, rfl, ⟨_, SqT.of eu⟩, fun D hD => lc_it (walk_tup (xs := xs)) (fun i H' => Same H2 H' ∧ H' D = some (.lst [])) ⟨same_upd hD, upd_same⟩ (fun i H' _ h => SqT.of (h.1 _ _ eu)) ?_ ?_⟩
    · rintro i x H3 H3' hi ⟨s3, eD⟩ ⟨rfl, hx⟩
      obtain ⟨c, r, rfl, er, kr⟩ := (hu.sm (.of_same s3)).rk hx
      have s03 := s02.trans s3
      rw [l] at kr
      refine ⟨rfl, .int p, rfl, .ref a, rfl, .ref tt, rfl, .ref c, rfl, p, a, tt, c, hs, gs, r, rfl, p1, p13, ha.same s03, tb.same s03, kr, sub _ (.of ⟨flatR r, List.mem_map.mpr ⟨r, List.mem_of_getElem? er, rfl⟩, rfl⟩), fun H4 s4 => ?_⟩
      exact ⟨true, rfl, s3.trans s4, s4 _ _ eD⟩
    · rintro H3 ⟨s3, eD⟩
      refine ⟨Nat.zero_le _, fun e1 he1 => ?_⟩
      exact ⟨D, e1, _, rfl, rfl, SqL.of (same_upd he1 _ _ eD), SqL.of upd_same, q _ (s02.trans (s3.trans (same_upd he1)))⟩
-- CUT
/-! ### tables told anew with some posts turned -/
theorem TbAt.sm {p : Int} {m : Nat} {H H' : Hp} {t : Addr} {gs : List (List Int)} (h : TbAt p m H t gs) (s : Sm H H') : TbAt p m H' t gs := let ⟨⟨ys, e, tr⟩, a, b, c⟩ := h; ⟨⟨ys, s.tup e, tr.sm s⟩, a, b, c⟩
structure TbTu (C : Cd) (H : Hp) : Prop where
  a : GxR.TabG H C.p_other_sides
  b : GxR.TabG H C.p_row_of_sides
  c : GxR.TabG H C.p_table_of
theorem TbTu.sm {H H' : Hp} (h : TbTu C H) (s : Sm H H') : TbTu C H' := ⟨s.tb _ h.a, s.tb _ h.b, s.tb _ h.c⟩
def spTurned (C : Cd) : Sp := fun vs H Q _ => ∃ (p : Int) (t1 t2 b : Addr) (hs : List Int) (gs : List (List Int)) (k : Zm.Kd) (ps : List Nat), vs = [.int p, .ref t1, .ref t2, .ref b] ∧ p ∈ ([2, 3, 5, 7, 11, 13] : List Int) ∧ HdAt H t1 hs ∧ TbAt p hs.length H t2 gs ∧ At k H b (natV ps) ∧ TbTu C H ∧
  (¬ Lin.Std p (Lin.flipL hs ps) (Lin.unitsP p hs gs) → ∀ H', Sm H H' → Q .non H') ∧
  ∀ t tf tg gs' H', Lin.Std p (Lin.flipL hs ps) (Lin.unitsP p hs gs) → Sm H H' → H' t = some (.tup [.ref tf, .ref tg]) → HdAt H' tf (Lin.flipL hs ps) → TbAt p hs.length H' tg gs' → Lin.Tbl p hs.length gs' → Span p (Lin.unitsP p hs gs) (Lin.unitsP p (Lin.flipL hs ps) gs') → Q (.ref t) H'
theorem units_lag {p : Int} {hs : List Int} {gs : List (List Int)} (p1 : 1 < p) (sy : Lin.Sy gs) : Lin.Lag p hs.length (Lin.unitsP p hs gs) := by
  refine ⟨fun r hr => Lin.units_fit p1 r hr, Lin.units_len, Lin.units_free p1, fun r hr s hs' => ?_⟩
  have := units_rw_fair p1 sy (fun r hr => (Lin.units_fit p1 r hr).2) (fun r hr => span_mem .refl hr) r hr s hs'
  unfold metR mets at this
  exact bl_cg this
theorem ok_turned (T : Tx K mg A) (B : Tb K mg base A C) : FnOk P w K mg base CX0 8 A.f_turned A.d_turned ["p", "hold", "table", "posts"] (spTurned C) := by
  have G_other_sides : FnOk P w K mg base CX0 6 A.f_other_sides A.d_other_sides ["hold", "posts"] (spOthS C.p_other_sides) := ok_other_sides T B
  have G_rows_by_table : FnOk P w K mg base CX0 7 A.f_rows_by_table A.d_rows_by_table ["p", "hold", "table"] (spRbt C.p_row_of_sides) := ok_rows_by_table T B
  have G_table_of : FnOk P w K mg base CX0 7 A.f_table_of A.d_table_of ["p", "hold", "rows"] (spTabG C.p_table_of) := ok_table_ofG T B
  refine T.d_turned.F.ok sc_turned (fun vs H Q E h => ?_) (fun cdv A' outer s H vs Q E hr h => ?_)
  · obtain ⟨p, t1, t2, b, hs, gs, k, ps, rfl, _⟩ := h
    rfl
  · obtain ⟨p, t1, t2, b, hs, gs, k, ps, rfl, hp, hh, tb, hb, tg, qn, q⟩ := h
    have pall : ∀ p ∈ ([2, 3, 5, 7, 11, 13] : List Int), 2 ≤ p ∧ p ≤ 13 := by decide
    obtain ⟨p2, p13⟩ := pall p hp
    refine ⟨_, (pss_cons (ps_set (i := 4) sc_turned.nd rfl (.inl rfl) (pe_call G_other_sides (hr.mono (by decide)) (by rfl) T.d_other_sides.g T.d_other_sides.F.kp T.d_other_sides.b .nil pass0 (pa_cons (pv 1) (pa_cons (pv 3) pa_nil))))
        (pss_cons (ps_set (i := 5) sc_turned.nd rfl (.inl rfl) (pe_call G_table_of hr (by rfl) T.d_table_of.g T.d_table_of.F.kp T.d_table_of.b .nil pass0 (pa_cons (pv 0) (pa_cons (pv 4) (pa_cons (pe_call G_rows_by_table hr (by rfl) T.d_rows_by_table.g T.d_rows_by_table.F.kp T.d_rows_by_table.b .nil pass0 (pa_cons (pv 0) (pa_cons (pv 1) (pa_cons (pv 2) pa_nil)))) pa_nil)))))
        (pss_one (ps_ret (pe_ifExp (pt_cmpR op_isN (pv 5) pe_non (nomark _)) pe_non (pe_tup (pa_cons (pv 4) (pa_cons (pv 5) pa_nil)))))))), ?_⟩
    refine ⟨.ref t1, rfl, .ref b, rfl, t1, b, hs, k, ps, rfl, hh, hb, tg.a, fun tf H1 s1 hf1 => ?_⟩
    obtain ⟨ys, et, tr⟩ := (tb.sm s1).at_
    have fl : (Lin.flipL hs ps).length = hs.length := Lin.flip_len
    refine ⟨.int p, rfl, .ref tf, rfl, .int p, rfl, .ref t1, rfl, .ref t2, rfl, p, t1, t2, hs, gs, ys, rfl, by omega, p13, hh.sm s1, et, tr, tb.len, tb.ok, (tg.sm s1).b, fun b2 xs H2 s2 eb rx => ?_⟩
    have s12 := s1.trans s2
    refine ⟨p, tf, b2, Lin.flipL hs ps, .l, xs, Lin.unitsP p hs gs, rfl, hp, hf1.sm s2, eb, by rw [fl]; exact rx, by rw [fl]; exact units_lag (by omega) tb.sy, (tg.sm s12).c, fun ns H3 s3 => ?_, fun gs' t' ys' H3 st tbl sp s3 et' tr' => ?_⟩
    · refine ⟨.non, rfl, rfl, true, rfl, ?_⟩
      exact qn ns H3 (s12.trans s3)
    · refine ⟨.ref t', rfl, rfl, false, rfl, ?_⟩
      refine ⟨.ref tf, rfl, .ref t', rfl, (by show 2 ≤ sizeLine; decide), fun t hn => ?_⟩
      rw [fl] at tbl
      exact q t tf t' gs' _ st (s12.trans (s3.trans (.new hn))) upd_same (hf1.sm (s2.trans (s3.trans (.new hn)))) ⟨⟨ys', same_upd hn _ _ et', tr'.same (same_upd hn)⟩, tbl.len, tbl.ok, tbl.sy⟩ tbl sp
def spTwo : Sp := fun vs H Q _ => ∃ (d g c : Addr) (k : Int) (m : Nat), vs = [.ref d, .int m] ∧ Dk d g c k H ∧ k ≤ 900000 ∧ 1 ≤ m ∧ m ≤ 20 ∧
  ∀ (t : Addr) (ps : List Nat) (H' : Hp), H' t = some (.tup (natV ps)) → ps.Pairwise (· < ·) → (∀ x ∈ ps, x < m) → ps.length = 1 ∨ ps.length = 2 → Dk d g c (k + 3) H' → Fr d g H H' → Q (.ref t) H'
theorem ok__law_two (T : Tx K mg A) : FnOk P w K mg base CX0 2 A.f__law_two A.d__law_two ["_law_deck_here", "_law_posts"] spTwo := by
  have G__law_next : FnOk P w K mg base CX0 1 A.f__law_next A.d__law_next ["_law_deck_here", "_law_many"] spNext := ok__law_next T
  refine T.d__law_two.F.ok sc__law_two (fun vs H Q E h => ?_) (fun cdv A outer s H vs Q E hr h => ?_)
  · obtain ⟨d, g, c, k, m, rfl, _⟩ := h
    rfl
  · obtain ⟨d, g, c, k, m, rfl, D0, hk, m1, m20, q⟩ := h
    refine ⟨_, (pss_cons (ps_set (i := 2) sc__law_two.nd rfl (.inl rfl) (pe_call G__law_next hr (by rfl) T.d__law_next.g T.d__law_next.F.kp T.d__law_next.b .nil pass0 (pa_cons (pv 0) (pa_cons (pv 1) pa_nil))))
        (pss_cons (ps_if (PW.pt (pw_or (pt_cmpR op_lt (pv 1) pe_int (nomark _)) (pw_or1 (pt_cmpR op_eq (pe_call G__law_next hr (by rfl) T.d__law_next.g T.d__law_next.F.kp T.d__law_next.b .nil pass0 (pa_cons (pv 0) (pa_cons pe_int pa_nil))) pe_int (nomark _)))))
        (pss_one (ps_ret (pe_tup (pa_cons (pv 2) pa_nil))))
        pss_nil)
        (pss_one (ps_ret (pe_callTy call_tuple_of (by rfl) T.b_tuple PyProof.Rows.boot_tuple (pa_cons (pe_callB cr_sortedI (by rfl) T.b_sorted PyProof.Rows.boot_sorted (pa_cons (pe_lst (pa_cons (pv 2) (pa_cons (pe_op op_mod (pe_op op_add (pe_op op_add (pv 2) pe_int) (pe_call G__law_next hr (by rfl) T.d__law_next.g T.d__law_next.F.kp T.d__law_next.b .nil pass0 (pa_cons (pv 0) (pa_cons (pe_op op_sub (pv 1) pe_int) pa_nil)))) (pv 1)) pa_nil))) pa_nil)) pa_nil)))))), ?_⟩
    refine ⟨.ref d, rfl, .int m, rfl, d, g, c, k, m, rfl, by omega, by omega, D0, by omega, fun r H1 r0 r1 D1 f1 => ?_⟩
    obtain ⟨a, rfl⟩ : ∃ a : Nat, r = (a : Nat) := ⟨r.toNat, by omega⟩
    have one : ∀ H2 k2, Dk d g c k2 H2 → k2 ≤ k + 3 → Fr d g H H2 → ∀ t, H2 t = none → Q (.ref t) (upd H2 t (.tup [.int (a : Nat)])) := fun H2 k2 D2 k3 f2 t ht =>
      q t [a] _ upd_same (by simp) (by simp; omega) (.inl rfl) ((D2.same (same_upd ht)).mono k3) (f2.trans (.new ht))
    refine ⟨.int (m : Nat), rfl, (m : Nat), 2, rfl, rfl, _, rfl, ite2 (fun cc => ?_) (fun cc => ?_)⟩
    · exact ⟨.int (a : Nat), rfl, (by show 1 ≤ sizeLine; decide), fun t ht => one H1 _ D1 (by omega) f1 t ht⟩
    · have m2 : 2 ≤ m := by
        have : ¬ ((m : Nat) : Int) < 2 := fun z => cc (decide_eq_true z)
        omega
      refine ⟨.ref d, rfl, d, g, c, _, 2, rfl, by decide, by decide, D1, by omega, fun r2 H2 r20 r21 D2 f2 => ⟨rfl, _, rfl, ite2 (fun c2 => ?_) (fun c2 => ?_)⟩⟩
      · exact ⟨.int (a : Nat), rfl, (by show 1 ≤ sizeLine; decide), fun t ht => one H2 _ D2 (by omega) (f1.trans f2) t ht⟩
      · refine ⟨.int (a : Nat), rfl, .int (a : Nat), rfl, (a : Nat), 1, rfl, rfl, .ref d, rfl, .int (m : Nat), rfl, (m : Nat), 1, rfl, rfl, d, g, c, _, (m : Nat) - 1, rfl, by omega, by omega, D2, by omega, fun r3 H3 r30 r31 D3 f3 => ?_⟩
        obtain ⟨r, rfl⟩ : ∃ r : Nat, r3 = (r : Nat) := ⟨r3.toNat, by omega⟩
        obtain ⟨b, eb, bm, nab⟩ : ∃ b : Nat, ((a : Nat) + 1 + (r : Nat) : Int) % (m : Nat) = (b : Nat) ∧ b < m ∧ a ≠ b := by
          have e : (((a + 1 + r : Nat) : Int)) % (m : Nat) = (((a + 1 + r) % m : Nat) : Int) := rfl
          refine ⟨(a + 1 + r) % m, e, Nat.mod_lt _ (by omega), ?_⟩
          by_cases z : a + 1 + r < m
          · rw [Nat.mod_eq_of_lt z]
            omega
          · rw [Nat.mod_eq_sub_mod (by omega), Nat.mod_eq_of_lt (by omega)]
            omega
        refine ⟨_, _, rfl, rfl, .int (m : Nat), rfl, _, _, rfl, rfl, (by omega), (by show 2 ≤ sizeLine; decide), fun l hl => ?_⟩
        refine ⟨l, [((a : Nat) : Int), ((a : Nat) + 1 + (r : Nat) : Int) % (m : Nat)], rfl, SqL.of upd_same, fun ns pp pm pw hp => ⟨pp, _, rfl, .inl ⟨SqL.of upd_same, fun t ht => ?_⟩⟩⟩
        rw [eb] at pm
        have mem : ∀ x ∈ ns, 0 ≤ x ∧ x < (m : Nat) := fun x hx => by
          have h := pm.mem_iff.mp hx
          simp only [List.mem_cons, List.not_mem_nil, or_false] at h
          rcases h with rfl | rfl <;> omega
        have pm2 : (ns.map Int.toNat).Perm [a, b] := pm.map Int.toNat
        have ev : natV (ns.map Int.toNat) = ns.map V.int := by
          unfold natV
          rw [List.map_map]
          refine List.map_congr_left fun x hx => ?_
          have := mem x hx
          show V.int ((x.toNat : Nat) : Int) = V.int x
          rw [Int.toNat_of_nonneg this.1]
        have pw2 : (ns.map Int.toNat).Pairwise (· < ·) := by
          have nd : (ns.map Int.toNat).Pairwise (· ≠ ·) := pm2.nodup_iff.mpr (by simp [nab])
          rw [List.pairwise_map] at nd ⊢
          exact (pw.and nd).imp_of_mem fun {x y} hx hy h => by
            have := mem x hx
            have := mem y hy
            have h1 := h.1
            have h2 := h.2
            omega
        refine q t (ns.map Int.toNat) _ (by rw [ev]; exact upd_same) pw2 (fun x hx => ?_) (.inr pm2.length_eq) (((D3.same (same_upd hl)).same ((same_upd hp).trans (same_upd ht))).mono (by omega)) (f1.trans (f2.trans (f3.trans ((Fr.new hl).trans ((Fr.new hp).trans (.new ht))))))
        have h := pm2.mem_iff.mp hx
        simp only [List.mem_cons, List.not_mem_nil, or_false] at h
        rcases h with rfl | rfl <;> omega
/-! the mathematics of turning -/
theorem flip_diff {hs : List Int} {ps : List Nat} (b : Lin.Bits hs) (pw : ps.Pairwise (· < ·)) (lt : ∀ x ∈ ps, x < hs.length) : ((List.range hs.length).filter fun k => decide (vec hs k ≠ vec (Lin.flipL hs ps) k)) = ps := by
  refine Lin.pw_ext (R := fun x y : Nat => x < y) (fun _ _ h1 h2 => by omega) (List.pairwise_lt_range.filter _) pw fun k => ?_
  rw [List.mem_filter, List.mem_range]
  have at_ := b.at k
  constructor
  · rintro ⟨h, e⟩
    have e' := of_decide_eq_true e
    rw [Lin.flip_at h] at e'
    by_cases z : k ∈ ps
    · exact z
    · rw [if_neg z] at e'
      exact absurd rfl e'
  · intro z
    refine ⟨lt k z, decide_eq_true ?_⟩
    rw [Lin.flip_at (lt k z), if_pos z]
    omega
theorem vec_map_range {f : Nat → Int} {n k : Nat} (h : k < n) : vec ((List.range n).map f) k = f k := Lin.vec_some (by rw [List.getElem?_map, List.getElem?_range h]; rfl)
theorem flip_back {hs : List Int} {ps : List Nat} : Lin.flipL (Lin.flipL hs ps) ps = hs := by
  refine List.ext_getElem (by rw [Lin.flip_len, Lin.flip_len]) fun k h1 h2 => ?_
  have e1 : vec (Lin.flipL (Lin.flipL hs ps) ps) k = (Lin.flipL (Lin.flipL hs ps) ps)[k] := Lin.vec_some (List.getElem?_eq_getElem h1)
  have e2 : vec hs k = hs[k] := Lin.vec_some (List.getElem?_eq_getElem h2)
  rw [← e1, ← e2, Lin.flip_at (by rw [Lin.flip_len]; exact h2), Lin.flip_at h2]
  split <;> omega
def gridD (gs : List (List Int)) : PyData := .tuple (gs.map numT)
theorem dq_grid {H : Hp} {t : Addr} {gs : List (List Int)} {ys : List V} (e : H t = some (.tup ys)) (tr : Trs H ys gs) : Dq H (.ref t) (gridD gs) := .tup e (dq_trs tr)
theorem nd_numK {k : Nat} {hs : List Int} (h : hs.length ≤ 5000) : ndD (k + 1) (numT hs) = true := by
  show (decide ((hs.map PyData.int).length ≤ 5000) && (hs.map PyData.int).all (ndD k)) = true
  rw [List.length_map, decide_eq_true h, Bool.true_and, List.all_eq_true]
  intro e he
  obtain ⟨i, _, rfl⟩ := List.mem_map.mp he
  cases k <;> rfl
theorem nd_grid {k : Nat} {gs : List (List Int)} (l : gs.length ≤ 5000) (h : ∀ g ∈ gs, g.length ≤ 10) : ndD (k + 2) (gridD gs) = true := by
  show (decide ((gs.map numT).length ≤ 5000) && (gs.map numT).all (ndD (k + 1))) = true
  rw [List.length_map, decide_eq_true l, Bool.true_and, List.all_eq_true]
  intro d hd
  obtain ⟨g, hm, rfl⟩ := List.mem_map.mp hd
  exact nd_numK (by have := h g hm; omega)
theorem nd_two {hs : List Int} {gs : List (List Int)} (l : hs.length ≤ 10) (lg : gs.length = hs.length) (h : ∀ g ∈ gs, g.length = hs.length) : ndD 3 (.tuple [numT hs, gridD gs]) = true := by
  show (decide ([numT hs, gridD gs].length ≤ 5000) && [numT hs, gridD gs].all (ndD 2)) = true
  have a : ndD 2 (numT hs) = true := nd_numK (k := 1) (by omega)
  have b : ndD 2 (gridD gs) = true := nd_grid (k := 0) (by omega) fun g hg => by have := h g hg; omega
  simp [a, b]
theorem dq_two {H : Hp} {t a tt : Addr} {p : Int} {m : Nat} {hs : List Int} {gs : List (List Int)} (e : H t = some (.tup [.ref a, .ref tt])) (ha : HdAt H a hs) (tb : TbAt p m H tt gs) : Dq H (.ref t) (.tuple [numT hs, gridD gs]) := by
  obtain ⟨ys, et, tr⟩ := tb.at_
  exact .tup e (.cons (dq_num ha.at_) (.cons (dq_grid et tr) .nil))
theorem TbAt.tbl {p : Int} {m : Nat} {H : Hp} {t : Addr} {gs : List (List Int)} (h : TbAt p m H t gs) : Lin.Tbl p m gs := ⟨h.len, h.ok, h.sy⟩
-- CUT
def spRightT (C : Cd) : Sp := fun vs H Q _ => ∃ (p : Int) (a tt b : Addr) (hs : List Int) (gs : List (List Int)) (ps : List Nat), vs = [.int p, .ref a, .ref tt, .ref b] ∧ p ∈ ([2, 3, 5, 7, 11, 13] : List Int) ∧ HdAt H a hs ∧ TbAt p hs.length H tt gs ∧ H b = some (.tup (natV ps)) ∧ ps.Pairwise (· < ·) ∧ (∀ x ∈ ps, x < hs.length) ∧ ps.length ≤ 10 ∧ TbTu C H ∧ ∀ H', Sm H H' → Q (.bl true) H'
theorem ok__law_rightT (T : Tx K mg A) (B : Tb K mg base A C) : FnOk P w K mg base CX0 41 A.f__law_right A.d__law_right ["_law_p", "_law_hold_here", "_law_grid", "_law_spots"] (spRightT C) := by
  have G_turned : FnOk P w K mg base CX0 8 A.f_turned A.d_turned ["p", "hold", "table", "posts"] (spTurned C) := ok_turned T B
  have G__law_lacks : FnOk P w K mg base CX0 2 A.f__law_lacks A.d__law_lacks ["_law_p", "_law_grid", "_law_posts"] spLacks := ok__law_lacks T
  have G__law_same : FnOk P w K mg base CX0 40 A.f__law_same A.d__law_same ["_law_found", "_law_due"] (spSame 3) := ok__law_same T (by decide)
  have G__law_flipped : FnOk P w K mg base CX0 1 A.f__law_flipped A.d__law_flipped ["_law_hold_here", "_law_posts"] spFlipK := ok__law_flippedK T
  have G__law_fits : FnOk P w K mg base CX0 3 A.f__law_fits A.d__law_fits ["_law_p", "_law_hold_here", "_law_grid", "_law_other", "_law_told"] spFits := ok__law_fits T
  refine T.d__law_right.F.ok sc__law_right (fun vs H Q E h => ?_) (fun cdv A' outer s H vs Q E hr h => ?_)
  · obtain ⟨p, a, tt, b, hs, gs, ps, rfl, _⟩ := h
    rfl
  · obtain ⟨p, a, tt, b, hs, gs, ps, rfl, hp, ha, tb, hb, pw, lt, l10, tg, q⟩ := h
    have pall : ∀ p ∈ ([2, 3, 5, 7, 11, 13] : List Int), 2 ≤ p ∧ p ≤ 13 := by decide
    obtain ⟨p2, p13⟩ := pall p hp
    have p1 : 1 < p := by omega
    have m10 := ha.len
    have fl : (Lin.flipL hs ps).length = hs.length := Lin.flip_len
    have df := flip_diff ha.bit pw lt
    have stL : ∀ r, Lin.Lacks p gs ps r → (Lin.Std p (Lin.flipL hs ps) (Lin.unitsP p hs gs) ↔ r = 0) := fun r lk =>
      Lin.std_lacks p1 (inv_six hp) ha.bit (Lin.flip_bits ha.bit) fl tb.sy (fun u => Iff.rfl) (by rw [df]; exact lk)
    refine ⟨_, (pss_cons (ps_set (i := 4) sc__law_right.nd rfl (.inl rfl) (pe_call G_turned (hr.mono (by decide)) (by rfl) T.d_turned.g T.d_turned.F.kp T.d_turned.b .nil pass0 (pa_cons (pv 0) (pa_cons (pv 1) (pa_cons (pv 2) (pa_cons (pv 3) pa_nil))))))
        (pss_cons (ps_if (pt_cmpR op_gt (pe_call G__law_lacks (hr.mono (by decide)) (by rfl) T.d__law_lacks.g T.d__law_lacks.F.kp T.d__law_lacks.b .nil pass0 (pa_cons (pv 0) (pa_cons (pv 2) (pa_cons (pv 3) pa_nil)))) pe_int (nomark _))
        (pss_one (ps_ret (pe_cmpR op_isN (pv 4) pe_non (nomark _))))
        pss_nil)
        (pss_cons (ps_if (PW.pt (pw_or (pt_not (pt_val (pe_callB call_isi (by rfl) T.b_isinstance PyProof.Rows.boot_isinstance (pa_cons (pv 4) (pa_cons (pe_bltn (v := .ty "tuple") (by rfl) T.b_tuple PyProof.Rows.boot_tuple rfl) pa_nil))))) (pw_or (pt_cmpR op_ne (pe_callB call_len_seq (by rfl) T.b_len PySem.boot_len (pa_cons (pv 4) pa_nil)) pe_int (nomark _)) (pw_or1 (pt_not (pt_val (pe_call G__law_same hr (by rfl) T.d__law_same.g T.d__law_same.F.kp T.d__law_same.b .nil pass0 (pa_cons (pe_ix ix_tup (pv 4) pe_int (fun _ _ => rfl)) (pa_cons (pe_call G__law_flipped (hr.mono (by decide)) (by rfl) T.d__law_flipped.g T.d__law_flipped.F.kp T.d__law_flipped.b .nil pass0 (pa_cons (pv 1) (pa_cons (pv 3) pa_nil))) pa_nil)))))))))
        (pss_one (ps_ret pe_bl))
        pss_nil)
        (pss_cons (ps_if (pt_not (pt_val (pe_call G__law_fits (hr.mono (by decide)) (by rfl) T.d__law_fits.g T.d__law_fits.F.kp T.d__law_fits.b .nil pass0 (pa_cons (pv 0) (pa_cons (pv 1) (pa_cons (pv 2) (pa_cons (pe_ix ix_tup (pv 4) pe_int (fun _ _ => rfl)) (pa_cons (pe_ix ix_tup (pv 4) pe_int (fun _ _ => rfl)) pa_nil))))))))
        (pss_one (ps_ret pe_bl))
        pss_nil)
        (pss_one (ps_ret (pe_call G__law_same hr (by rfl) T.d__law_same.g T.d__law_same.F.kp T.d__law_same.b .nil pass0 (pa_cons (pe_call G_turned (hr.mono (by decide)) (by rfl) T.d_turned.g T.d_turned.F.kp T.d_turned.b .nil pass0 (pa_cons (pv 0) (pa_cons (pe_ix ix_tup (pv 4) pe_int (fun _ _ => rfl)) (pa_cons (pe_ix ix_tup (pv 4) pe_int (fun _ _ => rfl)) (pa_cons (pv 3) pa_nil))))) (pa_cons (pe_tup (pa_cons (pv 1) (pa_cons (pv 2) pa_nil))) pa_nil))))))))), ?_⟩
    refine ⟨.int p, rfl, .ref a, rfl, .ref tt, rfl, .ref b, rfl, p, a, tt, b, hs, gs, .t, ps, rfl, hp, ha, tb, hb, tg, fun ns H1 s1 => ?_, fun t tf tgd gs' H1 st s1 et hf tb' tbl sp => ?_⟩
    · refine ⟨.int p, rfl, .ref tt, rfl, .ref b, rfl, p, tt, b, gs, hs.length, .t, ps, rfl, hp, tb.sm s1, s1.tup hb, lt, l10, m10, fun r H2 s2 lk => ?_⟩
      have r0 : 0 < r := by
        have : ¬ r = 0 := fun z => ns ((stL r lk).mpr z)
        omega
      refine ⟨(r : Nat), 0, rfl, rfl, _, rfl, ite2 (fun cc => ?_) (fun cc => absurd (decide_eq_true (by omega)) cc)⟩
      exact ⟨.non, rfl, rfl, q H2 (s1.trans (.of_same s2))⟩
    · refine ⟨.int p, rfl, .ref tt, rfl, .ref b, rfl, p, tt, b, gs, hs.length, .t, ps, rfl, hp, tb.sm s1, s1.tup hb, lt, l10, m10, fun r H2 s2 lk => ?_⟩
      have r0 := (stL r lk).mp st
      subst r0
      refine ⟨((0 : Nat) : Int), 0, rfl, rfl, _, rfl, ite2 (fun cc => absurd (of_decide_eq_true cc) (by omega)) (fun cc => ?_)⟩
      have s12 := s1.trans (.of_same s2)
      have et2 := s2 _ _ et
      have hf2 := hf.same s2
      have tb2 := tb'.same s2
      refine ⟨.ref t, rfl, .ref t, _, _, _, true, rfl, .ty "tuple", .base (.tup et2), kit_ty (by decide +kernel), true, rfl, ?_⟩
      refine ⟨.ref t, rfl, t, _, rfl, .inr (SqT.of et2), rfl, false, rfl, ?_⟩
      refine ⟨.ref t, rfl, t, _, 0, .ref tf, rfl, rfl, SqT.of et2, rfl, .ref a, rfl, .ref b, rfl, a, b, hs, .t, ps, rfl, ha.sm s12, s12.tup hb, fun t3 H3 s3 h3 => ?_⟩
      have ndf := nd_numK (k := 2) (hs := Lin.flipL hs ps) (by omega)
      refine ⟨.ref tf, .ref t3, numT (Lin.flipL hs ps), numT (Lin.flipL hs ps), rfl, dq_num (s3 _ _ hf2.at_), dq_num h3.at_, ndf, ndf, fun H4 s4 => ?_⟩
      rw [sm_refl 3 _ ndf]
      refine ⟨true, rfl, ?_⟩
      have s24 := s3.trans s4
      have s14 := s12.trans (.of_same s24)
      have et4 := s24 _ _ et2
      have hf4 := hf2.same s24
      have tb4 := tb2.same s24
      refine ⟨.int p, rfl, .ref a, rfl, .ref tt, rfl, .ref t, rfl, t, _, 0, .ref tf, rfl, rfl, SqT.of et4, rfl, .ref t, rfl, t, _, 1, .ref tgd, rfl, rfl, SqT.of et4, rfl, p, a, tt, tf, tgd, hs, Lin.flipL hs ps, gs, gs', rfl, p1, p13, ha.sm s14, tb.sm s14, hf4, fl, tb4, fun v hv => (sp v).mpr hv, fun H5 s5 => ?_⟩
      refine ⟨true, rfl, ?_⟩
      have s15 := s14.trans (.of_same s5)
      have et5 := s5 _ _ et4
      have st2 : Lin.Std p (Lin.flipL (Lin.flipL hs ps) ps) (Lin.unitsP p (Lin.flipL hs ps) gs') := by
        rw [flip_back]
        exact std_units p1 sp.symm
      refine ⟨.int p, rfl, .ref t, rfl, t, _, 0, .ref tf, rfl, rfl, SqT.of et5, rfl, .ref t, rfl, t, _, 1, .ref tgd, rfl, rfl, SqT.of et5, rfl, .ref b, rfl, p, tf, tgd, b, Lin.flipL hs ps, gs', .t, ps, rfl, hp, hf4.same s5, by rw [fl]; exact tb4.same s5, s15.tup hb, tg.sm s15, fun ns _ _ => absurd st2 ns, fun t6 tf6 tg6 gs6 H6 _ s6 et6 hf6 tb6 tbl6 sp6 => ?_⟩
      rw [flip_back] at hf6 sp6
      rw [fl] at tb6 tbl6
      have e6 : gs6 = gs := Lin.one_table p1 tbl6 tb.tbl (sp.trans sp6).symm
      subst e6
      have s16 := s15.trans s6
      refine ⟨.ref a, rfl, .ref tt, rfl, (by show 2 ≤ sizeLine; decide), fun t7 h7 => ?_⟩
      have s17 := s16.trans (Sm.new (o := .tup [.ref a, .ref tt]) h7)
      have nd2 := nd_two m10 tb.len fun g hg => (tb.ok g hg).1
      have sn := same_upd (o := .tup [.ref a, .ref tt]) h7
      refine ⟨.ref t6, .ref t7, _, _, rfl, dq_two (sn _ _ et6) (hf6.same sn) (tb6.same sn), dq_two upd_same (ha.sm s17) (tb.sm s17), nd2, nd2, fun H8 s8 => ?_⟩
      rw [sm_refl 3 _ nd2]
      exact q H8 (s17.trans (.of_same s8))
-- CUT
open PySem.Spec PyProof.Rows in
theorem ok_g {P : Program} {w : World} {K : PySem.W.Frag} {mg : Str → Option Value} {base : Heap} {k : Nat} {f : Addr} {fd : FuncData} {ps : List Str} {sp : Sp} (h : FnOk P w K mg base CX0 k f fd ps sp) : FnG P w K mg base k f fd ps sp :=
  ⟨fun {vs H Q E} z => h.len vs H Q E z, fun {A' outer s H args us vs Q E} _ hr he hb hv z => h.run A' outer s H args us vs Q E hr he hb hv z⟩
open PySem.Spec PyProof.Rows in
theorem or_g {P : Program} {w : World} {K : PySem.W.Frag} {mg : Str → Option Value} {base : Heap} {k : Nat} {f : Addr} {fd : FuncData} {ps : List Str} {S R : Sp} (h : FnG P w K mg base k f fd ps S) (h2 : FnG P w K mg base k f fd ps R) : FnG P w K mg base k f fd ps (fun vs H Q E => S vs H Q E ∨ R vs H Q E) :=
  ⟨fun z => z.elim h.len h2.len, fun hg hr he hb hv z => z.elim (h.go hg hr he hb hv) (h2.go hg hr he hb hv)⟩
theorem kit_non {K : PySem.W.Frag} : PySem.W.kitAny K (.type "NoneType") [.type "tuple", .type "list"] = some false := kitAny_cons (isi_of "tuple" (by simp) (by simp)) (fun _ => kitAny_cons (isi_of "list" (by simp) (by simp)) (fun _ => kitAny_nil) (by decide +kernel)) (by decide +kernel)
def spNN : Sp := fun vs H Q _ => vs = [.non, .non] ∧ ∀ H', Same H H' → Q (.bl true) H'
theorem ok__law_sameN (T : Tx K mg A) (hm : ∃ o, base.get? sysModules = some o) : FnG P w K mg base (39 + 1) A.f__law_same A.d__law_same ["_law_found", "_law_due"] spNN := by
  have G__law_whole : FnOk P w K mg base CX0 1 A.f__law_whole A.d__law_whole ["_law_thing"] spWhole := ok__law_whole T
  have G__law_same : FnOk P w K mg base CX0 (0 + 1) A.f__law_same A.d__law_same ["_law_found", "_law_due"] (spPrev 0) := T.d__law_same.F.ok sc__law_same (fun vs H Q E h => h.elim) (fun cdv A outer s H vs Q E hr h => h.elim)
  refine okG T.d__law_same.F sc__law_same (fun h => ?_) (fun cdv A' outer s H vs Q E hgd hr h => ?_)
  · obtain ⟨rfl, _⟩ := h
    rfl
  · obtain ⟨rfl, q⟩ := h
    refine ⟨_, (pss_cons (ps_if (pt_val (pe_callB call_isiT (by rfl) T.b_isinstance PyProof.Rows.boot_isinstance (pa_cons (pv 1) (pa_cons (pe_tup (pa_cons (pe_bltn (v := .ty "tuple") (by rfl) T.b_tuple PyProof.Rows.boot_tuple rfl) (pa_cons (pe_bltn (v := .ty "list") (by rfl) T.b_list PyProof.Rows.boot_list rfl) pa_nil))) pa_nil))))
        (pss_cons (ps_if (pt_cmpR op_ne (pe_callB call_isi (by rfl) T.b_isinstance PyProof.Rows.boot_isinstance (pa_cons (pv 0) (pa_cons (pe_bltn (v := .ty "tuple") (by rfl) T.b_tuple PyProof.Rows.boot_tuple rfl) pa_nil))) (pe_callB call_isi (by rfl) T.b_isinstance PyProof.Rows.boot_isinstance (pa_cons (pv 1) (pa_cons (pe_bltn (v := .ty "tuple") (by rfl) T.b_tuple PyProof.Rows.boot_tuple rfl) pa_nil))) (nomark _))
        (pss_one (ps_ret pe_bl))
        pss_nil)
        (pss_cons (ps_if (PW.pt (pw_or (pt_cmpR op_ne (pe_callB call_isi (by rfl) T.b_isinstance PyProof.Rows.boot_isinstance (pa_cons (pv 0) (pa_cons (pe_bltn (v := .ty "list") (by rfl) T.b_list PyProof.Rows.boot_list rfl) pa_nil))) (pe_callB call_isi (by rfl) T.b_isinstance PyProof.Rows.boot_isinstance (pa_cons (pv 1) (pa_cons (pe_bltn (v := .ty "list") (by rfl) T.b_list PyProof.Rows.boot_list rfl) pa_nil))) (nomark _)) (pw_or1 (pt_cmpR op_ne (pe_callB call_len_seq (by rfl) T.b_len PySem.boot_len (pa_cons (pv 0) pa_nil)) (pe_callB call_len_seq (by rfl) T.b_len PySem.boot_len (pa_cons (pv 1) pa_nil)) (nomark _)))))
        (pss_one (ps_ret pe_bl))
        pss_nil)
        (pss_one (ps_ret (pe_callB (cr_all rfl) (by rfl) T.b_all PyProof.Rows.boot_all (pa_cons (pe_lc (own := [("_law_one", 2), ("_law_other", 3)]) (g := (gTup K 2 (gCons (gName 2) (gCons (gName 3) gNil)))) rfl sc__law_same.nd (Zm.pi_zipK (by rfl) T.b_zip (pa_cons (pv 0) (pa_cons (pv 1) pa_nil))) (blkOk_by (N := N__law_same) (sc := defScope s__law_same) (by decide +kernel)) (fun _ _ _ _ _ => (pg_tup rfl (pgs_cons (pg_name (i := 2) sc__law_same.nd rfl (.inl rfl)) (pgs_cons (pg_name (i := 3) sc__law_same.nd rfl (.inl rfl)) pgs_nil)))) (fun _ _ _ _ _ => pts_nil) (fun _ _ _ _ _ => (pe_call G__law_same (hr.mono (by omega)) (by rfl) T.d__law_same.g T.d__law_same.F.kp T.d__law_same.b .nil pass0 (pa_cons (pv 2) (pa_cons (pv 3) pa_nil))))) pa_nil))))))
        pss_nil)
        (pss_cons (ps_if (PW.pt (pw_or (pt_val (pe_callB call_isi (by rfl) T.b_isinstance PyProof.Rows.boot_isinstance (pa_cons (pv 1) (pa_cons (pe_bltn (v := .ty "bool") (by rfl) T.b_bool PyProof.Rows.boot_bool rfl) pa_nil)))) (pw_or1 (pt_val (pe_callB call_isi (by rfl) T.b_isinstance PyProof.Rows.boot_isinstance (pa_cons (pv 0) (pa_cons (pe_bltn (v := .ty "bool") (by rfl) T.b_bool PyProof.Rows.boot_bool rfl) pa_nil)))))))
        (pss_one (ps_ret (pe_and (pe_callB call_isi (by rfl) T.b_isinstance PyProof.Rows.boot_isinstance (pa_cons (pv 1) (pa_cons (pe_bltn (v := .ty "bool") (by rfl) T.b_bool PyProof.Rows.boot_bool rfl) pa_nil))) (pe_and (pe_callB call_isi (by rfl) T.b_isinstance PyProof.Rows.boot_isinstance (pa_cons (pv 0) (pa_cons (pe_bltn (v := .ty "bool") (by rfl) T.b_bool PyProof.Rows.boot_bool rfl) pa_nil))) (pe_one (pe_cmpR op_eq (pv 0) (pv 1) (nomark _)))))))
        pss_nil)
        (pss_cons (ps_if (PW.pt (pw_or (pt_cmpR op_isN (pv 1) pe_non (nomark _)) (pw_or1 (pt_val (pe_callB call_isi (by rfl) T.b_isinstance PyProof.Rows.boot_isinstance (pa_cons (pv 1) (pa_cons (pe_bltn (v := .ty "str") (by rfl) T.b_str PyProof.Rows.boot_str rfl) pa_nil)))))))
        (pss_one (ps_ret (pe_cmpR op_eq (pe_callB (call_reprQ hm (by exact hgd) (ru80 hr)) (by rfl) T.b_repr PyProof.Rows.boot_repr (pa_cons (pv 0) pa_nil)) (pe_callB (call_reprQ hm (by exact hgd) (ru80 hr)) (by rfl) T.b_repr PyProof.Rows.boot_repr (pa_cons (pv 1) pa_nil)) (nomark _))))
        pss_nil)
        (pss_one (ps_ret (pe_and (pe_call G__law_whole (hr.mono (by omega)) (by rfl) T.d__law_whole.g T.d__law_whole.F.kp T.d__law_whole.b .nil pass0 (pa_cons (pv 0) pa_nil)) (pe_one (pe_cmpR op_eq (pv 0) (pv 1) (nomark _))))))))), ?_⟩
    refine ⟨.non, rfl, (by show 2 ≤ sizeLine; decide), fun tp htp => ?_⟩
    have s1 : Same H (upd H tp (.tup [.ty "tuple", .ty "list"])) := same_upd htp
    have et : upd H tp (.tup [.ty "tuple", .ty "list"]) tp = some (.tup [.ty "tuple", .ty "list"]) := upd_same
    generalize upd H tp (.tup [.ty "tuple", .ty "list"]) = H1 at s1 et ⊢
    refine ⟨.non, tp, _, _, _, false, rfl, et, .cons (.ty _) (.cons (.ty _) .nil), .base .non, kit_non, ?_⟩
    refine ⟨false, rfl, ?_⟩
    refine ⟨.non, rfl, .non, _, _, _, false, rfl, .ty "bool", .base .non, kit_ty (by decide +kernel), false, rfl, .non, rfl, .non, _, _, _, false, rfl, .ty "bool", .base .non, kit_ty (by decide +kernel), false, rfl, ?_⟩
    refine ⟨.non, rfl, rfl, true, rfl, ?_⟩
    have big : sizeLine = 16777216 := by decide
    have g1 : PyData.none.showable = true ∧ PyData.none.depth ≤ 64 ∧ PyData.none.shown.length ≤ 1000 := by decide +kernel
    obtain ⟨g1, g2, g3⟩ := g1
    refine ⟨.non, rfl, .non, .none, rfl, .non, g1, g2, by omega, .non, rfl, .non, .none, rfl, .non, g1, g2, by omega, rfl, ?_⟩
    rw [decide_eq_true rfl]
    exact q H1 s1
def spSameN : Sp := fun vs H Q E => spSame 3 vs H Q E ∨ spNN vs H Q E
def spByOne (C : Cd) : Sp := fun vs H Q _ => ∃ (p : Int) (a tt b : Addr) (hs : List Int) (gs : List (List Int)) (x y : Nat), vs = [.int p, .ref a, .ref tt, .ref b] ∧ p ∈ ([2, 3, 5, 7, 11, 13] : List Int) ∧ HdAt H a hs ∧ TbAt p hs.length H tt gs ∧ H b = some (.tup (natV [x, y])) ∧ x < y ∧ y < hs.length ∧ TbTu C H ∧ ∀ H', Sm H H' → Q (.bl true) H'
theorem ok__law_by_one (T : Tx K mg A) (B : Tb K mg base A C) (hm : ∃ o, base.get? sysModules = some o) : FnG P w K mg base 41 A.f__law_by_one A.d__law_by_one ["_law_p", "_law_hold_here", "_law_grid", "_law_spots"] (spByOne C) := by
  have G_turned : FnOk P w K mg base CX0 8 A.f_turned A.d_turned ["p", "hold", "table", "posts"] (spTurned C) := ok_turned T B
  have G__law_same : FnG P w K mg base (39 + 1) A.f__law_same A.d__law_same ["_law_found", "_law_due"] spSameN := or_g (ok_g (ok__law_same (n := 3) T (by decide))) (ok__law_sameN T hm)
  refine okG T.d__law_by_one.F sc__law_by_one (fun h => ?_) (fun cdv A' outer s H vs Q E hgd hr h => ?_)
  · obtain ⟨p, a, tt, b, hs, gs, x, y, rfl, _⟩ := h
    rfl
  · obtain ⟨p, a, tt, b, hs, gs, x, y, rfl, hp, ha, tb, hb, xy, ym, tg, q⟩ := h
    have pall : ∀ p ∈ ([2, 3, 5, 7, 11, 13] : List Int), 2 ≤ p ∧ p ≤ 13 := by decide
    obtain ⟨p2, p13⟩ := pall p hp
    have p1 : 1 < p := by omega
    have m10 := ha.len
    have ff : Lin.flipL (Lin.flipL hs [x]) [y] = Lin.flipL hs [x, y] := Lin.flip_flip (by simp; omega)
    have fl1 : (Lin.flipL hs [x]).length = hs.length := Lin.flip_len
    have fl2 : (Lin.flipL hs [x, y]).length = hs.length := Lin.flip_len
    refine ⟨_, (pss_cons (ps_set (i := 4) sc__law_by_one.nd rfl (.inl rfl) (pe_call G_turned (hr.mono (by decide)) (by rfl) T.d_turned.g T.d_turned.F.kp T.d_turned.b .nil pass0 (pa_cons (pv 0) (pa_cons (pv 1) (pa_cons (pv 2) (pa_cons (pe_slice sl_tupA (pv 3) po_none (po_some pe_int)) pa_nil))))))
        (pss_cons (ps_if (pt_cmpR op_isN (pv 4) pe_non (nomark _))
        (pss_one (ps_ret pe_bl))
        pss_nil)
        (pss_one (ps_ret (pe_callG G__law_same hgd hr (by rfl) T.d__law_same.g T.d__law_same.F.kp T.d__law_same.b (pa_cons (pe_call G_turned (hr.mono (by decide)) (by rfl) T.d_turned.g T.d_turned.F.kp T.d_turned.b .nil pass0 (pa_cons (pv 0) (pa_cons (pe_ix ix_tup (pv 4) pe_int (fun _ _ => rfl)) (pa_cons (pe_ix ix_tup (pv 4) pe_int (fun _ _ => rfl)) (pa_cons (pe_slice sl_tupA (pv 3) (po_some pe_int) po_none) pa_nil))))) (pa_cons (pe_call G_turned (hr.mono (by decide)) (by rfl) T.d_turned.g T.d_turned.F.kp T.d_turned.b .nil pass0 (pa_cons (pv 0) (pa_cons (pv 1) (pa_cons (pv 2) (pa_cons (pv 3) pa_nil))))) pa_nil))))))), ?_⟩
    refine ⟨.int p, rfl, .ref a, rfl, .ref tt, rfl, .ref b, rfl, ?_⟩
    dsimp only [tNoPart]
    refine ⟨((1 : Nat) : Int), rfl, sl_any hb fun t1 H1 s1 e1 => ?_⟩
    rw [cutTo (by simp [natV])] at e1
    have k1 : Sm H H1 := .of_same s1
    refine ⟨p, a, tt, t1, hs, gs, .t, [x], rfl, hp, ha.sm k1, tb.sm k1, e1, tg.sm k1, fun ns H2 s2 => ?_, fun t tf tgd gs' H2 st s2 et hf tb' tbl sp => ?_⟩
    · refine ⟨.non, rfl, rfl, true, rfl, q H2 (k1.trans s2)⟩
    · refine ⟨.ref t, rfl, rfl, false, rfl, ?_⟩
      have k2 := k1.trans s2
      refine ⟨.int p, rfl, .ref t, rfl, t, _, 0, .ref tf, rfl, rfl, SqT.of et, rfl, .ref t, rfl, t, _, 1, .ref tgd, rfl, rfl, SqT.of et, rfl, .ref b, rfl, ?_⟩
      dsimp only [tNoPart]
      refine ⟨((1 : Nat) : Int), rfl, sl_any (k2.tup hb) fun t3 H3 s3 e3 => ?_⟩
      rw [cutFrom (by simp [natV])] at e3
      have k3 := k2.trans (.of_same s3)
      have hf3 := hf.same s3
      have tb3 := tb'.same s3
      have nq : Lin.Std p (Lin.flipL (Lin.flipL hs [x]) [y]) (Lin.unitsP p (Lin.flipL hs [x]) gs') ↔ Lin.Std p (Lin.flipL hs [x, y]) (Lin.unitsP p hs gs) := by
        rw [ff]
        exact ⟨fun st u lu z => st u ((sp u).mp lu) z, fun st u lu z => st u ((sp u).mpr lu) z⟩
      refine ⟨p, tf, tgd, t3, Lin.flipL hs [x], gs', .t, [y], rfl, hp, hf3, by rw [fl1]; exact tb3, e3, tg.sm k3, fun ns H4 s4 => ?_, fun t4 tf4 tg4 gs4 H4 st4 s4 et4 hf4 tb4 tbl4 sp4 => ?_⟩
      · have k4 := k3.trans s4
        refine ⟨.int p, rfl, .ref a, rfl, .ref tt, rfl, .ref b, rfl, p, a, tt, b, hs, gs, .t, [x, y], rfl, hp, ha.sm k4, tb.sm k4, k4.tup hb, tg.sm k4, fun _ H5 s5 => ?_, fun _ _ _ _ _ st5 _ _ _ _ _ _ => absurd (nq.mpr st5) ns⟩
        exact .inr ⟨rfl, fun H6 s6 => q H6 (k4.trans (s5.trans (.of_same s6)))⟩
      · have k4 := k3.trans s4
        rw [ff] at hf4 sp4
        rw [fl1] at tb4 tbl4
        refine ⟨.int p, rfl, .ref a, rfl, .ref tt, rfl, .ref b, rfl, p, a, tt, b, hs, gs, .t, [x, y], rfl, hp, ha.sm k4, tb.sm k4, k4.tup hb, tg.sm k4, fun ns5 _ _ => absurd (nq.mp st4) ns5, fun t5 tf5 tg5 gs5 H5 st5 s5 et5 hf5 tb5 tbl5 sp5 => ?_⟩
        have e5 : gs4 = gs5 := Lin.one_table p1 (by rw [fl2]; exact tbl4) (by rw [fl2]; exact tbl5) fun u => ((sp4 u).symm.trans (sp u).symm).trans (sp5 u)
        subst e5
        have nd2 := nd_two (hs := Lin.flipL hs [x, y]) (gs := gs4) (by omega) (by rw [fl2]; exact tbl4.len) fun g hg => by rw [fl2]; exact (tbl4.ok g hg).1
        refine .inl ⟨.ref t4, .ref t5, _, _, rfl, dq_two (s5.tup et4) (hf4.sm s5) (tb4.sm s5), dq_two et5 hf5 tb5, nd2, nd2, fun H6 s6 => ?_⟩
        rw [sm_refl 3 _ nd2]
        exact q H6 (k4.trans (s5.trans (.of_same s6)))
-- CUT
/-! ### the law -/
abbrev tbl54 (C : Cd) : List (Addr × Addr) := [(C.c_row_of_sides, C.p_row_of_sides), (C.c_table_of, C.p_table_of), (C.c_other_sides, C.p_other_sides)]
theorem HdAt.fs {d g c : Addr} {k : Int} {H H' : Hp} {t : Addr} {hs : List Int} (h : HdAt H t hs) (D : Dk d g c k H) (f : Fs d g H H') : HdAt H' t hs := ⟨f.tup D h.at_, h.bit, h.len⟩
theorem TbAt.fs {d g c : Addr} {k p : Int} {m : Nat} {H H' : Hp} {t : Addr} {gs : List (List Int)} (h : TbAt p m H t gs) (D : Dk d g c k H) (f : Fs d g H H') : TbAt p m H' t gs := ⟨let ⟨ys, e, r⟩ := h.at_; ⟨ys, f.tup D e, ⟨r.len, fun e1 => let ⟨a, u, h1, h2, h3⟩ := r.get e1; ⟨a, u, h1, h2, f.tup D h3⟩⟩⟩, h.len, h.ok, h.sy⟩
theorem TbTu.fs {d g c : Addr} {k : Int} {H H' : Hp} (h : TbTu C H) (D : Dk d g c k H) (f : Fs d g H H') : TbTu C H' := ⟨f.tab D h.a, f.tab D h.b, f.tab D h.c⟩
set_option maxHeartbeats 4000000 in
theorem ok_law (T : Tx K mg A) (FB : ∀ base : Heap, (∀ p ∈ tbl54 C, GxR.TabB base mg p.1 p.2) → Tb K mg base A C) : LawOkT P w K mg A.f_law (tbl54 C) := by
  refine law_atT (k := 41) T.d_law sc_law ⟨rfl, by decide, by decide⟩ fun base t H a ns cdv hlen hm TB hH hS hr => ?_
  have B := FB base TB
  have tgs : TbTu C H := ⟨tab0 (hH (C.c_other_sides, C.p_other_sides) (by simp)), tab0 (hH (C.c_row_of_sides, C.p_row_of_sides) (by simp)), tab0 (hH (C.c_table_of, C.p_table_of) (by simp))⟩
  have hgd : callerA.guards = some [] := rfl
  have G__law_deck : FnOk P w K mg base CX0 1 A.f__law_deck A.d__law_deck ["_law_script"] (spDeck K) := ok__law_deck T
  have G__law_next : FnOk P w K mg base CX0 1 A.f__law_next A.d__law_next ["_law_deck_here", "_law_many"] spNext := ok__law_next T
  have G__law_prime : FnOk P w K mg base CX0 2 A.f__law_prime A.d__law_prime ["_law_deck_here"] spPrm := ok__law_prime T
  have G__law_hold : FnOk P w K mg base CX0 2 A.f__law_hold A.d__law_hold ["_law_deck_here", "_law_posts"] spHold := ok__law_hold T
  have G__law_table : FnOk P w K mg base CX0 2 A.f__law_table A.d__law_table ["_law_deck_here", "_law_p", "_law_posts"] spTab := ok__law_table T
  have G__law_two : FnOk P w K mg base CX0 2 A.f__law_two A.d__law_two ["_law_deck_here", "_law_posts"] spTwo := ok__law_two T
  have G__law_right : FnOk P w K mg base CX0 41 A.f__law_right A.d__law_right ["_law_p", "_law_hold_here", "_law_grid", "_law_spots"] (spRightT C) := ok__law_rightT T B
  have G__law_by_one : FnG P w K mg base 41 A.f__law_by_one A.d__law_by_one ["_law_p", "_law_hold_here", "_law_grid", "_law_spots"] (spByOne C) := ok__law_by_one T B hm
  refine ⟨_, (pss_cons (ps_set (i := 1) sc_law.nd rfl (.inl rfl) (pe_call G__law_deck (hr.mono (by decide)) (by rfl) T.d__law_deck.g T.d__law_deck.F.kp T.d__law_deck.b .nil pass0 (pa_cons (pv 0) pa_nil)))
        (pss_cons (ps_for PassesOwn.never rfl (pi_range1 (by rfl) T.b_range (pa_cons pe_int pa_nil)) (pg_name (i := 2) sc_law.nd rfl (.inl rfl))
        (pss_cons (ps_set (i := 3) sc_law.nd rfl (.inl rfl) (pe_call G__law_prime (hr.mono (by decide)) (by rfl) T.d__law_prime.g T.d__law_prime.F.kp T.d__law_prime.b .nil pass0 (pa_cons (pv 1) pa_nil)))
        (pss_cons (ps_set (i := 4) sc_law.nd rfl (.inl rfl) (pe_op op_add pe_int (pe_call G__law_next (hr.mono (by decide)) (by rfl) T.d__law_next.g T.d__law_next.F.kp T.d__law_next.b .nil pass0 (pa_cons (pv 1) (pa_cons pe_int pa_nil)))))
        (pss_cons (ps_par (i := 6) (j := 7) rfl sc_law.nd rfl rfl (by decide) rfl rfl (pa_cons (pe_call G__law_hold (hr.mono (by decide)) (by rfl) T.d__law_hold.g T.d__law_hold.F.kp T.d__law_hold.b .nil pass0 (pa_cons (pv 1) (pa_cons (pv 4) pa_nil))) (pa_cons (pe_call G__law_table (hr.mono (by decide)) (by rfl) T.d__law_table.g T.d__law_table.F.kp T.d__law_table.b .nil pass0 (pa_cons (pv 1) (pa_cons (pv 3) (pa_cons (pv 4) pa_nil)))) pa_nil)) rfl)
        (pss_one (ps_for PassesOwn.never rfl (pi_range1 (by rfl) T.b_range (pa_cons pe_int pa_nil)) (pg_name (i := 5) sc_law.nd rfl (.inl rfl))
        (pss_cons (ps_set (i := 8) sc_law.nd rfl (.inl rfl) (pe_call G__law_two (hr.mono (by decide)) (by rfl) T.d__law_two.g T.d__law_two.F.kp T.d__law_two.b .nil pass0 (pa_cons (pv 1) (pa_cons (pv 4) pa_nil))))
        (pss_cons (ps_if (pt_not (pt_val (pe_call G__law_right hr (by rfl) T.d__law_right.g T.d__law_right.F.kp T.d__law_right.b .nil pass0 (pa_cons (pv 3) (pa_cons (pv 6) (pa_cons (pv 7) (pa_cons (pv 8) pa_nil)))))))
        (pss_one (ps_ret pe_bl))
        pss_nil)
        (pss_one (ps_if (PW.pt (pw_and (pt_cmpR op_eq (pe_callB call_len_seq (by rfl) T.b_len PySem.boot_len (pa_cons (pv 8) pa_nil)) pe_int (nomark _)) (pw_and1 (pt_not (pt_val (pe_callG G__law_by_one hgd hr (by rfl) T.d__law_by_one.g T.d__law_by_one.F.kp T.d__law_by_one.b (pa_cons (pv 3) (pa_cons (pv 6) (pa_cons (pv 7) (pa_cons (pv 8) pa_nil))))))))))
        (pss_one (ps_ret pe_bl))
        pss_nil))))))))))
        (pss_one (ps_ret pe_bl)))), ?_⟩
  refine ⟨.ref a, rfl, a, ns, rfl, hS, hlen, fun d g c H0 s0 nd ng nc D0 => ?_⟩
  have tg0 := tgs.sm (.of_same s0)
  refine ⟨3, rfl, by decide, by decide, for_range (n := 3) (fun j σ H' => ∃ v2 v3 v4 v5 v6 v7 v8, σ = [some (.ref a), some (.ref d), v2, v3, v4, v5, v6, v7, v8] ∧ Dk d g c (3000 * j) H' ∧ TbTu C H') ⟨_, _, _, _, _, _, _, rfl, D0.mono (by omega), tg0⟩ ?_ ?_⟩
  · rintro j σ H1 hj ⟨v2, v3, v4, v5, v6, v7, v8, rfl, D1, tg1⟩
    refine ⟨.ref d, rfl, d, g, c, _, rfl, D1, by omega, fun p H2 hp D2 f2 => ?_⟩
    obtain ⟨p2, p13⟩ := prs_bd p hp
    have p0 : 0 < p := by omega
    have p1 : 1 < p := by omega
    refine ⟨.ref d, rfl, d, g, c, _, 10, rfl, by decide, by decide, D2, by omega, fun x1 H3 x10 x11 D3 f3 => ⟨1, x1, rfl, rfl, ?_⟩⟩
    obtain ⟨m0, rfl⟩ := Int.eq_ofNat_of_zero_le x10
    obtain ⟨m, em⟩ : ∃ m : Nat, m = m0 + 1 := ⟨_, rfl⟩
    have em' : (1 : Int) + (m0 : Nat) = (m : Nat) := by omega
    dsimp only
    rw [em']
    have tg3 := tg1.fs D1 (.of_fr (f2.trans f3))
    refine ⟨.ref d, rfl, .int (m : Nat), rfl, d, g, c, _, m, rfl, D3, by omega, by omega, fun th hs H6 hb hsl eth D6 f6 => ?_⟩
    refine ⟨.ref d, rfl, .int p, rfl, .int (m : Nat), rfl, d, g, c, _, p, m, rfl, D6, by omega, p2, p13, by omega, fun tt ys0 gs H7 ett0 htr0 gl0 gok0 gsy0 D7 f7 => ?_⟩
    subst hsl
    have hd7 : HdAt H7 th hs := HdAt.fr ⟨eth, hb, by omega⟩ D6 f7
    have tb7 : TbAt p hs.length H7 tt gs := ⟨⟨ys0, ett0, htr0⟩, gl0, gok0, gsy0⟩
    have tg7 := tg3.fs D3 (.of_fr (f6.trans f7))
    refine ⟨.ref th, .ref tt, rfl, ?_⟩
    simp only [List.set_cons_succ, List.set_cons_zero]
    refine ⟨4, rfl, by decide, by decide, for_range (n := 4) (fun i σ H' => ∃ v5 v8, σ = [some (.ref a), some (.ref d), some (.int (0 + (j : Nat))), some (.int p), some (.int (hs.length : Nat)), v5, some (.ref th), some (.ref tt), v8] ∧ Dk d g c (3000 * j + 2000 + 10 * i) H' ∧ Fs d g H7 H') ⟨_, _, rfl, D7.mono (by omega), .refl _ _ _⟩ ?_ ?_⟩
    · rintro i σ H8 hi ⟨v5, v8, rfl, D8, f8⟩
      refine ⟨.ref d, rfl, .int (hs.length : Nat), rfl, d, g, c, _, hs.length, rfl, D8, by omega, by omega, by omega, fun t ps H9 et pw lt l12 D9 f9 => ?_⟩
      have f79 : Fs d g H7 H9 := f8.trans (.of_fr f9)
      have hd9 := hd7.fs D7 f79
      have tb9 := tb7.fs D7 f79
      have tg9 := tg7.fs D7 f79
      refine ⟨.int p, rfl, .ref th, rfl, .ref tt, rfl, .ref t, rfl, p, th, tt, t, hs, gs, ps, rfl, hp, hd9, tb9, et, pw, lt, by omega, tg9, fun H10 s10 => ⟨true, rfl, ?_⟩⟩
      have et10 := s10.tup et
      refine ⟨.ref t, rfl, t, _, rfl, .inr (SqT.of et10), rfl, _, rfl, ite2 (fun cc => ?_) (fun cc => ?_)⟩
      · have cl := V.int.inj (of_decide_eq_true cc)
        have pl : ps.length = 2 := by
          rw [natV_len] at cl
          omega
        match ps, pl, et10, pw, lt with
        | [x, y], _, et10, pw, lt =>
          have xy : x < y := by
            have := (List.pairwise_cons.mp pw).1 y (by simp)
            exact this
          refine ⟨.int p, rfl, .ref th, rfl, .ref tt, rfl, .ref t, rfl, p, th, tt, t, hs, gs, x, y, rfl, hp, hd9.sm s10, tb9.sm s10, et10, xy, lt y (by simp), tg9.sm s10, fun H11 s11 => ⟨true, rfl, ?_⟩⟩
          exact ⟨_, _, rfl, (D9.sm (s10.trans s11)).mono (by omega), f79.trans (.of_sm (s10.trans s11))⟩
      · exact ⟨_, _, rfl, (D9.sm s10).mono (by omega), f79.trans (.of_sm s10)⟩
    · rintro σ H8 ⟨v5, v8, rfl, D8, f8⟩
      exact ⟨_, _, _, _, _, _, _, rfl, D8.mono (by omega), tg7.fs D7 f8⟩
  · rintro σ H1 ⟨v2, v3, v4, v5, v6, v7, v8, rfl, D1, tg1⟩
    rfl
end
-- CUT
/-! what the top has written -/
set_option maxHeartbeats 4000000 in
theorem all_mk {l : PySem.W.OpenLaw} {w : World} {K : PySem.W.Frag} {h : Heap} {mg : Str → Option Value} {fa : Addr} (X : K.In h) (G : h.Ns mainGlobals mg) (hfa : mg "law" = some (.ref fa)) (own : OwnTabs ["row_of_sides", "table_of", "other_sides"] mg h)
    {f_inverse : Addr} {od_inverse an_inverse : Option Addr} {sl_inverse : Array (Option Value)} {oc_inverse kV_inverse dc_inverse pm_inverse cd_inverse ct_inverse : Value}
    {f_first_place : Addr} {od_first_place an_first_place : Option Addr} {sl_first_place : Array (Option Value)} {oc_first_place kV_first_place dc_first_place pm_first_place cd_first_place ct_first_place : Value}
    {f_lessened : Addr} {od_lessened an_lessened : Option Addr} {sl_lessened : Array (Option Value)} {oc_lessened kV_lessened dc_lessened pm_lessened cd_lessened ct_lessened : Value}
    {f_cleared : Addr} {od_cleared an_cleared : Option Addr} {sl_cleared : Array (Option Value)} {oc_cleared kV_cleared dc_cleared pm_cleared cd_cleared ct_cleared : Value}
    {f_leads_of : Addr} {od_leads_of an_leads_of : Option Addr} {sl_leads_of : Array (Option Value)} {oc_leads_of kV_leads_of dc_leads_of pm_leads_of cd_leads_of ct_leads_of : Value}
    {f_sided : Addr} {od_sided an_sided : Option Addr} {sl_sided : Array (Option Value)} {oc_sided kV_sided dc_sided pm_sided cd_sided ct_sided : Value}
    {f_row_of_sides : Addr} {od_row_of_sides an_row_of_sides : Option Addr} {sl_row_of_sides : Array (Option Value)} {oc_row_of_sides kV_row_of_sides dc_row_of_sides pm_row_of_sides ct_row_of_sides : Value}
    {q_row_of_sides p_row_of_sides : Addr} {e_row_of_sides : Value} {dd_row_of_sides : Option Addr} {vs_row_of_sides : Array Value} {us_row_of_sides : Array (Option Value)}
    {f_side_leads : Addr} {od_side_leads an_side_leads : Option Addr} {sl_side_leads : Array (Option Value)} {oc_side_leads kV_side_leads dc_side_leads pm_side_leads cd_side_leads ct_side_leads : Value}
    {f_table_of : Addr} {od_table_of an_table_of : Option Addr} {sl_table_of : Array (Option Value)} {oc_table_of kV_table_of dc_table_of pm_table_of ct_table_of : Value}
    {q_table_of p_table_of : Addr} {e_table_of : Value} {dd_table_of : Option Addr} {vs_table_of : Array Value} {us_table_of : Array (Option Value)}
    {f_rows_by_table : Addr} {od_rows_by_table an_rows_by_table : Option Addr} {sl_rows_by_table : Array (Option Value)} {oc_rows_by_table kV_rows_by_table dc_rows_by_table pm_rows_by_table cd_rows_by_table ct_rows_by_table : Value}
    {f_other_sides : Addr} {od_other_sides an_other_sides : Option Addr} {sl_other_sides : Array (Option Value)} {oc_other_sides kV_other_sides dc_other_sides pm_other_sides ct_other_sides : Value}
    {q_other_sides p_other_sides : Addr} {e_other_sides : Value} {dd_other_sides : Option Addr} {vs_other_sides : Array Value} {us_other_sides : Array (Option Value)}
    {f_turned : Addr} {od_turned an_turned : Option Addr} {sl_turned : Array (Option Value)} {oc_turned kV_turned dc_turned pm_turned cd_turned ct_turned : Value}
    {f__law_deck : Addr} {od__law_deck an__law_deck : Option Addr} {sl__law_deck : Array (Option Value)} {oc__law_deck kV__law_deck dc__law_deck pm__law_deck cd__law_deck ct__law_deck : Value}
    {f__law_next : Addr} {od__law_next an__law_next : Option Addr} {sl__law_next : Array (Option Value)} {oc__law_next kV__law_next dc__law_next pm__law_next cd__law_next ct__law_next : Value}
    {f__law_prime : Addr} {od__law_prime an__law_prime : Option Addr} {sl__law_prime : Array (Option Value)} {oc__law_prime kV__law_prime dc__law_prime pm__law_prime cd__law_prime ct__law_prime : Value}
    {f__law_hold : Addr} {od__law_hold an__law_hold : Option Addr} {sl__law_hold : Array (Option Value)} {oc__law_hold kV__law_hold dc__law_hold pm__law_hold cd__law_hold ct__law_hold : Value}
    {f__law_table : Addr} {od__law_table an__law_table : Option Addr} {sl__law_table : Array (Option Value)} {oc__law_table kV__law_table dc__law_table pm__law_table cd__law_table ct__law_table : Value}
    {f__law_stand : Addr} {od__law_stand an__law_stand : Option Addr} {sl__law_stand : Array (Option Value)} {oc__law_stand kV__law_stand dc__law_stand pm__law_stand cd__law_stand ct__law_stand : Value}
    {f__law_units : Addr} {od__law_units an__law_units : Option Addr} {sl__law_units : Array (Option Value)} {oc__law_units kV__law_units dc__law_units pm__law_units cd__law_units ct__law_units : Value}
    {f__law_whole : Addr} {od__law_whole an__law_whole : Option Addr} {sl__law_whole : Array (Option Value)} {oc__law_whole kV__law_whole dc__law_whole pm__law_whole cd__law_whole ct__law_whole : Value}
    {f__law_same : Addr} {od__law_same an__law_same : Option Addr} {sl__law_same : Array (Option Value)} {oc__law_same kV__law_same dc__law_same pm__law_same cd__law_same ct__law_same : Value}
    {f__law_held : Addr} {od__law_held an__law_held : Option Addr} {sl__law_held : Array (Option Value)} {oc__law_held kV__law_held dc__law_held pm__law_held cd__law_held ct__law_held : Value}
    {f__law_lets : Addr} {od__law_lets an__law_lets : Option Addr} {sl__law_lets : Array (Option Value)} {oc__law_lets kV__law_lets dc__law_lets pm__law_lets cd__law_lets ct__law_lets : Value}
    {f__law_inverse : Addr} {od__law_inverse an__law_inverse : Option Addr} {sl__law_inverse : Array (Option Value)} {oc__law_inverse kV__law_inverse dc__law_inverse pm__law_inverse cd__law_inverse ct__law_inverse : Value}
    {f__law_lacks : Addr} {od__law_lacks an__law_lacks : Option Addr} {sl__law_lacks : Array (Option Value)} {oc__law_lacks kV__law_lacks dc__law_lacks pm__law_lacks cd__law_lacks ct__law_lacks : Value}
    {f__law_flipped : Addr} {od__law_flipped an__law_flipped : Option Addr} {sl__law_flipped : Array (Option Value)} {oc__law_flipped kV__law_flipped dc__law_flipped pm__law_flipped cd__law_flipped ct__law_flipped : Value}
    {f__law_is_board : Addr} {od__law_is_board an__law_is_board : Option Addr} {sl__law_is_board : Array (Option Value)} {oc__law_is_board kV__law_is_board dc__law_is_board pm__law_is_board cd__law_is_board ct__law_is_board : Value}
    {f__law_fits : Addr} {od__law_fits an__law_fits : Option Addr} {sl__law_fits : Array (Option Value)} {oc__law_fits kV__law_fits dc__law_fits pm__law_fits cd__law_fits ct__law_fits : Value}
    {f__law_two : Addr} {od__law_two an__law_two : Option Addr} {sl__law_two : Array (Option Value)} {oc__law_two kV__law_two dc__law_two pm__law_two cd__law_two ct__law_two : Value}
    {f__law_right : Addr} {od__law_right an__law_right : Option Addr} {sl__law_right : Array (Option Value)} {oc__law_right kV__law_right dc__law_right pm__law_right cd__law_right ct__law_right : Value}
    {f__law_by_one : Addr} {od__law_by_one an__law_by_one : Option Addr} {sl__law_by_one : Array (Option Value)} {oc__law_by_one kV__law_by_one dc__law_by_one pm__law_by_one cd__law_by_one ct__law_by_one : Value}
    {f_law : Addr} {od_law an_law : Option Addr} {sl_law : Array (Option Value)} {oc_law kV_law dc_law pm_law cd_law ct_law : Value}
    (a_inverse : PySem.W.nsIn K mainGlobals "inverse" = some (some (.ref f_inverse))) (l_inverse : K.lookup f_inverse = some ⟨oc_inverse, od_inverse, .func (PySem.W.fnOf "inverse" "inverse" (defArgs s_inverse) (defBody s_inverse) (defScope s_inverse) .none kV_inverse dc_inverse pm_inverse an_inverse cd_inverse ct_inverse), sl_inverse⟩) (c_inverse : PySem.W.codeIn K cd_inverse "inverse" = true) (k_inverse : PySem.W.keepIn K (.ref f_inverse) = true)
    (a_first_place : PySem.W.nsIn K mainGlobals "first_place" = some (some (.ref f_first_place))) (l_first_place : K.lookup f_first_place = some ⟨oc_first_place, od_first_place, .func (PySem.W.fnOf "first_place" "first_place" (defArgs s_first_place) (defBody s_first_place) (defScope s_first_place) .none kV_first_place dc_first_place pm_first_place an_first_place cd_first_place ct_first_place), sl_first_place⟩) (c_first_place : PySem.W.codeIn K cd_first_place "first_place" = true) (k_first_place : PySem.W.keepIn K (.ref f_first_place) = true)
    (a_lessened : PySem.W.nsIn K mainGlobals "lessened" = some (some (.ref f_lessened))) (l_lessened : K.lookup f_lessened = some ⟨oc_lessened, od_lessened, .func (PySem.W.fnOf "lessened" "lessened" (defArgs s_lessened) (defBody s_lessened) (defScope s_lessened) .none kV_lessened dc_lessened pm_lessened an_lessened cd_lessened ct_lessened), sl_lessened⟩) (c_lessened : PySem.W.codeIn K cd_lessened "lessened" = true) (k_lessened : PySem.W.keepIn K (.ref f_lessened) = true)
    (a_cleared : PySem.W.nsIn K mainGlobals "cleared" = some (some (.ref f_cleared))) (l_cleared : K.lookup f_cleared = some ⟨oc_cleared, od_cleared, .func (PySem.W.fnOf "cleared" "cleared" (defArgs s_cleared) (defBody s_cleared) (defScope s_cleared) .none kV_cleared dc_cleared pm_cleared an_cleared cd_cleared ct_cleared), sl_cleared⟩) (c_cleared : PySem.W.codeIn K cd_cleared "cleared" = true) (k_cleared : PySem.W.keepIn K (.ref f_cleared) = true)
    (a_leads_of : PySem.W.nsIn K mainGlobals "leads_of" = some (some (.ref f_leads_of))) (l_leads_of : K.lookup f_leads_of = some ⟨oc_leads_of, od_leads_of, .func (PySem.W.fnOf "leads_of" "leads_of" (defArgs s_leads_of) (defBody s_leads_of) (defScope s_leads_of) .none kV_leads_of dc_leads_of pm_leads_of an_leads_of cd_leads_of ct_leads_of), sl_leads_of⟩) (c_leads_of : PySem.W.codeIn K cd_leads_of "leads_of" = true) (k_leads_of : PySem.W.keepIn K (.ref f_leads_of) = true)
    (a_sided : PySem.W.nsIn K mainGlobals "sided" = some (some (.ref f_sided))) (l_sided : K.lookup f_sided = some ⟨oc_sided, od_sided, .func (PySem.W.fnOf "sided" "sided" (defArgs s_sided) (defBody s_sided) (defScope s_sided) .none kV_sided dc_sided pm_sided an_sided cd_sided ct_sided), sl_sided⟩) (c_sided : PySem.W.codeIn K cd_sided "sided" = true) (k_sided : PySem.W.keepIn K (.ref f_sided) = true)
    (a_row_of_sides : PySem.W.nsIn K mainGlobals "row_of_sides" = some (some (.ref f_row_of_sides))) (l_row_of_sides : K.lookup f_row_of_sides = some ⟨oc_row_of_sides, od_row_of_sides, .func (PySem.W.fnOf "row_of_sides" "row_of_sides" (defArgs s_row_of_sides) (defBody s_row_of_sides) (defScope s_row_of_sides) .none kV_row_of_sides dc_row_of_sides pm_row_of_sides an_row_of_sides (.ref q_row_of_sides) ct_row_of_sides), sl_row_of_sides⟩) (c_row_of_sides : PySem.W.codeIn K (.ref q_row_of_sides) "row_of_sides" = true) (k_row_of_sides : PySem.W.keepIn K (.ref f_row_of_sides) = true)
    (u_row_of_sides : K.lookup q_row_of_sides = some ⟨e_row_of_sides, dd_row_of_sides, .fields vs_row_of_sides, us_row_of_sides⟩) (g_row_of_sides : vs_row_of_sides[11]? = some (.ref p_row_of_sides)) (n_row_of_sides : K.lookup p_row_of_sides = none)
    (a_side_leads : PySem.W.nsIn K mainGlobals "side_leads" = some (some (.ref f_side_leads))) (l_side_leads : K.lookup f_side_leads = some ⟨oc_side_leads, od_side_leads, .func (PySem.W.fnOf "side_leads" "side_leads" (defArgs s_side_leads) (defBody s_side_leads) (defScope s_side_leads) .none kV_side_leads dc_side_leads pm_side_leads an_side_leads cd_side_leads ct_side_leads), sl_side_leads⟩) (c_side_leads : PySem.W.codeIn K cd_side_leads "side_leads" = true) (k_side_leads : PySem.W.keepIn K (.ref f_side_leads) = true)
    (a_table_of : PySem.W.nsIn K mainGlobals "table_of" = some (some (.ref f_table_of))) (l_table_of : K.lookup f_table_of = some ⟨oc_table_of, od_table_of, .func (PySem.W.fnOf "table_of" "table_of" (defArgs s_table_of) (defBody s_table_of) (defScope s_table_of) .none kV_table_of dc_table_of pm_table_of an_table_of (.ref q_table_of) ct_table_of), sl_table_of⟩) (c_table_of : PySem.W.codeIn K (.ref q_table_of) "table_of" = true) (k_table_of : PySem.W.keepIn K (.ref f_table_of) = true)
    (u_table_of : K.lookup q_table_of = some ⟨e_table_of, dd_table_of, .fields vs_table_of, us_table_of⟩) (g_table_of : vs_table_of[11]? = some (.ref p_table_of)) (n_table_of : K.lookup p_table_of = none)
    (a_rows_by_table : PySem.W.nsIn K mainGlobals "rows_by_table" = some (some (.ref f_rows_by_table))) (l_rows_by_table : K.lookup f_rows_by_table = some ⟨oc_rows_by_table, od_rows_by_table, .func (PySem.W.fnOf "rows_by_table" "rows_by_table" (defArgs s_rows_by_table) (defBody s_rows_by_table) (defScope s_rows_by_table) .none kV_rows_by_table dc_rows_by_table pm_rows_by_table an_rows_by_table cd_rows_by_table ct_rows_by_table), sl_rows_by_table⟩) (c_rows_by_table : PySem.W.codeIn K cd_rows_by_table "rows_by_table" = true) (k_rows_by_table : PySem.W.keepIn K (.ref f_rows_by_table) = true)
    (a_other_sides : PySem.W.nsIn K mainGlobals "other_sides" = some (some (.ref f_other_sides))) (l_other_sides : K.lookup f_other_sides = some ⟨oc_other_sides, od_other_sides, .func (PySem.W.fnOf "other_sides" "other_sides" (defArgs s_other_sides) (defBody s_other_sides) (defScope s_other_sides) .none kV_other_sides dc_other_sides pm_other_sides an_other_sides (.ref q_other_sides) ct_other_sides), sl_other_sides⟩) (c_other_sides : PySem.W.codeIn K (.ref q_other_sides) "other_sides" = true) (k_other_sides : PySem.W.keepIn K (.ref f_other_sides) = true)
    (u_other_sides : K.lookup q_other_sides = some ⟨e_other_sides, dd_other_sides, .fields vs_other_sides, us_other_sides⟩) (g_other_sides : vs_other_sides[11]? = some (.ref p_other_sides)) (n_other_sides : K.lookup p_other_sides = none)
    (a_turned : PySem.W.nsIn K mainGlobals "turned" = some (some (.ref f_turned))) (l_turned : K.lookup f_turned = some ⟨oc_turned, od_turned, .func (PySem.W.fnOf "turned" "turned" (defArgs s_turned) (defBody s_turned) (defScope s_turned) .none kV_turned dc_turned pm_turned an_turned cd_turned ct_turned), sl_turned⟩) (c_turned : PySem.W.codeIn K cd_turned "turned" = true) (k_turned : PySem.W.keepIn K (.ref f_turned) = true)
    (a__law_deck : PySem.W.nsIn K mainGlobals "_law_deck" = some (some (.ref f__law_deck))) (l__law_deck : K.lookup f__law_deck = some ⟨oc__law_deck, od__law_deck, .func (PySem.W.fnOf "_law_deck" "_law_deck" (defArgs s__law_deck) (defBody s__law_deck) (defScope s__law_deck) .none kV__law_deck dc__law_deck pm__law_deck an__law_deck cd__law_deck ct__law_deck), sl__law_deck⟩) (c__law_deck : PySem.W.codeIn K cd__law_deck "_law_deck" = true) (k__law_deck : PySem.W.keepIn K (.ref f__law_deck) = true)
    (a__law_next : PySem.W.nsIn K mainGlobals "_law_next" = some (some (.ref f__law_next))) (l__law_next : K.lookup f__law_next = some ⟨oc__law_next, od__law_next, .func (PySem.W.fnOf "_law_next" "_law_next" (defArgs s__law_next) (defBody s__law_next) (defScope s__law_next) .none kV__law_next dc__law_next pm__law_next an__law_next cd__law_next ct__law_next), sl__law_next⟩) (c__law_next : PySem.W.codeIn K cd__law_next "_law_next" = true) (k__law_next : PySem.W.keepIn K (.ref f__law_next) = true)
    (a__law_prime : PySem.W.nsIn K mainGlobals "_law_prime" = some (some (.ref f__law_prime))) (l__law_prime : K.lookup f__law_prime = some ⟨oc__law_prime, od__law_prime, .func (PySem.W.fnOf "_law_prime" "_law_prime" (defArgs s__law_prime) (defBody s__law_prime) (defScope s__law_prime) .none kV__law_prime dc__law_prime pm__law_prime an__law_prime cd__law_prime ct__law_prime), sl__law_prime⟩) (c__law_prime : PySem.W.codeIn K cd__law_prime "_law_prime" = true) (k__law_prime : PySem.W.keepIn K (.ref f__law_prime) = true)
    (a__law_hold : PySem.W.nsIn K mainGlobals "_law_hold" = some (some (.ref f__law_hold))) (l__law_hold : K.lookup f__law_hold = some ⟨oc__law_hold, od__law_hold, .func (PySem.W.fnOf "_law_hold" "_law_hold" (defArgs s__law_hold) (defBody s__law_hold) (defScope s__law_hold) .none kV__law_hold dc__law_hold pm__law_hold an__law_hold cd__law_hold ct__law_hold), sl__law_hold⟩) (c__law_hold : PySem.W.codeIn K cd__law_hold "_law_hold" = true) (k__law_hold : PySem.W.keepIn K (.ref f__law_hold) = true)
    (a__law_table : PySem.W.nsIn K mainGlobals "_law_table" = some (some (.ref f__law_table))) (l__law_table : K.lookup f__law_table = some ⟨oc__law_table, od__law_table, .func (PySem.W.fnOf "_law_table" "_law_table" (defArgs s__law_table) (defBody s__law_table) (defScope s__law_table) .none kV__law_table dc__law_table pm__law_table an__law_table cd__law_table ct__law_table), sl__law_table⟩) (c__law_table : PySem.W.codeIn K cd__law_table "_law_table" = true) (k__law_table : PySem.W.keepIn K (.ref f__law_table) = true)
    (a__law_stand : PySem.W.nsIn K mainGlobals "_law_stand" = some (some (.ref f__law_stand))) (l__law_stand : K.lookup f__law_stand = some ⟨oc__law_stand, od__law_stand, .func (PySem.W.fnOf "_law_stand" "_law_stand" (defArgs s__law_stand) (defBody s__law_stand) (defScope s__law_stand) .none kV__law_stand dc__law_stand pm__law_stand an__law_stand cd__law_stand ct__law_stand), sl__law_stand⟩) (c__law_stand : PySem.W.codeIn K cd__law_stand "_law_stand" = true) (k__law_stand : PySem.W.keepIn K (.ref f__law_stand) = true)
    (a__law_units : PySem.W.nsIn K mainGlobals "_law_units" = some (some (.ref f__law_units))) (l__law_units : K.lookup f__law_units = some ⟨oc__law_units, od__law_units, .func (PySem.W.fnOf "_law_units" "_law_units" (defArgs s__law_units) (defBody s__law_units) (defScope s__law_units) .none kV__law_units dc__law_units pm__law_units an__law_units cd__law_units ct__law_units), sl__law_units⟩) (c__law_units : PySem.W.codeIn K cd__law_units "_law_units" = true) (k__law_units : PySem.W.keepIn K (.ref f__law_units) = true)
    (a__law_whole : PySem.W.nsIn K mainGlobals "_law_whole" = some (some (.ref f__law_whole))) (l__law_whole : K.lookup f__law_whole = some ⟨oc__law_whole, od__law_whole, .func (PySem.W.fnOf "_law_whole" "_law_whole" (defArgs s__law_whole) (defBody s__law_whole) (defScope s__law_whole) .none kV__law_whole dc__law_whole pm__law_whole an__law_whole cd__law_whole ct__law_whole), sl__law_whole⟩) (c__law_whole : PySem.W.codeIn K cd__law_whole "_law_whole" = true) (k__law_whole : PySem.W.keepIn K (.ref f__law_whole) = true)
    (a__law_same : PySem.W.nsIn K mainGlobals "_law_same" = some (some (.ref f__law_same))) (l__law_same : K.lookup f__law_same = some ⟨oc__law_same, od__law_same, .func (PySem.W.fnOf "_law_same" "_law_same" (defArgs s__law_same) (defBody s__law_same) (defScope s__law_same) .none kV__law_same dc__law_same pm__law_same an__law_same cd__law_same ct__law_same), sl__law_same⟩) (c__law_same : PySem.W.codeIn K cd__law_same "_law_same" = true) (k__law_same : PySem.W.keepIn K (.ref f__law_same) = true)
    (a__law_held : PySem.W.nsIn K mainGlobals "_law_held" = some (some (.ref f__law_held))) (l__law_held : K.lookup f__law_held = some ⟨oc__law_held, od__law_held, .func (PySem.W.fnOf "_law_held" "_law_held" (defArgs s__law_held) (defBody s__law_held) (defScope s__law_held) .none kV__law_held dc__law_held pm__law_held an__law_held cd__law_held ct__law_held), sl__law_held⟩) (c__law_held : PySem.W.codeIn K cd__law_held "_law_held" = true) (k__law_held : PySem.W.keepIn K (.ref f__law_held) = true)
    (a__law_lets : PySem.W.nsIn K mainGlobals "_law_lets" = some (some (.ref f__law_lets))) (l__law_lets : K.lookup f__law_lets = some ⟨oc__law_lets, od__law_lets, .func (PySem.W.fnOf "_law_lets" "_law_lets" (defArgs s__law_lets) (defBody s__law_lets) (defScope s__law_lets) .none kV__law_lets dc__law_lets pm__law_lets an__law_lets cd__law_lets ct__law_lets), sl__law_lets⟩) (c__law_lets : PySem.W.codeIn K cd__law_lets "_law_lets" = true) (k__law_lets : PySem.W.keepIn K (.ref f__law_lets) = true)
    (a__law_inverse : PySem.W.nsIn K mainGlobals "_law_inverse" = some (some (.ref f__law_inverse))) (l__law_inverse : K.lookup f__law_inverse = some ⟨oc__law_inverse, od__law_inverse, .func (PySem.W.fnOf "_law_inverse" "_law_inverse" (defArgs s__law_inverse) (defBody s__law_inverse) (defScope s__law_inverse) .none kV__law_inverse dc__law_inverse pm__law_inverse an__law_inverse cd__law_inverse ct__law_inverse), sl__law_inverse⟩) (c__law_inverse : PySem.W.codeIn K cd__law_inverse "_law_inverse" = true) (k__law_inverse : PySem.W.keepIn K (.ref f__law_inverse) = true)
    (a__law_lacks : PySem.W.nsIn K mainGlobals "_law_lacks" = some (some (.ref f__law_lacks))) (l__law_lacks : K.lookup f__law_lacks = some ⟨oc__law_lacks, od__law_lacks, .func (PySem.W.fnOf "_law_lacks" "_law_lacks" (defArgs s__law_lacks) (defBody s__law_lacks) (defScope s__law_lacks) .none kV__law_lacks dc__law_lacks pm__law_lacks an__law_lacks cd__law_lacks ct__law_lacks), sl__law_lacks⟩) (c__law_lacks : PySem.W.codeIn K cd__law_lacks "_law_lacks" = true) (k__law_lacks : PySem.W.keepIn K (.ref f__law_lacks) = true)
    (a__law_flipped : PySem.W.nsIn K mainGlobals "_law_flipped" = some (some (.ref f__law_flipped))) (l__law_flipped : K.lookup f__law_flipped = some ⟨oc__law_flipped, od__law_flipped, .func (PySem.W.fnOf "_law_flipped" "_law_flipped" (defArgs s__law_flipped) (defBody s__law_flipped) (defScope s__law_flipped) .none kV__law_flipped dc__law_flipped pm__law_flipped an__law_flipped cd__law_flipped ct__law_flipped), sl__law_flipped⟩) (c__law_flipped : PySem.W.codeIn K cd__law_flipped "_law_flipped" = true) (k__law_flipped : PySem.W.keepIn K (.ref f__law_flipped) = true)
    (a__law_is_board : PySem.W.nsIn K mainGlobals "_law_is_board" = some (some (.ref f__law_is_board))) (l__law_is_board : K.lookup f__law_is_board = some ⟨oc__law_is_board, od__law_is_board, .func (PySem.W.fnOf "_law_is_board" "_law_is_board" (defArgs s__law_is_board) (defBody s__law_is_board) (defScope s__law_is_board) .none kV__law_is_board dc__law_is_board pm__law_is_board an__law_is_board cd__law_is_board ct__law_is_board), sl__law_is_board⟩) (c__law_is_board : PySem.W.codeIn K cd__law_is_board "_law_is_board" = true) (k__law_is_board : PySem.W.keepIn K (.ref f__law_is_board) = true)
    (a__law_fits : PySem.W.nsIn K mainGlobals "_law_fits" = some (some (.ref f__law_fits))) (l__law_fits : K.lookup f__law_fits = some ⟨oc__law_fits, od__law_fits, .func (PySem.W.fnOf "_law_fits" "_law_fits" (defArgs s__law_fits) (defBody s__law_fits) (defScope s__law_fits) .none kV__law_fits dc__law_fits pm__law_fits an__law_fits cd__law_fits ct__law_fits), sl__law_fits⟩) (c__law_fits : PySem.W.codeIn K cd__law_fits "_law_fits" = true) (k__law_fits : PySem.W.keepIn K (.ref f__law_fits) = true)
    (a__law_two : PySem.W.nsIn K mainGlobals "_law_two" = some (some (.ref f__law_two))) (l__law_two : K.lookup f__law_two = some ⟨oc__law_two, od__law_two, .func (PySem.W.fnOf "_law_two" "_law_two" (defArgs s__law_two) (defBody s__law_two) (defScope s__law_two) .none kV__law_two dc__law_two pm__law_two an__law_two cd__law_two ct__law_two), sl__law_two⟩) (c__law_two : PySem.W.codeIn K cd__law_two "_law_two" = true) (k__law_two : PySem.W.keepIn K (.ref f__law_two) = true)
    (a__law_right : PySem.W.nsIn K mainGlobals "_law_right" = some (some (.ref f__law_right))) (l__law_right : K.lookup f__law_right = some ⟨oc__law_right, od__law_right, .func (PySem.W.fnOf "_law_right" "_law_right" (defArgs s__law_right) (defBody s__law_right) (defScope s__law_right) .none kV__law_right dc__law_right pm__law_right an__law_right cd__law_right ct__law_right), sl__law_right⟩) (c__law_right : PySem.W.codeIn K cd__law_right "_law_right" = true) (k__law_right : PySem.W.keepIn K (.ref f__law_right) = true)
    (a__law_by_one : PySem.W.nsIn K mainGlobals "_law_by_one" = some (some (.ref f__law_by_one))) (l__law_by_one : K.lookup f__law_by_one = some ⟨oc__law_by_one, od__law_by_one, .func (PySem.W.fnOf "_law_by_one" "_law_by_one" (defArgs s__law_by_one) (defBody s__law_by_one) (defScope s__law_by_one) .none kV__law_by_one dc__law_by_one pm__law_by_one an__law_by_one cd__law_by_one ct__law_by_one), sl__law_by_one⟩) (c__law_by_one : PySem.W.codeIn K cd__law_by_one "_law_by_one" = true) (k__law_by_one : PySem.W.keepIn K (.ref f__law_by_one) = true)
    (a_law : PySem.W.nsIn K mainGlobals "law" = some (some (.ref f_law))) (l_law : K.lookup f_law = some ⟨oc_law, od_law, .func (PySem.W.fnOf "law" "law" (defArgs s_law) (defBody s_law) (defScope s_law) .none kV_law dc_law pm_law an_law cd_law ct_law), sl_law⟩) (c_law : PySem.W.codeIn K cd_law "law" = true) (k_law : PySem.W.keepIn K (.ref f_law) = true)
    (z_abs : PySem.W.nsIn K mainGlobals "abs" = some none)
    (z_all : PySem.W.nsIn K mainGlobals "all" = some none)
    (z_any : PySem.W.nsIn K mainGlobals "any" = some none)
    (z_bool : PySem.W.nsIn K mainGlobals "bool" = some none)
    (z_enumerate : PySem.W.nsIn K mainGlobals "enumerate" = some none)
    (z_int : PySem.W.nsIn K mainGlobals "int" = some none)
    (z_isinstance : PySem.W.nsIn K mainGlobals "isinstance" = some none)
    (z_len : PySem.W.nsIn K mainGlobals "len" = some none)
    (z_list : PySem.W.nsIn K mainGlobals "list" = some none)
    (z_range : PySem.W.nsIn K mainGlobals "range" = some none)
    (z_repr : PySem.W.nsIn K mainGlobals "repr" = some none)
    (z_sorted : PySem.W.nsIn K mainGlobals "sorted" = some none)
    (z_str : PySem.W.nsIn K mainGlobals "str" = some none)
    (z_sum : PySem.W.nsIn K mainGlobals "sum" = some none)
    (z_tuple : PySem.W.nsIn K mainGlobals "tuple" = some none)
    (z_zip : PySem.W.nsIn K mainGlobals "zip" = some none) :
    ∃ cs : List (Addr × Addr), (∀ p ∈ cs, h.get? p.2 = some { cls := .none, data := .fields #[] }) ∧ (∀ p ∈ cs, K.lookup p.2 = none) ∧ (∀ p ∈ cs, PySem.W.CodeHd h p.1 p.2) ∧ LawOkT l.prog w K mg fa cs := by
  have e := hfa.symm.trans (PySem.W.mg_of X G a_law)
  cases e
  have F_inverse := fun_mk (st := s_inverse) l_inverse c_inverse k_inverse
  have b_inverse := F_inverse.binds (ps := ["p", "number"]) fun _ _ _ _ _ _ us hl => match us, hl with | [_, _], _ => rfl
  have F_first_place := fun_mk (st := s_first_place) l_first_place c_first_place k_first_place
  have b_first_place := F_first_place.binds (ps := ["flat"]) fun _ _ _ _ _ _ us hl => match us, hl with | [_], _ => rfl
  have F_lessened := fun_mk (st := s_lessened) l_lessened c_lessened k_lessened
  have b_lessened := F_lessened.binds (ps := ["p", "flat", "number", "other"]) fun _ _ _ _ _ _ us hl => match us, hl with | [_, _, _, _], _ => rfl
  have F_cleared := fun_mk (st := s_cleared) l_cleared c_cleared k_cleared
  have b_cleared := F_cleared.binds (ps := ["p", "flat", "leads"]) fun _ _ _ _ _ _ us hl => match us, hl with | [_, _, _], _ => rfl
  have F_leads_of := fun_mk (st := s_leads_of) l_leads_of c_leads_of k_leads_of
  have b_leads_of := F_leads_of.binds (ps := ["p", "flats"]) fun _ _ _ _ _ _ us hl => match us, hl with | [_, _], _ => rfl
  have F_sided := fun_mk (st := s_sided) l_sided c_sided k_sided
  have b_sided := F_sided.binds (ps := ["p", "hold", "row"]) fun _ _ _ _ _ _ us hl => match us, hl with | [_, _, _], _ => rfl
  have F_row_of_sides := fun_mk (st := s_row_of_sides) l_row_of_sides c_row_of_sides k_row_of_sides
  have b_row_of_sides := F_row_of_sides.binds (ps := ["p", "hold", "held", "told"]) fun _ _ _ _ _ _ us hl => match us, hl with | [_, _, _, _], _ => rfl
  have F_side_leads := fun_mk (st := s_side_leads) l_side_leads c_side_leads k_side_leads
  have b_side_leads := F_side_leads.binds (ps := ["p", "hold", "rows"]) fun _ _ _ _ _ _ us hl => match us, hl with | [_, _, _], _ => rfl
  have F_table_of := fun_mk (st := s_table_of) l_table_of c_table_of k_table_of
  have b_table_of := F_table_of.binds (ps := ["p", "hold", "rows"]) fun _ _ _ _ _ _ us hl => match us, hl with | [_, _, _], _ => rfl
  have F_rows_by_table := fun_mk (st := s_rows_by_table) l_rows_by_table c_rows_by_table k_rows_by_table
  have b_rows_by_table := F_rows_by_table.binds (ps := ["p", "hold", "table"]) fun _ _ _ _ _ _ us hl => match us, hl with | [_, _, _], _ => rfl
  have F_other_sides := fun_mk (st := s_other_sides) l_other_sides c_other_sides k_other_sides
  have b_other_sides := F_other_sides.binds (ps := ["hold", "posts"]) fun _ _ _ _ _ _ us hl => match us, hl with | [_, _], _ => rfl
  have F_turned := fun_mk (st := s_turned) l_turned c_turned k_turned
  have b_turned := F_turned.binds (ps := ["p", "hold", "table", "posts"]) fun _ _ _ _ _ _ us hl => match us, hl with | [_, _, _, _], _ => rfl
  have F__law_deck := fun_mk (st := s__law_deck) l__law_deck c__law_deck k__law_deck
  have b__law_deck := F__law_deck.binds (ps := ["_law_script"]) fun _ _ _ _ _ _ us hl => match us, hl with | [_], _ => rfl
  have F__law_next := fun_mk (st := s__law_next) l__law_next c__law_next k__law_next
  have b__law_next := F__law_next.binds (ps := ["_law_deck_here", "_law_many"]) fun _ _ _ _ _ _ us hl => match us, hl with | [_, _], _ => rfl
  have F__law_prime := fun_mk (st := s__law_prime) l__law_prime c__law_prime k__law_prime
  have b__law_prime := F__law_prime.binds (ps := ["_law_deck_here"]) fun _ _ _ _ _ _ us hl => match us, hl with | [_], _ => rfl
  have F__law_hold := fun_mk (st := s__law_hold) l__law_hold c__law_hold k__law_hold
  have b__law_hold := F__law_hold.binds (ps := ["_law_deck_here", "_law_posts"]) fun _ _ _ _ _ _ us hl => match us, hl with | [_, _], _ => rfl
  have F__law_table := fun_mk (st := s__law_table) l__law_table c__law_table k__law_table
  have b__law_table := F__law_table.binds (ps := ["_law_deck_here", "_law_p", "_law_posts"]) fun _ _ _ _ _ _ us hl => match us, hl with | [_, _, _], _ => rfl
  have F__law_stand := fun_mk (st := s__law_stand) l__law_stand c__law_stand k__law_stand
  have b__law_stand := F__law_stand.binds (ps := ["_law_p", "_law_hold_here", "_law_grid", "_law_held_here"]) fun _ _ _ _ _ _ us hl => match us, hl with | [_, _, _, _], _ => rfl
  have F__law_units := fun_mk (st := s__law_units) l__law_units c__law_units k__law_units
  have b__law_units := F__law_units.binds (ps := ["_law_p", "_law_hold_here", "_law_grid"]) fun _ _ _ _ _ _ us hl => match us, hl with | [_, _, _], _ => rfl
  have F__law_whole := fun_mk (st := s__law_whole) l__law_whole c__law_whole k__law_whole
  have b__law_whole := F__law_whole.binds (ps := ["_law_thing"]) fun _ _ _ _ _ _ us hl => match us, hl with | [_], _ => rfl
  have F__law_same := fun_mk (st := s__law_same) l__law_same c__law_same k__law_same
  have b__law_same := F__law_same.binds (ps := ["_law_found", "_law_due"]) fun _ _ _ _ _ _ us hl => match us, hl with | [_, _], _ => rfl
  have F__law_held := fun_mk (st := s__law_held) l__law_held c__law_held k__law_held
  have b__law_held := F__law_held.binds (ps := ["_law_hold_here", "_law_row"]) fun _ _ _ _ _ _ us hl => match us, hl with | [_, _], _ => rfl
  have F__law_lets := fun_mk (st := s__law_lets) l__law_lets c__law_lets k__law_lets
  have b__law_lets := F__law_lets.binds (ps := ["_law_p", "_law_hold_here", "_law_grid", "_law_row"]) fun _ _ _ _ _ _ us hl => match us, hl with | [_, _, _, _], _ => rfl
  have F__law_inverse := fun_mk (st := s__law_inverse) l__law_inverse c__law_inverse k__law_inverse
  have b__law_inverse := F__law_inverse.binds (ps := ["_law_p", "_law_number"]) fun _ _ _ _ _ _ us hl => match us, hl with | [_, _], _ => rfl
  have F__law_lacks := fun_mk (st := s__law_lacks) l__law_lacks c__law_lacks k__law_lacks
  have b__law_lacks := F__law_lacks.binds (ps := ["_law_p", "_law_grid", "_law_posts"]) fun _ _ _ _ _ _ us hl => match us, hl with | [_, _, _], _ => rfl
  have F__law_flipped := fun_mk (st := s__law_flipped) l__law_flipped c__law_flipped k__law_flipped
  have b__law_flipped := F__law_flipped.binds (ps := ["_law_hold_here", "_law_posts"]) fun _ _ _ _ _ _ us hl => match us, hl with | [_, _], _ => rfl
  have F__law_is_board := fun_mk (st := s__law_is_board) l__law_is_board c__law_is_board k__law_is_board
  have b__law_is_board := F__law_is_board.binds (ps := ["_law_p", "_law_posts", "_law_thing"]) fun _ _ _ _ _ _ us hl => match us, hl with | [_, _, _], _ => rfl
  have F__law_fits := fun_mk (st := s__law_fits) l__law_fits c__law_fits k__law_fits
  have b__law_fits := F__law_fits.binds (ps := ["_law_p", "_law_hold_here", "_law_grid", "_law_other", "_law_told"]) fun _ _ _ _ _ _ us hl => match us, hl with | [_, _, _, _, _], _ => rfl
  have F__law_two := fun_mk (st := s__law_two) l__law_two c__law_two k__law_two
  have b__law_two := F__law_two.binds (ps := ["_law_deck_here", "_law_posts"]) fun _ _ _ _ _ _ us hl => match us, hl with | [_, _], _ => rfl
  have F__law_right := fun_mk (st := s__law_right) l__law_right c__law_right k__law_right
  have b__law_right := F__law_right.binds (ps := ["_law_p", "_law_hold_here", "_law_grid", "_law_spots"]) fun _ _ _ _ _ _ us hl => match us, hl with | [_, _, _, _], _ => rfl
  have F__law_by_one := fun_mk (st := s__law_by_one) l__law_by_one c__law_by_one k__law_by_one
  have b__law_by_one := F__law_by_one.binds (ps := ["_law_p", "_law_hold_here", "_law_grid", "_law_spots"]) fun _ _ _ _ _ _ us hl => match us, hl with | [_, _, _, _], _ => rfl
  have F_law := fun_mk (st := s_law) l_law c_law k_law
  have b_law := F_law.binds (ps := ["_law_script"]) fun _ _ _ _ _ _ us hl => match us, hl with | [_], _ => rfl
  let A : Ad := ⟨f_inverse, PySem.W.fnOf "inverse" "inverse" (defArgs s_inverse) (defBody s_inverse) (defScope s_inverse) .none kV_inverse dc_inverse pm_inverse an_inverse cd_inverse ct_inverse, f_first_place, PySem.W.fnOf "first_place" "first_place" (defArgs s_first_place) (defBody s_first_place) (defScope s_first_place) .none kV_first_place dc_first_place pm_first_place an_first_place cd_first_place ct_first_place, f_lessened, PySem.W.fnOf "lessened" "lessened" (defArgs s_lessened) (defBody s_lessened) (defScope s_lessened) .none kV_lessened dc_lessened pm_lessened an_lessened cd_lessened ct_lessened, f_cleared, PySem.W.fnOf "cleared" "cleared" (defArgs s_cleared) (defBody s_cleared) (defScope s_cleared) .none kV_cleared dc_cleared pm_cleared an_cleared cd_cleared ct_cleared, f_leads_of, PySem.W.fnOf "leads_of" "leads_of" (defArgs s_leads_of) (defBody s_leads_of) (defScope s_leads_of) .none kV_leads_of dc_leads_of pm_leads_of an_leads_of cd_leads_of ct_leads_of, f_sided, PySem.W.fnOf "sided" "sided" (defArgs s_sided) (defBody s_sided) (defScope s_sided) .none kV_sided dc_sided pm_sided an_sided cd_sided ct_sided, f_row_of_sides, PySem.W.fnOf "row_of_sides" "row_of_sides" (defArgs s_row_of_sides) (defBody s_row_of_sides) (defScope s_row_of_sides) .none kV_row_of_sides dc_row_of_sides pm_row_of_sides an_row_of_sides (.ref q_row_of_sides) ct_row_of_sides, f_side_leads, PySem.W.fnOf "side_leads" "side_leads" (defArgs s_side_leads) (defBody s_side_leads) (defScope s_side_leads) .none kV_side_leads dc_side_leads pm_side_leads an_side_leads cd_side_leads ct_side_leads, f_table_of, PySem.W.fnOf "table_of" "table_of" (defArgs s_table_of) (defBody s_table_of) (defScope s_table_of) .none kV_table_of dc_table_of pm_table_of an_table_of (.ref q_table_of) ct_table_of, f_rows_by_table, PySem.W.fnOf "rows_by_table" "rows_by_table" (defArgs s_rows_by_table) (defBody s_rows_by_table) (defScope s_rows_by_table) .none kV_rows_by_table dc_rows_by_table pm_rows_by_table an_rows_by_table cd_rows_by_table ct_rows_by_table, f_other_sides, PySem.W.fnOf "other_sides" "other_sides" (defArgs s_other_sides) (defBody s_other_sides) (defScope s_other_sides) .none kV_other_sides dc_other_sides pm_other_sides an_other_sides (.ref q_other_sides) ct_other_sides, f_turned, PySem.W.fnOf "turned" "turned" (defArgs s_turned) (defBody s_turned) (defScope s_turned) .none kV_turned dc_turned pm_turned an_turned cd_turned ct_turned, f__law_deck, PySem.W.fnOf "_law_deck" "_law_deck" (defArgs s__law_deck) (defBody s__law_deck) (defScope s__law_deck) .none kV__law_deck dc__law_deck pm__law_deck an__law_deck cd__law_deck ct__law_deck, f__law_next, PySem.W.fnOf "_law_next" "_law_next" (defArgs s__law_next) (defBody s__law_next) (defScope s__law_next) .none kV__law_next dc__law_next pm__law_next an__law_next cd__law_next ct__law_next, f__law_prime, PySem.W.fnOf "_law_prime" "_law_prime" (defArgs s__law_prime) (defBody s__law_prime) (defScope s__law_prime) .none kV__law_prime dc__law_prime pm__law_prime an__law_prime cd__law_prime ct__law_prime, f__law_hold, PySem.W.fnOf "_law_hold" "_law_hold" (defArgs s__law_hold) (defBody s__law_hold) (defScope s__law_hold) .none kV__law_hold dc__law_hold pm__law_hold an__law_hold cd__law_hold ct__law_hold, f__law_table, PySem.W.fnOf "_law_table" "_law_table" (defArgs s__law_table) (defBody s__law_table) (defScope s__law_table) .none kV__law_table dc__law_table pm__law_table an__law_table cd__law_table ct__law_table, f__law_stand, PySem.W.fnOf "_law_stand" "_law_stand" (defArgs s__law_stand) (defBody s__law_stand) (defScope s__law_stand) .none kV__law_stand dc__law_stand pm__law_stand an__law_stand cd__law_stand ct__law_stand, f__law_units, PySem.W.fnOf "_law_units" "_law_units" (defArgs s__law_units) (defBody s__law_units) (defScope s__law_units) .none kV__law_units dc__law_units pm__law_units an__law_units cd__law_units ct__law_units, f__law_whole, PySem.W.fnOf "_law_whole" "_law_whole" (defArgs s__law_whole) (defBody s__law_whole) (defScope s__law_whole) .none kV__law_whole dc__law_whole pm__law_whole an__law_whole cd__law_whole ct__law_whole, f__law_same, PySem.W.fnOf "_law_same" "_law_same" (defArgs s__law_same) (defBody s__law_same) (defScope s__law_same) .none kV__law_same dc__law_same pm__law_same an__law_same cd__law_same ct__law_same, f__law_held, PySem.W.fnOf "_law_held" "_law_held" (defArgs s__law_held) (defBody s__law_held) (defScope s__law_held) .none kV__law_held dc__law_held pm__law_held an__law_held cd__law_held ct__law_held, f__law_lets, PySem.W.fnOf "_law_lets" "_law_lets" (defArgs s__law_lets) (defBody s__law_lets) (defScope s__law_lets) .none kV__law_lets dc__law_lets pm__law_lets an__law_lets cd__law_lets ct__law_lets, f__law_inverse, PySem.W.fnOf "_law_inverse" "_law_inverse" (defArgs s__law_inverse) (defBody s__law_inverse) (defScope s__law_inverse) .none kV__law_inverse dc__law_inverse pm__law_inverse an__law_inverse cd__law_inverse ct__law_inverse, f__law_lacks, PySem.W.fnOf "_law_lacks" "_law_lacks" (defArgs s__law_lacks) (defBody s__law_lacks) (defScope s__law_lacks) .none kV__law_lacks dc__law_lacks pm__law_lacks an__law_lacks cd__law_lacks ct__law_lacks, f__law_flipped, PySem.W.fnOf "_law_flipped" "_law_flipped" (defArgs s__law_flipped) (defBody s__law_flipped) (defScope s__law_flipped) .none kV__law_flipped dc__law_flipped pm__law_flipped an__law_flipped cd__law_flipped ct__law_flipped, f__law_is_board, PySem.W.fnOf "_law_is_board" "_law_is_board" (defArgs s__law_is_board) (defBody s__law_is_board) (defScope s__law_is_board) .none kV__law_is_board dc__law_is_board pm__law_is_board an__law_is_board cd__law_is_board ct__law_is_board, f__law_fits, PySem.W.fnOf "_law_fits" "_law_fits" (defArgs s__law_fits) (defBody s__law_fits) (defScope s__law_fits) .none kV__law_fits dc__law_fits pm__law_fits an__law_fits cd__law_fits ct__law_fits, f__law_two, PySem.W.fnOf "_law_two" "_law_two" (defArgs s__law_two) (defBody s__law_two) (defScope s__law_two) .none kV__law_two dc__law_two pm__law_two an__law_two cd__law_two ct__law_two, f__law_right, PySem.W.fnOf "_law_right" "_law_right" (defArgs s__law_right) (defBody s__law_right) (defScope s__law_right) .none kV__law_right dc__law_right pm__law_right an__law_right cd__law_right ct__law_right, f__law_by_one, PySem.W.fnOf "_law_by_one" "_law_by_one" (defArgs s__law_by_one) (defBody s__law_by_one) (defScope s__law_by_one) .none kV__law_by_one dc__law_by_one pm__law_by_one an__law_by_one cd__law_by_one ct__law_by_one, fa, PySem.W.fnOf "law" "law" (defArgs s_law) (defBody s_law) (defScope s_law) .none kV_law dc_law pm_law an_law cd_law ct_law⟩
  let C : Cd := ⟨q_row_of_sides, p_row_of_sides, q_table_of, p_table_of, q_other_sides, p_other_sides⟩
  have T : Tx K mg A := ⟨⟨F_inverse, b_inverse, PySem.W.mg_of X G a_inverse⟩, ⟨F_first_place, b_first_place, PySem.W.mg_of X G a_first_place⟩, ⟨F_lessened, b_lessened, PySem.W.mg_of X G a_lessened⟩, ⟨F_cleared, b_cleared, PySem.W.mg_of X G a_cleared⟩, ⟨F_leads_of, b_leads_of, PySem.W.mg_of X G a_leads_of⟩, ⟨F_sided, b_sided, PySem.W.mg_of X G a_sided⟩, ⟨F_row_of_sides, b_row_of_sides, PySem.W.mg_of X G a_row_of_sides⟩, ⟨F_side_leads, b_side_leads, PySem.W.mg_of X G a_side_leads⟩, ⟨F_table_of, b_table_of, PySem.W.mg_of X G a_table_of⟩, ⟨F_rows_by_table, b_rows_by_table, PySem.W.mg_of X G a_rows_by_table⟩, ⟨F_other_sides, b_other_sides, PySem.W.mg_of X G a_other_sides⟩, ⟨F_turned, b_turned, PySem.W.mg_of X G a_turned⟩, ⟨F__law_deck, b__law_deck, PySem.W.mg_of X G a__law_deck⟩, ⟨F__law_next, b__law_next, PySem.W.mg_of X G a__law_next⟩, ⟨F__law_prime, b__law_prime, PySem.W.mg_of X G a__law_prime⟩, ⟨F__law_hold, b__law_hold, PySem.W.mg_of X G a__law_hold⟩, ⟨F__law_table, b__law_table, PySem.W.mg_of X G a__law_table⟩, ⟨F__law_stand, b__law_stand, PySem.W.mg_of X G a__law_stand⟩, ⟨F__law_units, b__law_units, PySem.W.mg_of X G a__law_units⟩, ⟨F__law_whole, b__law_whole, PySem.W.mg_of X G a__law_whole⟩, ⟨F__law_same, b__law_same, PySem.W.mg_of X G a__law_same⟩, ⟨F__law_held, b__law_held, PySem.W.mg_of X G a__law_held⟩, ⟨F__law_lets, b__law_lets, PySem.W.mg_of X G a__law_lets⟩, ⟨F__law_inverse, b__law_inverse, PySem.W.mg_of X G a__law_inverse⟩, ⟨F__law_lacks, b__law_lacks, PySem.W.mg_of X G a__law_lacks⟩, ⟨F__law_flipped, b__law_flipped, PySem.W.mg_of X G a__law_flipped⟩, ⟨F__law_is_board, b__law_is_board, PySem.W.mg_of X G a__law_is_board⟩, ⟨F__law_fits, b__law_fits, PySem.W.mg_of X G a__law_fits⟩, ⟨F__law_two, b__law_two, PySem.W.mg_of X G a__law_two⟩, ⟨F__law_right, b__law_right, PySem.W.mg_of X G a__law_right⟩, ⟨F__law_by_one, b__law_by_one, PySem.W.mg_of X G a__law_by_one⟩, ⟨F_law, b_law, PySem.W.mg_of X G a_law⟩, PySem.W.mg_none_of X G z_abs, PySem.W.mg_none_of X G z_all, PySem.W.mg_none_of X G z_any, PySem.W.mg_none_of X G z_bool, PySem.W.mg_none_of X G z_enumerate, PySem.W.mg_none_of X G z_int, PySem.W.mg_none_of X G z_isinstance, PySem.W.mg_none_of X G z_len, PySem.W.mg_none_of X G z_list, PySem.W.mg_none_of X G z_range, PySem.W.mg_none_of X G z_repr, PySem.W.mg_none_of X G z_sorted, PySem.W.mg_none_of X G z_str, PySem.W.mg_none_of X G z_sum, PySem.W.mg_none_of X G z_tuple, PySem.W.mg_none_of X G z_zip⟩
  have w_row_of_sides := own_at own (by simp) X (PySem.W.mg_of X G a_row_of_sides) l_row_of_sides rfl u_row_of_sides g_row_of_sides
  have w_table_of := own_at own (by simp) X (PySem.W.mg_of X G a_table_of) l_table_of rfl u_table_of g_table_of
  have w_other_sides := own_at own (by simp) X (PySem.W.mg_of X G a_other_sides) l_other_sides rfl u_other_sides g_other_sides
  refine ⟨[(q_row_of_sides, p_row_of_sides), (q_table_of, p_table_of), (q_other_sides, p_other_sides)], List.forall_mem_cons.mpr ⟨w_row_of_sides.2, List.forall_mem_cons.mpr ⟨w_table_of.2, List.forall_mem_cons.mpr ⟨w_other_sides.2, fun _ z => by cases z⟩⟩⟩, List.forall_mem_cons.mpr ⟨n_row_of_sides, List.forall_mem_cons.mpr ⟨n_table_of, List.forall_mem_cons.mpr ⟨n_other_sides, fun _ z => by cases z⟩⟩⟩, List.forall_mem_cons.mpr ⟨w_row_of_sides.1, List.forall_mem_cons.mpr ⟨w_table_of.1, List.forall_mem_cons.mpr ⟨w_other_sides.1, fun _ z => by cases z⟩⟩⟩, ok_law T (C := C) fun base TB => ?_⟩
  exact ⟨TB (q_row_of_sides, p_row_of_sides) (.head _), ⟨_, _, _, _, _, _, _, _, rfl, l_row_of_sides, c_row_of_sides⟩, TB (q_table_of, p_table_of) (.tail _ (.head _)), ⟨_, _, _, _, _, _, _, _, rfl, l_table_of, c_table_of⟩, TB (q_other_sides, p_other_sides) (.tail _ (.tail _ (.head _))), ⟨_, _, _, _, _, _, _, _, rfl, l_other_sides, c_other_sides⟩⟩
end Kp

open PySem PySem.W PyProof.Rows in
set_option maxRecDepth 100000 in
set_option maxHeartbeats 0 in
theorem PySem.Challenge.cw_fairposts_k54_tables_turned_holds : PySem.Challenge.rw_fairposts_k54_tables_turned.Holds := by
  w_on; o_law; k_head; (case hw => w_witness2)
  k_fill
  refine Kp.walk_gT (l := PySem.Challenge.rw_fairposts_k54_tables_turned) ["row_of_sides", "table_of", "other_sides"] rfl rfl (by decide +kernel) (by decide +kernel) (fun w h Y => PySem.W.kIn_of Y) ?F
  case F =>
    intro w mg fa h KX G hmg own
    refine' Kp.all_mk KX G hmg own ?a_inverse ?l_inverse ?c_inverse ?k_inverse ?a_first_place ?l_first_place ?c_first_place ?k_first_place ?a_lessened ?l_lessened ?c_lessened ?k_lessened ?a_cleared ?l_cleared ?c_cleared ?k_cleared ?a_leads_of ?l_leads_of ?c_leads_of ?k_leads_of ?a_sided ?l_sided ?c_sided ?k_sided ?a_row_of_sides ?l_row_of_sides ?c_row_of_sides ?k_row_of_sides ?u_row_of_sides ?g_row_of_sides ?n_row_of_sides ?a_side_leads ?l_side_leads ?c_side_leads ?k_side_leads ?a_table_of ?l_table_of ?c_table_of ?k_table_of ?u_table_of ?g_table_of ?n_table_of ?a_rows_by_table ?l_rows_by_table ?c_rows_by_table ?k_rows_by_table ?a_other_sides ?l_other_sides ?c_other_sides ?k_other_sides ?u_other_sides ?g_other_sides ?n_other_sides ?a_turned ?l_turned ?c_turned ?k_turned ?a__law_deck ?l__law_deck ?c__law_deck ?k__law_deck ?a__law_next ?l__law_next ?c__law_next ?k__law_next ?a__law_prime ?l__law_prime ?c__law_prime ?k__law_prime ?a__law_hold ?l__law_hold ?c__law_hold ?k__law_hold ?a__law_table ?l__law_table ?c__law_table ?k__law_table ?a__law_stand ?l__law_stand ?c__law_stand ?k__law_stand ?a__law_units ?l__law_units ?c__law_units ?k__law_units ?a__law_whole ?l__law_whole ?c__law_whole ?k__law_whole ?a__law_same ?l__law_same ?c__law_same ?k__law_same ?a__law_held ?l__law_held ?c__law_held ?k__law_held ?a__law_lets ?l__law_lets ?c__law_lets ?k__law_lets ?a__law_inverse ?l__law_inverse ?c__law_inverse ?k__law_inverse ?a__law_lacks ?l__law_lacks ?c__law_lacks ?k__law_lacks ?a__law_flipped ?l__law_flipped ?c__law_flipped ?k__law_flipped ?a__law_is_board ?l__law_is_board ?c__law_is_board ?k__law_is_board ?a__law_fits ?l__law_fits ?c__law_fits ?k__law_fits ?a__law_two ?l__law_two ?c__law_two ?k__law_two ?a__law_right ?l__law_right ?c__law_right ?k__law_right ?a__law_by_one ?l__law_by_one ?c__law_by_one ?k__law_by_one ?a_law ?l_law ?c_law ?k_law ?z_abs ?z_all ?z_any ?z_bool ?z_enumerate ?z_int ?z_isinstance ?z_len ?z_list ?z_range ?z_repr ?z_sorted ?z_str ?z_sum ?z_tuple ?z_zip
    (case a_inverse => k_is)
    (case l_inverse => k_is)
    (case c_inverse => k_is)
    (case k_inverse => k_is)
    (case a_first_place => k_is)
    (case l_first_place => k_is)
    (case c_first_place => k_is)
    (case k_first_place => k_is)
    (case a_lessened => k_is)
    (case l_lessened => k_is)
    (case c_lessened => k_is)
    (case k_lessened => k_is)
    (case a_cleared => k_is)
    (case l_cleared => k_is)
    (case c_cleared => k_is)
    (case k_cleared => k_is)
    (case a_leads_of => k_is)
    (case l_leads_of => k_is)
    (case c_leads_of => k_is)
    (case k_leads_of => k_is)
    (case a_sided => k_is)
    (case l_sided => k_is)
    (case c_sided => k_is)
    (case k_sided => k_is)
    (case a_row_of_sides => k_is)
    (case l_row_of_sides => k_is)
    (case c_row_of_sides => k_is)
    (case k_row_of_sides => k_is)
    (case u_row_of_sides => k_is)
    (case g_row_of_sides => rfl)
    (case n_row_of_sides => rfl)
    (case a_side_leads => k_is)
    (case l_side_leads => k_is)
    (case c_side_leads => k_is)
    (case k_side_leads => k_is)
    (case a_table_of => k_is)
    (case l_table_of => k_is)
    (case c_table_of => k_is)
    (case k_table_of => k_is)
    (case u_table_of => k_is)
    (case g_table_of => rfl)
    (case n_table_of => rfl)
    (case a_rows_by_table => k_is)
    (case l_rows_by_table => k_is)
    (case c_rows_by_table => k_is)
    (case k_rows_by_table => k_is)
    (case a_other_sides => k_is)
    (case l_other_sides => k_is)
    (case c_other_sides => k_is)
    (case k_other_sides => k_is)
    (case u_other_sides => k_is)
    (case g_other_sides => rfl)
    (case n_other_sides => rfl)
    (case a_turned => k_is)
    (case l_turned => k_is)
    (case c_turned => k_is)
    (case k_turned => k_is)
    (case a__law_deck => k_is)
    (case l__law_deck => k_is)
    (case c__law_deck => k_is)
    (case k__law_deck => k_is)
    (case a__law_next => k_is)
    (case l__law_next => k_is)
    (case c__law_next => k_is)
    (case k__law_next => k_is)
    (case a__law_prime => k_is)
    (case l__law_prime => k_is)
    (case c__law_prime => k_is)
    (case k__law_prime => k_is)
    (case a__law_hold => k_is)
    (case l__law_hold => k_is)
    (case c__law_hold => k_is)
    (case k__law_hold => k_is)
    (case a__law_table => k_is)
    (case l__law_table => k_is)
    (case c__law_table => k_is)
    (case k__law_table => k_is)
    (case a__law_stand => k_is)
    (case l__law_stand => k_is)
    (case c__law_stand => k_is)
    (case k__law_stand => k_is)
    (case a__law_units => k_is)
    (case l__law_units => k_is)
    (case c__law_units => k_is)
    (case k__law_units => k_is)
    (case a__law_whole => k_is)
    (case l__law_whole => k_is)
    (case c__law_whole => k_is)
    (case k__law_whole => k_is)
    (case a__law_same => k_is)
    (case l__law_same => k_is)
    (case c__law_same => k_is)
    (case k__law_same => k_is)
    (case a__law_held => k_is)
    (case l__law_held => k_is)
    (case c__law_held => k_is)
    (case k__law_held => k_is)
    (case a__law_lets => k_is)
    (case l__law_lets => k_is)
    (case c__law_lets => k_is)
    (case k__law_lets => k_is)
    (case a__law_inverse => k_is)
    (case l__law_inverse => k_is)
    (case c__law_inverse => k_is)
    (case k__law_inverse => k_is)
    (case a__law_lacks => k_is)
    (case l__law_lacks => k_is)
    (case c__law_lacks => k_is)
    (case k__law_lacks => k_is)
    (case a__law_flipped => k_is)
    (case l__law_flipped => k_is)
    (case c__law_flipped => k_is)
    (case k__law_flipped => k_is)
    (case a__law_is_board => k_is)
    (case l__law_is_board => k_is)
    (case c__law_is_board => k_is)
    (case k__law_is_board => k_is)
    (case a__law_fits => k_is)
    (case l__law_fits => k_is)
    (case c__law_fits => k_is)
    (case k__law_fits => k_is)
    (case a__law_two => k_is)
    (case l__law_two => k_is)
    (case c__law_two => k_is)
    (case k__law_two => k_is)
    (case a__law_right => k_is)
    (case l__law_right => k_is)
    (case c__law_right => k_is)
    (case k__law_right => k_is)
    (case a__law_by_one => k_is)
    (case l__law_by_one => k_is)
    (case c__law_by_one => k_is)
    (case k__law_by_one => k_is)
    (case a_law => k_is)
    (case l_law => k_is)
    (case c_law => k_is)
    (case k_law => k_is)
    (case z_abs => k_is)
    (case z_all => k_is)
    (case z_any => k_is)
    (case z_bool => k_is)
    (case z_enumerate => k_is)
    (case z_int => k_is)
    (case z_isinstance => k_is)
    (case z_len => k_is)
    (case z_list => k_is)
    (case z_range => k_is)
    (case z_repr => k_is)
    (case z_sorted => k_is)
    (case z_str => k_is)
    (case z_sum => k_is)
    (case z_tuple => k_is)
    (case z_zip => k_is)
#print axioms PySem.Challenge.cw_fairposts_k54_tables_turned_holds
