import PyProof.Rows.All
import Wide.All
import OpenK.AllK
import Wide.FinOn
import HandS.ForMost
import HandS.Wide
import HandS.Conv
import HandS.Zip
import HandS.Walk
import HandS.DictComp
import HandS.Small
import HandS.SortInts
import HandS.Style
import HandS.IsInst
import HandS.TupAny
import HandS.TupLe
import HandS.AnyAll
import HandS.ListItems
import HandS.Deep
import HandS.EndOwn
import HandS.TryOnly
import HandS.Star
import HandS.FStr
import KE.KNestM
import HandS.GenList
import PyProof.TupleOfGen
import HandS.TupMul
import KE.GoesNew
import KE.GoesMore
import KE.GoesEnum
import KE.KDictZip
import HandS.Set
import HandS.SetFor
import HandS.Strs
import HandS.List
import HandS.TupLen
import KE.KDictKeyed
import KE.KeyNested
import KE.KDictWalk
import KE.KDictPairs
import PySem.Challenge.RW_fairposts_k18_whole_small_spaces
set_option Elab.async false
set_option maxRecDepth 100000
namespace Gx
open PySem PySem.Spec PyProof.Rows L2
theorem over_start {A : Around} {elt : Expr} {gs : List Comprehension} {scope : Scope} {pos : Pos} {it acc : Value} {env : Env} :
    A.over (.compStart (.GeneratorExp elt gs scope pos) 0 it acc env) [] = A.deeper env := by
  obtain ⟨hd, d, fr, g, u⟩ := A
  simp [Around.over, Around.deeper, marksOver, frameCount, unitsOf, envsOf, guardsOf, pushEnvs, pushGuards, Code.envs, Code.env?, Code.isFrame, Code.guards, Code.isGuard, Code.weight, Code.frames, Code.isCreation, Code.isCaller, Code.cUnits]
theorem over_loop0 {A : Around} {elt : Expr} {gs : List Comprehension} {scope : Scope} {pos : Pos} {it acc : Value} {env : Env} :
    A.over (.compLoop (.GeneratorExp elt gs scope pos) 0 it acc env) [] = A.deeper env := by
  obtain ⟨hd, d, fr, g, u⟩ := A
  simp [Around.over, Around.deeper, marksOver, frameCount, unitsOf, envsOf, guardsOf, pushEnvs, pushGuards, Code.envs, Code.env?, Code.isFrame, Code.guards, Code.isGuard, Code.weight, Code.frames, Code.isCreation, Code.isCaller, Code.cUnits]
/-- the context of a generator expression's own frame, made at s -/
abbrev gx (X : Cx) (A : Around) (s : Shared) (H : Hp) (cenv : Env) (fp : List Addr) (pn : List (Addr × Obj)) : Cx :=
  { X with A := A.deeper cenv, s_0 := s, H_0 := H, env := cenv, outer := X.stack, stack := cenv :: X.stack, ex := fp, fn := fun x => cenv.scope.names.lookup x == some .cell, pn := pn, xe := fun _ _ => False }
abbrev gxEnv (X : Cx) (scope : Scope) (s : Shared) (code : Value) : Env := genEnv scope (cellsFrom (s.heap.objs.size + 1) scope.names (cloFrom X.env.cells scope.names [])) s.heap.objs.size code builtinsNs X.env
section
variable {X : Cx} {pins : List (Addr × Obj)} {σ : L2.St} {H : Hp} {s : Shared}
/-- the frame of a generator expression, its cells behind it -/
theorem newEnv_gen {M : Model} {A : Around} {E : Value → Shared → Prop} {scope : Scope} {globals : Addr} {closure : List (Str × Addr)} {it : Value} {qual : Str} {code : Value} {builtins : Addr} {Q : Env → Shared → Prop}
    (h0 : scope.names.lookup (".0" : Str) = some NameKind.local) (hk : scope.kind = .function)
    (hQ : ∀ h', h'.Ns s.heap.objs.size (fun y => if y = ".0" then some it else none) → Heap.SameBut s.heap.objs.size (pushCells (s.heap.push { cls := .type "frame", data := .dict #[] }) scope.names) h' →
      Q (newEnv scope s.heap.objs.size globals (cellsFrom (s.heap.objs.size + 1) scope.names closure) qual none code none builtins) { s with heap := h', toks := s.toks + 1 }) :
    wpAny M A (newFunctionEnv scope globals closure [(".0", it)] qual none code none builtins) Q E s := by
  simp only [newFunctionEnv, Option.isSome_none, Bool.false_eq_true, if_false]
  refine wpAny_bind (wpAny_alloc ?_)
  refine wpAny_bind (wpAny_layCells _ (fun name kind cells => by cases hkc : kind == NameKind.cell <;> simp [hkc]) _ _ _ _ ?_)
  rw [show ({ s with heap := s.heap.push { cls := .type "frame", data := .dict #[] } } : Shared).heap.objs.size = s.heap.objs.size + 1 from Heap.size_push ..]
  rw [List.forIn_cons]
  have ns : (pushCells (s.heap.push { cls := .type "frame", data := .dict #[] }) scope.names).Ns s.heap.objs.size (fun _ => none) := (Heap.Ns.new s.heap (.type "frame")).keeps (pushCells_keeps _ _)
  refine wpAny_bind (wpAny_bind (wpAny_bind (wpAny_storeName_local (show scope.names.lookup (".0" : Str) = some NameKind.local from h0) ns (fun h' hn' hs' => wpAny_pure ?_) (by show (scope.kind == .class || (scope.kind == .module && _)) = false; rw [hk]; rfl))))
  dsimp only
  rw [List.forIn_nil]
  exact wpAny_pure (wpAny_pure (hQ h' hn' hs'))
theorem make_gen {M : Model} {A : Around} {E : Value → Shared → Prop} {env : Env} {elt target iter : Expr} {ifs : List Expr} {scope : Scope} {cl : List (Str × Addr)} {pos : Pos} {Q : Value → Shared → Prop}
    (hco : scope.isCoroutine = false) (hclos : closureFor scope env = pure cl) (h0 : scope.names.lookup (".0" : Str) = some NameKind.local) (hkind : scope.kind = .function)
    (hroom : A.depth < recursionLimit)
    (h : wpAny M A (eval iter env) (fun xv s₁ => wpAny M A (pyIter xv) (fun it s₂ => s₂.heap.NoLimit ∧
      wpAny M A (genexprCode env pos (env.qual ++ "<genexpr>") scope) (fun code s₃ => wpAny M A (builtinsFor env.globals env.builtins) (fun bi s₄ =>
        ∀ h', h'.Ns s₄.heap.objs.size (fun y => if y = ".0" then some it else none) → Heap.SameBut s₄.heap.objs.size (pushCells (s₄.heap.push { cls := .type "frame", data := .dict #[] }) scope.names) h' →
          Q (.ref h'.objs.size) { s₄ with
            gens := s₄.gens.push (.fresh (.compStart (.GeneratorExp elt [⟨target, iter, ifs, 0⟩] scope pos) 0 it .none (genEnv scope (cellsFrom (s₄.heap.objs.size + 1) scope.names cl) s₄.heap.objs.size code bi env))),
            toks := s₄.toks + 1 + 1 + 1,
            heap := h'.push { cls := .type "generator", data := .fields #[.int s₄.gens.size 0, .str "<genexpr>" (s₄.toks + 1), .str (env.qual ++ "<genexpr>") (s₄.toks + 1 + 1)] } }) E s₃) E s₂) E s₁) E s)
    (hs : ∀ x, genFold iter env x = pure x) :
    wpAny M A (eval (.GeneratorExp elt [⟨target, iter, ifs, 0⟩] scope pos) env) Q E s := by
  rw [eval_GeneratorExp1 _ _ _ _ _ _ _ hco, hclos]
  refine wpAny_bind (wpAny_mono h (fun xv s₁ h₁ => ?_) fun _ _ e => e)
  refine wpAny_bind (wpAny_standAt ?_)
  refine wpAny_bind (wpAny_of_eq (hs xv) ?_)
  refine wpAny_bind (wpAny_holding (wpAny_mono h₁ (fun it s₂ h₂ => ?_) fun _ _ e => e))
  refine wpAny_bind (wpAny_enterFrame h₂.1 hroom ?_)
  refine wpAny_bind (wpAny_pure ?_)
  refine wpAny_bind (wpAny_mono h₂.2 (fun code s₃ h₃ => ?_) fun _ _ e => e)
  refine wpAny_bind (wpAny_mono h₃ (fun bi s₄ h₄ => ?_) fun _ _ e => e)
  refine wpAny_bind (newEnv_gen h0 hkind fun h' hn' hs' => ?_)
  simp only [newGenerator, newFields]
  refine wpAny_bind (wpAny_newGen (wpAny_bind (wpAny_mkText (wpAny_bind (wpAny_mkText (wpAny_newObj_type ?_ (by size_fits)))))))
  exact h₄ h' hn' hs'
theorem gx_inv {scope : Scope} {own : List (Str × Nat)} {fp : List Addr} {A : Around} {code : Value} {s5 : Shared} {pn pins5 : List (Addr × Obj)} (I : L2.Inv X pins σ H s) (ok : BlkOk X.N X.env.scope scope own) (hN : X.N.Nodup)
    (hfp : ∀ b ∈ fp, FpOk X pins H b ∧ b < s.heap.objs.size) (hA : A.handled = none) (hfr : A.frames = some X.stack)
    (kpc : ∀ b o, b ≠ s.heap.objs.size → (pushCells (s.heap.push { cls := .type "frame", data := .dict #[] }) scope.names).get? b = some o → s5.heap.get? b = some o) (hn : ∃ m, s5.heap.Ns s.heap.objs.size m) (hos : s5.os = s.os) (hb : AllBare s5.gens)
    (hpin : ∀ p ∈ pn ++ pins5, s5.heap.get? p.1 = some p.2 ∧ H p.1 = none ∧ p.1 ≠ s.heap.objs.size ∧ p.1 ∉ frs X.stack ∧ ∀ v, p.2.data ≠ .cell v) :
    L2.Inv (gx X A s H (gxEnv X scope s code) fp pn) pins5 (wipe σ (own.map (·.2))) H s5 := by
  have kp : ∀ b o, s.heap.get? b = some o → s5.heap.get? b = some o := fun b o e => kpc b o (Nat.ne_of_lt (Heap.lt_size e)) (pushCells_keeps _ _ _ _ (Heap.get?_push_of_some _ e))
  have hfree : ∀ y ∈ scope.names, y.2 = .free → ∃ c, X.env.cells.lookup y.1 = some c := by
    intro y hy e
    exact (ok.free y hy e).elim (fun k => I.ok.has _ (.inl k)) (fun k => I.ok.has _ (.inr k))
  have cm : ∀ {y c}, (y, c) ∈ cloFrom X.env.cells scope.names [] → X.env.cells.lookup y = some c ∧ c < s.heap.objs.size := by
    intro y c hm
    rcases cloFrom_mem hm with z | ⟨h1, rfl⟩
    · cases z
    · obtain ⟨c, hc⟩ := hfree _ h1 rfl
      rw [hc]
      obtain ⟨_, z⟩ := I.cell _ _ hc
      exact ⟨rfl, z.lt⟩
  have hcl : (gxEnv X scope s code).cells = cellsFrom (s.heap.push { cls := .type "frame", data := .dict #[] }).objs.size scope.names (cloFrom X.env.cells scope.names []) := by rw [Heap.size_push]; rfl
  have mem : ∀ {y c}, (gxEnv X scope s code).cells.lookup y = some c → (X.env.cells.lookup y = some c ∧ c < s.heap.objs.size) ∨ (s.heap.objs.size + 1 ≤ c ∧ CellAt (pushCells (s.heap.push { cls := .type "frame", data := .dict #[] }) scope.names) c none) := fun {y c} e => by
    rw [hcl] at e
    rcases cells_mem (PySem.mem_of_lookup e) with hm | ⟨_, h2, h3⟩
    · exact .inl (cm hm)
    · rw [Heap.size_push] at h2
      exact .inr ⟨h2, h3⟩
  have look : ∀ {y}, scope.names.lookup y = some .free → ∃ c, (gxEnv X scope s code).cells.lookup y = some c ∧ X.env.cells.lookup y = some c := fun {y} hl => by
    have hy : (y, NameKind.free) ∈ scope.names := PySem.mem_of_lookup hl
    obtain ⟨c', e'⟩ := mem_lookup (cells_acc (names := scope.names) (n := (s.heap.push { cls := .type "frame", data := .dict #[] }).objs.size) (cloFrom_has (cells := X.env.cells) (acc := []) hy))
    rw [← hcl] at e'
    refine ⟨c', e', ?_⟩
    rw [hcl] at e'
    rcases cells_mem (PySem.mem_of_lookup e') with hm | ⟨h1, _, _⟩
    · exact (cm hm).1
    · have := ok.uniq _ h1
      rw [hl] at this
      cases this
  have okG : (gx X A s H (gxEnv X scope s code) fp pn).Ok := by
    refine ⟨I.ok.mod, ok.kind, I.ok.glob, rfl, Nat.le_refl _, fun y z c e1 e2 => ?_, fun y hy => ?_, fun y c z e => ?_, fun _ => hA, Around.frames_deeper hfr, .inr ⟨rfl, rfl⟩,
      fun b hb => ⟨Nat.ne_of_lt (hfp b hb).2, fun y c e z => ?_⟩, I.bs, Nat.le_trans I.ok.bsz I.sz, fun b o e hb => ?_, fun b hb z => ?_, I.stack, I.stkFree⟩
    · have e1 : (gxEnv X scope s code).cells.lookup y = some c := e1
      have e2 : (gxEnv X scope s code).cells.lookup z = some c := e2
      rw [hcl] at e1 e2
      refine cells_inj (fun p hp => ?_) (fun y z c a b => I.ok.inj y z c (cm a).1 (cm b).1) (PySem.mem_of_lookup e1) (PySem.mem_of_lookup e2)
      rw [Heap.size_push]
      exact Nat.lt_succ_of_lt (cm (y := p.1) (c := p.2) hp).2
    · show ∃ c, (gxEnv X scope s code).cells.lookup y = some c
      rcases hy with hy | hy
      · obtain ⟨c, hm⟩ := cells_has (n := (s.heap.push { cls := .type "frame", data := .dict #[] }).objs.size) (acc := cloFrom X.env.cells scope.names []) (PySem.mem_of_lookup (show scope.names.lookup y = some .cell from hy))
        obtain ⟨c', e'⟩ := mem_lookup hm
        exact ⟨c', by rw [hcl]; exact e'⟩
      · obtain ⟨c, e, _⟩ := look (show scope.names.lookup y = some .free from hy)
        exact ⟨c, e⟩
    · have z : (scope.names.lookup y == some NameKind.cell) = true := z
      have z : scope.names.lookup y = some .cell := by simpa using z
      have e : (gxEnv X scope s code).cells.lookup y = some c := e
      rw [hcl] at e
      rcases cells_mem (PySem.mem_of_lookup e) with hm | ⟨_, h2, _⟩
      · rcases cloFrom_mem hm with hm | ⟨h1, _⟩
        · cases hm
        · have q := ok.uniq _ h1
          rw [z] at q
          cases q
      · rw [Heap.size_push] at h2
        exact Nat.le_of_succ_le h2
    · rcases mem e with ⟨h1, _⟩ | ⟨h1, _⟩
      · exact (hfp b hb).1.2.2.2.2.1 y c h1 z
      · have h2 : s.heap.objs.size + 1 ≤ b := by rw [← z]; exact h1
        exact absurd (Nat.lt_of_lt_of_le (hfp b hb).2 (Nat.le_of_succ_le h2)) (Nat.lt_irrefl _)
    · rcases (hfp b hb).1.2.2.2.1 with z | z
      · exact I.ok.noex b o e z
      · exact absurd (Nat.lt_of_lt_of_le (Heap.lt_size e) (Nat.le_trans I.ok.bsz z)) (Nat.lt_irrefl _)
    · rcases List.mem_cons.mp (I.stkSub b z) with z | z
      · exact (hfp b hb).1.2.1 z
      · exact (hfp b hb).1.2.2.1 z
  obtain ⟨m5, hm5⟩ := hn
  refine ⟨okG, hos, hb, Un.kept kp, ⟨m5, hm5, fun i y av e1 e2 e3 => ?_⟩, fun y c e => ?_, I.hok.fresh (Nat.le_refl _), fun y c e => ?_, hpin, I.hok.kept kp, by rw [wipe_length]; exact I.len⟩
  · obtain ⟨e2, hne⟩ := wipe_some e2
    have fr : scope.names.lookup y = some .free := by
      have no : ∀ k, scope.names.lookup y = some k → k = .local ∨ k = .cell → False := by
        intro k e hh
        rcases ok.own _ (PySem.mem_of_lookup e) hh with e' | e'
        · obtain ⟨p, hp, hpy⟩ := List.mem_map.mp e'
          have e4 := ok.ix p hp
          have e5 : p.1 = y := hpy
          rw [e5] at e4
          exact hne (List.mem_map.mpr ⟨p, hp, nodup_ix hN e4 e1⟩)
        · exact e' (List.mem_of_getElem? e1)
      rcases (show Vis scope y from e3) with z | z | z
      · exact (no _ z (.inl rfl)).elim
      · exact (no _ z (.inr rfl)).elim
      · exact z
    obtain ⟨m, _, hl⟩ := I.loc
    have hvis : Vis X.env.scope y := (ok.free _ (PySem.mem_of_lookup fr) rfl).elim (fun k => .inr (.inl k)) (fun k => .inr (.inr k))
    obtain ⟨u, r, q⟩ := hl i y av e1 e2 hvis
    obtain ⟨c, h1, h2⟩ := look fr
    refine ⟨u, r, .inr ⟨.inr fr, c, h1, ?_⟩⟩
    rcases q with ⟨k, _⟩ | ⟨_, c', e', z⟩
    · have k : X.env.scope.names.lookup y = some .local := k
      rcases ok.free _ (PySem.mem_of_lookup fr) rfl with k' | k' <;> rw [show X.env.scope.names.lookup y = _ from k'] at k <;> cases k
    · rw [h2] at e'
      cases e'
      exact z.keeps kp
  · rcases mem e with ⟨h1, _⟩ | ⟨h1, o, z1, z2⟩
    · obtain ⟨v, z⟩ := I.cell y c h1
      exact ⟨v, z.keeps kp⟩
    · exact ⟨_, o, kpc c o (by omega) z1, z2⟩
  · rcases mem e with ⟨h1, _⟩ | ⟨h1, _⟩
    · exact I.freeC y c h1
    · exact I.hok.fresh (Nat.le_of_succ_le h1)
end
/-- what a generator expression's turns ask: W of the turn, what is left, what is out, the heap -/
def Turns (J : It) (g : TG) (te : TE) (vs : List Nat) (σ : L2.St) (Q : List V → Hp → Prop) (W : Nat → Nat → List V → Hp → Prop) : Prop :=
  ∀ i m ys H, W i m ys H → (J.stop i H ∧ Q ys H) ∨ (J.go i H ∧ ∃ Nx : List V → Hp → Prop, (∀ zs H', Nx zs H' → ∃ m', m' < m ∧ W (i + 1) m' zs H') ∧
    ∀ x H', J.yld i H x H' → g x (wipe σ vs) H' fun σ2 H2 => wipe σ2 vs = wipe σ vs ∧ te σ2 H2 fun y H3 => ys.length < sizeLine ∧ Nx (ys ++ [y]) H3)
def GEnd (X : Cx) (S : Addr) (Q : List V → Hp → Prop) : GenEnd := fun n _ r s => r = .ok .next ∧ ∃ ys σ ip H, n + ys.length = sizeLine ∧ GI X S ip ys σ H s ∧ Q ys H
section
variable {X : Cx} {A : Around} {s : Shared} {H : Hp} {cenv : Env} {fp : List Addr} {pn : List (Addr × Obj)} {S it : Addr} {tn : Nat → Heap → Prop} {J : It} {tg elt iter : Expr} {scope : Scope} {pos : Pos} {g : TG} {te : TE} {vs : List Nat} {σ : L2.St} {Q : List V → Hp → Prop} {W : Nat → Nat → List V → Hp → Prop}
theorem gx_loop (hc : X.calm = true) (T : Turn X.prog X.w X.K tg J fp it tn) (pg : PG (gx X A s H cenv fp pn) tg g) (pe : PE (gx X A s H cenv fp pn) elt te) (hco : cenv.scope.isCoroutine = false)
    (hS : ∀ p ∈ pn, p.1 ≠ S) (hfS : ∀ b ∈ fp, S ≠ b) (hfn : ∀ b ∈ fp, ∀ p ∈ pn, p.1 ≠ b) (ap : Apart (gx X A s H cenv fp pn) S) (turn : Turns J g te vs σ Q W) :
    ∀ (m i n : Nat) (ys : List V) (s₀ s1 : Shared) (H1 : Hp), W i m ys H1 → GI (gx X A s H cenv fp pn) S [] ys (wipe σ vs) H1 s1 → tn i s1.heap → (∀ b ∈ fp, H1 b = none) → n + ys.length = sizeLine →
      Seg (model X.prog X.w) A (GEnd (gx X A s H cenv fp pn) S Q) (GY (gx X A s H cenv fp pn) S) n s₀ (.compLoop (.GeneratorExp elt [⟨tg, iter, [], 0⟩] scope pos) 0 (.ref it) .none cenv)
        ((model X.prog X.w).den (.compLoop (.GeneratorExp elt [⟨tg, iter, [], 0⟩] scope pos) 0 (.ref it) .none cenv)) [] s1 := by
  intro m
  induction m using Nat.strongRecOn with
  | _ m ih =>
    intro i n ys s₀ s1 H1 w1 gi st1 n1 hn
    have ov : A.over (.compLoop (.GeneratorExp elt [⟨tg, iter, [], 0⟩] scope pos) 0 (.ref it) .none cenv) [] = (gx X A s H cenv fp pn).A := over_loop0
    have stat : ∀ {σ' : L2.St} {H' : Hp} {s' : Shared} {acc : Array Value} {c : Nat}, L2.Inv (gx X A s H cenv fp pn) [(S, lstObj acc c)] σ' H' s' → (∀ b ∈ fp, H' b = none) → ∀ b ∈ fp, FpOk (gx X A s H cenv fp pn) [(S, lstObj acc c)] H' b := by
      intro σ' H' s' acc c I' hz b hb
      refine ⟨hz b hb, (I'.ok.exf b hb).1, I'.ok.exfs b hb, .inl hb, fun x c e => (I'.ok.exf b hb).2 x c e, fun p hp => ?_⟩
      rcases List.mem_append.mp hp with z | z
      · exact hfn b hb p z
      · rw [List.mem_singleton.mp z]
        exact hfS b hb
    show Seg _ A _ _ _ s₀ _ ((compTurn (.GeneratorExp elt [⟨tg, iter, [], 0⟩] scope pos) 0 (.ref it) .none cenv).onRaise (leaving cenv)) [] s1
    rw [compTurn_gen, Sem.onRaise_eq_wrap]
    refine seg_bind_wrap (wpAny_standAt ?_)
    obtain ⟨acc, cc, ra, I⟩ := gi
    rcases turn i m ys H1 w1 with ⟨stop, q⟩ | ⟨go, Nx, hNx, step⟩
    · refine seg_bind_wrap ?_
      rw [ov]
      refine wpAny_mono (T.done (gx X A s H cenv fp pn) rfl rfl rfl hc i _ s1 _ H1 _ I (stat I n1) st1 stop) (fun r s6 h6 => ?_) (fun _ _ z => z)
      obtain ⟨rfl, I6⟩ := h6
      exact seg_end (.ok .next) ⟨rfl, ys, _, [], H1, hn, ⟨acc, cc, ra, I6⟩, q⟩
    · refine seg_bind_wrap ?_
      rw [ov]
      refine wpAny_mono (T.item (gx X A s H cenv fp pn) rfl rfl rfl hc i _ s1 _ H1 _ I (stat I n1) st1 go) (fun r s6 h6 => ?_) (fun _ _ z => z)
      obtain ⟨u, rfl, h6⟩ := h6
      refine seg_bind_wrap ?_
      rw [ov]
      refine wpAny_mono h6 (fun _ s7 h7 => ?_) (fun _ _ z => z)
      obtain ⟨x, H7, I7, r7, y7, st7, n7⟩ := h7
      have I7' := I7.pinned (stat I7 n7) (T.obj _ _ st7)
      refine seg_bind_wrap ?_
      rw [ov]
      refine wpAny_mono (pg.run _ s7 _ H7 x u _ I7' r7 (step x H7 y7)) (fun _ s8 h8 => ?_) (fun _ _ z => z.elim)
      obtain ⟨σ8, H8, I8, hw8, q8⟩ := h8
      refine seg_bind_wrap ?_
      simp only [List.forIn_nil]
      refine wpAny_pure ?_
      simp only [if_true]
      have hy : ∀ v, yieldOut cenv v = yieldValue v := fun v => by simp only [yieldOut, hco, Bool.false_eq_true, if_false]
      simp only [hy]
      rw [Sem.bind_eq_wrap', Sem.bind_eq_wrap', Sem.wrap_wrap, Sem.wrap_wrap]
      refine seg_wrap ?_
      rw [ov]
      refine wpAny_mono (pe.run _ s8 σ8 H8 _ I8 q8) (fun yv s9 h9 => ?_) (fun _ _ z => z.elim)
      obtain ⟨y, H9, I9, r9, hlt, nx⟩ := h9
      obtain ⟨n', rfl⟩ : ∃ n', n = n' + 1 := ⟨n - 1, by omega⟩
      have hip : ∀ p ∈ pinsAt fp s7.heap, p.1 ≠ S := fun p hp => (hfS p.1 (of_pinsAt hp).1).symm
      have gi9 : GI (gx X A s H cenv fp pn) S (pinsAt fp s7.heap) ys σ8 H9 s9 := ⟨acc, cc, ra, I9⟩
      refine seg_at (seg_yield rfl rfl rfl ⟨ys, y, pinsAt fp s7.heap, σ8, H9, by omega, r9, gi9, fun s'' sl => ?_⟩)
      obtain ⟨acc2, c2, ra2, I10⟩ := gi9.woken hS hip ap r9 sl
      obtain ⟨m', hm, w'⟩ := hNx _ _ nx
      have pin' : ∀ b ∈ fp, ∀ o, s7.heap.get? b = some o → s''.heap.get? b = some o ∧ H9 b = none := by
        intro b hb o e
        have z := I10.pin (b, o) (List.mem_append_right _ (List.mem_cons_of_mem _ (mem_pinsAt hb e)))
        exact ⟨z.1, z.2.1⟩
      have hl : (wipe σ vs).length = σ8.length := by rw [← hw8, wipe_length]
      refine seg_again rfl (ih m' hm (i + 1) n' (ys ++ [y]) _ s'' H9 w' ⟨acc2, c2, ra2, ?_⟩ (T.keep _ _ _ st7 fun b hb o e => (pin' b hb o e).1) (fun b hb => ?_) (by rw [List.length_append]; show n' + (ys.length + 1) = sizeLine; omega))
      · refine (Inv.unpinned (pins := [(S, lstObj acc2 c2)]) (pl := pinsAt fp s7.heap) I10).weak hl fun j v e => ?_
        rw [← hw8] at e
        exact (wipe_some e).1
      · obtain ⟨o, e, _⟩ := T.obj _ _ st7 b hb
        exact (pin' b hb o e).2
end
section
variable {X : Cx} {A : Around} {s : Shared} {H : Hp} {cenv : Env} {fp : List Addr} {pn : List (Addr × Obj)} {S it : Addr} {tn : Nat → Heap → Prop} {J : It} {tg elt iter : Expr} {scope : Scope} {pos : Pos} {g : TG} {te : TE} {vs : List Nat} {σ : L2.St} {Q : List V → Hp → Prop} {W : Nat → Nat → List V → Hp → Prop}
theorem gx_start (hc : X.calm = true) (T : Turn X.prog X.w X.K tg J fp it tn) (pg : PG (gx X A s H cenv fp pn) tg g) (pe : PE (gx X A s H cenv fp pn) elt te) (hco : cenv.scope.isCoroutine = false)
    (hS : ∀ p ∈ pn, p.1 ≠ S) (hfS : ∀ b ∈ fp, S ≠ b) (hfn : ∀ b ∈ fp, ∀ p ∈ pn, p.1 ≠ b) (ap : Apart (gx X A s H cenv fp pn) S) (turn : Turns J g te vs σ Q W)
    {m : Nat} {s₀ s1 : Shared} {H1 : Hp} (w0 : W 0 m [] H1) (gi : GI (gx X A s H cenv fp pn) S [] [] (wipe σ vs) H1 s1) (st : tn 0 s1.heap) (n1 : ∀ b ∈ fp, H1 b = none) :
    Seg (model X.prog X.w) A (GEnd (gx X A s H cenv fp pn) S Q) (GY (gx X A s H cenv fp pn) S) sizeLine s₀ (.compStart (.GeneratorExp elt [⟨tg, iter, [], 0⟩] scope pos) 0 (.ref it) .none cenv)
      ((model X.prog X.w).den (.compStart (.GeneratorExp elt [⟨tg, iter, [], 0⟩] scope pos) 0 (.ref it) .none cenv)) [] s1 := by
  have loop := gx_loop (iter := iter) (scope := scope) (pos := pos) hc T pg pe hco hS hfS hfn ap turn m 0 sizeLine [] s₀ s1 H1 w0 gi st n1 (Nat.add_zero _)
  show Seg _ A _ _ _ s₀ _ ((compStart (.GeneratorExp elt [⟨tg, iter, [], 0⟩] scope pos) 0 (.ref it) .none cenv).onRaise (leaving cenv)) [] s1
  unfold compStart
  rw [Sem.onRaise_eq_wrap]
  show Seg _ A _ _ _ s₀ _ ((ask >>= _).wrap _ _ _ _) [] s1
  refine seg_bind_wrap (wpAny_askSetting ?_)
  split
  · exact seg_again rfl loop
  · first
    | exact seg_bind_wrap (wpAny_rule (seg_bind_wrap (wpAny_standAt (seg_bind_wrap (T.self _ 0 s1 _ _ st (seg_again rfl loop))))))
    | (refine seg_bind_wrap (wpAny_rule ?_)
       show Seg _ A _ _ _ s₀ _ ((standAt iter.pos >>= _).wrap _ _ _ _) [] s1
       exact seg_bind_wrap (wpAny_standAt (seg_bind_wrap (T.self _ 0 s1 _ _ st (seg_again rfl loop)))))
end
section
variable {X : Cx} {pins : List (Addr × Obj)} {σ : L2.St} {H : Hp} {s : Shared}
/-- a generator that stands ready: its frame at the size of s, its object behind it -/
theorem gx_made {scope : Scope} {own : List (Str × Nat)} {fp : List Addr} {code : Value} {it : Addr} {tn : Nat → Heap → Prop} {J : It} {tg elt iter : Expr} {pos : Pos} {g : TG} {te : TE} {Q : List V → Hp → Prop} {W : Nat → Nat → List V → Hp → Prop} {k m : Nat}
    (I : L2.Inv X pins σ H s) (ok : BlkOk X.N X.env.scope scope own) (hN : X.N.Nodup) (hco : scope.isCoroutine = false) (hc : X.calm = true)
    (T : Turn X.prog X.w X.K tg J fp it tn) (st : tn 0 s.heap) (hfp : ∀ b ∈ fp, FpOk X pins H b ∧ b < s.heap.objs.size)
    (pg : ∀ A pn, PG (gx X A s H (gxEnv X scope s code) fp pn) tg g) (pe : ∀ A pn, Room k A → PE (gx X A s H (gxEnv X scope s code) fp pn) elt te)
    (w0 : W 0 m [] H) (turn : Turns J g te (own.map (·.2)) σ Q W) {h' : Heap} {go : Obj} {nm qn : Value} {tk : Nat} {mC : Str → Option Value}
    (hC : h'.Ns s.heap.objs.size mC) (hsz : s.heap.objs.size + 1 ≤ h'.objs.size) (kpc : ∀ b o, b ≠ s.heap.objs.size → (pushCells (s.heap.push { cls := .type "frame", data := .dict #[] }) scope.names).get? b = some o → h'.get? b = some o)
    (hgc : go.cls = .type "generator") (hgd : go.data = .fields #[.int s.gens.size 0, nm, qn]) (hgs : go.slots = #[]) (hgp : (h'.push go).get? h'.objs.size = some go) :
    GMade X.prog X.w k X.stack H s fp Q E0 (.ref h'.objs.size) { s with gens := s.gens.push (.fresh (.compStart (.GeneratorExp elt [⟨tg, iter, [], 0⟩] scope pos) 0 (.ref it) .none (gxEnv X scope s code))), toks := tk, heap := h'.push go } := by
  have kp : ∀ b o, s.heap.get? b = some o → h'.get? b = some o := fun b o e => kpc b o (Nat.ne_of_lt (Heap.lt_size e)) (pushCells_keeps _ _ _ _ (Heap.get?_push_of_some _ e))
  have isg : ∀ h : Heap, h.get? h'.objs.size = some go → h.IsGen h'.objs.size s.gens.size := fun h e => ⟨go, nm, qn, e, hgc, hgd, hgs⟩
  have kp5 : ∀ b o, s.heap.get? b = some o → (h'.push go).get? b = some o := fun b o e => Heap.get?_push_of_some _ (kp b o e)
  refine ⟨h'.objs.size, s.gens.size, _, rfl, by omega, ?_, isg _ hgp, Array.getElem?_push_size .., rfl, AllBare.push I.bare rfl, I.nolimit.keeps kp5, kp5, ?_⟩
  · show _ < (h'.push go).objs.size
    rw [Heap.size_push]
    exact Nat.lt_succ_self _
  · intro Aw S s2 room hfr hSz hk2 hSo hos hba
    obtain ⟨cS, heS⟩ := hSo
    have hk2' : ∀ b o, (h'.push go).get? b = some o → s2.heap.get? b = some o := hk2
    have hSz' : h'.objs.size + 1 ≤ S := by
      have z : (h'.push go).objs.size ≤ S := hSz
      rw [Heap.size_push] at z
      exact z
    have ea : s2.heap.get? h'.objs.size = some go := hk2' _ _ hgp
    have lS : s.heap.objs.size < S := by omega
    have lH : h'.objs.size < S := by omega
    have lh : s.heap.objs.size < h'.objs.size := by omega
    have young : ∀ b, s.heap.objs.size < b → H b = none ∧ b ≠ s.heap.objs.size ∧ b ∉ frs X.stack := by
      intro b hb
      refine ⟨I.hok.fresh (Nat.le_of_lt hb), Nat.ne_of_gt hb, fun z => ?_⟩
      rcases List.mem_cons.mp (I.stkSub b z) with z | z
      · rw [z] at hb
        exact absurd (Nat.lt_trans hb I.lt) (Nat.lt_irrefl _)
      · exact I.nofs (Nat.le_of_lt hb) z
    have pinOk : ∀ p ∈ [(h'.objs.size, go)] ++ [(S, lstObj #[] cS)], s2.heap.get? p.1 = some p.2 ∧ H p.1 = none ∧ p.1 ≠ s.heap.objs.size ∧ p.1 ∉ frs X.stack ∧ ∀ v, p.2.data ≠ .cell v := by
      intro p hp
      rcases List.mem_append.mp hp with z | z
      · rw [List.mem_singleton.mp z]
        obtain ⟨y1, y2, y3⟩ := young h'.objs.size (by omega)
        exact ⟨ea, y1, y2, y3, fun v q => by rw [show go.data = _ from hgd] at q; cases q⟩
      · rw [List.mem_singleton.mp z]
        obtain ⟨y1, y2, y3⟩ := young S (by omega)
        exact ⟨heS, y1, y2, y3, fun v q => by cases q⟩
    have I2 := gx_inv (own := own) (code := code) (A := Aw) (pn := [(h'.objs.size, go)]) (pins5 := [(S, lstObj #[] cS)]) I ok hN hfp room.hd hfr (fun b o hb e => hk2' b o (Heap.get?_push_of_some _ (kpc b o hb e)))
      ⟨mC, hC.keeps fun b o e => hk2' b o (Heap.get?_push_of_some _ e)⟩ hos hba pinOk
    have hcell : ∀ x c, (gxEnv X scope s code).cells.lookup x = some c → c < h'.objs.size := by
      intro x c e
      have hcl : (gxEnv X scope s code).cells = cellsFrom (s.heap.push { cls := .type "frame", data := .dict #[] }).objs.size scope.names (cloFrom X.env.cells scope.names []) := by rw [Heap.size_push]; rfl
      rw [hcl] at e
      rcases cells_mem (PySem.mem_of_lookup e) with hm | ⟨_, h2, o, z1, z2⟩
      · rcases cloFrom_mem hm with z2 | ⟨h1, rfl⟩
        · cases z2
        · obtain ⟨c2, hc2⟩ : ∃ c2, X.env.cells.lookup x = some c2 := (ok.free _ h1 rfl).elim (fun k => I.ok.has _ (.inl k)) (fun k => I.ok.has _ (.inr k))
          obtain ⟨_, z3⟩ := I.cell _ _ hc2
          rw [hc2]
          exact Nat.lt_trans z3.lt lh
      · rw [Heap.size_push] at h2
        exact Heap.lt_size (kpc c o (by omega) z1)
    have ap : Apart (gx X Aw s H (gxEnv X scope s code) fp [(h'.objs.size, go)]) S := ⟨by show s.heap.objs.size ≤ S; omega, Nat.ne_of_gt lS, fun x c e => Nat.ne_of_lt (Nat.lt_of_lt_of_le (hcell x c e) (by omega))⟩
    have seg := gx_start (iter := iter) (scope := scope) (pos := pos) (S := S) (s₀ := s2) hc T (pg Aw [(h'.objs.size, go)]) (pe Aw [(h'.objs.size, go)] room) hco (fun p hp => by rw [List.mem_singleton.mp hp]; exact Nat.ne_of_lt lH)
      (fun b hb => Nat.ne_of_gt (Nat.lt_trans (hfp b hb).2 lS)) (fun b hb p hp => by rw [List.mem_singleton.mp hp]; exact Nat.ne_of_gt (Nat.lt_trans (hfp b hb).2 lh)) ap turn w0 ⟨#[], cS, .nil, I2⟩
      (T.keep _ _ _ st fun b _ o e => hk2' b o (kp5 b o e)) (fun b hb => (hfp b hb).1.1)
    refine seg_imp (fun n s₀ r s1 hR => ?_) (fun n s₀ v s1 kap kap' hkk hY => ?_) sizeLine seg
    · obtain ⟨rfl, ys, σ', ip, H', hn, gi, hq⟩ := hR
      obtain ⟨a1, _, _, acc, cc, ra, ea⟩ := gi.at
      obtain ⟨_, _, _, J1⟩ := gi
      exact .inl ⟨.inr rfl, H', ys, acc, cc, J1.os, J1.bare, J1.base, J1.hok, a1, ea, ra, by omega, hq⟩
    · obtain ⟨ys, xx, ip, σ', H', hn, h2, gi, h3⟩ := hY
      obtain ⟨_, _, _, acc, cc, ra, ea⟩ := gi.at
      obtain ⟨_, _, _, J1⟩ := gi
      have hg : s1.heap.IsGen h'.objs.size s.gens.size := isg _ (J1.pin (h'.objs.size, go) (List.mem_append_left _ (List.mem_singleton.mpr rfl))).1
      have len : acc.size = ys.length := by
        have e1 := ra.length
        have e2 : acc.toList.length = acc.size := by simp
        omega
      exact ⟨J1.os, J1.bare, J1.nolimit, hg, ⟨acc, cc, ea, by rw [len]; exact hn⟩, fun s' z => hkk _ _ (h3 s' z)⟩
end
/-! ### tuple(generator) -/
section
variable {P : Program} {w : World} {outer : List Env} {H : Hp} {sc s : Shared} {ex : List Addr} {Q : List V → Hp → Prop} {A : Around} {k : Nat} {E : Value → Shared → Prop}
theorem collect_made {u : Value} {Qc : List Value → Shared → Prop} (hr : Room (k + 3) A) (hfr : A.frames = some outer) (h : GMade P w k outer H sc ex Q E0 u s)
    (hQ : ∀ (s' : Shared) (acc : List Value) (H' : Hp) (ys : List V), L2.Vals ys acc → ys.length ≤ sizeLine → s'.os = sc.os → AllBare s'.gens → Un (frs outer) ex H H' sc.heap s'.heap → HOk P w H' s'.heap → Q ys H' → Qc acc s')
    (hexc : ∀ e s', ¬ CX P w outer H sc E0 e s') : wpAny (model P w) A (collect u) Qc E s := by
  obtain ⟨a, g, c, rfl, ha1, ha2, hg, hgs, hos, hb, hl, hkp, wake⟩ := h
  have hSa : s.heap.objs.size ≠ a := Nat.ne_of_gt ha2
  have hSc : s.heap.objs.size ≠ cStatics := Nat.ne_of_gt (let ⟨_, hn, _⟩ := hl; hn.lt)
  unfold collect
  refine wpAny_bind (wpAny_runValue (codeAny_builtin F.entry_proto_collect ?_))
  rw [Around.under_plainId F.plain_proto_collect _]
  show wpAny _ A.in1 (newList [] >>= fun l0 => again (.builtin "list.__iadd__" ⟨[l0, .ref a], []⟩)) _ _ s
  refine wpAny_bind (wpAny_newObj_type ?_)
  refine wpAny_pure ⟨plainId_quiet F.plain_list_iadd _, codeAny_builtin F.entry_list_iadd ?_⟩
  rw [Around.under_plainId F.plain_list_iadd _]
  show wpAny _ A.in1 (Builtin.List.listExtendWith (.ref s.heap.objs.size) (.ref a) (.ref s.heap.objs.size)) _ _ _
  unfold Builtin.List.listExtendWith
  have up : ∀ (h : Heap) (f : Obj → Obj), (∀ b o, s.heap.get? b = some o → h.get? b = some o) → ∀ b o, s.heap.get? b = some o → (h.update s.heap.objs.size f).get? b = some o := by
    intro h f q b o e
    exact (Heap.get?_update_other _ _ (Ne.symm (Nat.ne_of_lt (Heap.lt_size e)))).trans (q b o e)
  have k1 : ∀ b o, s.heap.get? b = some o → (s.heap.push { cls := .type "list", data := .seq ([] : List Value).toArray }).get? b = some o := fun b o e => Heap.get?_push_of_some _ e
  have isg : ∀ {h : Heap}, (∀ b o, s.heap.get? b = some o → h.get? b = some o) → h.IsGen a g := fun q => hg.keeps q
  refine wpAny_bind (wpAny_typeOf (Heap.IsGen.typeIs (s := { s with heap := _ }) (isg k1)) ?_)
  have h1 : Builtin.List.listSameRef (.ref s.heap.objs.size) (.ref a) = false := by simp [Builtin.List.listSameRef, hSa]
  have h2 : (Value.type "generator" == Value.type "list") = false := by decide
  have h3 : (Value.type "generator" == Value.type "tuple") = false := by decide
  simp only [h1, h2, h3, Bool.or_false, Bool.false_eq_true, if_false]
  refine wpAny_bind (wpAny_pyIter_gen (s := { s with heap := _ }) (isg k1) ?_)
  refine wpAny_bind (wpAny_holding ?_)
  unfold Builtin.List.listLengthHint
  refine wpAny_bind (wpAny_specialOf (Heap.IsGen.typeIs (s := { s with heap := _ }) (isg k1)) F.gen_no_len ?_)
  show wpAny _ A.in1 (specialOf (Value.ref a) (Str.ofString "__length_hint__") >>= _) _ _ _
  refine wpAny_bind (wpAny_specialOf (Heap.IsGen.typeIs (s := { s with heap := _ }) (isg k1)) F.gen_no_hint ?_)
  refine wpAny_pure ?_
  show wpAny _ A.in1 (rule "list.extend.makes-room" >>= fun _ => Builtin.List.listTouch (.ref s.heap.objs.size) >>= fun _ => again (.builtin "list.extend.loop" ⟨[.ref s.heap.objs.size, .ref a, .ref s.heap.objs.size], []⟩)) _ _ _
  refine wpAny_bind (wpAny_rule (wpAny_bind ?_))
  have hS1 : (s.heap.push { cls := .type "list", data := .seq ([] : List Value).toArray }).get? s.heap.objs.size = some { cls := .type "list", data := .seq ([] : List Value).toArray } := Heap.get?_push_size _ rfl
  show wpAny _ A.in1 (updateSeq s.heap.objs.size (·.push .none) >>= fun _ => updateSeq s.heap.objs.size (·.pop)) _ _ _
  refine wpAny_bind (wpAny_updateSeq hS1 rfl ?_)
  have hS2 := Heap.get?_update_self (Obj.mapSeq (·.push Value.none)) hS1 rfl
  refine wpAny_updateSeq hS2 rfl ?_
  have hS3 := Heap.get?_update_self (Obj.mapSeq (·.pop)) hS2 rfl
  have k3 := up _ (Obj.mapSeq (·.pop)) (up _ (Obj.mapSeq (·.push Value.none)) k1)
  refine wpAny_pure ⟨plainId_quiet F.plain_extend_loop _, ?_⟩
  refine drain (P := P) (w := w) (outer := outer) (H := H) (sc := sc) (ex := ex) (Q := Q) (EX := E0) (A := A) (g := g) hr.hd (by have := hr.dp; show A.depth < _; omega) hSa hSc
    (fun s' acc c H' ys q1 q2 q3 q4 q5 q6 q7 q8 q9 => ?_) (fun e s' z => (hexc e s' z).elim) sizeLine _ (isg k3) (hl.keeps k3) ⟨_, hgs, rfl, ?_⟩
  · show wpAny _ A (load s.heap.objs.size >>= _) _ _ s'
    refine wpAny_bind (wpAny_load q1 ?_)
    exact wpAny_pure (hQ s' acc.toList H' ys q2 q3 q4 q5 q6 q7 q9)
  · refine wake _ _ _ ⟨hr.hd, ?_, ?_⟩ hfr (Nat.le_refl _) k3 ⟨_, hS3⟩ hos (allBare_setGen (s := { s with heap := _ }) hb rfl)
    · have := hr.dp
      show A.depth + 3 * k + 5 < _
      omega
    · have := hr.un
      show A.units + 1 + 1 + 16 * k + 200 < _
      omega
theorem tuple_new_made {u : Value} {Q1 : Value → Shared → Prop} (hr : Room (k + 4) A) (hfr : A.frames = some outer) (h : GMade P w k outer H sc ex Q E0 u s)
    (hQ : ∀ (s' : Shared) (acc : List Value) (H' : Hp) (ys : List V), L2.Vals ys acc → ys.length ≤ sizeLine → s'.os = sc.os → AllBare s'.gens → Un (frs outer) ex H H' sc.heap s'.heap → HOk P w H' s'.heap → Q ys H' →
      Q1 (.ref s'.heap.objs.size) { s' with heap := s'.heap.push { cls := .type "tuple", data := .seq acc.toArray } })
    (hexc : ∀ e s', ¬ CX P w outer H sc E0 e s') : codeAny (model P w) A (.call (.builtin "tuple.__new__") ⟨[.type "tuple", u], []⟩) (wants Q1 E) s := by
  obtain ⟨a, g, c, ea, _, _, hg, _⟩ := id h
  subst ea
  refine codeAny_of_tree ?_
  show wpAny _ A.in1 (do checkBuiltinCall "tuple.__new__" ⟨[.type "tuple", .ref a], []⟩; again (.builtin "tuple.__new__" ⟨[.type "tuple", .ref a], []⟩)) _ _ s
  refine wpAny_bind (wpAny_of_eq (F.newCall_tuple_1 _) (wpAny_pure ⟨plainId_quiet F.plain_tuple_new _, codeAny_builtin F.entry_tuple_new ?_⟩))
  rw [Around.under_plainId F.plain_tuple_new _]
  have hsub := sub_tuple_self
  have hinit := init_tuple_lookup
  have hmh := madeHere_tuple
  have hTI := hg.typeIs
  have hr1 : Room (k + 3) A.in1 := hr.in1
  wp_walk using wpAny_typeOf hTI, collect_made hr1 hfr h
  · intro s' acc H' ys q1 q2 q3 q4 q5 q6 q7
    show wpAny _ _ (Builtin.Tuple.tupleExact acc.toArray >>= fun v => ret v) _ _ _
    unfold Builtin.Tuple.tupleExact
    refine wpAny_bind (wpAny_newObj_type ?_ (by show acc.toArray.size ≤ sizeLine; rw [List.size_toArray, ← q1.length]; exact q2))
    exact wpAny_pure (hQ s' acc H' ys q1 q2 q3 q4 q5 q6 q7)
  · exact hexc
theorem call_tuple_made {u : Value} {Q' : Value → Shared → Prop} (hr : Room (k + 5) A) (hfr : A.frames = some outer) (h : GMade P w k outer H sc ex Q E0 u s)
    (hQ : ∀ (s' : Shared) (acc : List Value) (H' : Hp) (ys : List V), L2.Vals ys acc → ys.length ≤ sizeLine → s'.os = sc.os → AllBare s'.gens → Un (frs outer) ex H H' sc.heap s'.heap → HOk P w H' s'.heap → Q ys H' →
      Q' (.ref s'.heap.objs.size) { s' with heap := s'.heap.push { cls := .type "tuple", data := .seq acc.toArray } })
    (hexc : ∀ e s', ¬ CX P w outer H sc E0 e s') : wpAny (model P w) A (call (.type "tuple") [u]) Q' E s := by
  refine callType_codes (Q₁ := fun obj s₁ => s₁.TypeIs obj "tuple" ∧ Q' obj s₁) F.called_tuple (F.typeCall_tuple_1 _) F.entry_object_init
    (tuple_new_made hr.in1 hfr h (fun s' acc H' ys q1 q2 q3 q4 q5 q6 q7 => ⟨⟨_, Heap.get?_push_size _ rfl, rfl⟩, hQ s' acc H' ys q1 q2 q3 q4 q5 q6 q7⟩) hexc) fun obj s₁ h₁ => ?_
  exact ⟨h₁.1, F.args_object_init_2 obj _, object_init_meets F.called_tuple.init.lookup F.called_tuple.made (by decide) P w A.in1 _ s₁ ⟨h₁.1, rfl, h₁.2⟩⟩
end
/-! ### the expression tuple(e for x in xs) -/
def tTupGx (P : Addr) (wi : TI) (g : TG) (te : TE) (vs : List Nat) : TE := fun σ H Q => wi σ H fun J H1 => GxR.TabG H1 P ∧ ∀ H2, GxR.Tabbed P H1 H2 →
  ∃ W : Nat → Nat → List V → Hp → Prop, (∃ m, W 0 m [] H2) ∧ Turns J g te vs σ (fun ys H' => ∀ p, H' p = none → Q (.ref p) (upd H' p (.tup ys))) W
section
variable {X : Cx}
theorem gx_eval {k : Nat} {c P : Addr} {elt tg iter : Expr} {scope : Scope} {own : List (Str × Nat)} {gpos : Pos} {wi : TI} {g : TG} {te : TE} {pins : List (Addr × Obj)} {s : Shared} {σ : L2.St} {H : Hp} {R : List V → Hp → Prop} {Q' : Value → Shared → Prop} (hc : X.calm = true) (hr : Room (k + 5) X.A) (hN : X.N.Nodup)
    (TB : GxR.TabB X.base X.mg c P) (hcode : X.env.code = .ref c) (hi : PI X tg iter wi) (ok : BlkOk X.N X.env.scope scope own) (hco : scope.isCoroutine = false) (dot : scope.names.lookup (".0" : Str) = some NameKind.local)
    (pg : ∀ (A : Around) (s : Shared) (H : Hp) (code : Value) (fp : List Addr) (pn : List (Addr × Obj)), PG (gx X A s H (gxEnv X scope s code) fp pn) tg g)
    (pe : ∀ (A : Around) (s : Shared) (H : Hp) (code : Value) (fp : List Addr) (pn : List (Addr × Obj)), Room k A → PE (gx X A s H (gxEnv X scope s code) fp pn) elt te)
    (hs : ∀ v, genFold iter X.env v = pure v) (I : L2.Inv X pins σ H s)
    (h : wi σ H fun J H1 => GxR.TabG H1 P ∧ ∀ H2, GxR.Tabbed P H1 H2 → ∃ W : Nat → Nat → List V → Hp → Prop, (∃ m, W 0 m [] H2) ∧ Turns J g te (own.map (·.2)) σ R W)
    (hQ : ∀ (u : Value) (s5 sc : Shared) (H2 : Hp) (fp : List Addr), L2.Inv X pins σ H2 sc → (∀ b ∈ fp, FpOk X pins H2 b) → GMade X.prog X.w k X.stack H2 sc fp R E0 u s5 → Q' u s5) :
    wpAny (model X.prog X.w) X.A (eval (.GeneratorExp elt [⟨tg, iter, [], 0⟩] scope gpos) X.env) Q' X.xe s := by
  have hfree : ∀ y ∈ scope.names, y.2 = .free → ∃ c, X.env.cells.lookup y.1 = some c := by
    intro y hy e
    exact (ok.free y hy e).elim (fun k => I.ok.has _ (.inl k)) (fun k => I.ok.has _ (.inr k))
  refine make_gen hco (closure_ok hfree) dot ok.kind (by have := hr.dp; omega) ?_ hs
  refine thn (hi.run pins s σ H _ I h) fun xv s1 h1 => thn h1 fun itv s2 h2 => ?_
  obtain ⟨it, fp, tn, J, H1, e, I2, T, st2, f2, ⟨ps, hP, ht⟩, q⟩ := h2
  subst e
  have hPs : s2.heap.get? P = some { cls := .none, data := .fields ps } := I2.hok P _ hP
  have cd : PySem.W.CodeHd s2.heap c P := TB.code.keeps I2.bk
  have nP : ∀ b ∈ fp, b ≠ P := fun b hb z => by
    have y := (f2 b hb).1
    rw [z, hP] at y
    cases y
  have hcP : cStatics ≠ P := fun e => by
    obtain ⟨_, hns, _⟩ := I2.nolimit
    obtain ⟨o', es, ep, ho, hd, _⟩ := hns
    rw [e, hPs] at ho
    cases ho
    cases hd
  refine ⟨I2.nolimit, ?_⟩
  have cont : ∀ (code : Value) (h3 : Heap) (tk : Nat) (ps' : Array Value), Heap.ExtBut P s2.heap h3 → s2.heap.objs.size ≤ h3.objs.size → h3.get? P = some { cls := .none, data := .fields ps' } → (∃ more, ps' = ps ++ more) → TriplesOk ps'.toList →
      wpAny (model X.prog X.w) X.A (builtinsFor X.env.globals X.env.builtins) (fun bi s₄ => ∀ h', h'.Ns s₄.heap.objs.size (fun y => if y = ".0" then some (Value.ref it) else none) → Heap.SameBut s₄.heap.objs.size (pushCells (s₄.heap.push { cls := .type "frame", data := .dict #[] }) scope.names) h' →
        Q' (Value.ref h'.objs.size) ({ s₄ with
          gens := s₄.gens.push (.fresh (.compStart (.GeneratorExp elt [⟨tg, iter, [], 0⟩] scope gpos) 0 (.ref it) .none (genEnv scope (cellsFrom (s₄.heap.objs.size + 1) scope.names (cloFrom X.env.cells scope.names [])) s₄.heap.objs.size code bi X.env))),
          toks := s₄.toks + 1 + 1 + 1,
          heap := h'.push { cls := .type "generator", data := .fields #[.int s₄.gens.size 0, .str "<genexpr>" (s₄.toks + 1), .str (X.env.qual ++ "<genexpr>") (s₄.toks + 1 + 1)] } } : Shared)) X.xe { s2 with heap := h3, toks := tk } := by
    intro code h3 tk ps' hx hsz hP3 hmore ht3
    obtain ⟨bm, ob, e1, e2, e3, e4, e5, e6, e7, e8⟩ := TB.bm
    have keep3 : ∀ b u, b ≠ P → s2.heap.get? b = some u → h3.get? b = some u := fun b u hb e => hx b u hb e
    refine wpAny_builtinsFor (m := X.mg) (by rw [I2.ok.glob]; exact (I2.mod.glob.keeps I2.bk).extBut hx TB.gP) e1 e2 (keep3 _ _ e4 (I2.bk _ _ e5)) e6 e7 e8 ?_
    intro h' hn' hs'
    obtain ⟨more, em⟩ := hmore
    have I3 : L2.Inv X pins σ (upd H1 P (.tbl (ps ++ more))) { s2 with heap := h3, toks := tk } :=
      GxR.inv_tab (more := more) (h' := h3) (g' := s2.gens) (d' := s2.drawn) (t' := tk) I2 hP keep3 (by rw [← em]; exact hP3) I2.bare
    obtain ⟨W, ⟨m, w0⟩, turn⟩ := q _ (show GxR.Tabbed P H1 (upd H1 P (.tbl (ps ++ more))) from ⟨⟨ps ++ more, upd_same, by rw [← em]; exact ht3⟩, fun b hb => upd_ne hb⟩)
    have fp3 : ∀ b ∈ fp, FpOk X pins (upd H1 P (.tbl (ps ++ more))) b ∧ b < h3.objs.size := by
      intro b hb
      obtain ⟨o, eo, _⟩ := T.obj _ _ st2 b hb
      refine ⟨⟨by rw [upd_ne (nP b hb)]; exact (f2 b hb).1, (f2 b hb).2⟩, Nat.lt_of_lt_of_le (Heap.lt_size eo) hsz⟩
    have st3 : tn 0 h3 := T.keep _ _ _ st2 fun b hb o e => keep3 b o (nP b hb) e
    have hsz' : h3.objs.size + 1 ≤ h'.objs.size := by
      rw [hs'.1]
      refine Nat.le_trans ?_ (pushCells_size _ _)
      rw [Heap.size_push]
      exact Nat.le_refl _
    have kp' : ∀ b o, b ≠ h3.objs.size → (pushCells (h3.push { cls := .type "frame", data := .dict #[] }) scope.names).get? b = some o → h'.get? b = some o := fun b o hb e => hs'.extBut b o hb e
    have made := gx_made (k := k) (own := own) (code := code) (iter := iter) (pos := gpos) (tk := tk + 1 + 1 + 1) I3 ok hN hco hc T st3 fp3 (fun A pn => pg A _ _ code fp pn) (fun A pn hq => pe A _ _ code fp pn hq) w0 turn hn' hsz' kp'
      (go := { cls := .type "generator", data := .fields #[.int s2.gens.size 0, .str "<genexpr>" (tk + 1), .str (X.env.qual ++ "<genexpr>") (tk + 1 + 1)] }) rfl rfl rfl (Heap.get?_push_size _ rfl)
    exact hQ _ _ _ _ fp I3 (fun b hb => (fp3 b hb).1) made
  cases hf : codeAmong gpos ps.toList with
  | none =>
    refine wpAny_genexprCodeX hcode (cd.code hPs ht) (cd.tab hPs) hf fun c' h' tk hx hge hlt hco' _ htab' _ => ?_
    obtain ⟨o1, vs, f1, tf, fl, tg', inF, tx, tt, op, _, _, _, _, _, _, _, _, _, htr, _⟩ := hco'
    exact cont _ h' tk _ hx (Nat.le_trans hge (Nat.le_of_lt hlt)) htab'.2 ⟨_, rfl⟩ htr
  | some cv =>
    refine wpAny_genexprCode_hit hcode (cd.code hPs ht) hf ?_
    exact cont cv s2.heap s2.toks ps (Heap.ExtBut.refl _ _) (Nat.le_refl _) hPs ⟨#[], by simp⟩ ht
theorem pe_tupGx {k : Nat} {c P : Addr} {elt tg iter : Expr} {scope : Scope} {own : List (Str × Nat)} {p pos gpos : Pos} {wi : TI} {g : TG} {te : TE} (hc : X.calm = true) (hr : Room (k + 5) X.A) (hN : X.N.Nodup) (hg : Gl X "tuple") (hm : X.mg "tuple" = none)
    (TB : GxR.TabB X.base X.mg c P) (hcode : X.env.code = .ref c) (hi : PI X tg iter wi) (ok : BlkOk X.N X.env.scope scope own) (hco : scope.isCoroutine = false) (dot : scope.names.lookup (".0" : Str) = some NameKind.local)
    (pg : ∀ (A : Around) (s : Shared) (H : Hp) (code : Value) (fp : List Addr) (pn : List (Addr × Obj)), PG (gx X A s H (gxEnv X scope s code) fp pn) tg g)
    (pe : ∀ (A : Around) (s : Shared) (H : Hp) (code : Value) (fp : List Addr) (pn : List (Addr × Obj)), Room k A → PE (gx X A s H (gxEnv X scope s code) fp pn) elt te)
    (hs : ∀ v, genFold iter X.env v = pure v)
    (he : starEach [.GeneratorExp elt [⟨tg, iter, [], 0⟩] scope gpos] X.env = (false, eval (.GeneratorExp elt [⟨tg, iter, [], 0⟩] scope gpos) X.env) :: starEach [] X.env := by rfl) :
    PE X (.Call (.Name "tuple" p) [.GeneratorExp elt [⟨tg, iter, [], 0⟩] scope gpos] [] pos) (tTupGx P wi g te (own.map (·.2))) := by
  refine ⟨fun pins s σ H Q I h => ?_⟩
  refine Call_ (ld_blt I hg hm boot_tuple (PyProof.Rows.callWith_type1 (args_cons ?_ he) he rfl))
  refine gx_eval hc hr hN TB hcode hi ok hco dot pg pe hs I h fun u s5 sc H2 fp I3 fp3 made => args_nil ?_
  refine call_tuple_made hr I.ok.frames made (fun s' acc H' ys q1 q2 q3 q4 q5 q6 q7 => ?_) (fun e s' z => ?_)
  · have J3 : L2.Inv X pins σ H' s' := I3.call' (ch := fp) q3 q5 q6 q4 fun b hb => ⟨(fp3 b hb).2.2.2.1, (fp3 b hb).2.1, (fp3 b hb).2.2.2.2.1, (fp3 b hb).2.2.2.2.2⟩
    refine ⟨.ref _, _, J3.laid (t' := s'.toks) (o := .tup ys) (fun b ob z => Heap.get?_push_of_some _ z) (Nat.le_refl _) ?_, rfl, q7 _ (J3.hok.fresh (Nat.le_refl _))⟩
    exact ⟨q2, acc, q1, _, Heap.get?_push_size _ rfl, rfl, _, rfl⟩
  · obtain ⟨_, _, _, _, _, _, _, _, _, _, _, _, z⟩ := z
    exact z
end
end Gx
set_option linter.all false
/-! tuple(e for x in xs if c) -/
namespace Gt
open PySem PySem.Spec PyProof.Rows L2 Gx
def TurnsT (J : It) (g : TG) (tt : TT) (te : TE) (vs : List Nat) (σ : L2.St) (Q : List V → Hp → Prop) (W : Nat → Nat → List V → Hp → Prop) : Prop :=
  ∀ i m ys H, W i m ys H → (J.stop i H ∧ Q ys H) ∨ (J.go i H ∧ ∃ Nx : List V → Hp → Prop, (∀ zs H', Nx zs H' → ∃ m', m' < m ∧ W (i + 1) m' zs H') ∧
    ∀ x H', J.yld i H x H' → g x (wipe σ vs) H' fun σ2 H2 => wipe σ2 vs = wipe σ vs ∧ tt σ2 H2 fun b H3 => if b = true then te σ2 H3 fun y H4 => ys.length < sizeLine ∧ Nx (ys ++ [y]) H4 else Nx ys H3)
section
variable {X : Cx} {A : Around} {s : Shared} {H : Hp} {cenv : Env} {fp : List Addr} {pn : List (Addr × Obj)} {S it : Addr} {tn : Nat → Heap → Prop} {J : It} {tg elt iter : Expr} {ifs : List Expr} {tt : TT} {scope : Scope} {pos : Pos} {g : TG} {te : TE} {vs : List Nat} {σ : L2.St} {Q : List V → Hp → Prop} {W : Nat → Nat → List V → Hp → Prop}
theorem gx_loop (hc : X.calm = true) (T : Turn X.prog X.w X.K tg J fp it tn) (pg : PG (gx X A s H cenv fp pn) tg g) (pts : PTs (gx X A s H cenv fp pn) ifs tt) (pe : PE (gx X A s H cenv fp pn) elt te) (hco : cenv.scope.isCoroutine = false)
    (hS : ∀ p ∈ pn, p.1 ≠ S) (hfS : ∀ b ∈ fp, S ≠ b) (hfn : ∀ b ∈ fp, ∀ p ∈ pn, p.1 ≠ b) (ap : Apart (gx X A s H cenv fp pn) S) (turn : TurnsT J g tt te vs σ Q W) :
    ∀ (m i n : Nat) (ys : List V) (s₀ s1 : Shared) (H1 : Hp), W i m ys H1 → GI (gx X A s H cenv fp pn) S [] ys (wipe σ vs) H1 s1 → tn i s1.heap → (∀ b ∈ fp, H1 b = none) → n + ys.length = sizeLine →
      Seg (model X.prog X.w) A (GEnd (gx X A s H cenv fp pn) S Q) (GY (gx X A s H cenv fp pn) S) n s₀ (.compLoop (.GeneratorExp elt [⟨tg, iter, ifs, 0⟩] scope pos) 0 (.ref it) .none cenv)
        ((model X.prog X.w).den (.compLoop (.GeneratorExp elt [⟨tg, iter, ifs, 0⟩] scope pos) 0 (.ref it) .none cenv)) [] s1 := by
  intro m
  induction m using Nat.strongRecOn with
  | _ m ih =>
    intro i n ys s₀ s1 H1 w1 gi st1 n1 hn
    have ov : A.over (.compLoop (.GeneratorExp elt [⟨tg, iter, ifs, 0⟩] scope pos) 0 (.ref it) .none cenv) [] = (gx X A s H cenv fp pn).A := over_loop0
    have stat : ∀ {σ' : L2.St} {H' : Hp} {s' : Shared} {acc : Array Value} {c : Nat}, L2.Inv (gx X A s H cenv fp pn) [(S, lstObj acc c)] σ' H' s' → (∀ b ∈ fp, H' b = none) → ∀ b ∈ fp, FpOk (gx X A s H cenv fp pn) [(S, lstObj acc c)] H' b := by
      intro σ' H' s' acc c I' hz b hb
      refine ⟨hz b hb, (I'.ok.exf b hb).1, I'.ok.exfs b hb, .inl hb, fun x c e => (I'.ok.exf b hb).2 x c e, fun p hp => ?_⟩
      rcases List.mem_append.mp hp with z | z
      · exact hfn b hb p z
      · rw [List.mem_singleton.mp z]
        exact hfS b hb
    show Seg _ A _ _ _ s₀ _ ((compTurn (.GeneratorExp elt [⟨tg, iter, ifs, 0⟩] scope pos) 0 (.ref it) .none cenv).onRaise (leaving cenv)) [] s1
    rw [compTurn_gen, Sem.onRaise_eq_wrap]
    refine seg_bind_wrap (wpAny_standAt ?_)
    obtain ⟨acc, cc, ra, I⟩ := gi
    rcases turn i m ys H1 w1 with ⟨stop, q⟩ | ⟨go, Nx, hNx, step⟩
    · refine seg_bind_wrap ?_
      rw [ov]
      refine wpAny_mono (T.done (gx X A s H cenv fp pn) rfl rfl rfl hc i _ s1 _ H1 _ I (stat I n1) st1 stop) (fun r s6 h6 => ?_) (fun _ _ z => z)
      obtain ⟨rfl, I6⟩ := h6
      exact seg_end (.ok .next) ⟨rfl, ys, _, [], H1, hn, ⟨acc, cc, ra, I6⟩, q⟩
    · refine seg_bind_wrap ?_
      rw [ov]
      refine wpAny_mono (T.item (gx X A s H cenv fp pn) rfl rfl rfl hc i _ s1 _ H1 _ I (stat I n1) st1 go) (fun r s6 h6 => ?_) (fun _ _ z => z)
      obtain ⟨u, rfl, h6⟩ := h6
      refine seg_bind_wrap ?_
      rw [ov]
      refine wpAny_mono h6 (fun _ s7 h7 => ?_) (fun _ _ z => z)
      obtain ⟨x, H7, I7, r7, y7, st7, n7⟩ := h7
      have I7' := I7.pinned (stat I7 n7) (T.obj _ _ st7)
      refine seg_bind_wrap ?_
      rw [ov]
      refine wpAny_mono (pg.run _ s7 _ H7 x u _ I7' r7 (step x H7 y7)) (fun _ s8 h8 => ?_) (fun _ _ z => z.elim)
      obtain ⟨σ8, H8, I8, hw8, q8⟩ := h8
      have hip : ∀ p ∈ pinsAt fp s7.heap, p.1 ≠ S := fun p hp => (hfS p.1 (of_pinsAt hp).1).symm
      refine seg_bind_wrap ?_
      rw [ov]
      refine wpAny_mono (pts.run _ s8 σ8 H8 _ I8 q8) (fun b s8 h8 => ?_) (fun _ _ z => z.elim)
      obtain ⟨H8, I8, q8⟩ := h8
      cases b with
      | false =>
        simp only [Bool.false_eq_true, if_false] at q8 ⊢
        obtain ⟨m', hm, w'⟩ := hNx _ _ q8
        have pin' : ∀ b ∈ fp, ∀ o, s7.heap.get? b = some o → s8.heap.get? b = some o ∧ H8 b = none := by
          intro b hb o e
          have z := I8.pin (b, o) (List.mem_append_right _ (List.mem_cons_of_mem _ (mem_pinsAt hb e)))
          exact ⟨z.1, z.2.1⟩
        have hl : (wipe σ vs).length = σ8.length := by rw [← hw8, wipe_length]
        refine seg_again rfl (ih m' hm (i + 1) n ys _ s8 H8 w' ⟨acc, cc, ra, ?_⟩ (T.keep _ _ _ st7 fun b hb o e => (pin' b hb o e).1) (fun b hb => ?_) hn)
        · refine (Inv.unpinned (pins := [(S, lstObj acc cc)]) (pl := pinsAt fp s7.heap) I8).weak hl fun j v e => ?_
          rw [← hw8] at e
          exact (wipe_some e).1
        · obtain ⟨o, e, _⟩ := T.obj _ _ st7 b hb
          exact (pin' b hb o e).2
      | true =>
      simp only [if_true] at q8 ⊢
      have hy : ∀ v, yieldOut cenv v = yieldValue v := fun v => by simp only [yieldOut, hco, Bool.false_eq_true, if_false]
      simp only [hy]
      rw [Sem.bind_eq_wrap', Sem.bind_eq_wrap', Sem.wrap_wrap, Sem.wrap_wrap]
      refine seg_wrap ?_
      rw [ov]
      refine wpAny_mono (pe.run _ s8 σ8 H8 _ I8 q8) (fun yv s9 h9 => ?_) (fun _ _ z => z.elim)
      obtain ⟨y, H9, I9, r9, hlt, nx⟩ := h9
      obtain ⟨n', rfl⟩ : ∃ n', n = n' + 1 := ⟨n - 1, by omega⟩
      have gi9 : GI (gx X A s H cenv fp pn) S (pinsAt fp s7.heap) ys σ8 H9 s9 := ⟨acc, cc, ra, I9⟩
      refine seg_at (seg_yield rfl rfl rfl ⟨ys, y, pinsAt fp s7.heap, σ8, H9, by omega, r9, gi9, fun s'' sl => ?_⟩)
      obtain ⟨acc2, c2, ra2, I10⟩ := gi9.woken hS hip ap r9 sl
      obtain ⟨m', hm, w'⟩ := hNx _ _ nx
      have pin' : ∀ b ∈ fp, ∀ o, s7.heap.get? b = some o → s''.heap.get? b = some o ∧ H9 b = none := by
        intro b hb o e
        have z := I10.pin (b, o) (List.mem_append_right _ (List.mem_cons_of_mem _ (mem_pinsAt hb e)))
        exact ⟨z.1, z.2.1⟩
      have hl : (wipe σ vs).length = σ8.length := by rw [← hw8, wipe_length]
      refine seg_again rfl (ih m' hm (i + 1) n' (ys ++ [y]) _ s'' H9 w' ⟨acc2, c2, ra2, ?_⟩ (T.keep _ _ _ st7 fun b hb o e => (pin' b hb o e).1) (fun b hb => ?_) (by rw [List.length_append]; show n' + (ys.length + 1) = sizeLine; omega))
      · refine (Inv.unpinned (pins := [(S, lstObj acc2 c2)]) (pl := pinsAt fp s7.heap) I10).weak hl fun j v e => ?_
        rw [← hw8] at e
        exact (wipe_some e).1
      · obtain ⟨o, e, _⟩ := T.obj _ _ st7 b hb
        exact (pin' b hb o e).2
end
section
variable {X : Cx} {A : Around} {s : Shared} {H : Hp} {cenv : Env} {fp : List Addr} {pn : List (Addr × Obj)} {S it : Addr} {tn : Nat → Heap → Prop} {J : It} {tg elt iter : Expr} {ifs : List Expr} {tt : TT} {scope : Scope} {pos : Pos} {g : TG} {te : TE} {vs : List Nat} {σ : L2.St} {Q : List V → Hp → Prop} {W : Nat → Nat → List V → Hp → Prop}
theorem gx_start (hc : X.calm = true) (T : Turn X.prog X.w X.K tg J fp it tn) (pg : PG (gx X A s H cenv fp pn) tg g) (pts : PTs (gx X A s H cenv fp pn) ifs tt) (pe : PE (gx X A s H cenv fp pn) elt te) (hco : cenv.scope.isCoroutine = false)
    (hS : ∀ p ∈ pn, p.1 ≠ S) (hfS : ∀ b ∈ fp, S ≠ b) (hfn : ∀ b ∈ fp, ∀ p ∈ pn, p.1 ≠ b) (ap : Apart (gx X A s H cenv fp pn) S) (turn : TurnsT J g tt te vs σ Q W)
    {m : Nat} {s₀ s1 : Shared} {H1 : Hp} (w0 : W 0 m [] H1) (gi : GI (gx X A s H cenv fp pn) S [] [] (wipe σ vs) H1 s1) (st : tn 0 s1.heap) (n1 : ∀ b ∈ fp, H1 b = none) :
    Seg (model X.prog X.w) A (GEnd (gx X A s H cenv fp pn) S Q) (GY (gx X A s H cenv fp pn) S) sizeLine s₀ (.compStart (.GeneratorExp elt [⟨tg, iter, ifs, 0⟩] scope pos) 0 (.ref it) .none cenv)
      ((model X.prog X.w).den (.compStart (.GeneratorExp elt [⟨tg, iter, ifs, 0⟩] scope pos) 0 (.ref it) .none cenv)) [] s1 := by
  have loop := gx_loop (iter := iter) (scope := scope) (pos := pos) hc T pg pts pe hco hS hfS hfn ap turn m 0 sizeLine [] s₀ s1 H1 w0 gi st n1 (Nat.add_zero _)
  show Seg _ A _ _ _ s₀ _ ((compStart (.GeneratorExp elt [⟨tg, iter, ifs, 0⟩] scope pos) 0 (.ref it) .none cenv).onRaise (leaving cenv)) [] s1
  unfold compStart
  rw [Sem.onRaise_eq_wrap]
  show Seg _ A _ _ _ s₀ _ ((ask >>= _).wrap _ _ _ _) [] s1
  refine seg_bind_wrap (wpAny_askSetting ?_)
  split
  · exact seg_again rfl loop
  · first
    | exact seg_bind_wrap (wpAny_rule (seg_bind_wrap (wpAny_standAt (seg_bind_wrap (T.self _ 0 s1 _ _ st (seg_again rfl loop))))))
    | (refine seg_bind_wrap (wpAny_rule ?_)
       show Seg _ A _ _ _ s₀ _ ((standAt iter.pos >>= _).wrap _ _ _ _) [] s1
       exact seg_bind_wrap (wpAny_standAt (seg_bind_wrap (T.self _ 0 s1 _ _ st (seg_again rfl loop)))))
end
section
variable {X : Cx} {pins : List (Addr × Obj)} {σ : L2.St} {H : Hp} {s : Shared}
/-- a generator that stands ready: its frame at the size of s, its object behind it -/
theorem gx_made {scope : Scope} {own : List (Str × Nat)} {fp : List Addr} {code : Value} {it : Addr} {tn : Nat → Heap → Prop} {J : It} {tg elt iter : Expr} {ifs : List Expr} {tt : TT} {pos : Pos} {g : TG} {te : TE} {Q : List V → Hp → Prop} {W : Nat → Nat → List V → Hp → Prop} {k m : Nat}
    (I : L2.Inv X pins σ H s) (ok : BlkOk X.N X.env.scope scope own) (hN : X.N.Nodup) (hco : scope.isCoroutine = false) (hc : X.calm = true)
    (T : Turn X.prog X.w X.K tg J fp it tn) (st : tn 0 s.heap) (hfp : ∀ b ∈ fp, FpOk X pins H b ∧ b < s.heap.objs.size)
    (pg : ∀ A pn, PG (gx X A s H (gxEnv X scope s code) fp pn) tg g) (pts : ∀ A pn, PTs (gx X A s H (gxEnv X scope s code) fp pn) ifs tt) (pe : ∀ A pn, Room k A → PE (gx X A s H (gxEnv X scope s code) fp pn) elt te)
    (w0 : W 0 m [] H) (turn : TurnsT J g tt te (own.map (·.2)) σ Q W) {h' : Heap} {go : Obj} {nm qn : Value} {tk : Nat} {mC : Str → Option Value}
    (hC : h'.Ns s.heap.objs.size mC) (hsz : s.heap.objs.size + 1 ≤ h'.objs.size) (kpc : ∀ b o, b ≠ s.heap.objs.size → (pushCells (s.heap.push { cls := .type "frame", data := .dict #[] }) scope.names).get? b = some o → h'.get? b = some o)
    (hgc : go.cls = .type "generator") (hgd : go.data = .fields #[.int s.gens.size 0, nm, qn]) (hgs : go.slots = #[]) (hgp : (h'.push go).get? h'.objs.size = some go) :
    GMade X.prog X.w k X.stack H s fp Q E0 (.ref h'.objs.size) { s with gens := s.gens.push (.fresh (.compStart (.GeneratorExp elt [⟨tg, iter, ifs, 0⟩] scope pos) 0 (.ref it) .none (gxEnv X scope s code))), toks := tk, heap := h'.push go } := by
  have kp : ∀ b o, s.heap.get? b = some o → h'.get? b = some o := fun b o e => kpc b o (Nat.ne_of_lt (Heap.lt_size e)) (pushCells_keeps _ _ _ _ (Heap.get?_push_of_some _ e))
  have isg : ∀ h : Heap, h.get? h'.objs.size = some go → h.IsGen h'.objs.size s.gens.size := fun h e => ⟨go, nm, qn, e, hgc, hgd, hgs⟩
  have kp5 : ∀ b o, s.heap.get? b = some o → (h'.push go).get? b = some o := fun b o e => Heap.get?_push_of_some _ (kp b o e)
  refine ⟨h'.objs.size, s.gens.size, _, rfl, by omega, ?_, isg _ hgp, Array.getElem?_push_size .., rfl, AllBare.push I.bare rfl, I.nolimit.keeps kp5, kp5, ?_⟩
  · show _ < (h'.push go).objs.size
    rw [Heap.size_push]
    exact Nat.lt_succ_self _
  · intro Aw S s2 room hfr hSz hk2 hSo hos hba
    obtain ⟨cS, heS⟩ := hSo
    have hk2' : ∀ b o, (h'.push go).get? b = some o → s2.heap.get? b = some o := hk2
    have hSz' : h'.objs.size + 1 ≤ S := by
      have z : (h'.push go).objs.size ≤ S := hSz
      rw [Heap.size_push] at z
      exact z
    have ea : s2.heap.get? h'.objs.size = some go := hk2' _ _ hgp
    have lS : s.heap.objs.size < S := by omega
    have lH : h'.objs.size < S := by omega
    have lh : s.heap.objs.size < h'.objs.size := by omega
    have young : ∀ b, s.heap.objs.size < b → H b = none ∧ b ≠ s.heap.objs.size ∧ b ∉ frs X.stack := by
      intro b hb
      refine ⟨I.hok.fresh (Nat.le_of_lt hb), Nat.ne_of_gt hb, fun z => ?_⟩
      rcases List.mem_cons.mp (I.stkSub b z) with z | z
      · rw [z] at hb
        exact absurd (Nat.lt_trans hb I.lt) (Nat.lt_irrefl _)
      · exact I.nofs (Nat.le_of_lt hb) z
    have pinOk : ∀ p ∈ [(h'.objs.size, go)] ++ [(S, lstObj #[] cS)], s2.heap.get? p.1 = some p.2 ∧ H p.1 = none ∧ p.1 ≠ s.heap.objs.size ∧ p.1 ∉ frs X.stack ∧ ∀ v, p.2.data ≠ .cell v := by
      intro p hp
      rcases List.mem_append.mp hp with z | z
      · rw [List.mem_singleton.mp z]
        obtain ⟨y1, y2, y3⟩ := young h'.objs.size (by omega)
        exact ⟨ea, y1, y2, y3, fun v q => by rw [show go.data = _ from hgd] at q; cases q⟩
      · rw [List.mem_singleton.mp z]
        obtain ⟨y1, y2, y3⟩ := young S (by omega)
        exact ⟨heS, y1, y2, y3, fun v q => by cases q⟩
    have I2 := gx_inv (own := own) (code := code) (A := Aw) (pn := [(h'.objs.size, go)]) (pins5 := [(S, lstObj #[] cS)]) I ok hN hfp room.hd hfr (fun b o hb e => hk2' b o (Heap.get?_push_of_some _ (kpc b o hb e)))
      ⟨mC, hC.keeps fun b o e => hk2' b o (Heap.get?_push_of_some _ e)⟩ hos hba pinOk
    have hcell : ∀ x c, (gxEnv X scope s code).cells.lookup x = some c → c < h'.objs.size := by
      intro x c e
      have hcl : (gxEnv X scope s code).cells = cellsFrom (s.heap.push { cls := .type "frame", data := .dict #[] }).objs.size scope.names (cloFrom X.env.cells scope.names []) := by rw [Heap.size_push]; rfl
      rw [hcl] at e
      rcases cells_mem (PySem.mem_of_lookup e) with hm | ⟨_, h2, o, z1, z2⟩
      · rcases cloFrom_mem hm with z2 | ⟨h1, rfl⟩
        · cases z2
        · obtain ⟨c2, hc2⟩ : ∃ c2, X.env.cells.lookup x = some c2 := (ok.free _ h1 rfl).elim (fun k => I.ok.has _ (.inl k)) (fun k => I.ok.has _ (.inr k))
          obtain ⟨_, z3⟩ := I.cell _ _ hc2
          rw [hc2]
          exact Nat.lt_trans z3.lt lh
      · rw [Heap.size_push] at h2
        exact Heap.lt_size (kpc c o (by omega) z1)
    have ap : Apart (gx X Aw s H (gxEnv X scope s code) fp [(h'.objs.size, go)]) S := ⟨by show s.heap.objs.size ≤ S; omega, Nat.ne_of_gt lS, fun x c e => Nat.ne_of_lt (Nat.lt_of_lt_of_le (hcell x c e) (by omega))⟩
    have seg := gx_start (iter := iter) (scope := scope) (pos := pos) (S := S) (s₀ := s2) hc T (pg Aw [(h'.objs.size, go)]) (pts Aw [(h'.objs.size, go)]) (pe Aw [(h'.objs.size, go)] room) hco (fun p hp => by rw [List.mem_singleton.mp hp]; exact Nat.ne_of_lt lH)
      (fun b hb => Nat.ne_of_gt (Nat.lt_trans (hfp b hb).2 lS)) (fun b hb p hp => by rw [List.mem_singleton.mp hp]; exact Nat.ne_of_gt (Nat.lt_trans (hfp b hb).2 lh)) ap turn w0 ⟨#[], cS, .nil, I2⟩
      (T.keep _ _ _ st fun b _ o e => hk2' b o (kp5 b o e)) (fun b hb => (hfp b hb).1.1)
    refine seg_imp (fun n s₀ r s1 hR => ?_) (fun n s₀ v s1 kap kap' hkk hY => ?_) sizeLine seg
    · obtain ⟨rfl, ys, σ', ip, H', hn, gi, hq⟩ := hR
      obtain ⟨a1, _, _, acc, cc, ra, ea⟩ := gi.at
      obtain ⟨_, _, _, J1⟩ := gi
      exact .inl ⟨.inr rfl, H', ys, acc, cc, J1.os, J1.bare, J1.base, J1.hok, a1, ea, ra, by omega, hq⟩
    · obtain ⟨ys, xx, ip, σ', H', hn, h2, gi, h3⟩ := hY
      obtain ⟨_, _, _, acc, cc, ra, ea⟩ := gi.at
      obtain ⟨_, _, _, J1⟩ := gi
      have hg : s1.heap.IsGen h'.objs.size s.gens.size := isg _ (J1.pin (h'.objs.size, go) (List.mem_append_left _ (List.mem_singleton.mpr rfl))).1
      have len : acc.size = ys.length := by
        have e1 := ra.length
        have e2 : acc.toList.length = acc.size := by simp
        omega
      exact ⟨J1.os, J1.bare, J1.nolimit, hg, ⟨acc, cc, ea, by rw [len]; exact hn⟩, fun s' z => hkk _ _ (h3 s' z)⟩
end
/-! ### the expression tuple(e for x in xs) -/
def tTupGt (P : Addr) (wi : TI) (g : TG) (tt : TT) (te : TE) (vs : List Nat) : TE := fun σ H Q => wi σ H fun J H1 => GxR.TabG H1 P ∧ ∀ H2, GxR.Tabbed P H1 H2 →
  ∃ W : Nat → Nat → List V → Hp → Prop, (∃ m, W 0 m [] H2) ∧ TurnsT J g tt te vs σ (fun ys H' => ∀ p, H' p = none → Q (.ref p) (upd H' p (.tup ys))) W
section
variable {X : Cx}
theorem gx_eval {k : Nat} {c P : Addr} {elt tg iter : Expr} {ifs : List Expr} {tt : TT} {scope : Scope} {own : List (Str × Nat)} {gpos : Pos} {wi : TI} {g : TG} {te : TE} {pins : List (Addr × Obj)} {s : Shared} {σ : L2.St} {H : Hp} {R : List V → Hp → Prop} {Q' : Value → Shared → Prop} (hc : X.calm = true) (hr : Room (k + 5) X.A) (hN : X.N.Nodup)
    (TB : GxR.TabB X.base X.mg c P) (hcode : X.env.code = .ref c) (hi : PI X tg iter wi) (ok : BlkOk X.N X.env.scope scope own) (hco : scope.isCoroutine = false) (dot : scope.names.lookup (".0" : Str) = some NameKind.local)
    (pg : ∀ (A : Around) (s : Shared) (H : Hp) (code : Value) (fp : List Addr) (pn : List (Addr × Obj)), PG (gx X A s H (gxEnv X scope s code) fp pn) tg g)
    (pts : ∀ (A : Around) (s : Shared) (H : Hp) (code : Value) (fp : List Addr) (pn : List (Addr × Obj)), PTs (gx X A s H (gxEnv X scope s code) fp pn) ifs tt)
    (pe : ∀ (A : Around) (s : Shared) (H : Hp) (code : Value) (fp : List Addr) (pn : List (Addr × Obj)), Room k A → PE (gx X A s H (gxEnv X scope s code) fp pn) elt te)
    (hs : ∀ v, genFold iter X.env v = pure v) (I : L2.Inv X pins σ H s)
    (h : wi σ H fun J H1 => GxR.TabG H1 P ∧ ∀ H2, GxR.Tabbed P H1 H2 → ∃ W : Nat → Nat → List V → Hp → Prop, (∃ m, W 0 m [] H2) ∧ TurnsT J g tt te (own.map (·.2)) σ R W)
    (hQ : ∀ (u : Value) (s5 sc : Shared) (H2 : Hp) (fp : List Addr), L2.Inv X pins σ H2 sc → (∀ b ∈ fp, FpOk X pins H2 b) → GMade X.prog X.w k X.stack H2 sc fp R E0 u s5 → Q' u s5) :
    wpAny (model X.prog X.w) X.A (eval (.GeneratorExp elt [⟨tg, iter, ifs, 0⟩] scope gpos) X.env) Q' X.xe s := by
  have hfree : ∀ y ∈ scope.names, y.2 = .free → ∃ c, X.env.cells.lookup y.1 = some c := by
    intro y hy e
    exact (ok.free y hy e).elim (fun k => I.ok.has _ (.inl k)) (fun k => I.ok.has _ (.inr k))
  refine make_gen hco (closure_ok hfree) dot ok.kind (by have := hr.dp; omega) ?_ hs
  refine thn (hi.run pins s σ H _ I h) fun xv s1 h1 => thn h1 fun itv s2 h2 => ?_
  obtain ⟨it, fp, tn, J, H1, e, I2, T, st2, f2, ⟨ps, hP, ht⟩, q⟩ := h2
  subst e
  have hPs : s2.heap.get? P = some { cls := .none, data := .fields ps } := I2.hok P _ hP
  have cd : PySem.W.CodeHd s2.heap c P := TB.code.keeps I2.bk
  have nP : ∀ b ∈ fp, b ≠ P := fun b hb z => by
    have y := (f2 b hb).1
    rw [z, hP] at y
    cases y
  have hcP : cStatics ≠ P := fun e => by
    obtain ⟨_, hns, _⟩ := I2.nolimit
    obtain ⟨o', es, ep, ho, hd, _⟩ := hns
    rw [e, hPs] at ho
    cases ho
    cases hd
  refine ⟨I2.nolimit, ?_⟩
  have cont : ∀ (code : Value) (h3 : Heap) (tk : Nat) (ps' : Array Value), Heap.ExtBut P s2.heap h3 → s2.heap.objs.size ≤ h3.objs.size → h3.get? P = some { cls := .none, data := .fields ps' } → (∃ more, ps' = ps ++ more) → TriplesOk ps'.toList →
      wpAny (model X.prog X.w) X.A (builtinsFor X.env.globals X.env.builtins) (fun bi s₄ => ∀ h', h'.Ns s₄.heap.objs.size (fun y => if y = ".0" then some (Value.ref it) else none) → Heap.SameBut s₄.heap.objs.size (pushCells (s₄.heap.push { cls := .type "frame", data := .dict #[] }) scope.names) h' →
        Q' (Value.ref h'.objs.size) ({ s₄ with
          gens := s₄.gens.push (.fresh (.compStart (.GeneratorExp elt [⟨tg, iter, ifs, 0⟩] scope gpos) 0 (.ref it) .none (genEnv scope (cellsFrom (s₄.heap.objs.size + 1) scope.names (cloFrom X.env.cells scope.names [])) s₄.heap.objs.size code bi X.env))),
          toks := s₄.toks + 1 + 1 + 1,
          heap := h'.push { cls := .type "generator", data := .fields #[.int s₄.gens.size 0, .str "<genexpr>" (s₄.toks + 1), .str (X.env.qual ++ "<genexpr>") (s₄.toks + 1 + 1)] } } : Shared)) X.xe { s2 with heap := h3, toks := tk } := by
    intro code h3 tk ps' hx hsz hP3 hmore ht3
    obtain ⟨bm, ob, e1, e2, e3, e4, e5, e6, e7, e8⟩ := TB.bm
    have keep3 : ∀ b u, b ≠ P → s2.heap.get? b = some u → h3.get? b = some u := fun b u hb e => hx b u hb e
    refine wpAny_builtinsFor (m := X.mg) (by rw [I2.ok.glob]; exact (I2.mod.glob.keeps I2.bk).extBut hx TB.gP) e1 e2 (keep3 _ _ e4 (I2.bk _ _ e5)) e6 e7 e8 ?_
    intro h' hn' hs'
    obtain ⟨more, em⟩ := hmore
    have I3 : L2.Inv X pins σ (upd H1 P (.tbl (ps ++ more))) { s2 with heap := h3, toks := tk } :=
      GxR.inv_tab (more := more) (h' := h3) (g' := s2.gens) (d' := s2.drawn) (t' := tk) I2 hP keep3 (by rw [← em]; exact hP3) I2.bare
    obtain ⟨W, ⟨m, w0⟩, turn⟩ := q _ (show GxR.Tabbed P H1 (upd H1 P (.tbl (ps ++ more))) from ⟨⟨ps ++ more, upd_same, by rw [← em]; exact ht3⟩, fun b hb => upd_ne hb⟩)
    have fp3 : ∀ b ∈ fp, FpOk X pins (upd H1 P (.tbl (ps ++ more))) b ∧ b < h3.objs.size := by
      intro b hb
      obtain ⟨o, eo, _⟩ := T.obj _ _ st2 b hb
      refine ⟨⟨by rw [upd_ne (nP b hb)]; exact (f2 b hb).1, (f2 b hb).2⟩, Nat.lt_of_lt_of_le (Heap.lt_size eo) hsz⟩
    have st3 : tn 0 h3 := T.keep _ _ _ st2 fun b hb o e => keep3 b o (nP b hb) e
    have hsz' : h3.objs.size + 1 ≤ h'.objs.size := by
      rw [hs'.1]
      refine Nat.le_trans ?_ (pushCells_size _ _)
      rw [Heap.size_push]
      exact Nat.le_refl _
    have kp' : ∀ b o, b ≠ h3.objs.size → (pushCells (h3.push { cls := .type "frame", data := .dict #[] }) scope.names).get? b = some o → h'.get? b = some o := fun b o hb e => hs'.extBut b o hb e
    have made := gx_made (k := k) (own := own) (code := code) (iter := iter) (pos := gpos) (tk := tk + 1 + 1 + 1) I3 ok hN hco hc T st3 fp3 (fun A pn => pg A _ _ code fp pn) (fun A pn => pts A _ _ code fp pn) (fun A pn hq => pe A _ _ code fp pn hq) w0 turn hn' hsz' kp'
      (go := { cls := .type "generator", data := .fields #[.int s2.gens.size 0, .str "<genexpr>" (tk + 1), .str (X.env.qual ++ "<genexpr>") (tk + 1 + 1)] }) rfl rfl rfl (Heap.get?_push_size _ rfl)
    exact hQ _ _ _ _ fp I3 (fun b hb => (fp3 b hb).1) made
  cases hf : codeAmong gpos ps.toList with
  | none =>
    refine wpAny_genexprCodeX hcode (cd.code hPs ht) (cd.tab hPs) hf fun c' h' tk hx hge hlt hco' _ htab' _ => ?_
    obtain ⟨o1, vs, f1, tf, fl, tg', inF, tx, tt, op, _, _, _, _, _, _, _, _, _, htr, _⟩ := hco'
    exact cont _ h' tk _ hx (Nat.le_trans hge (Nat.le_of_lt hlt)) htab'.2 ⟨_, rfl⟩ htr
  | some cv =>
    refine wpAny_genexprCode_hit hcode (cd.code hPs ht) hf ?_
    exact cont cv s2.heap s2.toks ps (Heap.ExtBut.refl _ _) (Nat.le_refl _) hPs ⟨#[], by simp⟩ ht
theorem pe_tupGt {k : Nat} {c P : Addr} {elt tg iter : Expr} {ifs : List Expr} {tt : TT} {scope : Scope} {own : List (Str × Nat)} {p pos gpos : Pos} {wi : TI} {g : TG} {te : TE} (hc : X.calm = true) (hr : Room (k + 5) X.A) (hN : X.N.Nodup) (hg : Gl X "tuple") (hm : X.mg "tuple" = none)
    (TB : GxR.TabB X.base X.mg c P) (hcode : X.env.code = .ref c) (hi : PI X tg iter wi) (ok : BlkOk X.N X.env.scope scope own) (hco : scope.isCoroutine = false) (dot : scope.names.lookup (".0" : Str) = some NameKind.local)
    (pg : ∀ (A : Around) (s : Shared) (H : Hp) (code : Value) (fp : List Addr) (pn : List (Addr × Obj)), PG (gx X A s H (gxEnv X scope s code) fp pn) tg g)
    (pts : ∀ (A : Around) (s : Shared) (H : Hp) (code : Value) (fp : List Addr) (pn : List (Addr × Obj)), PTs (gx X A s H (gxEnv X scope s code) fp pn) ifs tt)
    (pe : ∀ (A : Around) (s : Shared) (H : Hp) (code : Value) (fp : List Addr) (pn : List (Addr × Obj)), Room k A → PE (gx X A s H (gxEnv X scope s code) fp pn) elt te)
    (hs : ∀ v, genFold iter X.env v = pure v)
    (he : starEach [.GeneratorExp elt [⟨tg, iter, ifs, 0⟩] scope gpos] X.env = (false, eval (.GeneratorExp elt [⟨tg, iter, ifs, 0⟩] scope gpos) X.env) :: starEach [] X.env := by rfl) :
    PE X (.Call (.Name "tuple" p) [.GeneratorExp elt [⟨tg, iter, ifs, 0⟩] scope gpos] [] pos) (tTupGt P wi g tt te (own.map (·.2))) := by
  refine ⟨fun pins s σ H Q I h => ?_⟩
  refine Call_ (ld_blt I hg hm boot_tuple (PyProof.Rows.callWith_type1 (args_cons ?_ he) he rfl))
  refine gx_eval hc hr hN TB hcode hi ok hco dot pg pts pe hs I h fun u s5 sc H2 fp I3 fp3 made => args_nil ?_
  refine call_tuple_made hr I.ok.frames made (fun s' acc H' ys q1 q2 q3 q4 q5 q6 q7 => ?_) (fun e s' z => ?_)
  · have J3 : L2.Inv X pins σ H' s' := I3.call' (ch := fp) q3 q5 q6 q4 fun b hb => ⟨(fp3 b hb).2.2.2.1, (fp3 b hb).2.1, (fp3 b hb).2.2.2.2.1, (fp3 b hb).2.2.2.2.2⟩
    refine ⟨.ref _, _, J3.laid (t' := s'.toks) (o := .tup ys) (fun b ob z => Heap.get?_push_of_some _ z) (Nat.le_refl _) ?_, rfl, q7 _ (J3.hok.fresh (Nat.le_refl _))⟩
    exact ⟨q2, acc, q1, _, Heap.get?_push_size _ rfl, rfl, _, rfl⟩
  · obtain ⟨_, _, _, _, _, _, _, _, _, _, _, _, z⟩ := z
    exact z
end
end Gt
set_option maxHeartbeats 4000000
/-! tuple * int, also by 0 and by 1. -/
namespace Gx
open PySem PySem.Spec PyProof.Rows L2
theorem tuple_mul1 (l : Addr) (items : Array Value) (n : Nat) (dd : Option Addr) (sl : Array (Option Value)) (u : Tok) :
    Meets (Builtin.«tuple.__mul__» ⟨[.ref l, .int 1 u], []⟩) (fun _ R s => s.heap.get? l = some { cls := .type "tuple", dict := dd, data := .seq items n, slots := sl } ∧ R (.ok (.ret (Value.ref l))) s) :=
  .of_wp fun prog w A R s h => by
    obtain ⟨hp, g, d, tk, os⟩ := s
    obtain ⟨hl, h⟩ := h
    have f1 := AutoSeq1.idx_int
    wp_walk using wpAny_loadPart' hl
    repeat (first
      | (refine wpAny_ite_false (decide_eq_false (by decide)) ?_; wp_walk using wpAny_loadPart' hl)
      | (refine wpAny_ite_true (decide_eq_true (by simp)) ?_; wp_walk using wpAny_loadPart' hl))
    exact ⟨_, rfl, h⟩
theorem tuple_mul0 (l : Addr) (items : Array Value) (n : Nat) (dd : Option Addr) (sl : Array (Option Value)) (u : Tok) (c1 : items.isEmpty = false) :
    Meets (Builtin.«tuple.__mul__» ⟨[.ref l, .int 0 u], []⟩) (fun _ R s => s.heap.get? l = some { cls := .type "tuple", dict := dd, data := .seq items n, slots := sl } ∧
      R (.ok (.ret (Value.ref s.heap.objs.size))) { s with heap := s.heap.push { cls := Value.type "tuple", data := Data.seq #[] }, toks := s.toks }) :=
  .of_wp fun prog w A R s h => by
    obtain ⟨hp, g, d, tk, os⟩ := s
    obtain ⟨hl, h⟩ := h
    have f1 := AutoSeq1.idx_int
    wp_walk using wpAny_loadPart' hl
    repeat (first
      | (refine wpAny_ite_false (decide_eq_false (by decide)) ?_; wp_walk using wpAny_loadPart' hl)
      | (refine wpAny_ite_false (decide_eq_false (by rw [c1]; decide)) ?_; wp_walk using wpAny_loadPart' hl)
      | (refine wpAny_ite_true (decide_eq_true (by simp)) ?_; wp_walk using wpAny_loadPart' hl))
    exact ⟨_, rfl, h⟩
def rRepA (K : PySem.W.Frag) : R2 := fun x y H Q => ∃ l k xs, x = .ref l ∧ y = .int k ∧ SqT K H l xs ∧ xs ≠ [] ∧ 0 ≤ k ∧ k ≤ 1000 ∧ xs.length ≤ 1000 ∧ (k = 1 → Q (.ref l) H) ∧ (k ≠ 1 → ∀ p, H p = none → Q (.ref p) (upd H p (.tup (List.replicate k.toNat xs).flatten)))
section
variable {X : Cx}
theorem op_repA : OpR X (binaryOp .Mult) (rRepA X.K) := by
  intro pins s σ H x y v u Q I rx ry h
  obtain ⟨l, k, xs, rfl, rfl, hT, hne, h1, h2, hz, q1, q⟩ := h
  by_cases k2 : 2 ≤ k
  · exact op_repT pins s σ H _ _ v u Q I rx ry ⟨l, k, xs, rfl, rfl, hT, hne, k2, h2, hz, q (by omega)⟩
  · cases rx
    obtain ⟨t, rfl⟩ := ry
    have hT0 := hT
    obtain ⟨its, r, ⟨⟨cls, dd, data, sl⟩, ho, hc, n, hd⟩, hs⟩ := I.tuple hT
    simp only at hc hd
    subst hc hd
    have hle : its.length = xs.length := r.length.symm
    have hn : its ≠ [] := fun e => hne (by
      rw [e] at hle
      exact List.eq_nil_of_length_eq_zero hle.symm)
    have hi : its.toArray.isEmpty = false := by
      cases its with
      | nil => exact absurd rfl hn
      | cons a b => rfl
    rcases (show k = 0 ∨ k = 1 by omega) with rfl | rfl
    · refine wpAny_binaryOp_repeat_ref (T := "tuple") (U := "int") (by decide) ⟨_, ho, rfl⟩ (fun s' => typeIs_int s' 0 t) noFill_tuple_mul F.fills_int_mul F.slot_int_rmul repeat_tuple F.slot_int_index.lookup
        (call_meets F.slot_int_rmul (typeIs_int s 0 t) F.entry_int_rmul (F.args_int_rmul_2 _ _) (int_rmul_tuple 0 t l its.toArray n dd sl)
          ⟨ho, rfl, ⟨_, ho, rfl⟩, call_meets F.slot_tuple_mul ⟨_, ho, rfl⟩ F.entry_tuple_mul (F.args_tuple_mul_2 _ _) (tuple_mul0 l its.toArray n dd sl t hi) ⟨ho, ?_⟩⟩)
      refine ⟨.ref s.heap.objs.size, _, I.laid (t' := s.toks) (o := .tup []) (fun b ob q => Heap.get?_push_of_some _ q) (Nat.le_refl _) ?_, rfl, q (by decide) _ (I.hok.fresh (Nat.le_refl _))⟩
      exact ⟨by simp [sizeLine_eq], [], .nil, IsTup.new _ _⟩
    · refine wpAny_binaryOp_repeat_ref (T := "tuple") (U := "int") (by decide) ⟨_, ho, rfl⟩ (fun s' => typeIs_int s' 1 t) noFill_tuple_mul F.fills_int_mul F.slot_int_rmul repeat_tuple F.slot_int_index.lookup
        (call_meets F.slot_int_rmul (typeIs_int s 1 t) F.entry_int_rmul (F.args_int_rmul_2 _ _) (int_rmul_tuple 1 t l its.toArray n dd sl)
          ⟨ho, rfl, ⟨_, ho, rfl⟩, call_meets F.slot_tuple_mul ⟨_, ho, rfl⟩ F.entry_tuple_mul (F.args_tuple_mul_2 _ _) (tuple_mul1 l its.toArray n dd sl t) ⟨ho, ?_⟩⟩)
      exact ⟨.ref l, H, I, rfl, q1 rfl⟩
end
end Gx
set_option linter.all false
namespace Lin
/-! rows as functions Nat → Int, round a prime p: spans, and what clearing by leads tells -/
def Cg (p a b : Int) : Prop := ∃ c, a = b + p * c
theorem Cg.rfl' {p a : Int} : Cg p a a := ⟨0, by simp⟩
theorem Cg.mod {p : Int} (a : Int) : Cg p (a % p) a := ⟨-(a / p), by have := Int.emod_def a p; rw [Int.mul_neg]; omega⟩
theorem Cg.add {p a b c d : Int} (h : Cg p a b) (k : Cg p c d) : Cg p (a + c) (b + d) := by
  obtain ⟨x, rfl⟩ := h
  obtain ⟨y, rfl⟩ := k
  exact ⟨x + y, by grind⟩
theorem Cg.sub {p a b c d : Int} (h : Cg p a b) (k : Cg p c d) : Cg p (a - c) (b - d) := by
  obtain ⟨x, rfl⟩ := h
  obtain ⟨y, rfl⟩ := k
  exact ⟨x - y, by grind⟩
theorem Cg.mul {p a b c d : Int} (h : Cg p a b) (k : Cg p c d) : Cg p (a * c) (b * d) := by
  obtain ⟨x, rfl⟩ := h
  obtain ⟨y, rfl⟩ := k
  exact ⟨b * y + x * d + p * x * y, by grind⟩
theorem Cg.trans {p a b c : Int} (h : Cg p a b) (k : Cg p b c) : Cg p a c := by
  obtain ⟨x, rfl⟩ := h
  obtain ⟨y, rfl⟩ := k
  exact ⟨x + y, by grind⟩
theorem Cg.symm {p a b : Int} (h : Cg p a b) : Cg p b a := by
  obtain ⟨x, rfl⟩ := h
  exact ⟨-x, by grind⟩
abbrev Vc := Nat → Int
/-- alike round p -/
def Eqv (p : Int) (u v : Vc) : Prop := ∀ i, Cg p (u i) (v i)
theorem Eqv.refl {p : Int} {u : Vc} : Eqv p u u := fun _ => Cg.rfl'
theorem Eqv.symm {p : Int} {u v : Vc} (h : Eqv p u v) : Eqv p v u := fun i => (h i).symm
theorem Eqv.trans {p : Int} {u v w : Vc} (h : Eqv p u v) (k : Eqv p v w) : Eqv p u w := fun i => (h i).trans (k i)
/-- the lot of some rows: whatever sums of multiples make -/
inductive Lot (p : Int) (R : Vc → Prop) : Vc → Prop
  | zero : Lot p R fun _ => 0
  | add {u v : Vc} (c : Int) : Lot p R u → R v → Lot p R fun i => u i + c * v i
  | eqv {u v : Vc} : Lot p R u → Eqv p u v → Lot p R v
theorem Lot.of {p : Int} {R : Vc → Prop} {v : Vc} (h : R v) : Lot p R v := .eqv (.add 1 .zero h) fun i => ⟨0, by grind⟩
theorem Lot.comb {p : Int} {R : Vc → Prop} {u v : Vc} (c : Int) (h : Lot p R u) (k : Lot p R v) : Lot p R fun i => u i + c * v i := by
  induction k with
  | zero => exact .eqv h fun i => ⟨0, by grind⟩
  | add d _ r ih => exact .eqv (.add (c * d) ih r) fun i => ⟨0, by grind⟩
  | eqv _ e ih => exact .eqv ih fun i => Cg.rfl'.add (Cg.rfl'.mul (e i))
/-- a lot in another -/
theorem Lot.sub {p : Int} {R S : Vc → Prop} (h : ∀ v, R v → Lot p S v) {u : Vc} (k : Lot p R u) : Lot p S u := by
  induction k with
  | zero => exact .zero
  | add d _ r ih => exact Lot.comb d ih (h _ r)
  | eqv _ e ih => exact .eqv ih e
/-- leads: each place's row has 1 there and 0 at the other places -/
structure Leads (p : Int) (L : List (Nat × Vc)) : Prop where
  self : ∀ x ∈ L, Cg p (x.2 x.1) 1
  other : ∀ x ∈ L, ∀ y ∈ L, x.1 ≠ y.1 → Cg p (x.2 y.1) 0
def rowsOf (L : List (Nat × Vc)) : Vc → Prop := fun v => ∃ x ∈ L, x.2 = v
/-- the sum of the leads by a row's own numbers at their places -/
def own (u : Vc) : List (Nat × Vc) → Vc
  | [] => fun _ => 0
  | x :: L => fun i => u x.1 * x.2 i + own u L i
theorem own_lot {p : Int} {u : Vc} : ∀ (L : List (Nat × Vc)) {R : Vc → Prop}, (∀ x ∈ L, R x.2) → Lot p R (own u L)
  | [], _, _ => .zero
  | x :: L, _, h => .eqv (Lot.comb (u x.1) (own_lot (u := u) L fun y hy => h y (List.mem_cons_of_mem _ hy)) (Lot.of (h x (by simp)))) fun i => ⟨0, by simp only [own]; grind⟩
theorem own_comb {u v : Vc} {c : Int} : ∀ (L : List (Nat × Vc)) (i : Nat), own (fun j => u j + c * v j) L i = own u L i + c * own v L i
  | [], _ => by simp [own]
  | x :: L, i => by
    simp only [own]
    rw [own_comb L i]
    grind
theorem own_eqv {p : Int} {u v : Vc} (h : Eqv p u v) : ∀ L : List (Nat × Vc), Eqv p (own u L) (own v L)
  | [], _ => Cg.rfl'
  | x :: L, i => ((h x.1).mul Cg.rfl').add (own_eqv h L i)
theorem own_none {p : Int} {u : Vc} : ∀ {L : List (Nat × Vc)}, (∀ x ∈ L, Cg p (u x.1) 0) → Eqv p (own u L) fun _ => 0
  | [], _, _ => Cg.rfl'
  | x :: L, h, i => by
    have a := ((h x (by simp)).mul (Cg.rfl' (a := x.2 i))).add (own_none (L := L) (fun y hy => h y (List.mem_cons_of_mem _ hy)) i)
    have e : (0 : Int) * x.2 i + 0 = 0 := by simp
    rw [e] at a
    exact a
theorem own_lead {p : Int} {L : List (Nat × Vc)} (h : Leads p L) (nd : (L.map (·.1)).Nodup) {x : Nat × Vc} (hx : x ∈ L) : Eqv p (own x.2 L) x.2 := by
  induction L with
  | nil => cases hx
  | cons y L ih =>
    have nd' := List.nodup_cons.mp (by simpa using nd : (y.1 :: L.map (·.1)).Nodup)
    have hL : Leads p L := ⟨fun z hz => h.self z (List.mem_cons_of_mem _ hz), fun z hz w hw => h.other z (List.mem_cons_of_mem _ hz) w (List.mem_cons_of_mem _ hw)⟩
    intro i
    show Cg p (x.2 y.1 * y.2 i + own x.2 L i) (x.2 i)
    rcases List.mem_cons.mp hx with rfl | hx'
    · have a := (h.self x (by simp)).mul (Cg.rfl' (a := x.2 i))
      have b := own_none (p := p) (u := x.2) (L := L) (fun z hz => h.other x (by simp) z (List.mem_cons_of_mem _ hz) fun e => nd'.1 (by rw [e]; exact List.mem_map.mpr ⟨z, hz, rfl⟩)) i
      have c := a.add b
      have e : (1 : Int) * x.2 i + 0 = x.2 i := by simp
      rw [e] at c
      exact c
    · have ne : x.1 ≠ y.1 := fun e => nd'.1 (by rw [← e]; exact List.mem_map.mpr ⟨x, hx', rfl⟩)
      have a := (h.other x hx y (by simp) ne).mul (Cg.rfl' (a := y.2 i))
      have b := ih hL nd'.2 hx' i
      have c := a.add b
      have e : (0 : Int) * y.2 i + x.2 i = x.2 i := by simp
      rw [e] at c
      exact c
/-- a row is in the lot of the leads just where it is the sum by its own numbers -/
theorem lot_iff {p : Int} {L : List (Nat × Vc)} (h : Leads p L) (nd : (L.map (·.1)).Nodup) {u : Vc} : Lot p (rowsOf L) u ↔ Eqv p (own u L) u := by
  constructor
  · intro k
    induction k with
    | zero => exact own_none fun _ _ => Cg.rfl'
    | @add a v c _ r ih =>
      obtain ⟨x, hx, rfl⟩ := r
      intro i
      rw [own_comb]
      exact (ih i).add (Cg.rfl'.mul (own_lead h nd hx i))
    | eqv _ e ih => exact ((own_eqv e L).symm.trans ih).trans e
  · intro k
    exact .eqv (own_lot L fun x hx => ⟨x, hx, rfl⟩) k
/-- what is left of a row behind clearing -/
def left (u : Vc) (L : List (Nat × Vc)) : Vc := fun i => u i - own u L i
theorem own_at {p : Int} {L : List (Nat × Vc)} (h : Leads p L) (nd : (L.map (·.1)).Nodup) {u : Vc} {x : Nat × Vc} (hx : x ∈ L) : Cg p (own u L x.1) (u x.1) := by
  induction L with
  | nil => cases hx
  | cons y L ih =>
    have nd' := List.nodup_cons.mp (by simpa using nd : (y.1 :: L.map (·.1)).Nodup)
    have hL : Leads p L := ⟨fun z hz => h.self z (List.mem_cons_of_mem _ hz), fun z hz w hw => h.other z (List.mem_cons_of_mem _ hz) w (List.mem_cons_of_mem _ hw)⟩
    show Cg p (u y.1 * y.2 x.1 + own u L x.1) (u x.1)
    rcases List.mem_cons.mp hx with rfl | hx'
    · have far : ∀ M : List (Nat × Vc), (∀ z ∈ M, Cg p (z.2 x.1) 0) → Cg p (own u M x.1) 0 := by
        intro M hM
        induction M with
        | nil => exact Cg.rfl'
        | cons z M ihM =>
          have a := ((Cg.rfl' (a := u z.1)).mul (hM z (by simp))).add (ihM fun w hw => hM w (List.mem_cons_of_mem _ hw))
          have e : u z.1 * 0 + 0 = 0 := by simp
          rw [e] at a
          exact a
      have a := ((Cg.rfl' (a := u x.1)).mul (h.self x (by simp))).add (far L fun z hz => h.other z (List.mem_cons_of_mem _ hz) x (by simp) fun e => nd'.1 (by rw [← e]; exact List.mem_map.mpr ⟨z, hz, rfl⟩))
      have e : u x.1 * 1 + 0 = u x.1 := by simp
      rw [e] at a
      exact a
    · have ne : y.1 ≠ x.1 := fun e => nd'.1 (by rw [e]; exact List.mem_map.mpr ⟨x, hx', rfl⟩)
      have a := ((Cg.rfl' (a := u y.1)).mul (h.other y (by simp) x hx ne)).add (ih hL nd'.2 hx')
      have e : u y.1 * 0 + u x.1 = u x.1 := by simp
      rw [e] at a
      exact a
theorem left_at {p : Int} {L : List (Nat × Vc)} (h : Leads p L) (nd : (L.map (·.1)).Nodup) {u : Vc} {x : Nat × Vc} (hx : x ∈ L) : Cg p (left u L x.1) 0 := by
  have a := (Cg.rfl' (a := u x.1)).sub (own_at h nd (u := u) hx)
  have e : u x.1 - u x.1 = 0 := by omega
  rw [e] at a
  exact a
/-- a row is in the lot of the leads just where nothing is left of it -/
theorem lot_left {p : Int} {L : List (Nat × Vc)} (h : Leads p L) (nd : (L.map (·.1)).Nodup) {u : Vc} : Lot p (rowsOf L) u ↔ Eqv p (left u L) fun _ => 0 := by
  rw [lot_iff h nd]
  constructor
  · intro k i
    have a := (Cg.rfl' (a := u i)).sub (k i)
    have e : u i - u i = 0 := by omega
    rw [e] at a
    exact a
  · intro k i
    have a := (Cg.rfl' (a := u i)).sub (k i)
    have e : u i - left u L i = own u L i := by
      show u i - (u i - own u L i) = own u L i
      omega
    have e2 : u i - 0 = u i := by omega
    rw [e, e2] at a
    exact a
/-- one more lead at q -/
def more (q : Nat) (l : Vc) (L : List (Nat × Vc)) : List (Nat × Vc) := L.map fun x => (x.1, fun i => x.2 i - x.2 q * l i)
theorem more_places {q : Nat} {l : Vc} {L : List (Nat × Vc)} : (more q l L).map (·.1) = L.map (·.1) := by
  unfold more
  rw [List.map_map]
  rfl
theorem leads_more {p : Int} {L : List (Nat × Vc)} {q : Nat} {l : Vc} (h : Leads p L) (nd : (L.map (·.1)).Nodup) (h1 : Cg p (l q) 1) (h0 : ∀ x ∈ L, Cg p (l x.1) 0) (hq : ∀ x ∈ L, x.1 ≠ q) : Leads p (more q l L ++ [(q, l)]) := by
  have key : ∀ x ∈ L, ∀ y ∈ L, Cg p (x.2 y.1 - x.2 q * l y.1) (x.2 y.1) := fun x _ y hy => by
    have a := (Cg.rfl' (a := x.2 y.1)).sub ((Cg.rfl' (a := x.2 q)).mul (h0 y hy))
    have e : x.2 y.1 - x.2 q * 0 = x.2 y.1 := by simp
    rw [e] at a
    exact a
  have atq : ∀ x ∈ L, Cg p (x.2 q - x.2 q * l q) 0 := fun x _ => by
    have a := (Cg.rfl' (a := x.2 q)).sub ((Cg.rfl' (a := x.2 q)).mul h1)
    have e : x.2 q - x.2 q * 1 = 0 := by rw [Int.mul_one]; omega
    rw [e] at a
    exact a
  refine ⟨fun x hx => ?_, fun x hx y hy ne => ?_⟩
  · rcases List.mem_append.mp hx with hx | hx
    · obtain ⟨z, hz, rfl⟩ := List.mem_map.mp hx
      exact (key z hz z hz).trans (h.self z hz)
    · rw [List.mem_singleton.mp hx]
      exact h1
  · rcases List.mem_append.mp hx with hx | hx
    · obtain ⟨z, hz, rfl⟩ := List.mem_map.mp hx
      rcases List.mem_append.mp hy with hy | hy
      · obtain ⟨w, hw, rfl⟩ := List.mem_map.mp hy
        exact (key z hz w hw).trans (h.other z hz w hw ne)
      · rw [List.mem_singleton.mp hy]
        exact atq z hz
    · rw [List.mem_singleton.mp hx] at ne ⊢
      rcases List.mem_append.mp hy with hy | hy
      · obtain ⟨w, hw, rfl⟩ := List.mem_map.mp hy
        exact h0 w hw
      · rw [List.mem_singleton.mp hy] at ne
        exact absurd rfl ne
/-- the lot with a new lead is that of the old leads and the row out of which it was made -/
theorem lot_more {p c d : Int} {L : List (Nat × Vc)} {q : Nat} {f l : Vc} (hl : Eqv p l fun i => c * left f L i) (hd : Cg p (d * c) 1) {u : Vc} : Lot p (rowsOf (more q l L ++ [(q, l)])) u ↔ Lot p (fun v => rowsOf L v ∨ v = f) u := by
  have lIn : Lot p (fun v => rowsOf L v ∨ v = f) l := by
    have a : Lot p (fun v => rowsOf L v ∨ v = f) (own f L) := own_lot L fun x hx => .inl ⟨x, hx, rfl⟩
    have b : Lot p (fun v => rowsOf L v ∨ v = f) f := Lot.of (.inr rfl)
    have e := Lot.comb c Lot.zero (Lot.comb (-1) b a)
    exact .eqv e fun i => Cg.trans ⟨0, by simp only [left]; grind⟩ (hl i).symm
  have newl : Lot p (rowsOf (more q l L ++ [(q, l)])) l := Lot.of ⟨(q, l), by simp, rfl⟩
  have old : ∀ x ∈ L, Lot p (rowsOf (more q l L ++ [(q, l)])) x.2 := fun x hx => by
    have a : Lot p (rowsOf (more q l L ++ [(q, l)])) (fun i => x.2 i - x.2 q * l i) := Lot.of ⟨(x.1, fun i => x.2 i - x.2 q * l i), List.mem_append.mpr (.inl (List.mem_map.mpr ⟨x, hx, rfl⟩)), rfl⟩
    exact .eqv (Lot.comb (x.2 q) a newl) fun i => ⟨0, by grind⟩
  constructor
  · refine Lot.sub fun v hv => ?_
    obtain ⟨x, hx, rfl⟩ := hv
    rcases List.mem_append.mp hx with hx | hx
    · obtain ⟨z, hz, rfl⟩ := List.mem_map.mp hx
      exact .eqv (Lot.comb (-(z.2 q)) (Lot.of (.inl ⟨z, hz, rfl⟩)) lIn) fun i => ⟨0, by grind⟩
    · rw [List.mem_singleton.mp hx]
      exact lIn
  · refine Lot.sub fun v hv => ?_
    rcases hv with ⟨x, hx, rfl⟩ | rfl
    · exact old x hx
    · have a : Lot p (rowsOf (more q l L ++ [(q, l)])) (own v L) := Lot.sub (R := rowsOf L) (fun w ⟨x, hx, e⟩ => e ▸ old x hx) (own_lot L fun x hx => ⟨x, hx, rfl⟩)
      refine .eqv (Lot.comb d a newl) fun i => ?_
      have e1 := (Cg.rfl' (p := p) (a := own v L i)).add ((Cg.rfl' (a := d)).mul (hl i))
      have e2 := (Cg.rfl' (p := p) (a := own v L i)).add (hd.mul (Cg.rfl' (a := left v L i)))
      have e3 : own v L i + d * (c * left v L i) = own v L i + d * c * left v L i := by grind
      have e4 : own v L i + 1 * left v L i = v i := by simp only [left]; grind
      rw [e3] at e1
      rw [e4] at e2
      exact e1.trans e2
/-- clearing, one lead behind another -/
def clear (u : Vc) : List (Nat × Vc) → Vc
  | [] => u
  | x :: L => clear (fun i => u i - u x.1 * x.2 i) L
theorem clear_eqv {p : Int} : ∀ (L : List (Nat × Vc)) {u v : Vc}, Eqv p u v → Eqv p (clear u L) (clear v L)
  | [], _, _, h => h
  | x :: L, _, _, h => clear_eqv L fun i => (h i).sub ((h x.1).mul Cg.rfl')
theorem clear_left {p : Int} : ∀ {L : List (Nat × Vc)} {u : Vc}, Leads p L → (L.map (·.1)).Nodup → Eqv p (clear u L) (left u L)
  | [], u, _, _ => fun i => ⟨0, by simp [clear, left, own]⟩
  | x :: L, u, h, nd => by
    have nd' := List.nodup_cons.mp (by simpa using nd : (x.1 :: L.map (·.1)).Nodup)
    have hL : Leads p L := ⟨fun z hz => h.self z (List.mem_cons_of_mem _ hz), fun z hz w hw => h.other z (List.mem_cons_of_mem _ hz) w (List.mem_cons_of_mem _ hw)⟩
    intro i
    have ih := clear_left (u := fun i => u i - u x.1 * x.2 i) hL nd'.2 i
    have e1 : own (fun j => u j - u x.1 * x.2 j) L i = own u L i - u x.1 * own x.2 L i := by
      have z := own_comb (u := u) (v := x.2) (c := -(u x.1)) L i
      have z2 : (fun j => u j + -(u x.1) * x.2 j) = fun j => u j - u x.1 * x.2 j := by
        funext j
        grind
      rw [z2] at z
      rw [z]
      grind
    have z : Cg p (own x.2 L i) 0 := own_none (fun y hy => h.other x (by simp) y (List.mem_cons_of_mem _ hy) fun e => nd'.1 (by rw [e]; exact List.mem_map.mpr ⟨y, hy, rfl⟩)) i
    have a : Cg p (u i - u x.1 * x.2 i - (own u L i - u x.1 * own x.2 L i)) (u i - u x.1 * x.2 i - (own u L i - u x.1 * 0)) := Cg.rfl'.sub (Cg.rfl'.sub (Cg.rfl'.mul z))
    have e2 : left (fun i => u i - u x.1 * x.2 i) L i = u i - u x.1 * x.2 i - (own u L i - u x.1 * own x.2 L i) := by
      show u i - u x.1 * x.2 i - own (fun j => u j - u x.1 * x.2 j) L i = _
      rw [e1]
    have e3 : left u (x :: L) i = u i - u x.1 * x.2 i - (own u L i - u x.1 * 0) := by
      show u i - (u x.1 * x.2 i + own u L i) = _
      grind
    show Cg p (clear (fun i => u i - u x.1 * x.2 i) L i) (left u (x :: L) i)
    rw [e3]
    rw [e2] at ih
    exact ih.trans a
/-- nothing stands ahead of a lead's place -/
def Ahead (p : Int) (L : List (Nat × Vc)) : Prop := ∀ x ∈ L, ∀ i, i < x.1 → Cg p (x.2 i) 0
theorem own_zero {p : Int} {u : Vc} {i : Nat} : ∀ {L : List (Nat × Vc)}, (∀ y ∈ L, Cg p (u y.1) 0 ∨ Cg p (y.2 i) 0) → Cg p (own u L i) 0
  | [], _ => Cg.rfl'
  | y :: L, h => by
    have b := own_zero (L := L) fun z hz => h z (List.mem_cons_of_mem _ hz)
    show Cg p (u y.1 * y.2 i + own u L i) 0
    have e0 : (0 : Int) + 0 = 0 := rfl
    rw [← e0]
    refine Cg.add ?_ b
    rcases h y (by simp) with k | k
    · have a := k.mul (Cg.rfl' (a := y.2 i))
      rw [Int.zero_mul] at a
      exact a
    · have a := (Cg.rfl' (a := u y.1)).mul k
      rw [Int.mul_zero] at a
      exact a
theorem one_zero {p : Int} (h : 1 < p) : ¬ Cg p 1 0 := by
  rintro ⟨c, e⟩
  have e2 : (1 : Int) = p * c := by omega
  have d : p ∣ 1 := ⟨c, e2⟩
  have := Int.le_of_dvd (by decide) d
  omega
theorem place_in {p : Int} {L M : List (Nat × Vc)} (h1 : 1 < p) (hL : Leads p L) (aL : Ahead p L) (hM : Leads p M) (aM : Ahead p M) (ndM : (M.map (·.1)).Nodup) (sub : ∀ x ∈ L, Lot p (rowsOf M) x.2) {x : Nat × Vc} (hx : x ∈ L) : ∃ y ∈ M, y.1 = x.1 := by
  refine Classical.byContradiction fun no => ?_
  have k := (lot_iff hM ndM).mp (sub x hx) x.1
  have z : Cg p (own x.2 M x.1) 0 := own_zero fun y hy => by
    rcases Nat.lt_trichotomy y.1 x.1 with l | l | l
    · exact .inl (aL x hx y.1 l)
    · exact absurd ⟨y, hy, l⟩ no
    · exact .inr (aM y hy x.1 l)
  exact one_zero h1 (((hL.self x hx).symm.trans k.symm).trans z)
/-- plain sets of one lot have the same rows at the same places -/
theorem plain_same {p : Int} {L M : List (Nat × Vc)} (h1 : 1 < p) (hL : Leads p L) (aL : Ahead p L) (ndL : (L.map (·.1)).Nodup) (hM : Leads p M) (aM : Ahead p M) (ndM : (M.map (·.1)).Nodup) (sub : ∀ x ∈ L, Lot p (rowsOf M) x.2) (sup : ∀ y ∈ M, Lot p (rowsOf L) y.2)
    {x y : Nat × Vc} (hx : x ∈ L) (hy : y ∈ M) (e : y.1 = x.1) : Eqv p x.2 y.2 := by
  have k := (lot_iff hM ndM).mp (sub x hx)
  have k2 := own_lead hM ndM hy
  refine fun i => ((k i).symm.trans ?_).trans (k2 i)
  have d : ∀ z ∈ M, Cg p (x.2 z.1 - y.2 z.1) 0 := fun z hz => by
    by_cases e2 : z.1 = x.1
    · have a := (hL.self x hx).sub (hM.self y hy)
      rw [e2]
      rw [e] at a
      exact a
    · obtain ⟨w, hw, ew⟩ := place_in h1 hM aM hL aL ndL sup hz
      have a := (hL.other x hx w hw fun q => e2 (by rw [← ew, q])).sub (hM.other y hy z hz fun q => e2 (by rw [← q, e]))
      rw [ew] at a
      exact a
  have o := own_none (u := fun j => x.2 j - y.2 j) d i
  have e3 : own (fun j => x.2 j - y.2 j) M i = own x.2 M i - own y.2 M i := by
    have z := own_comb (u := x.2) (v := y.2) (c := -1) M i
    have z2 : (fun j => x.2 j + -1 * y.2 j) = fun j => x.2 j - y.2 j := by
      funext j
      grind
    rw [z2] at z
    rw [z]
    grind
  have o2 : Cg p (own x.2 M i - own y.2 M i) 0 := by
    rw [← e3]
    exact o
  have a := o2.add (Cg.rfl' (a := own y.2 M i))
  have e4 : own x.2 M i - own y.2 M i + own y.2 M i = own x.2 M i := by omega
  rw [e4, Int.zero_add] at a
  exact a
/-! ### lists of numbers as such rows -/
def vec (us : List Int) : Vc := fun i => us.getD i 0
def vecs (L : List (Nat × List Int)) : List (Nat × Vc) := L.map fun x => (x.1, vec x.2)
def Rg (p : Int) (us : List Int) : Prop := ∀ u ∈ us, 0 ≤ u ∧ u < p
theorem vec_some {us : List Int} {i : Nat} {u : Int} (h : us[i]? = some u) : vec us i = u := by
  show us.getD i 0 = u
  rw [List.getD_eq_getElem?_getD, h]
  rfl
theorem vec_out {us : List Int} {i : Nat} (h : us.length ≤ i) : vec us i = 0 := by
  show us.getD i 0 = 0
  rw [List.getD_eq_getElem?_getD, List.getElem?_eq_none h]
  rfl
theorem Rg.vec {p : Int} {us : List Int} (p0 : 0 < p) (h : Rg p us) (i : Nat) : 0 ≤ vec us i ∧ vec us i < p := by
  by_cases hi : i < us.length
  · rw [vec_some (List.getElem?_eq_getElem hi)]
    exact h _ (List.getElem_mem hi)
  · rw [vec_out (by omega)]
    omega
theorem cg_eq {p a b : Int} (ha : 0 ≤ a ∧ a < p) (hb : 0 ≤ b ∧ b < p) (h : Cg p a b) : a = b := by
  obtain ⟨c, rfl⟩ := h
  have e : (b + p * c) % p = b % p := Int.add_mul_emod_self_left b p c
  rw [Int.emod_eq_of_lt ha.1 ha.2, Int.emod_eq_of_lt hb.1 hb.2] at e
  exact e
theorem list_eq {p : Int} {us vs : List Int} (p0 : 0 < p) (hl : us.length = vs.length) (hu : Rg p us) (hv : Rg p vs) (e : Eqv p (vec us) (vec vs)) : us = vs := by
  apply List.ext_getElem hl
  intro i h1 h2
  have a := cg_eq (hu.vec p0 i) (hv.vec p0 i) (e i)
  rw [vec_some (List.getElem?_eq_getElem h1), vec_some (List.getElem?_eq_getElem h2)] at a
  exact a
theorem zero_iff {p : Int} {us : List Int} (p0 : 0 < p) (hu : Rg p us) : (∀ x ∈ us, x = 0) ↔ Eqv p (vec us) fun _ => 0 := by
  constructor
  · intro h i
    by_cases hi : i < us.length
    · rw [vec_some (List.getElem?_eq_getElem hi), h _ (List.getElem_mem hi)]
      exact Cg.rfl'
    · rw [vec_out (by omega)]
      exact Cg.rfl'
  · intro h x hx
    obtain ⟨i, hi, rfl⟩ := List.mem_iff_getElem.mp hx
    have a := cg_eq (hu.vec p0 i) ⟨by decide, p0⟩ (h i)
    rw [vec_some (List.getElem?_eq_getElem hi)] at a
    exact a
def lessZ (p n : Int) (us vs : List Int) : List Int := List.zipWith (fun x y => (x - n * y) % p) us vs
def lessL (p : Int) (us : List Int) (n : Int) (vs : List Int) : List Int := if n = 0 then us else lessZ p n us vs
theorem less_len {p n : Int} {us vs : List Int} (h : us.length = vs.length) : (lessL p us n vs).length = us.length := by
  unfold lessL
  split
  · rfl
  · unfold lessZ
    rw [List.length_zipWith]
    omega
theorem less_rg {p n : Int} {us vs : List Int} (p0 : 0 < p) (h : Rg p us) : Rg p (lessL p us n vs) := by
  unfold lessL
  split
  · exact h
  · intro u hu
    unfold lessZ at hu
    obtain ⟨i, hi, rfl⟩ := List.mem_iff_getElem.mp hu
    rw [List.getElem_zipWith]
    exact ⟨Int.emod_nonneg _ (by omega), Int.emod_lt_of_pos _ p0⟩
theorem vec_less {p n : Int} {us vs : List Int} (h : us.length = vs.length) : Eqv p (vec (lessL p us n vs)) fun i => vec us i - n * vec vs i := by
  intro i
  show Cg p (vec (lessL p us n vs) i) (vec us i - n * vec vs i)
  unfold lessL
  split
  · rename_i e
    rw [e]
    exact ⟨0, by simp⟩
  · by_cases hi : i < us.length
    · have h2 : i < vs.length := by omega
      rw [vec_some (us := us) (List.getElem?_eq_getElem hi), vec_some (us := vs) (List.getElem?_eq_getElem h2)]
      have e : (lessZ p n us vs)[i]? = some ((us[i] - n * vs[i]) % p) := by
        unfold lessZ
        rw [List.getElem?_zipWith, List.getElem?_eq_getElem hi, List.getElem?_eq_getElem h2]
      rw [vec_some e]
      exact Cg.mod _
    · have e : (lessZ p n us vs).length ≤ i := by
        unfold lessZ
        rw [List.length_zipWith]
        omega
      rw [vec_out e, vec_out (us := us) (by omega), vec_out (us := vs) (by omega)]
      exact ⟨0, by simp⟩
def clearL (p : Int) (us : List Int) : List (Nat × List Int) → List Int
  | [] => us
  | x :: L => clearL p (lessL p us (us.getD x.1 0) x.2) L
theorem clear_snoc {p : Int} {x : Nat × List Int} : ∀ (L : List (Nat × List Int)) (us : List Int), clearL p us (L ++ [x]) = lessL p (clearL p us L) ((clearL p us L).getD x.1 0) x.2
  | [], _ => rfl
  | y :: L, us => clear_snoc L _
theorem clear_len {p : Int} {n : Nat} : ∀ (L : List (Nat × List Int)) {us : List Int}, (∀ x ∈ L, x.2.length = n) → us.length = n → (clearL p us L).length = n
  | [], _, _, h => h
  | x :: L, us, hL, h => clear_len L (fun y hy => hL y (List.mem_cons_of_mem _ hy)) (by rw [less_len (by rw [h, hL x (by simp)])]; exact h)
theorem clear_rg {p : Int} (p0 : 0 < p) : ∀ (L : List (Nat × List Int)) {us : List Int}, Rg p us → Rg p (clearL p us L)
  | [], _, h => h
  | _ :: L, _, h => clear_rg p0 L (less_rg p0 h)
theorem vec_clear {p : Int} {n : Nat} : ∀ (L : List (Nat × List Int)) {us : List Int}, (∀ x ∈ L, x.2.length = n) → us.length = n → Eqv p (vec (clearL p us L)) (clear (vec us) (vecs L))
  | [], _, _, _ => Eqv.refl
  | x :: L, us, hL, h => by
    have e : us.length = x.2.length := by rw [h, hL x (by simp)]
    refine (vec_clear L (fun y hy => hL y (List.mem_cons_of_mem _ hy)) (by rw [less_len e]; exact h)).trans ?_
    exact clear_eqv _ (vec_less e)
/-- the rows that a list of lists of numbers spans -/
def spn (fs : List (List Int)) : Vc → Prop := fun v => ∃ f ∈ fs, vec f = v
structure PL (p : Int) (n : Nat) (fs : List (List Int)) (L : List (Nat × List Int)) : Prop where
  len : ∀ x ∈ L, x.2.length = n
  rg : ∀ x ∈ L, Rg p x.2
  plc : ∀ x ∈ L, x.1 < n
  nd : (L.map (·.1)).Nodup
  leads : Leads p (vecs L)
  ahead : Ahead p (vecs L)
  lot : ∀ u, Lot p (rowsOf (vecs L)) u ↔ Lot p (spn fs) u
theorem vecs_places {L : List (Nat × List Int)} : (vecs L).map (·.1) = L.map (·.1) := by
  unfold vecs
  rw [List.map_map]
  rfl
theorem mem_vecs {L : List (Nat × List Int)} {y : Nat × Vc} : y ∈ vecs L ↔ ∃ x ∈ L, (x.1, vec x.2) = y := List.mem_map
theorem PL.ndv {p : Int} {n : Nat} {fs : List (List Int)} {L : List (Nat × List Int)} (h : PL p n fs L) : ((vecs L).map (·.1)).Nodup := by
  rw [vecs_places]
  exact h.nd
theorem PL.nil {p : Int} {n : Nat} : PL p n [] [] := by
  refine ⟨fun x hx => by simp at hx, fun x hx => by simp at hx, fun x hx => by simp at hx, by simp, ⟨fun x hx => by simp [vecs] at hx, fun x hx => by simp [vecs] at hx⟩, fun x hx => by simp [vecs] at hx, fun u => ?_⟩
  have e : (rowsOf (vecs [])) = spn [] := by
    funext v
    simp [rowsOf, vecs, spn]
  rw [e]
theorem Lot.iff {p : Int} {R S : Vc → Prop} (h1 : ∀ v, R v → Lot p S v) (h2 : ∀ v, S v → Lot p R v) (u : Vc) : Lot p R u ↔ Lot p S u := ⟨Lot.sub h1, Lot.sub h2⟩
theorem PL.zero {p : Int} {n : Nat} {fs : List (List Int)} {L : List (Nat × List Int)} (p0 : 0 < p) (h : PL p n fs L) {f : List Int} (hl : f.length = n) (hr : Rg p f) : (∀ x ∈ clearL p f L, x = 0) ↔ Lot p (spn fs) (vec f) := by
  rw [zero_iff p0 (clear_rg p0 L hr), ← h.lot, lot_left h.leads h.ndv]
  have a := vec_clear (p := p) L h.len hl
  have b := clear_left (u := vec f) h.leads h.ndv
  exact ⟨fun k => (b.symm.trans a.symm).trans k, fun k => (a.trans b).trans k⟩
theorem spn_snoc {fs : List (List Int)} {f : List Int} {v : Vc} : spn (fs ++ [f]) v ↔ spn fs v ∨ v = vec f := by
  constructor
  · rintro ⟨g, hg, rfl⟩
    rcases List.mem_append.mp hg with hg | hg
    · exact .inl ⟨g, hg, rfl⟩
    · rw [List.mem_singleton.mp hg]
      exact .inr rfl
  · rintro (⟨g, hg, rfl⟩ | rfl)
    · exact ⟨g, by simp [hg], rfl⟩
    · exact ⟨f, by simp, rfl⟩
theorem PL.skip {p : Int} {n : Nat} {fs : List (List Int)} {L : List (Nat × List Int)} (p0 : 0 < p) (h : PL p n fs L) {f : List Int} (hl : f.length = n) (hr : Rg p f) (z : ∀ x ∈ clearL p f L, x = 0) : PL p n (fs ++ [f]) L := by
  refine ⟨h.len, h.rg, h.plc, h.nd, h.leads, h.ahead, fun u => (h.lot u).trans ?_⟩
  have k := (h.zero p0 hl hr).mp z
  refine Lot.iff (fun v hv => Lot.of (spn_snoc.mpr (.inl hv))) (fun v hv => ?_) u
  rcases spn_snoc.mp hv with hv | rfl
  · exact Lot.of hv
  · exact k
def moreL (p : Int) (q : Nat) (l : List Int) (L : List (Nat × List Int)) : List (Nat × List Int) := L.map fun x => (x.1, lessL p x.2 (x.2.getD q 0) l)
def scaled (p c : Int) (us : List Int) : List Int := us.map fun x => c * x % p
theorem vec_scaled {p c : Int} {us : List Int} : Eqv p (vec (scaled p c us)) fun i => c * vec us i := by
  intro i
  show Cg p (vec (scaled p c us) i) (c * vec us i)
  by_cases hi : i < us.length
  · have e : (scaled p c us)[i]? = some (c * us[i] % p) := by
      unfold scaled
      rw [List.getElem?_map, List.getElem?_eq_getElem hi]
      rfl
    rw [vec_some e, vec_some (List.getElem?_eq_getElem hi)]
    exact Cg.mod _
  · rw [vec_out (us := us) (by omega), vec_out (by unfold scaled; rw [List.length_map]; omega)]
    exact ⟨0, by simp⟩
theorem scaled_rg {p c : Int} {us : List Int} (p0 : 0 < p) : Rg p (scaled p c us) := by
  intro u hu
  obtain ⟨x, _, rfl⟩ := List.mem_map.mp hu
  exact ⟨Int.emod_nonneg _ (by omega), Int.emod_lt_of_pos _ p0⟩
/-- leads that are alike round p -/
theorem Leads.eqv {p : Int} {L M : List (Nat × Vc)} (h : Leads p L) (e : ∀ y ∈ M, ∃ x ∈ L, x.1 = y.1 ∧ Eqv p x.2 y.2) : Leads p M := by
  refine ⟨fun y hy => ?_, fun y hy z hz ne => ?_⟩
  · obtain ⟨x, hx, e1, e2⟩ := e y hy
    have a := h.self x hx
    rw [← e1]
    exact (e2 x.1).symm.trans a
  · obtain ⟨x, hx, e1, e2⟩ := e y hy
    obtain ⟨w, hw, e3, _⟩ := e z hz
    rw [← e1, ← e3] at ne
    have a := h.other x hx w hw ne
    rw [← e3]
    exact (e2 w.1).symm.trans a
theorem rows_eqv {p : Int} {L M : List (Nat × Vc)} (e : ∀ y ∈ M, ∃ x ∈ L, x.1 = y.1 ∧ Eqv p x.2 y.2) {v : Vc} (hv : rowsOf M v) : Lot p (rowsOf L) v := by
  obtain ⟨y, hy, rfl⟩ := hv
  obtain ⟨x, hx, _, e2⟩ := e y hy
  exact .eqv (Lot.of ⟨x, hx, rfl⟩) e2
theorem PL.step {p : Int} {n : Nat} {fs : List (List Int)} {L : List (Nat × List Int)} (p1 : 1 < p) (h : PL p n fs L) {f : List Int} (hl : f.length = n) (hr : Rg p f) {q : Nat} {u c : Int} (hu : (clearL p f L)[q]? = some u) (u0 : u ≠ 0) (ah : ∀ j, j < q → (clearL p f L)[j]? = some 0) (hc : c * u % p = 1) :
    PL p n (fs ++ [f]) (moreL p q (scaled p c (clearL p f L)) L ++ [(q, scaled p c (clearL p f L))]) := by
  have p0 : 0 < p := by omega
  have cl := clear_len (p := p) L h.len hl
  have cr := clear_rg p0 L hr
  have hq : q < n := by
    have := (List.getElem?_eq_some_iff.mp hu).1
    omega
  have sl : (scaled p c (clearL p f L)).length = n := by
    unfold scaled
    rw [List.length_map]
    exact cl
  have el : Eqv p (vec (clearL p f L)) (left (vec f) (vecs L)) := (vec_clear L h.len hl).trans (clear_left h.leads h.ndv)
  have lz : Eqv p (vec (scaled p c (clearL p f L))) fun i => c * left (vec f) (vecs L) i := fun i => (vec_scaled i).trans (Cg.rfl'.mul (el i))
  have ur : 0 ≤ u ∧ u < p := cr u (List.mem_of_getElem? hu)
  have vu : vec (clearL p f L) q = u := vec_some hu
  have h1 : Cg p (vec (scaled p c (clearL p f L)) q) 1 := by
    have a : Cg p (vec (scaled p c (clearL p f L)) q) (c * vec (clearL p f L) q) := vec_scaled q
    rw [vu] at a
    refine a.trans ?_
    have b := Cg.mod (p := p) (c * u)
    rw [hc] at b
    exact b.symm
  have h0 : ∀ x ∈ vecs L, Cg p (vec (scaled p c (clearL p f L)) x.1) 0 := fun x hx => by
    have a := (lz x.1).trans (Cg.rfl'.mul (left_at h.leads h.ndv hx))
    rw [Int.mul_zero] at a
    exact a
  have hne : ∀ x ∈ vecs L, x.1 ≠ q := fun x hx e => by
    have a := h0 x hx
    rw [e] at a
    exact one_zero p1 (h1.symm.trans a)
  have ld := leads_more h.leads h.ndv h1 h0 hne
  have al : ∀ y ∈ vecs (moreL p q (scaled p c (clearL p f L)) L ++ [(q, scaled p c (clearL p f L))]), ∃ x ∈ more q (vec (scaled p c (clearL p f L))) (vecs L) ++ [(q, vec (scaled p c (clearL p f L)))], x.1 = y.1 ∧ Eqv p x.2 y.2 := by
    intro y hy
    obtain ⟨z, hz, rfl⟩ := mem_vecs.mp hy
    rcases List.mem_append.mp hz with hz | hz
    · obtain ⟨x, hx, rfl⟩ := List.mem_map.mp hz
      refine ⟨(x.1, fun i => vec x.2 i - vec x.2 q * vec (scaled p c (clearL p f L)) i), List.mem_append.mpr (.inl (List.mem_map.mpr ⟨(x.1, vec x.2), mem_vecs.mpr ⟨x, hx, rfl⟩, rfl⟩)), rfl, ?_⟩
      exact (vec_less (by rw [sl, h.len x hx])).symm
    · rw [List.mem_singleton.mp hz]
      exact ⟨_, List.mem_append.mpr (.inr (List.mem_singleton.mpr rfl)), rfl, Eqv.refl⟩
  have al2 : ∀ x ∈ more q (vec (scaled p c (clearL p f L))) (vecs L) ++ [(q, vec (scaled p c (clearL p f L)))], ∃ y ∈ vecs (moreL p q (scaled p c (clearL p f L)) L ++ [(q, scaled p c (clearL p f L))]), y.1 = x.1 ∧ Eqv p y.2 x.2 := by
    intro x hx
    rcases List.mem_append.mp hx with hx | hx
    · obtain ⟨z, hz, rfl⟩ := List.mem_map.mp hx
      obtain ⟨y, hy, rfl⟩ := mem_vecs.mp hz
      refine ⟨_, mem_vecs.mpr ⟨(y.1, lessL p y.2 (y.2.getD q 0) (scaled p c (clearL p f L))), List.mem_append.mpr (.inl (List.mem_map.mpr ⟨y, hy, rfl⟩)), rfl⟩, rfl, ?_⟩
      exact vec_less (by rw [sl, h.len y hy])
    · rw [List.mem_singleton.mp hx]
      exact ⟨_, mem_vecs.mpr ⟨_, List.mem_append.mpr (.inr (List.mem_singleton.mpr rfl)), rfl⟩, rfl, Eqv.refl⟩
  refine ⟨fun x hx => ?_, fun x hx => ?_, fun x hx => ?_, ?_, ld.eqv al, ?_, fun v => ?_⟩
  · rcases List.mem_append.mp hx with hx | hx
    · obtain ⟨y, hy, rfl⟩ := List.mem_map.mp hx
      show (lessL p y.2 (y.2.getD q 0) (scaled p c (clearL p f L))).length = n
      rw [less_len (by rw [sl, h.len y hy])]
      exact h.len y hy
    · rw [List.mem_singleton.mp hx]
      exact sl
  · rcases List.mem_append.mp hx with hx | hx
    · obtain ⟨y, hy, rfl⟩ := List.mem_map.mp hx
      exact less_rg p0 (h.rg y hy)
    · rw [List.mem_singleton.mp hx]
      exact scaled_rg p0
  · rcases List.mem_append.mp hx with hx | hx
    · obtain ⟨y, hy, rfl⟩ := List.mem_map.mp hx
      exact h.plc y hy
    · rw [List.mem_singleton.mp hx]
      exact hq
  · rw [List.map_append]
    have e : (moreL p q (scaled p c (clearL p f L)) L).map (·.1) = L.map (·.1) := by
      unfold moreL
      rw [List.map_map]
      rfl
    rw [e]
    refine List.nodup_append.mpr ⟨h.nd, by simp, fun a ha b hb => ?_⟩
    obtain ⟨x, hx, rfl⟩ := List.mem_map.mp ha
    have hb' : b = q := by simpa using hb
    rw [hb']
    exact hne (x.1, vec x.2) (mem_vecs.mpr ⟨x, hx, rfl⟩)
  · intro y hy i hi
    obtain ⟨x, hx, e1, e2⟩ := al y hy
    refine (e2 i).symm.trans ?_
    rw [← e1] at hi
    have la : ∀ j, j < q → Cg p (vec (scaled p c (clearL p f L)) j) 0 := fun j hj => by
      have a : Cg p (vec (scaled p c (clearL p f L)) j) (c * vec (clearL p f L) j) := vec_scaled j
      rw [vec_some (ah j hj), Int.mul_zero] at a
      exact a
    rcases List.mem_append.mp hx with hx | hx
    · obtain ⟨z, hz, rfl⟩ := List.mem_map.mp hx
      show Cg p (z.2 i - z.2 q * vec (scaled p c (clearL p f L)) i) 0
      have hi : i < z.1 := hi
      have a := h.ahead z hz i hi
      have b : Cg p (z.2 q * vec (scaled p c (clearL p f L)) i) 0 := by
        by_cases hh : q < z.1
        · have b := (h.ahead z hz q hh).mul (Cg.rfl' (a := vec (scaled p c (clearL p f L)) i))
          rw [Int.zero_mul] at b
          exact b
        · have b := (Cg.rfl' (a := z.2 q)).mul (la i (by omega))
          rw [Int.mul_zero] at b
          exact b
      exact a.sub b
    · rw [List.mem_singleton.mp hx] at hi ⊢
      exact la i hi
  · have k := lot_more (q := q) (f := vec f) (L := vecs L) (c := c) (d := u) lz (by
      have b := Cg.mod (p := p) (c * u)
      rw [hc] at b
      rw [Int.mul_comm]
      exact b.symm) (u := v)
    have k1 : Lot p (rowsOf (vecs (moreL p q (scaled p c (clearL p f L)) L ++ [(q, scaled p c (clearL p f L))]))) v ↔ Lot p (rowsOf (more q (vec (scaled p c (clearL p f L))) (vecs L) ++ [(q, vec (scaled p c (clearL p f L)))])) v := Lot.iff (fun w hw => rows_eqv al hw) (fun w hw => rows_eqv al2 hw) v
    refine (k1.trans k).trans (Lot.iff (fun w hw => ?_) (fun w hw => ?_) v)
    · rcases hw with hw | rfl
      · exact Lot.sub (fun x hx => Lot.of (spn_snoc.mpr (.inl hx))) ((h.lot w).mp (Lot.of hw))
      · exact Lot.of (spn_snoc.mpr (.inr rfl))
    · rcases spn_snoc.mp hw with hw | rfl
      · exact Lot.sub (fun x hx => Lot.of (.inl hx)) ((h.lot w).mpr (Lot.of hw))
      · exact Lot.of (.inr rfl)
theorem PL.perm {p : Int} {n : Nat} {fs : List (List Int)} {L M : List (Nat × List Int)} (h : PL p n fs L) (e : L.Perm M) : PL p n fs M := by
  have ev : (vecs L).Perm (vecs M) := e.map _
  refine ⟨fun x hx => h.len x (e.mem_iff.mpr hx), fun x hx => h.rg x (e.mem_iff.mpr hx), fun x hx => h.plc x (e.mem_iff.mpr hx), (e.map (·.1)).nodup_iff.mp h.nd, ⟨fun x hx => h.leads.self x (ev.mem_iff.mpr hx), fun x hx y hy => h.leads.other x (ev.mem_iff.mpr hx) y (ev.mem_iff.mpr hy)⟩, fun x hx => h.ahead x (ev.mem_iff.mpr hx), fun u => ?_⟩
  rw [← h.lot]
  have e2 : rowsOf (vecs M) = rowsOf (vecs L) := by
    funext v
    apply propext
    exact ⟨fun ⟨x, hx, e⟩ => ⟨x, ev.mem_iff.mpr hx, e⟩, fun ⟨x, hx, e⟩ => ⟨x, ev.mem_iff.mp hx, e⟩⟩
  rw [e2]
/-- rising places -/
def Up (L : List (Nat × List Int)) : Prop := (L.map (·.1)).Pairwise (· < ·)
theorem up_ext : ∀ {xs ys : List Nat}, xs.Pairwise (· < ·) → ys.Pairwise (· < ·) → (∀ a, a ∈ xs ↔ a ∈ ys) → xs = ys
  | [], [], _, _, _ => rfl
  | [], y :: ys, _, _, h => by have := (h y).mpr (by simp); simp at this
  | x :: xs, [], _, _, h => by have := (h x).mp (by simp); simp at this
  | x :: xs, y :: ys, hx, hy, h => by
    have hx' := List.pairwise_cons.mp hx
    have hy' := List.pairwise_cons.mp hy
    have e : x = y := by
      rcases List.mem_cons.mp ((h x).mp (by simp)) with e | e
      · exact e
      · rcases List.mem_cons.mp ((h y).mpr (by simp)) with e2 | e2
        · exact e2.symm
        · have := hx'.1 y e2
          have := hy'.1 x e
          omega
    subst e
    rw [up_ext hx'.2 hy'.2 fun a => ?_]
    constructor
    · intro ha
      rcases List.mem_cons.mp ((h a).mp (List.mem_cons_of_mem _ ha)) with e | e
      · have := hx'.1 a ha
        omega
      · exact e
    · intro ha
      rcases List.mem_cons.mp ((h a).mpr (List.mem_cons_of_mem _ ha)) with e | e
      · have := hy'.1 a ha
        omega
      · exact e
/-- plain sets of one lot are one -/
theorem PL.one {p : Int} {n : Nat} {fs gs : List (List Int)} {L M : List (Nat × List Int)} (p1 : 1 < p) (hL : PL p n fs L) (hM : PL p n gs M) (uL : Up L) (uM : Up M) (e : ∀ u, Lot p (spn fs) u ↔ Lot p (spn gs) u) : L = M := by
  have p0 : 0 < p := by omega
  have sub : ∀ x ∈ vecs L, Lot p (rowsOf (vecs M)) x.2 := fun x hx => (hM.lot _).mpr ((e _).mp ((hL.lot _).mp (Lot.of ⟨x, hx, rfl⟩)))
  have sup : ∀ x ∈ vecs M, Lot p (rowsOf (vecs L)) x.2 := fun x hx => (hL.lot _).mpr ((e _).mpr ((hM.lot _).mp (Lot.of ⟨x, hx, rfl⟩)))
  have pl : L.map (·.1) = M.map (·.1) := by
    apply up_ext uL uM
    intro a
    rw [← vecs_places, ← vecs_places (L := M)]
    constructor
    · intro ha
      obtain ⟨x, hx, rfl⟩ := List.mem_map.mp ha
      obtain ⟨y, hy, ey⟩ := place_in p1 hL.leads hL.ahead hM.leads hM.ahead hM.ndv sub hx
      exact List.mem_map.mpr ⟨y, hy, ey⟩
    · intro ha
      obtain ⟨x, hx, rfl⟩ := List.mem_map.mp ha
      obtain ⟨y, hy, ey⟩ := place_in p1 hM.leads hM.ahead hL.leads hL.ahead hL.ndv sup hx
      exact List.mem_map.mpr ⟨y, hy, ey⟩
  have ll : L.length = M.length := by
    have := congrArg List.length pl
    simpa using this
  apply List.ext_getElem ll
  intro i h1 h2
  have ei : (L[i]).1 = (M[i]).1 := by
    have a : (L.map (·.1))[i]? = (M.map (·.1))[i]? := by rw [pl]
    rw [List.getElem?_map, List.getElem?_map, List.getElem?_eq_getElem h1, List.getElem?_eq_getElem h2] at a
    exact Option.some.inj a
  have m1 := List.getElem_mem h1
  have m2 := List.getElem_mem h2
  have k := plain_same p1 hL.leads hL.ahead hL.ndv hM.leads hM.ahead hM.ndv sub sup (mem_vecs.mpr ⟨_, m1, rfl⟩) (mem_vecs.mpr ⟨_, m2, rfl⟩) ei.symm
  have e2 : (L[i]).2 = (M[i]).2 := list_eq p0 (by rw [hL.len _ m1, hM.len _ m2]) (hL.rg _ m1) (hM.rg _ m2) k
  exact Prod.ext ei e2
/-! ### rows of pairs -/
def flatR (r : List (Int × Int)) : List Int := r.flatMap fun u => [u.1, u.2]
theorem flat_cons (u : Int × Int) (r : List (Int × Int)) : flatR (u :: r) = u.1 :: u.2 :: flatR r := rfl
theorem flat_len : ∀ r : List (Int × Int), (flatR r).length = 2 * r.length
  | [] => rfl
  | u :: r => by
    rw [flat_cons, List.length_cons, List.length_cons, flat_len r, List.length_cons]
    omega
theorem flat_snoc (r : List (Int × Int)) (u : Int × Int) : flatR (r ++ [u]) = flatR r ++ [u.1, u.2] := by
  unfold flatR
  rw [List.flatMap_append]
  rfl
theorem flat_inj : ∀ {r s : List (Int × Int)}, flatR r = flatR s → r = s
  | [], [], _ => rfl
  | [], _ :: _, h => by simp [flatR] at h
  | _ :: _, [], h => by simp [flatR] at h
  | u :: r, v :: s, h => by
    rw [flat_cons, flat_cons] at h
    obtain ⟨h1, h⟩ := List.cons.inj h
    obtain ⟨h2, h⟩ := List.cons.inj h
    rw [flat_inj h, Prod.ext h1 h2]
theorem vec_zero {a : Int} {us : List Int} : vec (a :: us) 0 = a := rfl
theorem vec_succ {a : Int} {us : List Int} {i : Nat} : vec (a :: us) (i + 1) = vec us i := by
  show (a :: us).getD (i + 1) 0 = us.getD i 0
  rw [List.getD_eq_getElem?_getD, List.getD_eq_getElem?_getD]
  rfl
def addP (p : Int) (r s : List (Int × Int)) : List (Int × Int) := List.zipWith (fun u v => ((u.1 + v.1) % p, (u.2 + v.2) % p)) r s
def timP (p n : Int) (r : List (Int × Int)) : List (Int × Int) := r.map fun u => (n * u.1 % p, n * u.2 % p)
theorem vec_addP {p : Int} : ∀ {r s : List (Int × Int)}, r.length = s.length → Eqv p (vec (flatR (addP p r s))) fun i => vec (flatR r) i + vec (flatR s) i
  | [], [], _ => fun i => ⟨0, by simp [addP, flatR, vec]⟩
  | [], _ :: _, h => by simp at h
  | _ :: _, [], h => by simp at h
  | u :: r, v :: s, h => fun i => by
    have e : addP p (u :: r) (v :: s) = ((u.1 + v.1) % p, (u.2 + v.2) % p) :: addP p r s := rfl
    rw [e, flat_cons]
    show Cg p (vec ((u.1 + v.1) % p :: (u.2 + v.2) % p :: flatR (addP p r s)) i) (vec (flatR (u :: r)) i + vec (flatR (v :: s)) i)
    rw [flat_cons, flat_cons]
    match i with
    | 0 => exact Cg.mod _
    | 1 => exact Cg.mod _
    | i + 2 =>
      rw [vec_succ, vec_succ, vec_succ, vec_succ, vec_succ, vec_succ]
      exact vec_addP (by simpa using h) i
theorem vec_timP {p n : Int} : ∀ {r : List (Int × Int)}, Eqv p (vec (flatR (timP p n r))) fun i => n * vec (flatR r) i
  | [] => fun i => ⟨0, by simp [timP, flatR, vec]⟩
  | u :: r => fun i => by
    have e : timP p n (u :: r) = (n * u.1 % p, n * u.2 % p) :: timP p n r := rfl
    rw [e, flat_cons]
    show Cg p (vec (n * u.1 % p :: n * u.2 % p :: flatR (timP p n r)) i) (n * vec (flatR (u :: r)) i)
    rw [flat_cons]
    match i with
    | 0 => exact Cg.mod _
    | 1 => exact Cg.mod _
    | i + 2 =>
      rw [vec_succ, vec_succ, vec_succ, vec_succ]
      exact vec_timP i
theorem vec_noP {i : Nat} : ∀ n : Nat, vec (flatR (List.replicate n ((0 : Int), (0 : Int)))) i = 0
  | 0 => rfl
  | n + 1 => by
    rw [List.replicate_succ, flat_cons]
    match i with
    | 0 => rfl
    | 1 => rfl
    | i + 2 =>
      rw [vec_succ, vec_succ]
      exact vec_noP n
theorem add_lenP {p : Int} {r s : List (Int × Int)} (h : r.length = s.length) : (addP p r s).length = r.length := by
  unfold addP
  rw [List.length_zipWith]
  omega
theorem tim_lenP {p n : Int} {r : List (Int × Int)} : (timP p n r).length = r.length := by
  unfold timP
  rw [List.length_map]
/-- sums of multiples of rows -/
def sumP (p : Int) (acc : List (Int × Int)) : List (Int × List (Int × Int)) → List (Int × Int)
  | [] => acc
  | x :: l => sumP p (addP p acc (timP p x.1 x.2)) l
theorem sum_snoc {p : Int} {x : Int × List (Int × Int)} : ∀ (l : List (Int × List (Int × Int))) (acc : List (Int × Int)), sumP p acc (l ++ [x]) = addP p (sumP p acc l) (timP p x.1 x.2)
  | [], _ => rfl
  | _ :: l, _ => sum_snoc l _
theorem sum_lenP {p : Int} {n : Nat} : ∀ (l : List (Int × List (Int × Int))) {acc : List (Int × Int)}, (∀ x ∈ l, x.2.length = n) → acc.length = n → (sumP p acc l).length = n
  | [], _, _, h => h
  | x :: l, acc, hl, h => sum_lenP l (fun y hy => hl y (List.mem_cons_of_mem _ hy)) (by rw [add_lenP (by rw [tim_lenP, h, hl x (by simp)])]; exact h)
def combV : List (Int × Vc) → Vc
  | [] => fun _ => 0
  | x :: l => fun i => x.1 * x.2 i + combV l i
def pairV (l : List (Int × List (Int × Int))) : List (Int × Vc) := l.map fun x => (x.1, vec (flatR x.2))
theorem vec_sumP {p : Int} {n : Nat} : ∀ (l : List (Int × List (Int × Int))) {acc : List (Int × Int)}, (∀ x ∈ l, x.2.length = n) → acc.length = n → Eqv p (vec (flatR (sumP p acc l))) fun i => vec (flatR acc) i + combV (pairV l) i
  | [], _, _, _ => fun i => ⟨0, by simp [sumP, pairV, combV]⟩
  | x :: l, acc, hl, h => fun i => by
    have e : acc.length = (timP p x.1 x.2).length := by rw [tim_lenP, h, hl x (by simp)]
    have a := vec_sumP (p := p) l (acc := addP p acc (timP p x.1 x.2)) (fun y hy => hl y (List.mem_cons_of_mem _ hy)) (by rw [add_lenP e]; exact h) i
    refine a.trans ?_
    have b := (vec_addP (p := p) e i).trans (Cg.rfl'.add (vec_timP i))
    have c := Cg.add b (Cg.rfl' (a := combV (pairV l) i))
    have d : vec (flatR acc) i + x.1 * vec (flatR x.2) i + combV (pairV l) i = vec (flatR acc) i + combV (pairV (x :: l)) i := by
      show _ = vec (flatR acc) i + (x.1 * vec (flatR x.2) i + combV (pairV l) i)
      omega
    rw [d] at c
    exact c
theorem comb_lot {p : Int} {R : Vc → Prop} : ∀ {l : List (Int × Vc)}, (∀ x ∈ l, R x.2) → Lot p R (combV l)
  | [], _ => .zero
  | x :: l, h => .eqv (Lot.comb x.1 (comb_lot (l := l) fun y hy => h y (List.mem_cons_of_mem _ hy)) (Lot.of (h x (by simp)))) fun i => ⟨0, by simp only [combV]; grind⟩
/-- the sum of rows is in their lot -/
theorem sum_lot {p : Int} {n : Nat} {l : List (Int × List (Int × Int))} {rs : List (List (Int × Int))} (hl : ∀ x ∈ l, x.2.length = n) (hm : ∀ x ∈ l, x.2 ∈ rs) : Lot p (spn (rs.map flatR)) (vec (flatR (sumP p (List.replicate n ((0 : Int), (0 : Int))) l))) := by
  have a : Lot p (spn (rs.map flatR)) (combV (pairV l)) := comb_lot fun y hy => by
    obtain ⟨x, hx, rfl⟩ := List.mem_map.mp hy
    exact ⟨flatR x.2, List.mem_map.mpr ⟨x.2, hm x hx, rfl⟩, rfl⟩
  refine .eqv a fun i => Cg.symm ?_
  have b := vec_sumP (p := p) l (acc := List.replicate n ((0 : Int), (0 : Int))) hl (by simp) i
  have e : vec (flatR (List.replicate n ((0 : Int), (0 : Int)))) i + combV (pairV l) i = combV (pairV l) i := by
    rw [vec_noP]
    omega
  dsimp only at b
  rw [e] at b
  exact b
theorem own_comb_eq {u : Vc} : ∀ {L : List (Nat × List Int)} {i : Nat}, own u (vecs L) i = combV (L.map fun x => (u x.1, vec x.2)) i
  | [], _ => rfl
  | x :: L, i => by
    show u x.1 * vec x.2 i + own u (vecs L) i = u x.1 * vec x.2 i + combV (L.map fun x => (u x.1, vec x.2)) i
    rw [own_comb_eq (L := L)]
/-- a row is the sum by its own numbers at the places of a plain set just where it is in the lot -/
theorem is_sum_iff {p : Int} {n : Nat} {rs : List (List (Int × Int))} {qs : List Nat} {r : List (Int × Int)} (p0 : 0 < p) (hl : ∀ x ∈ rs, x.length = n) (hq : qs.length = rs.length) (pl : PL p (2 * n) (rs.map flatR) (qs.zip (rs.map flatR))) (hr : r.length = n) (rg : Rg p (flatR r)) (srg : Rg p (flatR (sumP p (List.replicate n ((0 : Int), (0 : Int))) ((qs.map (vec (flatR r))).zip rs)))) :
    sumP p (List.replicate n ((0 : Int), (0 : Int))) ((qs.map (vec (flatR r))).zip rs) = r ↔ Lot p (spn (rs.map flatR)) (vec (flatR r)) := by
  have mem : ∀ x ∈ (qs.map (vec (flatR r))).zip rs, x.2.length = n := fun x hx => hl _ (List.of_mem_zip hx).2
  have key : Eqv p (vec (flatR (sumP p (List.replicate n ((0 : Int), (0 : Int))) ((qs.map (vec (flatR r))).zip rs)))) (own (vec (flatR r)) (vecs (qs.zip (rs.map flatR)))) := fun i => by
    have b := vec_sumP (p := p) ((qs.map (vec (flatR r))).zip rs) (acc := List.replicate n ((0 : Int), (0 : Int))) mem (by simp) i
    have e : vec (flatR (List.replicate n ((0 : Int), (0 : Int)))) i + combV (pairV ((qs.map (vec (flatR r))).zip rs)) i = own (vec (flatR r)) (vecs (qs.zip (rs.map flatR))) i := by
      rw [vec_noP, own_comb_eq]
      have e2 : pairV ((qs.map (vec (flatR r))).zip rs) = (qs.zip (rs.map flatR)).map fun x => (vec (flatR r) x.1, vec x.2) := by
        unfold pairV
        apply List.ext_getElem?
        intro j
        simp only [List.getElem?_map, List.getElem?_zip_eq_some, List.zip, List.getElem?_zipWith]
        cases qs[j]? with
        | none => rfl
        | some a =>
          cases rs[j]? with
          | none => rfl
          | some b => rfl
      rw [e2]
      omega
    dsimp only at b
    rw [e] at b
    exact b
  rw [← pl.lot, lot_iff pl.leads pl.ndv]
  constructor
  · intro h
    rw [h] at key
    exact key.symm
  · intro h
    apply flat_inj
    exact list_eq p0 (by rw [flat_len, flat_len, sum_lenP _ mem (by simp), hr]) srg rg (key.trans h)
/-! ### rows stirred -/
theorem lot_set_add {p c : Int} {fs : List (List Int)} {i j : Nat} {f g h : List Int} (ne : i ≠ j) (hi : fs[i]? = some f) (hj : fs[j]? = some g) (e : Eqv p (vec h) fun k => vec f k + c * vec g k) (u : Vc) : Lot p (spn (fs.set i h)) u ↔ Lot p (spn fs) u := by
  have il : i < fs.length := (List.getElem?_eq_some_iff.mp hi).1
  have gin : g ∈ fs.set i h := List.mem_of_getElem? (i := j) (by rw [List.getElem?_set_ne ne]; exact hj)
  have hin : h ∈ fs.set i h := List.mem_set il h
  refine Lot.iff (fun v hv => ?_) (fun v hv => ?_) u
  · obtain ⟨k, hk, rfl⟩ := hv
    rcases List.mem_or_eq_of_mem_set hk with m | m
    · exact Lot.of ⟨k, m, rfl⟩
    · rw [m]
      exact .eqv (Lot.comb c (Lot.of ⟨f, List.mem_of_getElem? hi, rfl⟩) (Lot.of ⟨g, List.mem_of_getElem? hj, rfl⟩)) e.symm
  · obtain ⟨k, hk, rfl⟩ := hv
    obtain ⟨m, hm, rfl⟩ := List.mem_iff_getElem.mp hk
    by_cases e2 : m = i
    · subst e2
      have z : fs[m] = f := by
        rw [List.getElem?_eq_getElem hm] at hi
        exact Option.some.inj hi
      rw [z]
      refine .eqv (Lot.comb (-c) (Lot.of ⟨h, hin, rfl⟩) (Lot.of ⟨g, gin, rfl⟩)) fun k => ?_
      have a := (e k).add (Cg.rfl' (a := -c * vec g k))
      have b : vec f k + c * vec g k + -c * vec g k = vec f k := by grind
      rw [b] at a
      exact a
    · exact Lot.of ⟨fs[m], List.mem_of_getElem? (i := m) (by rw [List.getElem?_set_ne (fun z => e2 z.symm), List.getElem?_eq_getElem hm]), rfl⟩
theorem lot_set_mul {p c d : Int} {fs : List (List Int)} {i : Nat} {f h : List Int} (hi : fs[i]? = some f) (e : Eqv p (vec h) fun k => c * vec f k) (hd : Cg p (d * c) 1) (u : Vc) : Lot p (spn (fs.set i h)) u ↔ Lot p (spn fs) u := by
  have il : i < fs.length := (List.getElem?_eq_some_iff.mp hi).1
  have hin : h ∈ fs.set i h := List.mem_set il h
  refine Lot.iff (fun v hv => ?_) (fun v hv => ?_) u
  · obtain ⟨k, hk, rfl⟩ := hv
    rcases List.mem_or_eq_of_mem_set hk with m | m
    · exact Lot.of ⟨k, m, rfl⟩
    · rw [m]
      refine .eqv (Lot.comb c .zero (Lot.of ⟨f, List.mem_of_getElem? hi, rfl⟩)) fun k => ?_
      have z : (0 : Int) + c * vec f k = c * vec f k := by omega
      show Cg p (0 + c * vec f k) _
      rw [z]
      exact (e k).symm
  · obtain ⟨k, hk, rfl⟩ := hv
    obtain ⟨m, hm, rfl⟩ := List.mem_iff_getElem.mp hk
    by_cases e2 : m = i
    · subst e2
      have z : fs[m] = f := by
        rw [List.getElem?_eq_getElem hm] at hi
        exact Option.some.inj hi
      rw [z]
      refine .eqv (Lot.comb d .zero (Lot.of ⟨h, hin, rfl⟩)) fun k => ?_
      have a := (Cg.rfl' (p := p) (a := d)).mul (e k)
      have b := hd.mul (Cg.rfl' (a := vec f k))
      have z1 : d * (c * vec f k) = d * c * vec f k := by grind
      have z2 : (1 : Int) * vec f k = vec f k := by omega
      have z3 : (0 : Int) + d * vec h k = d * vec h k := by omega
      show Cg p (0 + d * vec h k) _
      rw [z3]
      have a' : Cg p (d * vec h k) (d * (c * vec f k)) := a
      rw [z1] at a'
      rw [z2] at b
      exact a'.trans b
    · exact Lot.of ⟨fs[m], List.mem_of_getElem? (i := m) (by rw [List.getElem?_set_ne (fun z => e2 z.symm), List.getElem?_eq_getElem hm]), rfl⟩
/-- a row of the lot put in anywhere -/
theorem lot_more_rows {p : Int} {fs gs : List (List Int)} {f : List Int} (hf : Lot p (spn fs) (vec f)) (hg : ∀ g, g ∈ gs ↔ g ∈ fs ∨ g = f) (u : Vc) : Lot p (spn gs) u ↔ Lot p (spn fs) u := by
  refine Lot.iff (fun v hv => ?_) (fun v hv => ?_) u
  · obtain ⟨k, hk, rfl⟩ := hv
    rcases (hg k).mp hk with m | m
    · exact Lot.of ⟨k, m, rfl⟩
    · rw [m]
      exact hf
  · obtain ⟨k, hk, rfl⟩ := hv
    exact Lot.of ⟨k, (hg k).mpr (.inl hk), rfl⟩
/-! ### a plain set that is drawn -/
structure Pln (p : Int) (n : Nat) (qs : List Nat) (fs : List (List Int)) : Prop where
  len : fs.length = qs.length
  up : qs.Pairwise (· < ·)
  lt : ∀ q ∈ qs, q < n
  row : ∀ (i q : Nat) (f : List Int), qs[i]? = some q → fs[i]? = some f → f.length = n ∧ Rg p f ∧ (∀ j, j < q → vec f j = 0) ∧ vec f q = 1 ∧ ∀ o ∈ qs, q < o → vec f o = 0
theorem mem_zip_get {qs : List Nat} {fs : List (List Int)} {x : Nat × List Int} (h : x ∈ qs.zip fs) : ∃ i : Nat, qs[i]? = some x.1 ∧ fs[i]? = some x.2 := by
  obtain ⟨i, hi, e⟩ := List.mem_iff_getElem.mp h
  have hi' : i < qs.length ∧ i < fs.length := by
    rw [List.length_zip] at hi
    omega
  refine ⟨i, ?_, ?_⟩
  · rw [← e, List.getElem_zip, List.getElem?_eq_getElem hi'.1]
  · rw [← e, List.getElem_zip, List.getElem?_eq_getElem hi'.2]
theorem zip_places : ∀ {qs : List Nat} {fs : List (List Int)}, fs.length = qs.length → (qs.zip fs).map (·.1) = qs
  | [], _, _ => rfl
  | _ :: _, [], h => by simp at h
  | q :: qs, f :: fs, h => by
    rw [List.zip_cons_cons, List.map_cons, zip_places (by simpa using h)]
theorem Pln.pl {p : Int} {n : Nat} {qs : List Nat} {fs : List (List Int)} (h : Pln p n qs fs) : PL p n fs (qs.zip fs) ∧ Up (qs.zip fs) := by
  have pls := zip_places h.len
  refine ⟨⟨fun x hx => ?_, fun x hx => ?_, fun x hx => ?_, ?_, ⟨fun y hy => ?_, fun y hy z hz ne => ?_⟩, fun y hy i hi => ?_, fun u => ?_⟩, ?_⟩
  · obtain ⟨i, h1, h2⟩ := mem_zip_get hx
    exact (h.row i _ _ h1 h2).1
  · obtain ⟨i, h1, h2⟩ := mem_zip_get hx
    exact (h.row i _ _ h1 h2).2.1
  · exact h.lt _ (List.of_mem_zip hx).1
  · rw [pls]
    exact h.up.imp fun {a b} h => Nat.ne_of_lt h
  · obtain ⟨x, hx, rfl⟩ := mem_vecs.mp hy
    obtain ⟨i, h1, h2⟩ := mem_zip_get hx
    show Cg p (vec x.2 x.1) 1
    rw [(h.row i _ _ h1 h2).2.2.2.1]
    exact Cg.rfl'
  · obtain ⟨x, hx, rfl⟩ := mem_vecs.mp hy
    obtain ⟨w, hw, rfl⟩ := mem_vecs.mp hz
    obtain ⟨i, h1, h2⟩ := mem_zip_get hx
    have r := h.row i _ _ h1 h2
    show Cg p (vec x.2 w.1) 0
    have ne' : x.1 ≠ w.1 := ne
    rcases Nat.lt_or_ge w.1 x.1 with l | l
    · rw [r.2.2.1 _ l]
      exact Cg.rfl'
    · rw [r.2.2.2.2 w.1 (List.of_mem_zip hw).1 (by omega)]
      exact Cg.rfl'
  · obtain ⟨x, hx, rfl⟩ := mem_vecs.mp hy
    obtain ⟨j, h1, h2⟩ := mem_zip_get hx
    show Cg p (vec x.2 i) 0
    rw [(h.row j _ _ h1 h2).2.2.1 i hi]
    exact Cg.rfl'
  · have e : rowsOf (vecs (qs.zip fs)) = spn fs := by
      funext v
      apply propext
      constructor
      · rintro ⟨y, hy, rfl⟩
        obtain ⟨x, hx, rfl⟩ := mem_vecs.mp hy
        exact ⟨x.2, (List.of_mem_zip hx).2, rfl⟩
      · rintro ⟨f, hf, rfl⟩
        obtain ⟨i, hi, rfl⟩ := List.mem_iff_getElem.mp hf
        have hq : i < qs.length := by rw [← h.len]; exact hi
        refine ⟨(qs[i], vec fs[i]), mem_vecs.mpr ⟨(qs[i], fs[i]), ?_, rfl⟩, rfl⟩
        exact List.mem_iff_getElem.mpr ⟨i, by rw [List.length_zip]; omega, by rw [List.getElem_zip]⟩
    rw [e]
  · show ((qs.zip fs).map (·.1)).Pairwise (· < ·)
    rw [pls]
    exact h.up
/-! ### a list of numbers as a row -/
def ev2 {α : Type} : List α → List α
  | [] => []
  | [a] => [a]
  | a :: _ :: r => a :: ev2 r
theorem ev2_cons {α : Type} (b : α) : ∀ r : List α, ev2 (b :: r) = b :: ev2 (r.drop 1)
  | [] => rfl
  | _ :: _ => rfl
def rowL (us : List Int) : List (Int × Int) := (ev2 us).zip (ev2 (us.drop 1))
theorem rowL_flat : ∀ (m : Nat) (us : List Int), us.length = 2 * m → flatR (rowL us) = us ∧ (rowL us).length = m
  | 0, [], _ => ⟨rfl, rfl⟩
  | 0, _ :: _, h => by simp at h
  | m + 1, [], h => by simp at h
  | m + 1, [_], h => by simp at h; omega
  | m + 1, a :: b :: r, h => by
    have hr : r.length = 2 * m := by
      simp only [List.length_cons] at h
      omega
    obtain ⟨h1, h2⟩ := rowL_flat m r hr
    have e : rowL (a :: b :: r) = (a, b) :: rowL r := by
      show (a :: ev2 r).zip (ev2 (b :: r)) = _
      rw [ev2_cons]
      rfl
    rw [e]
    exact ⟨by rw [flat_cons, h1], by rw [List.length_cons, h2]⟩
theorem erase_perm {α : Type} {ps : List α} {k : Nat} {x : α} (h : ps[k]? = some x) (qs : List α) : (ps.eraseIdx k ++ (qs ++ [x])).Perm (ps ++ qs) := by
  have hk := (List.getElem?_eq_some_iff.mp h).1
  have e1 : ps.eraseIdx k = ps.take k ++ ps.drop (k + 1) := List.eraseIdx_eq_take_drop_succ ps k
  have e2 : ps = ps.take k ++ x :: ps.drop (k + 1) := by
    have z : x = ps[k] := by
      rw [List.getElem?_eq_getElem hk] at h
      exact (Option.some.inj h).symm
    rw [z, ← List.drop_eq_getElem_cons hk, List.take_append_drop]
  rw [e1]
  conv => rhs; rw [e2]
  rw [List.append_assoc, List.append_assoc]
  refine List.Perm.append_left _ ?_
  rw [List.cons_append, ← List.append_assoc]
  exact List.perm_append_singleton x _
/-! ### mirrors -/
def shf (u : Vc) : Vc := fun i => u (i + 1)
/-- the sum of products, place by place -/
def dot : Vc → Vc → Nat → Int
  | _, _, 0 => 0
  | u, v, n + 1 => u 0 * v 0 + dot (shf u) (shf v) n
theorem dot_comb {c : Int} : ∀ (n : Nat) (u v w : Vc), dot u (fun i => v i + c * w i) n = dot u v n + c * dot u w n
  | 0, _, _, _ => by simp [dot]
  | n + 1, u, v, w => by
    have ih := dot_comb (c := c) n (shf u) (shf v) (shf w)
    show u 0 * (v 0 + c * w 0) + dot (shf u) (fun i => shf v i + c * shf w i) n = u 0 * v 0 + dot (shf u) (shf v) n + c * (u 0 * w 0 + dot (shf u) (shf w) n)
    rw [ih]
    grind
theorem dot_combL {c : Int} : ∀ (n : Nat) (u v w : Vc), dot (fun i => u i + c * v i) w n = dot u w n + c * dot v w n
  | 0, _, _, _ => by simp [dot]
  | n + 1, u, v, w => by
    have ih := dot_combL (c := c) n (shf u) (shf v) (shf w)
    show (u 0 + c * v 0) * w 0 + dot (fun i => shf u i + c * shf v i) (shf w) n = u 0 * w 0 + dot (shf u) (shf w) n + c * (v 0 * w 0 + dot (shf v) (shf w) n)
    rw [ih]
    grind
theorem dot_eqv {p : Int} : ∀ (n : Nat) {u v w x : Vc}, Eqv p u v → Eqv p w x → Cg p (dot u w n) (dot v x n)
  | 0, _, _, _, _, _, _ => Cg.rfl'
  | n + 1, _, _, _, _, h, k => ((h 0).mul (k 0)).add (dot_eqv n (fun i => h (i + 1)) fun i => k (i + 1))
theorem dot_zero : ∀ (n : Nat) (u : Vc), dot u (fun _ => 0) n = 0
  | 0, _ => rfl
  | n + 1, u => by
    show u 0 * 0 + dot (shf u) (fun _ => 0) n = 0
    rw [dot_zero n]
    simp
theorem dot_zeroL : ∀ (n : Nat) (u : Vc), dot (fun _ => 0) u n = 0
  | 0, _ => rfl
  | n + 1, u => by
    show 0 * u 0 + dot (fun _ => 0) (shf u) n = 0
    rw [dot_zeroL n]
    simp
theorem dot_comm : ∀ (n : Nat) (u v : Vc), dot u v n = dot v u n
  | 0, _, _ => rfl
  | n + 1, u, v => by
    show u 0 * v 0 + dot (shf u) (shf v) n = v 0 * u 0 + dot (shf v) (shf u) n
    rw [dot_comm n, Int.mul_comm]
def un (j : Nat) : Vc := fun i => if i = j then 1 else 0
theorem shf_un0 : shf (un 0) = fun _ => 0 := by
  funext i
  show (if i + 1 = 0 then (1 : Int) else 0) = 0
  rw [if_neg (by omega)]
theorem shf_unS {j : Nat} : shf (un (j + 1)) = un j := by
  funext i
  show (if i + 1 = j + 1 then (1 : Int) else 0) = if i = j then 1 else 0
  by_cases h : i = j
  · rw [if_pos h, if_pos (by omega)]
  · rw [if_neg h, if_neg (by omega)]
theorem dot_un : ∀ (n j : Nat) (u : Vc), j < n → dot u (un j) n = u j
  | 0, _, _, h => absurd h (Nat.not_lt_zero _)
  | n + 1, 0, u, _ => by
    show u 0 * 1 + dot (shf u) (shf (un 0)) n = u 0
    rw [shf_un0, dot_zero]
    omega
  | n + 1, j + 1, u, h => by
    show u 0 * 0 + dot (shf u) (shf (un (j + 1))) n = u (j + 1)
    rw [shf_unS, dot_un n j (shf u) (by omega)]
    show u 0 * 0 + u (j + 1) = u (j + 1)
    omega
/-- sums of units -/
def cu (a : Nat × Vc → Int) : List (Nat × Vc) → Vc
  | [] => fun _ => 0
  | x :: L => fun i => a x * un x.1 i + cu a L i
theorem dot_cu {a : Nat × Vc → Int} {n : Nat} {u : Vc} : ∀ {L : List (Nat × Vc)}, (∀ x ∈ L, x.1 < n) → dot u (cu a L) n = combV (L.map fun x => (u x.1, fun _ => a x)) 0
  | [], _ => dot_zero n u
  | x :: L, h => by
    have ih := dot_cu (a := a) (u := u) (L := L) fun y hy => h y (List.mem_cons_of_mem _ hy)
    have e : cu a (x :: L) = fun i => cu a L i + a x * un x.1 i := by
      funext i
      show a x * un x.1 i + cu a L i = _
      omega
    rw [e, dot_comb, ih, dot_un n x.1 u (h x (by simp))]
    show combV (L.map fun x => (u x.1, fun _ => a x)) 0 + a x * u x.1 = u x.1 * a x + combV (L.map fun x => (u x.1, fun _ => a x)) 0
    rw [Int.mul_comm]
    omega
theorem own_as {u : Vc} {f : Nat} : ∀ {L : List (Nat × Vc)}, combV (L.map fun x => (u x.1, fun _ => x.2 f)) 0 = own u L f
  | [] => rfl
  | x :: L => by
    show u x.1 * x.2 f + combV (L.map fun x => (u x.1, fun _ => x.2 f)) 0 = u x.1 * x.2 f + own u L f
    rw [own_as]
/-- the row that is free at f -/
def frV (f : Nat) (L : List (Nat × Vc)) : Vc := fun i => un f i + -1 * cu (fun x => x.2 f) L i
theorem dot_fr {n f : Nat} {L : List (Nat × Vc)} {u : Vc} (hf : f < n) (hL : ∀ x ∈ L, x.1 < n) : dot u (frV f L) n = left u L f := by
  show dot u (fun i => un f i + -1 * cu (fun x => x.2 f) L i) n = u f - own u L f
  rw [dot_comb, dot_un n f u hf, dot_cu hL, own_as]
  omega
theorem cu_out {a : Nat × Vc → Int} {i : Nat} : ∀ {L : List (Nat × Vc)}, (∀ x ∈ L, x.1 ≠ i) → cu a L i = 0
  | [], _ => rfl
  | x :: L, h => by
    show a x * un x.1 i + cu a L i = 0
    rw [cu_out fun y hy => h y (List.mem_cons_of_mem _ hy)]
    have e : un x.1 i = 0 := if_neg fun z => h x (by simp) z.symm
    rw [e]
    simp
theorem cu_at {a : Nat × Vc → Int} : ∀ {L : List (Nat × Vc)}, (L.map (·.1)).Nodup → ∀ {x : Nat × Vc}, x ∈ L → cu a L x.1 = a x
  | [], _, _, h => by cases h
  | y :: L, nd, x, h => by
    have nd' := List.nodup_cons.mp (by simpa using nd : (y.1 :: L.map (·.1)).Nodup)
    show a y * un y.1 x.1 + cu a L x.1 = a x
    rcases List.mem_cons.mp h with rfl | h
    · rw [cu_out fun z hz e => nd'.1 (by rw [← e]; exact List.mem_map.mpr ⟨z, hz, rfl⟩)]
      have e : un x.1 x.1 = 1 := if_pos rfl
      rw [e]
      omega
    · have ne : x.1 ≠ y.1 := fun e => nd'.1 (by rw [← e]; exact List.mem_map.mpr ⟨x, h, rfl⟩)
      have e : un y.1 x.1 = 0 := if_neg ne
      rw [e, cu_at nd'.2 h]
      omega
theorem fr_self {f : Nat} {L : List (Nat × Vc)} (h : ∀ x ∈ L, x.1 ≠ f) : frV f L f = 1 := by
  show un f f + -1 * cu (fun x => x.2 f) L f = 1
  rw [cu_out h]
  have e : un f f = 1 := if_pos rfl
  rw [e]
  omega
theorem fr_other {f g : Nat} {L : List (Nat × Vc)} (h : ∀ x ∈ L, x.1 ≠ g) (ne : f ≠ g) : frV f L g = 0 := by
  show un f g + -1 * cu (fun x => x.2 f) L g = 0
  rw [cu_out h]
  have e : un f g = 0 := if_neg fun z => ne z.symm
  rw [e]
  omega
/-- nothing from n on -/
def Sup (n : Nat) (u : Vc) : Prop := ∀ i, n ≤ i → u i = 0
theorem sup_vec {n : Nat} {us : List Int} (h : us.length = n) : Sup n (vec us) := fun i hi => vec_out (by omega)
theorem dot_lotR {p : Int} {n : Nat} {R : Vc → Prop} {u v : Vc} (h : Lot p R v) (k : ∀ w, R w → Cg p (dot u w n) 0) : Cg p (dot u v n) 0 := by
  induction h with
  | zero =>
    rw [dot_zero]
    exact Cg.rfl'
  | add c _ r ih =>
    rw [dot_comb]
    have a := ih.add ((Cg.rfl' (a := c)).mul (k _ r))
    rw [Int.mul_zero] at a
    exact a
  | eqv _ e ih => exact (dot_eqv n Eqv.refl e).symm.trans ih
theorem dot_lotL {p : Int} {n : Nat} {R : Vc → Prop} {u v : Vc} (h : Lot p R u) (k : ∀ w, R w → Cg p (dot w v n) 0) : Cg p (dot u v n) 0 := by
  rw [dot_comm]
  exact dot_lotR h fun w hw => by
    rw [dot_comm]
    exact k w hw
/-- free rows of leads: what they span is just what all the leads make 0 with -/
theorem fr_ker {p : Int} {n : Nat} {L : List (Nat × Vc)} {fs : List Nat} (hL : Leads p L) (nd : (L.map (·.1)).Nodup) (pl : ∀ x ∈ L, x.1 < n) (hf : ∀ f, f ∈ fs ↔ f < n ∧ ∀ x ∈ L, x.1 ≠ f) (ndf : fs.Nodup) {w : Vc} (sw : Sup n w) :
    Lot p (fun v => ∃ f ∈ fs, v = frV f L) w ↔ ∀ x ∈ L, Cg p (dot x.2 w n) 0 := by
  have z : ∀ f ∈ fs, ∀ x ∈ L, Cg p (dot x.2 (frV f L) n) 0 := fun f h x hx => by
    rw [dot_fr ((hf f).mp h).1 pl]
    exact (lot_left hL nd).mp (Lot.of ⟨x, hx, rfl⟩) f
  constructor
  · intro h x hx
    exact dot_lotR h fun v ⟨f, hf', e⟩ => by
      rw [e]
      exact z f hf' x hx
  · intro h
    have M : Leads p (fs.map fun f => (f, frV f L)) := by
      refine ⟨fun y hy => ?_, fun y hy y' hy' ne => ?_⟩
      · obtain ⟨f, h1, rfl⟩ := List.mem_map.mp hy
        show Cg p (frV f L f) 1
        rw [fr_self ((hf f).mp h1).2]
        exact Cg.rfl'
      · obtain ⟨f, h1, rfl⟩ := List.mem_map.mp hy
        obtain ⟨g, h2, rfl⟩ := List.mem_map.mp hy'
        show Cg p (frV f L g) 0
        rw [fr_other ((hf g).mp h2).2 ne]
        exact Cg.rfl'
    have ndM : ((fs.map fun f => (f, frV f L)).map (·.1)).Nodup := by
      rw [List.map_map]
      have e : ((fun x : Nat × Vc => x.1) ∘ fun f => (f, frV f L)) = id := rfl
      rw [e, List.map_id]
      exact ndf
    have key : Eqv p (left w (fs.map fun f => (f, frV f L))) fun _ => 0 := by
      have atf : ∀ f ∈ fs, Cg p (left w (fs.map fun f => (f, frV f L)) f) 0 := fun f h1 => left_at M ndM (x := (f, frV f L)) (List.mem_map.mpr ⟨f, h1, rfl⟩)
      have ownz : ∀ i, n ≤ i → own w (fs.map fun f => (f, frV f L)) i = 0 := fun i hi => by
        have all : ∀ gs : List Nat, (∀ g ∈ gs, g < n) → own w (gs.map fun f => (f, frV f L)) i = 0 := by
          intro gs
          induction gs with
          | nil => intro _; rfl
          | cons g gs ih =>
            intro hg
            show w g * frV g L i + own w (gs.map fun f => (f, frV f L)) i = 0
            have e0 : frV g L i = 0 := fr_other (fun x hx e => by have := pl x hx; omega) (by have := hg g (by simp); omega)
            rw [ih fun g' h' => hg g' (List.mem_cons_of_mem _ h'), e0]
            simp
        exact all fs fun g h1 => ((hf g).mp h1).1
      have out : ∀ i, (∀ x ∈ L, x.1 ≠ i) → Cg p (left w (fs.map fun f => (f, frV f L)) i) 0 := fun i hi => by
        by_cases h1 : i < n
        · exact atf i ((hf i).mpr ⟨h1, hi⟩)
        · show Cg p (w i - own w (fs.map fun f => (f, frV f L)) i) 0
          rw [sw i (by omega), ownz i (by omega)]
          exact ⟨0, by simp⟩
      -- made of units at the leads' places
      have asu : Eqv p (left w (fs.map fun f => (f, frV f L))) (cu (fun x => left w (fs.map fun f => (f, frV f L)) x.1) L) := fun i => by
        by_cases h1 : ∃ x ∈ L, x.1 = i
        · obtain ⟨x, hx, rfl⟩ := h1
          rw [cu_at nd hx]
          exact Cg.rfl'
        · have h2 : ∀ x ∈ L, x.1 ≠ i := fun x hx e => h1 ⟨x, hx, e⟩
          rw [cu_out h2]
          exact out i h2
      have lead0 : ∀ x ∈ L, Cg p (left w (fs.map fun f => (f, frV f L)) x.1) 0 := fun x hx => by
        have d1 : Cg p (dot x.2 (left w (fs.map fun f => (f, frV f L))) n) 0 := by
          have e : left w (fs.map fun f => (f, frV f L)) = fun i => w i + -1 * own w (fs.map fun f => (f, frV f L)) i := by
            funext i
            show w i - own w (fs.map fun f => (f, frV f L)) i = _
            omega
          rw [e, dot_comb]
          have o : Cg p (dot x.2 (own w (fs.map fun f => (f, frV f L))) n) 0 := dot_lotR (R := fun v => ∃ f ∈ fs, v = frV f L) (own_lot _ fun y hy => by
            obtain ⟨f, h1, rfl⟩ := List.mem_map.mp hy
            exact ⟨f, h1, rfl⟩) fun v ⟨f, h1, e⟩ => by
              rw [e]
              exact z f h1 x hx
          have a := (h x hx).add ((Cg.rfl' (a := -1)).mul o)
          rw [Int.mul_zero] at a
          exact a
        have d2 := (dot_eqv n (Eqv.refl (u := x.2)) asu).symm.trans d1
        rw [dot_cu pl] at d2
        -- only x itself counts
        have d4 : ∀ (M : List (Nat × Vc)) (a : Nat × Vc → Int), (∀ y ∈ M, y ∈ L) → (M.map (·.1)).Nodup → Cg p (combV (M.map fun y => (x.2 y.1, fun _ => a y)) 0) (if x.1 ∈ M.map (·.1) then cu a M x.1 else 0) := by
          intro M a
          induction M with
          | nil =>
            intro _ _
            exact Cg.rfl'
          | cons y M ih =>
            intro hM ndM'
            have nd' := List.nodup_cons.mp (by simpa using ndM' : (y.1 :: M.map (·.1)).Nodup)
            have ih' := ih (fun z hz => hM z (List.mem_cons_of_mem _ hz)) nd'.2
            show Cg p (x.2 y.1 * a y + combV (M.map fun y => (x.2 y.1, fun _ => a y)) 0) _
            by_cases e : x.1 = y.1
            · have n1 : x.1 ∉ M.map (·.1) := by rw [e]; exact nd'.1
              rw [if_neg n1] at ih'
              have m1 : x.1 ∈ (y :: M).map (·.1) := by rw [e]; simp
              rw [if_pos m1]
              show Cg p _ (a y * un y.1 x.1 + cu a M x.1)
              have c0 : cu a M x.1 = 0 := cu_out fun z hz e2 => n1 (List.mem_map.mpr ⟨z, hz, e2⟩)
              have u1 : un y.1 x.1 = 1 := if_pos e
              rw [c0, u1]
              have s1 := hL.self x hx
              rw [e] at s1
              have a1 := (s1.mul (Cg.rfl' (a := a y))).add ih'
              have e3 : (1 : Int) * a y + 0 = a y * 1 + 0 := by omega
              rw [e3] at a1
              exact a1
            · have o1 := hL.other x hx y (hM y (by simp)) e
              have u0 : un y.1 x.1 = 0 := if_neg e
              by_cases m : x.1 ∈ M.map (·.1)
              · rw [if_pos m] at ih'
                have m1 : x.1 ∈ (y :: M).map (·.1) := by
                  rw [List.map_cons]
                  exact List.mem_cons_of_mem _ m
                rw [if_pos m1]
                show Cg p _ (a y * un y.1 x.1 + cu a M x.1)
                rw [u0]
                have a1 := (o1.mul (Cg.rfl' (a := a y))).add ih'
                have e3 : (0 : Int) * a y + cu a M x.1 = a y * 0 + cu a M x.1 := by simp
                rw [e3] at a1
                exact a1
              · rw [if_neg m] at ih'
                have m1 : x.1 ∉ (y :: M).map (·.1) := by
                  rw [List.map_cons]
                  intro mm
                  rcases List.mem_cons.mp mm with q | q
                  · exact e q
                  · exact m q
                rw [if_neg m1]
                have a1 := (o1.mul (Cg.rfl' (a := a y))).add ih'
                have e3 : (0 : Int) * a y + 0 = 0 := by simp
                rw [e3] at a1
                exact a1
        have d5 := d4 L (fun y => left w (fs.map fun f => (f, frV f L)) y.1) (fun _ h => h) nd
        rw [if_pos (List.mem_map.mpr ⟨x, hx, rfl⟩), cu_at nd hx] at d5
        exact d5.symm.trans d2
      intro i
      by_cases h1 : ∃ x ∈ L, x.1 = i
      · obtain ⟨x, hx, rfl⟩ := h1
        exact lead0 x hx
      · exact out i fun x hx e => h1 ⟨x, hx, e⟩
    refine Lot.sub (fun v hv => ?_) ((lot_left M ndM).mpr key)
    obtain ⟨y, hy, rfl⟩ := hv
    obtain ⟨f, h1, rfl⟩ := List.mem_map.mp hy
    exact Lot.of ⟨f, h1, rfl⟩
/-- what makes 0 with all free rows is in the lot of the leads -/
theorem fr_back {p : Int} {n : Nat} {L : List (Nat × Vc)} {fs : List Nat} (hL : Leads p L) (nd : (L.map (·.1)).Nodup) (pl : ∀ x ∈ L, x.1 < n) (hf : ∀ f, f ∈ fs ↔ f < n ∧ ∀ x ∈ L, x.1 ≠ f) (sL : ∀ x ∈ L, Sup n x.2) {u : Vc} (su : Sup n u) (h : ∀ f ∈ fs, Cg p (dot u (frV f L) n) 0) : Lot p (rowsOf L) u := by
  refine (lot_left hL nd).mpr fun i => ?_
  by_cases h1 : ∃ x ∈ L, x.1 = i
  · obtain ⟨x, hx, rfl⟩ := h1
    exact left_at hL nd hx
  · have h2 : ∀ x ∈ L, x.1 ≠ i := fun x hx e => h1 ⟨x, hx, e⟩
    by_cases h3 : i < n
    · have a := h i ((hf i).mpr ⟨h3, h2⟩)
      rw [dot_fr h3 pl] at a
      exact a
    · have o : own u L i = 0 := by
        have all : ∀ M : List (Nat × Vc), (∀ x ∈ M, x ∈ L) → own u M i = 0 := by
          intro M
          induction M with
          | nil => intro _; rfl
          | cons y M ih =>
            intro hM
            show u y.1 * y.2 i + own u M i = 0
            rw [ih fun z hz => hM z (List.mem_cons_of_mem _ hz), sL y (hM y (by simp)) i (by omega)]
            simp
        exact all L fun _ h => h
      show Cg p (u i - own u L i) 0
      rw [su i (by omega), o]
      exact ⟨0, by simp⟩
/-! ### rows crossed -/
def crs (u : Vc) : Vc := fun i => if i % 2 = 0 then -u (i + 1) else u (i - 1)
theorem crs_comb {u v : Vc} {c : Int} (i : Nat) : crs (fun j => u j + c * v j) i = crs u i + c * crs v i := by
  unfold crs
  split
  · grind
  · rfl
theorem crs_eqv {p : Int} {u v : Vc} (h : Eqv p u v) : Eqv p (crs u) (crs v) := fun i => by
  unfold crs
  split
  · have a := (Cg.rfl' (p := p) (a := 0)).sub (h (i + 1))
    rw [Int.zero_sub, Int.zero_sub] at a
    exact a
  · exact h (i - 1)
theorem crs_crs (u : Vc) (i : Nat) : crs (crs u) i = -u i := by
  unfold crs
  by_cases h : i % 2 = 0
  · rw [if_pos h, if_neg (by omega)]
    rfl
  · rw [if_neg h, if_pos (by omega)]
    have e : i - 1 + 1 = i := by omega
    rw [e]
def crsR (R : Vc → Prop) : Vc → Prop := fun v => ∃ w, R w ∧ v = crs w
theorem crs_lot {p : Int} {R : Vc → Prop} {u : Vc} (h : Lot p R u) : Lot p (crsR R) (crs u) := by
  induction h with
  | zero => exact .eqv .zero fun i => ⟨0, by unfold crs; split <;> simp⟩
  | @add u v c _ r ih => exact .eqv (.add c ih ⟨v, r, rfl⟩) fun i => ⟨0, by rw [crs_comb]; omega⟩
  | eqv _ e ih => exact .eqv ih (crs_eqv e)
theorem crs_back {p : Int} {R : Vc → Prop} {u : Vc} (h : Lot p (crsR R) (crs u)) : Lot p R u := by
  have a : Lot p R (crs (crs u)) := Lot.sub (fun v hv => by
    obtain ⟨w, ⟨x, hx, rfl⟩, rfl⟩ := hv
    exact .eqv (Lot.comb (-1) .zero (Lot.of hx)) fun i => ⟨0, by rw [crs_crs]; omega⟩) (crs_lot h)
  exact .eqv (Lot.comb (-1) .zero a) fun i => ⟨0, by rw [crs_crs]; omega⟩
def crsP (p : Int) (r : List (Int × Int)) : List (Int × Int) := r.map fun u => (-u.2 % p, u.1)
theorem vec_crs {p : Int} : ∀ {r : List (Int × Int)}, Eqv p (vec (flatR (crsP p r))) (crs (vec (flatR r)))
  | [] => fun i => ⟨0, by simp [crsP, flatR, vec, crs]⟩
  | u :: r => fun i => by
    have e : crsP p (u :: r) = (-u.2 % p, u.1) :: crsP p r := rfl
    rw [e, flat_cons]
    show Cg p (vec (-u.2 % p :: u.1 :: flatR (crsP p r)) i) (crs (vec (flatR (u :: r))) i)
    rw [flat_cons]
    match i with
    | 0 =>
      show Cg p (-u.2 % p) (-u.2)
      exact Cg.mod _
    | 1 => exact Cg.rfl'
    | i + 2 =>
      rw [vec_succ, vec_succ]
      have ih := vec_crs (p := p) (r := r) i
      have e2 : crs (vec (u.1 :: u.2 :: flatR r)) (i + 2) = crs (vec (flatR r)) i := by
        unfold crs
        by_cases h : i % 2 = 0
        · rw [if_pos h, if_pos (by omega)]
          rw [vec_succ, vec_succ]
        · rw [if_neg h, if_neg (by omega)]
          have e3 : i + 2 - 1 = i - 1 + 1 + 1 := by omega
          rw [e3, vec_succ, vec_succ]
      rw [e2]
      exact ih
theorem crs_flat {u : Int × Int} {r : List (Int × Int)} : shf (shf (crs (vec (flatR (u :: r))))) = crs (vec (flatR r)) := by
  funext i
  show crs (vec (flatR (u :: r))) (i + 1 + 1) = _
  rw [flat_cons]
  unfold crs
  by_cases h : i % 2 = 0
  · rw [if_pos h, if_pos (by omega), vec_succ, vec_succ]
  · rw [if_neg h, if_neg (by omega)]
    have e3 : i + 1 + 1 - 1 = i - 1 + 1 + 1 := by omega
    rw [e3, vec_succ, vec_succ]
theorem shf_flat {u : Int × Int} {r : List (Int × Int)} : shf (shf (vec (flatR (u :: r)))) = vec (flatR r) := by
  funext i
  show vec (flatR (u :: r)) (i + 1 + 1) = _
  rw [flat_cons, vec_succ, vec_succ]
/-- the meet of two rows is the dot of the one crossed and the other -/
theorem meet_dot : ∀ {r s : List (Int × Int)}, r.length = s.length → (List.zipWith (fun u v => u.1 * v.2 - v.1 * u.2) r s).sum = dot (crs (vec (flatR r))) (vec (flatR s)) (2 * r.length)
  | [], [], _ => rfl
  | [], _ :: _, h => by simp at h
  | _ :: _, [], h => by simp at h
  | u :: r, v :: s, h => by
    have ih := meet_dot (r := r) (s := s) (by simpa using h)
    have e : 2 * (u :: r).length = 2 * r.length + 1 + 1 := by rw [List.length_cons]; omega
    rw [e]
    show (u.1 * v.2 - v.1 * u.2) + (List.zipWith (fun u v => u.1 * v.2 - v.1 * u.2) r s).sum = crs (vec (flatR (u :: r))) 0 * vec (flatR (v :: s)) 0 + (crs (vec (flatR (u :: r))) 1 * vec (flatR (v :: s)) 1 + dot (shf (shf (crs (vec (flatR (u :: r)))))) (shf (shf (vec (flatR (v :: s))))) (2 * r.length))
    rw [crs_flat, shf_flat, ih]
    have c0 : crs (vec (flatR (u :: r))) 0 = -u.2 := rfl
    have c1 : crs (vec (flatR (u :: r))) 1 = u.1 := rfl
    have v0 : vec (flatR (v :: s)) 0 = v.1 := rfl
    have v1 : vec (flatR (v :: s)) 1 = v.2 := rfl
    rw [c0, c1, v0, v1]
    grind
/-- the dot crossed on the one side is that crossed on the other, less -/
theorem dot_crs : ∀ (m : Nat) (u v : Vc), dot (crs u) v (2 * m) = -dot (crs v) u (2 * m)
  | 0, _, _ => rfl
  | m + 1, u, v => by
    have e : 2 * (m + 1) = 2 * m + 1 + 1 := by omega
    have sh : ∀ w : Vc, shf (shf (crs w)) = crs (shf (shf w)) := fun w => by
      funext i
      show crs w (i + 1 + 1) = crs (shf (shf w)) i
      unfold crs
      by_cases h : i % 2 = 0
      · rw [if_pos h, if_pos (by omega)]
        rfl
      · rw [if_neg h, if_neg (by omega)]
        show w (i + 1 + 1 - 1) = w (i - 1 + 1 + 1)
        congr 1
        omega
    have ih := dot_crs m (shf (shf u)) (shf (shf v))
    rw [e]
    show crs u 0 * v 0 + (crs u 1 * v 1 + dot (shf (shf (crs u))) (shf (shf v)) (2 * m)) = -(crs v 0 * u 0 + (crs v 1 * u 1 + dot (shf (shf (crs v))) (shf (shf u)) (2 * m)))
    rw [sh u, sh v, ih]
    have a0 : crs u 0 = -u 1 := rfl
    have a1 : crs u 1 = u 0 := rfl
    have b0 : crs v 0 = -v 1 := rfl
    have b1 : crs v 1 = v 0 := rfl
    rw [a0, a1, b0, b1]
    grind
/-! ### how many leads -/
theorem PL.len_eq {p : Int} {n : Nat} {fs gs : List (List Int)} {L M : List (Nat × List Int)} (p1 : 1 < p) (hL : PL p n fs L) (hM : PL p n gs M) (e : ∀ u, Lot p (spn fs) u ↔ Lot p (spn gs) u) : L.length = M.length := by
  have sub : ∀ x ∈ vecs L, Lot p (rowsOf (vecs M)) x.2 := fun x hx => (hM.lot _).mpr ((e _).mp ((hL.lot _).mp (Lot.of ⟨x, hx, rfl⟩)))
  have sup : ∀ x ∈ vecs M, Lot p (rowsOf (vecs L)) x.2 := fun x hx => (hL.lot _).mpr ((e _).mpr ((hM.lot _).mp (Lot.of ⟨x, hx, rfl⟩)))
  have pm : (L.map (·.1)).Perm (M.map (·.1)) := by
    refine (List.perm_ext_iff_of_nodup hL.nd hM.nd).mpr fun a => ?_
    rw [← vecs_places, ← vecs_places (L := M)]
    constructor
    · intro ha
      obtain ⟨x, hx, rfl⟩ := List.mem_map.mp ha
      obtain ⟨y, hy, ey⟩ := place_in p1 hL.leads hL.ahead hM.leads hM.ahead hM.ndv sub hx
      exact List.mem_map.mpr ⟨y, hy, ey⟩
    · intro ha
      obtain ⟨x, hx, rfl⟩ := List.mem_map.mp ha
      obtain ⟨y, hy, ey⟩ := place_in p1 hM.leads hM.ahead hL.leads hL.ahead hL.ndv sup hx
      exact List.mem_map.mpr ⟨y, hy, ey⟩
  have := pm.length_eq
  simpa using this
/-- each has a place at which those ahead of it have 0, and it not -/
inductive Fresh (p : Int) : List (List Int) → Prop
  | nil : Fresh p []
  | snoc {fs : List (List Int)} {f : List Int} (q : Nat) : Fresh p fs → (∀ g ∈ fs, Cg p (vec g q) 0) → ¬ Cg p (vec f q) 0 → Fresh p (fs ++ [f])
theorem Lot.at0 {p : Int} {R : Vc → Prop} {u : Vc} {q : Nat} (h : Lot p R u) (k : ∀ v, R v → Cg p (v q) 0) : Cg p (u q) 0 := by
  induction h with
  | zero => exact Cg.rfl'
  | add c _ r ih =>
    have a := ih.add ((Cg.rfl' (a := c)).mul (k _ r))
    rw [Int.mul_zero] at a
    exact a
  | eqv _ e ih => exact (e q).symm.trans ih
theorem Fresh.pl {p : Int} {n : Nat} (p1 : 1 < p) (inv : ∀ u, 0 < u → u < p → ∃ c, c * u % p = 1) {fs : List (List Int)} (h : Fresh p fs) (hf : ∀ f ∈ fs, f.length = n ∧ Rg p f) : ∃ L, PL p n fs L ∧ L.length = fs.length := by
  induction h with
  | nil => exact ⟨[], PL.nil, rfl⟩
  | @snoc fs f q _ z nz ih =>
    obtain ⟨L, pl, ll⟩ := ih fun g hg => hf g (List.mem_append.mpr (.inl hg))
    obtain ⟨fl, fr⟩ := hf f (by simp)
    have p0 : 0 < p := by omega
    have notz : ¬ ∀ x ∈ clearL p f L, x = 0 := fun hz => nz (((pl.zero p0 fl fr).mp hz).at0 fun v hv => by
      obtain ⟨g, hg, rfl⟩ := hv
      exact z g hg)
    -- the first place that isn't 0
    have first : ∀ us : List Int, (¬ ∀ x ∈ us, x = 0) → ∃ (j : Nat) (u : Int), us[j]? = some u ∧ u ≠ 0 ∧ ∀ i, i < j → us[i]? = some 0 := by
      intro us
      induction us with
      | nil => intro h; exact absurd (fun x hx => by cases hx) h
      | cons a us ih2 =>
        intro h
        by_cases ha : a = 0
        · have h' : ¬ ∀ x ∈ us, x = 0 := fun k => h fun x hx => by
            rcases List.mem_cons.mp hx with rfl | hx
            · exact ha
            · exact k x hx
          obtain ⟨j, u, e1, e2, e3⟩ := ih2 h'
          refine ⟨j + 1, u, e1, e2, fun i hi => ?_⟩
          cases i with
          | zero => rw [ha]; rfl
          | succ i => exact e3 i (by omega)
        · exact ⟨0, a, rfl, ha, fun i hi => absurd hi (Nat.not_lt_zero _)⟩
    obtain ⟨j, u, e1, e2, e3⟩ := first _ notz
    have ur := clear_rg p0 L fr u (List.mem_of_getElem? e1)
    obtain ⟨c, hc⟩ := inv u (by omega) ur.2
    refine ⟨_, pl.step p1 fl fr e1 e2 e3 hc, ?_⟩
    rw [List.length_append, List.length_append]
    have e : (moreL p j (scaled p c (clearL p f L)) L).length = L.length := by simp [moreL]
    rw [e, ll]
    rfl
/-! ### the mirror of rows -/
structure Mir (p : Int) (n : Nat) (rs : List (List (Int × Int))) (vs : List (List Int)) : Prop where
  ker : ∀ w, Sup (2 * n) w → (Lot p (spn vs) w ↔ ∀ r ∈ rs, Cg p (dot (crs (vec (flatR r))) w (2 * n)) 0)
  bi : ∀ w, Sup (2 * n) w → (∀ v ∈ vs, Cg p (dot (crs w) (vec v) (2 * n)) 0) → Lot p (spn (rs.map flatR)) w
  cnt : ∀ K L, PL p (2 * n) (rs.map flatR) K → PL p (2 * n) vs L → L.length + K.length = 2 * n
theorem lot_both {p : Int} {R S : Vc → Prop} (h1 : ∀ v, R v → ∃ w, S w ∧ Eqv p w v) (h2 : ∀ v, S v → ∃ w, R w ∧ Eqv p w v) (u : Vc) : Lot p R u ↔ Lot p S u :=
  Lot.iff (fun v hv => let ⟨w, hw, e⟩ := h1 v hv; .eqv (Lot.of hw) e) (fun v hv => let ⟨w, hw, e⟩ := h2 v hv; .eqv (Lot.of hw) e) u
def crsF (p : Int) (rs : List (List (Int × Int))) : List (List Int) := rs.map fun r => flatR (crsP p r)
theorem crs_spn {p : Int} {rs : List (List (Int × Int))} (u : Vc) : Lot p (spn (crsF p rs)) u ↔ Lot p (crsR (spn (rs.map flatR))) u := by
  refine lot_both (fun v hv => ?_) (fun v hv => ?_) u
  · obtain ⟨f, hf, rfl⟩ := hv
    obtain ⟨r, hr, rfl⟩ := List.mem_map.mp hf
    exact ⟨_, ⟨vec (flatR r), ⟨flatR r, List.mem_map.mpr ⟨r, hr, rfl⟩, rfl⟩, rfl⟩, vec_crs.symm⟩
  · obtain ⟨w, ⟨f, hf, rfl⟩, rfl⟩ := hv
    obtain ⟨r, hr, rfl⟩ := List.mem_map.mp hf
    exact ⟨_, ⟨flatR (crsP p r), List.mem_map.mpr ⟨r, hr, rfl⟩, rfl⟩, vec_crs⟩
/-- the other number of the same pair -/
def mate (q : Nat) : Nat := if q % 2 = 0 then q + 1 else q - 1
theorem crs_mate {p : Int} (u : Vc) (q : Nat) : (Cg p (crs u (mate q)) 0 ↔ Cg p (u q) 0) := by
  unfold crs mate
  by_cases h : q % 2 = 0
  · rw [if_pos h, if_neg (by omega)]
    exact Iff.rfl
  · rw [if_neg h, if_pos (by omega)]
    have e : q - 1 + 1 = q := by omega
    rw [e]
    constructor
    · intro k
      have a := (Cg.rfl' (p := p) (a := 0)).sub k
      have e2 : (0 : Int) - -u q = u q := by omega
      rw [e2] at a
      exact a
    · intro k
      have a := (Cg.rfl' (p := p) (a := 0)).sub k
      have e2 : (0 : Int) - u q = -u q := by omega
      rw [e2] at a
      exact a
theorem crs_count {p : Int} {n : Nat} {rs : List (List (Int × Int))} {K L : List (Nat × List Int)} (p1 : 1 < p) (inv : ∀ u, 0 < u → u < p → ∃ c, c * u % p = 1) (hK : PL p (2 * n) (rs.map flatR) K) (hL : PL p (2 * n) (crsF p rs) L) : L.length = K.length := by
  have p0 : 0 < p := by omega
  have gv : ∀ x ∈ K, Eqv p (vec (flatR (crsP p (rowL x.2)))) (crs (vec x.2)) := fun x hx => by
    have e := (rowL_flat n x.2 (hK.len x hx)).1
    have a := vec_crs (p := p) (r := rowL x.2)
    rw [e] at a
    exact a
  have fresh : ∀ i, i ≤ K.length → Fresh p ((K.take i).map fun x => flatR (crsP p (rowL x.2))) := by
    intro i
    induction i with
    | zero => intro _; exact Fresh.nil
    | succ i ih =>
      intro hi
      have hi' : i < K.length := by omega
      have e : (K.take (i + 1)).map (fun x => flatR (crsP p (rowL x.2))) = (K.take i).map (fun x => flatR (crsP p (rowL x.2))) ++ [flatR (crsP p (rowL (K[i]).2))] := by
        rw [← List.take_append_getElem hi', List.map_append]
        rfl
      rw [e]
      have mi := List.getElem_mem hi'
      refine .snoc (mate (K[i]).1) (ih (by omega)) (fun g hg => ?_) ?_
      · obtain ⟨y, hy, rfl⟩ := List.mem_map.mp hg
        have my := List.mem_of_mem_take hy
        refine (gv y my _).trans ((crs_mate _ _).mpr ?_)
        have ne : y.1 ≠ (K[i]).1 := by
          have nd := hK.nd
          rw [← List.take_append_drop i K, List.map_append] at nd
          have z := (List.nodup_append.mp nd).2.2 y.1 (List.mem_map.mpr ⟨y, hy, rfl⟩) (K[i]).1 (List.mem_map.mpr ⟨K[i], List.mem_of_getElem? (i := 0) (by rw [List.getElem?_drop]; simp [hi']), rfl⟩)
          exact z
        exact hK.leads.other (y.1, vec y.2) (mem_vecs.mpr ⟨y, my, rfl⟩) ((K[i]).1, vec (K[i]).2) (mem_vecs.mpr ⟨K[i], mi, rfl⟩) ne
      · intro z
        have a := (crs_mate _ _).mp ((gv _ mi _).symm.trans z)
        exact one_zero p1 ((hK.leads.self ((K[i]).1, vec (K[i]).2) (mem_vecs.mpr ⟨K[i], mi, rfl⟩)).symm.trans a)
  have fr := fresh K.length (Nat.le_refl _)
  rw [List.take_length] at fr
  obtain ⟨M, hM, ml⟩ := fr.pl (n := 2 * n) p1 inv fun f hf => by
    obtain ⟨x, hx, rfl⟩ := List.mem_map.mp hf
    obtain ⟨e1, e2⟩ := rowL_flat n x.2 (hK.len x hx)
    refine ⟨by rw [flat_len]; unfold crsP; rw [List.length_map, e2], fun u hu => ?_⟩
    obtain ⟨w, hw, hm⟩ := List.mem_flatMap.mp hu
    obtain ⟨v, hv, rfl⟩ := List.mem_map.mp hw
    have m1 : v.1 ∈ flatR (rowL x.2) := List.mem_flatMap.mpr ⟨v, hv, by simp⟩
    rw [e1] at m1
    have m : u = -v.2 % p ∨ u = v.1 := by simpa using hm
    rcases m with e | e
    · rw [e]
      exact ⟨Int.emod_nonneg _ (by omega), Int.emod_lt_of_pos _ p0⟩
    · rw [e]
      exact hK.rg x hx _ m1
  rw [List.length_map] at ml
  rw [← ml]
  refine hL.len_eq p1 hM fun u => ?_
  rw [crs_spn]
  constructor
  · refine Lot.sub fun v hv => ?_
    obtain ⟨w, hw, rfl⟩ := hv
    have a := crs_lot ((hK.lot w).mpr (Lot.of hw))
    refine Lot.sub (fun y hy => ?_) a
    obtain ⟨x, ⟨z, hz, rfl⟩, rfl⟩ := hy
    obtain ⟨k, hk, rfl⟩ := mem_vecs.mp hz
    exact .eqv (Lot.of ⟨_, List.mem_map.mpr ⟨k, hk, rfl⟩, rfl⟩) (gv k hk)
  · refine Lot.sub fun v hv => ?_
    obtain ⟨f, hf, rfl⟩ := hv
    obtain ⟨k, hk, rfl⟩ := List.mem_map.mp hf
    refine .eqv (crs_lot ((hK.lot (vec k.2)).mp (Lot.of ⟨(k.1, vec k.2), mem_vecs.mpr ⟨k, hk, rfl⟩, rfl⟩))) (gv k hk).symm
theorem sup_crs {n : Nat} {w : Vc} (h : Sup (2 * n) w) : Sup (2 * n) (crs w) := fun i hi => by
  unfold crs
  split
  · rw [h (i + 1) (by omega)]
    rfl
  · exact h (i - 1) (by omega)
theorem mir_of {p : Int} {n : Nat} {rs : List (List (Int × Int))} {vs : List (List Int)} {L : List (Nat × List Int)} {fs : List Nat} (p1 : 1 < p) (inv : ∀ u, 0 < u → u < p → ∃ c, c * u % p = 1) (hL : PL p (2 * n) (crsF p rs) L) (hf : ∀ f, f ∈ fs ↔ f < 2 * n ∧ f ∉ L.map (·.1)) (ndf : fs.Nodup)
    (vl : vs.length = fs.length) (hv : ∀ (i f : Nat) (v : List Int), fs[i]? = some f → vs[i]? = some v → Eqv p (vec v) (frV f (vecs L)) ∧ v.length = 2 * n ∧ Rg p v) : Mir p n rs vs := by
  have hf' : ∀ f, f ∈ fs ↔ f < 2 * n ∧ ∀ x ∈ vecs L, x.1 ≠ f := fun f => by
    rw [hf f]
    constructor
    · rintro ⟨a, b⟩
      refine ⟨a, fun x hx e => b ?_⟩
      obtain ⟨y, hy, rfl⟩ := mem_vecs.mp hx
      exact List.mem_map.mpr ⟨y, hy, e⟩
    · rintro ⟨a, b⟩
      refine ⟨a, fun m => ?_⟩
      obtain ⟨y, hy, e⟩ := List.mem_map.mp m
      exact b (y.1, vec y.2) (mem_vecs.mpr ⟨y, hy, rfl⟩) e
  have plc : ∀ x ∈ vecs L, x.1 < 2 * n := fun x hx => by
    obtain ⟨y, hy, rfl⟩ := mem_vecs.mp hx
    exact hL.plc y hy
  have supL : ∀ x ∈ vecs L, Sup (2 * n) x.2 := fun x hx => by
    obtain ⟨y, hy, rfl⟩ := mem_vecs.mp hx
    exact sup_vec (hL.len y hy)
  have same : ∀ u, Lot p (spn vs) u ↔ Lot p (fun v => ∃ f ∈ fs, v = frV f (vecs L)) u := fun u => by
    refine lot_both (fun v hv' => ?_) (fun v hv' => ?_) u
    · obtain ⟨f, hf1, rfl⟩ := hv'
      obtain ⟨i, hi, rfl⟩ := List.mem_iff_getElem.mp hf1
      have hi2 : i < fs.length := by omega
      exact ⟨_, ⟨fs[i], List.getElem_mem hi2, rfl⟩, ((hv i _ _ (List.getElem?_eq_getElem hi2) (List.getElem?_eq_getElem hi)).1).symm⟩
    · obtain ⟨f, hf1, rfl⟩ := hv'
      obtain ⟨i, hi, rfl⟩ := List.mem_iff_getElem.mp hf1
      have hi2 : i < vs.length := by omega
      exact ⟨_, ⟨vs[i], List.getElem_mem hi2, rfl⟩, (hv i _ _ (List.getElem?_eq_getElem hi) (List.getElem?_eq_getElem hi2)).1⟩
  refine ⟨fun w sw => ?_, fun w sw h => ?_, fun K M hK hM => ?_⟩
  · rw [same w, fr_ker hL.leads hL.ndv plc hf' ndf sw]
    constructor
    · intro h r hr
      refine dot_lotL (R := rowsOf (vecs L)) ((hL.lot _).mpr ((crs_spn _).mpr (Lot.of ⟨vec (flatR r), ⟨flatR r, List.mem_map.mpr ⟨r, hr, rfl⟩, rfl⟩, rfl⟩))) fun v hv' => ?_
      obtain ⟨x, hx, rfl⟩ := hv'
      exact h x hx
    · intro h x hx
      refine dot_lotL (R := crsR (spn (rs.map flatR))) ((crs_spn _).mp ((hL.lot _).mp (Lot.of ⟨x, hx, rfl⟩))) fun v hv' => ?_
      obtain ⟨w', ⟨f, hf1, rfl⟩, rfl⟩ := hv'
      obtain ⟨r, hr, rfl⟩ := List.mem_map.mp hf1
      exact h r hr
  · have a := fr_back (u := crs w) hL.leads hL.ndv plc hf' supL (sup_crs sw) fun f hf1 => by
      obtain ⟨i, hi, rfl⟩ := List.mem_iff_getElem.mp hf1
      have hi2 : i < vs.length := by omega
      exact (dot_eqv _ Eqv.refl (hv i _ _ (List.getElem?_eq_getElem hi) (List.getElem?_eq_getElem hi2)).1).symm.trans (h _ (List.getElem_mem hi2))
    exact crs_back ((crs_spn _).mp ((hL.lot _).mp a))
  · have lk := crs_count p1 inv hK hL
    have fresh : ∀ i, i ≤ vs.length → Fresh p (vs.take i) := by
      intro i
      induction i with
      | zero => intro _; exact Fresh.nil
      | succ i ih =>
        intro hi
        have hi' : i < vs.length := by omega
        have hi2 : i < fs.length := by omega
        rw [← List.take_append_getElem hi']
        have mi := (hf' _).mp (List.getElem_mem hi2)
        refine .snoc fs[i] (ih (by omega)) (fun g hg => ?_) ?_
        · obtain ⟨j, hj, rfl⟩ := List.mem_iff_getElem.mp hg
          rw [List.length_take] at hj
          have hj1 : j < vs.length := by omega
          have hj2 : j < fs.length := by omega
          rw [List.getElem_take]
          refine ((hv j _ _ (List.getElem?_eq_getElem hj2) (List.getElem?_eq_getElem hj1)).1 _).trans ?_
          rw [fr_other mi.2 ((List.pairwise_iff_getElem.mp ndf) j i hj2 hi2 (by omega))]
          exact Cg.rfl'
        · intro z
          have a := ((hv i _ _ (List.getElem?_eq_getElem hi2) (List.getElem?_eq_getElem hi')).1 fs[i]).symm.trans z
          rw [fr_self mi.2] at a
          exact one_zero p1 a
    have fr := fresh vs.length (Nat.le_refl _)
    rw [List.take_length] at fr
    obtain ⟨N, hN, nl⟩ := fr.pl (n := 2 * n) p1 inv fun v hv' => by
      obtain ⟨i, hi, rfl⟩ := List.mem_iff_getElem.mp hv'
      have hi2 : i < fs.length := by omega
      exact (hv i _ _ (List.getElem?_eq_getElem hi2) (List.getElem?_eq_getElem hi)).2
    have lm := hM.len_eq p1 hN fun u => Iff.rfl
    -- free places and places of leads are all places
    have pm : (fs ++ L.map (·.1)).Perm (List.range (2 * n)) := by
      refine (List.perm_ext_iff_of_nodup ?_ List.nodup_range).mpr fun a => ?_
      · exact List.nodup_append.mpr ⟨ndf, hL.nd, fun a ha b hb e => ((hf a).mp ha).2 (by rw [e]; exact hb)⟩
      · rw [List.mem_append, List.mem_range]
        constructor
        · rintro (h | h)
          · exact ((hf a).mp h).1
          · obtain ⟨y, hy, rfl⟩ := List.mem_map.mp h
            exact hL.plc y hy
        · intro h
          by_cases m : a ∈ L.map (·.1)
          · exact .inr m
          · exact .inl ((hf a).mpr ⟨h, m⟩)
    have le := pm.length_eq
    rw [List.length_append, List.length_map, List.length_range] at le
    omega
/-- the mirror of the mirror is the lot -/
theorem mir_mir {p : Int} {n : Nat} {rs ss : List (List (Int × Int))} {vs ws : List (List Int)} (h1 : Mir p n rs vs) (h2 : Mir p n ss ws) (e : ∀ u, Lot p (spn (ss.map flatR)) u ↔ Lot p (spn vs) u) (hr : ∀ r ∈ rs, r.length = n) (hs : ∀ r ∈ ss, r.length = n) (hw : ∀ w ∈ ws, w.length = 2 * n) (u : Vc) : Lot p (spn ws) u ↔ Lot p (spn (rs.map flatR)) u := by
  have key : ∀ w, Sup (2 * n) w → (Lot p (spn ws) w ↔ Lot p (spn (rs.map flatR)) w) := fun w sw => by
    rw [h2.ker w sw]
    have neg : ∀ a : Int, Cg p a 0 → Cg p (-a) 0 := fun a k => by
      have b := (Cg.rfl' (p := p) (a := 0)).sub k
      have e2 : (0 : Int) - a = -a := by omega
      rw [e2] at b
      exact b
    constructor
    · intro h
      refine h1.bi w sw fun v hv => ?_
      refine dot_lotR ((e (vec v)).mpr (Lot.of ⟨v, hv, rfl⟩)) fun x hx => ?_
      obtain ⟨f, hf, rfl⟩ := hx
      obtain ⟨r, hr', rfl⟩ := List.mem_map.mp hf
      rw [dot_crs]
      exact neg _ (h r hr')
    · intro h r hr'
      rw [dot_crs]
      refine neg _ ?_
      have sr : Sup (2 * n) (vec (flatR r)) := sup_vec (by rw [flat_len, hs r hr'])
      have k := (h1.ker (vec (flatR r)) sr).mp ((e _).mp (Lot.of ⟨flatR r, List.mem_map.mpr ⟨r, hr', rfl⟩, rfl⟩))
      refine dot_lotL (R := crsR (spn (rs.map flatR))) (crs_lot h) fun x hx => ?_
      obtain ⟨y, ⟨f, hf, rfl⟩, rfl⟩ := hx
      obtain ⟨r2, hr2, rfl⟩ := List.mem_map.mp hf
      exact k r2 hr2
  refine Lot.iff (fun v hv => ?_) (fun v hv => ?_) u
  · obtain ⟨f, hf, rfl⟩ := hv
    exact (key _ (sup_vec (hw f hf))).mp (Lot.of ⟨f, hf, rfl⟩)
  · obtain ⟨f, hf, rfl⟩ := hv
    obtain ⟨r, hr', rfl⟩ := List.mem_map.mp hf
    exact (key _ (sup_vec (by rw [flat_len, hr r hr']))).mpr (Lot.of ⟨_, hf, rfl⟩)
end Lin
set_option linter.all false
/-! zip of two or three things, each a list or a tuple, of one length -/
namespace Zm
open PySem PySem.Spec PyProof.Rows L2
inductive Kd where
  | l
  | t
def Sq (k : Kd) (K : PySem.W.Frag) (H : Hp) (a : Addr) (xs : List V) : Prop := match k with
  | .l => SqL K H a xs
  | .t => SqT K H a xs
def Itr (k : Kd) (h : Heap) (it a : Addr) (i : Nat) : Prop := match k with
  | .l => h.IsListIter it a i
  | .t => h.IsTupleIter it a i
def Sqh (k : Kd) (h : Heap) (a : Addr) (its : Array Value) : Prop := match k with
  | .l => h.IsList a its
  | .t => h.IsTuple a its
theorem drw {pr : Program} {w : World} {A : Around} (k : Kd) (hh : A.handled = none) {it a : Addr} (ne : a ≠ it) (its : Array Value) :
    Draws pr w A it [it, a] its.size (fun i v => its[i]? = some v) (fun i h => Itr k h it a i ∧ Sqh k h a its) := match k with
  | .l => Draws.list hh it a ne its
  | .t => Draws.tuple hh it a ne its
theorem bgn (k : Kd) (a : Addr) (its : Array Value) : ∃ o, Begins (.ref a) o (fun h => Sqh k h a its) ∧ ∀ (h : Heap) (it : Addr), h.get? it = some o → Itr k h it a 0 := match k with
  | .l => ⟨_, begins_list a its, fun h it e => ⟨_, e, rfl, rfl⟩⟩
  | .t => ⟨_, begins_tuple a its, fun h it e => ⟨_, e, rfl, rfl⟩⟩
section
variable {X : Cx} {pn : List (Addr × Obj)} {σ : L2.St} {H : Hp} {s : Shared} {a : Addr} {xs ys : List V} {k : Kd}
theorem at_ (I : Inv X pn σ H s) (q : Sq k X.K H a xs) : ∃ its : List Value, Vals xs its ∧ Sqh k s.heap a its.toArray ∧ a < s.heap.objs.size := by
  cases k with
  | l =>
    obtain ⟨its, r, p, _⟩ := I.list q
    exact ⟨its, r, p.isList, p.lt⟩
  | t =>
    obtain ⟨its, r, p, _⟩ := I.tuple q
    obtain ⟨o, ho, _⟩ := id p
    exact ⟨its, r, p, Heap.lt_size ho⟩
theorem inj (I : Inv X pn σ H s) (q : Sq k X.K H a xs) (q' : Sq k X.K H a ys) : xs = ys := by
  cases k with
  | l => exact I.list_inj q q'
  | t => exact I.tuple_inj q q'
theorem itr_keep {h h' : Heap} {it : Addr} {i : Nat} (x : Itr k h it a i) (kp : ∀ o, h.get? it = some o → h'.get? it = some o) : Itr k h' it a i := by
  cases k with
  | l => exact x.at kp
  | t => exact x.at kp
theorem itr_obj {h : Heap} {it : Addr} {i : Nat} (x : Itr k h it a i) : ∃ o, h.get? it = some o ∧ ∀ v, o.data ≠ .cell v := by
  cases k with
  | l =>
    obtain ⟨o, e, _, d⟩ := x
    exact ⟨o, e, fun v q => by rw [d] at q; cases q⟩
  | t =>
    obtain ⟨o, e, _, d⟩ := x
    exact ⟨o, e, fun v q => by rw [d] at q; cases q⟩
end
/-! ### two -/
def It2 (j k : Kd) (K : PySem.W.Frag) (a b : Addr) : It where
  go i H := ∃ (xs ys : List V) (x y : V), Sq j K H a xs ∧ Sq k K H b ys ∧ xs[i]? = some x ∧ ys[i]? = some y
  yld i H v H' := ∃ T x y, v = .ref T ∧ H T = none ∧ H' = upd H T (.tup [x, y]) ∧ (∀ xs, Sq j K H a xs → xs[i]? = some x) ∧ ∀ ys, Sq k K H b ys → ys[i]? = some y
  stop i H := ∃ xs ys : List V, Sq j K H a xs ∧ Sq k K H b ys ∧ xs.length = i ∧ ys.length = i
theorem mem5 {z a b c d x : Addr} (h : x ∈ [z, a, b, c, d]) : x = z ∨ x = a ∨ x = b ∨ x = c ∨ x = d := by simpa using h
theorem trn2 {P : Program} {w : World} {K : PySem.W.Frag} {j k : Kd} {es : List Expr} {kk : Nat} {tp : Pos} {a b z TI TO i1 i2 : Addr} (S : ZipSep2 z TI TO i1 i2 [i1, a] [i2, b]) (n1 : a ≠ i1) (n2 : b ≠ i2) :
    Turn P w K (.Tuple es kk tp) (It2 j k K a b) [z, TI, TO, i1, i2] z (fun i h => IsZip h z TI TO .none ∧ IsTupOf2 h TI (.ref i1) (.ref i2) ∧ (∃ x y, IsTupOf2 h TO x y) ∧ Itr j h i1 a i ∧ Itr k h i2 b i) where
  mem := by simp
  obj := fun i h st c hc => by
    obtain ⟨hz, hTI, ⟨x, y, hTO⟩, h1, h2⟩ := st
    rcases mem5 hc with rfl | rfl | rfl | rfl | rfl
    · exact ⟨_, hz, fun v e => nomatch e⟩
    · exact ⟨_, hTI, fun v e => nomatch e⟩
    · exact ⟨_, hTO, fun v e => nomatch e⟩
    · exact itr_obj h1
    · exact itr_obj h2
  keep := fun i h h' st kp => by
    obtain ⟨hz, hTI, ⟨x, y, hTO⟩, h1, h2⟩ := st
    exact ⟨kp z (by simp) _ hz, kp TI (by simp) _ hTI, ⟨x, y, kp TO (by simp) _ hTO⟩, itr_keep h1 fun o e => kp i1 (by simp) o e, itr_keep h2 fun o e => kp i2 (by simp) o e⟩
  item := by
    intro X eP ew eK calm i pn s σ H E I hf st gg
    subst eP ew eK
    obtain ⟨hz, hTI, hTO, h1, h2⟩ := st
    obtain ⟨xs, ys, x, y, qx, qy, hx, hy⟩ := gg
    obtain ⟨us, rv, p1, _⟩ := at_ I qx
    obtain ⟨vs, rv2, p2, _⟩ := at_ I qy
    have hh : X.A.in1.handled = none := I.ok.hd calm
    have l1 : i < us.toArray.size := by
      have := (List.getElem?_eq_some_iff.mp hx).1
      rw [List.size_toArray, ← rv.length]
      exact this
    have l2 : i < vs.toArray.size := by
      have := (List.getElem?_eq_some_iff.mp hy).1
      rw [List.size_toArray, ← rv2.length]
      exact this
    refine (GoesN.zip2 S (drw j hh n1 us.toArray) (drw k hh n2 vs.toArray)).goes i s (fun u s2 => ∃ x H', Inv X pn σ H' s2 ∧ RelV x u ∧ (It2 j k X.K a b).yld i H x H' ∧ _ ∧ ∀ c ∈ _, H' c = none) E (by omega) ⟨hz, hTI, hTO, ⟨h1, p1⟩, h2, p2⟩ fun v h' tk Y st' kp _ => ?_
    obtain ⟨T, u, u2, rfl, le, hu, hu2, hT⟩ := Y
    obtain ⟨hz', hTI', hTO', ⟨h1', _⟩, h2', _⟩ := st'
    obtain ⟨w1, e1, r1⟩ := rv.get hx
    obtain ⟨w2, e2, r2⟩ := rv2.get hy
    have c1 : w1 = u := by
      have z1 : us[i]? = some u := by simpa using hu
      rw [e1] at z1
      exact Option.some.inj z1
    have c2 : w2 = u2 := by
      have z2 : vs[i]? = some u2 := by simpa using hu2
      rw [e2] at z2
      exact Option.some.inj z2
    subst c1 c2
    have fresh : H T = none := I.hok.fresh le
    have new : ObjOk X.prog X.w (upd H T (.tup [x, y])) h' T (.tup [x, y]) := ⟨by show 2 ≤ sizeLine; decide, [w1, w2], .cons r1 (.cons r2 .nil), hT⟩
    have I1 := I.turnedNew (t' := tk) (ch := [z, TI, TO, i1, i2]) (fun c o n e => kp c o (fun m => n (by
      have m' : c = z ∨ c = TO ∨ c = i1 ∨ c = i2 := by simpa using m
      rcases m' with q | q | q | q <;> (rw [q]; simp))) e) hf le new
    refine ⟨.ref T, _, I1, rfl, ⟨T, x, y, rfl, fresh, rfl, fun l hl => by rw [inj I hl qx]; exact hx, fun l hl => by rw [inj I hl qy]; exact hy⟩, ⟨hz', hTI', hTO', h1', h2'⟩, fun c hc => ?_⟩
    have lt : c < s.heap.objs.size := by
      rcases mem5 hc with rfl | rfl | rfl | rfl | rfl
      · exact Heap.lt_size hz
      · exact Heap.lt_size hTI
      · obtain ⟨_, _, e⟩ := hTO
        exact Heap.lt_size e
      · obtain ⟨_, e, _⟩ := itr_obj h1
        exact Heap.lt_size e
      · obtain ⟨_, e, _⟩ := itr_obj h2
        exact Heap.lt_size e
    rw [upd_ne (Nat.ne_of_lt (Nat.lt_of_lt_of_le lt le))]
    exact (hf c hc).1
  done := by
    intro X eP ew eK calm i pn s σ H E I hf st gg
    subst eP ew eK
    obtain ⟨hz, hTI, hTO, h1, h2⟩ := st
    obtain ⟨xs, ys, qx, qy, hx, hy⟩ := gg
    obtain ⟨us, rv, p1, _⟩ := at_ I qx
    obtain ⟨vs, rv2, p2, _⟩ := at_ I qy
    have hh : X.A.in1.handled = none := I.ok.hd calm
    have e : i = min us.toArray.size vs.toArray.size := by
      have l1 := rv.length
      have l2 := rv2.length
      simp
      omega
    subst e
    exact (GoesN.zip2 (elts := es) (x1 := kk) (pos := tp) S (drw j hh n1 us.toArray) (drw k hh n2 vs.toArray)).stops s (fun s1 => Inv X pn σ H s1) E ⟨hz, hTI, hTO, ⟨h1, p1⟩, h2, p2⟩ fun h' tk kp _ => I.turnedL (t' := tk) (ch := [z, TI, TO, i1, i2]) (fun c o n e => kp c o (fun m => n (by
      have m' : c = z ∨ c = TO ∨ c = i1 ∨ c = i2 := by simpa using m
      rcases m' with q | q | q | q <;> (rw [q]; simp))) e) hf
  self := fun A i s Q E st h => wpAny_pyIter_zip st.1 h
def iZip2 (j k : Kd) (K : PySem.W.Frag) (ta : TA) : TI := fun σ H R => ta σ H fun vs H1 => ∃ a b xs ys, vs = [.ref a, .ref b] ∧ Sq j K H1 a xs ∧ Sq k K H1 b ys ∧ R (It2 j k K a b) H1
theorem pi_zip2 {X : Cx} {e e2 : Expr} {ta : TA} {p pos tp : Pos} {es : List Expr} {kk : Nat} (j k : Kd) (hg : Gl X "zip") (hm : X.mg "zip" = none) (ha : PA X [e, e2] ta)
    (hs : starEach [e, e2] X.env = (false, eval e X.env) :: starEach [e2] X.env := by rfl) (hpl : (backTo pos (starEach [e2] X.env)).any (·.1) = false := by rfl) :
    PI X (.Tuple es kk tp) (.Call (.Name "zip" p) [e, e2] [] pos) (iZip2 j k X.K ta) := by
  refine ⟨fun pn s σ H R I h => ?_⟩
  refine Call_ (ld_blt I hg hm PyProof.Rows.boot_zip (PyProof.Rows.callWith_type1 (thn (ha.run pos pn s σ H _ I h) fun us s1 ⟨vs, H1, I1, r1, q1⟩ => ?_) hs hpl))
  obtain ⟨a, b, xs, ys, ex, qx, qy, q⟩ := q1
  subst ex
  cases r1 with
  | cons r rr =>
   cases rr with
   | cons r' rr =>
    cases rr
    cases r
    cases r'
    obtain ⟨us, rv, p1, la⟩ := at_ I1 qx
    obtain ⟨vs, rv2, p2, lb⟩ := at_ I1 qy
    obtain ⟨o1, B1, f1⟩ := bgn j a us.toArray
    obtain ⟨o2, B2, f2⟩ := bgn k b vs.toArray
    refine zip_begins2 B1 B2 p1 p2 fun h' hz hTI hTO g1 g2 hsz kp => wpAny_pyIter_zip hz ?_
    have S := zip_sep2 (N := s1.heap.objs.size) (fp1 := [a]) (fp2 := [b]) (fun c hc => by rw [List.mem_singleton.mp hc]; exact la) (fun c hc => by rw [List.mem_singleton.mp hc]; exact lb)
    have ne1 : a ≠ s1.heap.objs.size := Nat.ne_of_lt la
    have ne2 : b ≠ s1.heap.objs.size + 1 := Nat.ne_of_lt (Nat.lt_succ_of_lt lb)
    refine ⟨_, _, _, _, H1, rfl, I1.kept (t' := s1.toks) kp, trn2 (j := j) (k := k) S ne1 ne2, ⟨hz, hTI, ⟨_, _, hTO⟩, f1 _ _ g1, f2 _ _ g2⟩, fun c hc => ?_, q⟩
    have le : s1.heap.objs.size ≤ c := by
      rcases mem5 hc with rfl | rfl | rfl | rfl | rfl
      · exact Nat.le_add_right _ _
      · exact Nat.le_add_right _ _
      · exact Nat.le_add_right _ _
      · exact Nat.le_refl _
      · exact Nat.le_add_right _ _
    exact I1.fpOk le (I1.hok.fresh le)
def iZipK (K : PySem.W.Frag) (ta : TA) : TI := fun σ H R => ta σ H fun vs H1 => ∃ j k a b xs ys, vs = [.ref a, .ref b] ∧ Sq j K H1 a xs ∧ Sq k K H1 b ys ∧ R (It2 j k K a b) H1
theorem pi_zipK {X : Cx} {e e2 : Expr} {ta : TA} {p pos tp : Pos} {es : List Expr} {kk : Nat} (hg : Gl X "zip") (hm : X.mg "zip" = none) (ha : PA X [e, e2] ta)
    (hs : starEach [e, e2] X.env = (false, eval e X.env) :: starEach [e2] X.env := by rfl) (hpl : (backTo pos (starEach [e2] X.env)).any (·.1) = false := by rfl) :
    PI X (.Tuple es kk tp) (.Call (.Name "zip" p) [e, e2] [] pos) (iZipK X.K ta) := by
  refine ⟨fun pn s σ H R I h => ?_⟩
  refine Call_ (ld_blt I hg hm PyProof.Rows.boot_zip (PyProof.Rows.callWith_type1 (thn (ha.run pos pn s σ H _ I h) fun us s1 ⟨vs, H1, I1, r1, q1⟩ => ?_) hs hpl))
  obtain ⟨j, k, a, b, xs, ys, ex, qx, qy, q⟩ := q1
  subst ex
  cases r1 with
  | cons r rr =>
   cases rr with
   | cons r' rr =>
    cases rr
    cases r
    cases r'
    obtain ⟨us, rv, p1, la⟩ := at_ I1 qx
    obtain ⟨vs, rv2, p2, lb⟩ := at_ I1 qy
    obtain ⟨o1, B1, f1⟩ := bgn j a us.toArray
    obtain ⟨o2, B2, f2⟩ := bgn k b vs.toArray
    refine zip_begins2 B1 B2 p1 p2 fun h' hz hTI hTO g1 g2 hsz kp => wpAny_pyIter_zip hz ?_
    have S := zip_sep2 (N := s1.heap.objs.size) (fp1 := [a]) (fp2 := [b]) (fun c hc => by rw [List.mem_singleton.mp hc]; exact la) (fun c hc => by rw [List.mem_singleton.mp hc]; exact lb)
    have ne1 : a ≠ s1.heap.objs.size := Nat.ne_of_lt la
    have ne2 : b ≠ s1.heap.objs.size + 1 := Nat.ne_of_lt (Nat.lt_succ_of_lt lb)
    refine ⟨_, _, _, _, H1, rfl, I1.kept (t' := s1.toks) kp, trn2 (j := j) (k := k) S ne1 ne2, ⟨hz, hTI, ⟨_, _, hTO⟩, f1 _ _ g1, f2 _ _ g2⟩, fun c hc => ?_, q⟩
    have le : s1.heap.objs.size ≤ c := by
      rcases mem5 hc with rfl | rfl | rfl | rfl | rfl
      · exact Nat.le_add_right _ _
      · exact Nat.le_add_right _ _
      · exact Nat.le_add_right _ _
      · exact Nat.le_refl _
      · exact Nat.le_add_right _ _
    exact I1.fpOk le (I1.hok.fresh le)
/-! ### walks -/
section
variable {K : PySem.W.Frag} {a b : Addr} {xs ys : List V} {j k : Kd}
theorem walk2 (hl : xs.length = ys.length) : Walk (It2 j k K a b) xs.length (fun H => Sq j K H a xs ∧ Sq k K H b ys) (YPair (fun i => xs[i]?) (fun i => ys[i]?)) := by
  refine ⟨fun i _ hi q => ?_, fun _ q => ⟨xs, ys, q.1, q.2, rfl, hl.symm⟩, fun i H v H' _ q y => ?_⟩
  · have h2 : i < ys.length := by omega
    exact ⟨xs, ys, xs[i], ys[i], q.1, q.2, by simp [hi], by simp [h2]⟩
  · obtain ⟨T, x, z, h1, h2, h3, h4, h5⟩ := y
    exact ⟨T, x, z, h1, h2, h3, h4 xs q.1, h5 ys q.2⟩
/-- a list or a tuple, item by item -/
def Itq (k : Kd) (K : PySem.W.Frag) (a : Addr) : It := match k with
  | .l => Itl K a
  | .t => Itt K a
theorem walkq : Walk (Itq k K a) xs.length (fun H => Sq k K H a xs) (YAt xs) := match k with
  | .l => walk_list
  | .t => walk_tup
end
def iKd (K : PySem.W.Frag) (te : TE) : TI := fun σ H R => te σ H fun x H1 => ∃ a k xs, x = .ref a ∧ Sq k K H1 a xs ∧ R (Itq k K a) H1
theorem pi_kd {X : Cx} {tg e : Expr} {te : TE} (he : PE X e te) : PI X tg e (iKd X.K te) := by
  refine ⟨fun pn s σ H R I h => ?_⟩
  refine thn (he.run pn s σ H _ I h) fun u s1 ⟨x, H1, I1, r, a, k, xs, ex, q, R1⟩ => ?_
  subst ex
  obtain rfl : u = Value.ref a := r
  obtain ⟨us, rv, p, la⟩ := at_ I1 q
  obtain ⟨o, B, f⟩ := bgn k a us.toArray
  refine B.iter _ _ _ _ s1 _ p ?_
  have up : ∀ c ob, s1.heap.get? c = some ob → (s1.heap.push o).get? c = some ob := fun c ob e => Heap.get?_push_of_some _ e
  have fp : ∀ c ∈ [s1.heap.objs.size], FpOk X pn H1 c := fun c hc => by
    rw [List.mem_singleton.mp hc]
    exact I1.fpOk (Nat.le_refl _) (I1.hok.fresh (Nat.le_refl _))
  have g := f _ _ (Heap.get?_push_size s1.heap B.free)
  cases k with
  | l => exact ⟨_, _, _, _, H1, rfl, I1.kept (t' := s1.toks) up, turn_list a _, g, fp, R1⟩
  | t => exact ⟨_, _, _, _, H1, rfl, I1.kept (t' := s1.toks) up, turn_tuple a _, g, fp, R1⟩
section
variable {J : It} {n : Nat} {G : Hp → Prop} {Y : Nat → Hp → V → Hp → Prop}
/-- a dict comprehension over a walk -/
theorem dc_it (w : Walk J n G Y) {g : TG} {tt : TT} {tk tv : TE} {vs : List Nat} {σ : L2.St} {H1 : Hp} {D : Addr} {Qd : Hp → Prop} (Pv : Nat → Hp → Prop) (h0 : Pv 0 (upd H1 D (.dK []))) (hG : ∀ i H, i ≤ n → Pv i H → G H)
    (hs : ∀ i x H H', i < n → Pv i H → Y i H x H' → g x (wipe σ vs) H' fun σ2 H2 => wipe σ2 vs = wipe σ vs ∧ tt σ2 H2 fun b H3 =>
      if b = true then tk σ2 H3 fun y H4 => tv σ2 H4 fun z H5 => ∃ kvs k, y = kV k ∧ H5 D = some (.dK kvs) ∧ kvs.length < sizeLine ∧ Pv (i + 1) (upd H5 D (.dK (putK kvs k z))) else Pv (i + 1) H3) (hd : ∀ H, Pv n H → Qd H) :
    ∃ W : Nat → Nat → Hp → Prop, (∃ m, W 0 m (upd H1 D (.dK []))) ∧ ∀ i m H, W i m H →
      (J.stop i H ∧ Qd H) ∨ (J.go i H ∧ ∃ Nx : Hp → Prop, (∀ H', Nx H' → ∃ m', m' < m ∧ W (i + 1) m' H') ∧ ∀ x H', J.yld i H x H' → g x (wipe σ vs) H' fun σ2 H2 => wipe σ2 vs = wipe σ vs ∧ tt σ2 H2 fun b H3 =>
        if b = true then tk σ2 H3 fun y H4 => tv σ2 H4 fun z H5 => ∃ kvs k, y = kV k ∧ H5 D = some (.dK kvs) ∧ kvs.length < sizeLine ∧ Nx (upd H5 D (.dK (putK kvs k z))) else Nx H3) := by
  refine ⟨fun i m H => m + i = n ∧ Pv i H, ⟨n, rfl, h0⟩, ?_⟩
  rintro i m H ⟨e, p⟩
  have q := hG i H (by omega) p
  cases m with
  | zero =>
    have e' : i = n := by omega
    subst e'
    exact .inl ⟨w.stops H q, hd H p⟩
  | succ m => exact .inr ⟨w.goes i H (by omega) q, Pv (i + 1), fun H' p' => ⟨m, by omega, by omega, p'⟩, fun x H' y => hs i x H H' (by omega) p (w.yields i H x H' (by omega) q y)⟩
end
end Zm
set_option linter.all false
/-! zip of three things, each a list or a tuple, of one length -/
namespace Z3
open PySem PySem.Spec PyProof.Rows L2 Zm
def It3 (j k l : Kd) (K : PySem.W.Frag) (a b c : Addr) : It where
  go i H := ∃ (xs ys zs : List V) (x y z : V), Sq j K H a xs ∧ Sq k K H b ys ∧ Sq l K H c zs ∧ xs[i]? = some x ∧ ys[i]? = some y ∧ zs[i]? = some z
  yld i H v H' := ∃ T x y z, v = .ref T ∧ H T = none ∧ H' = upd H T (.tup [x, y, z]) ∧ (∀ xs, Sq j K H a xs → xs[i]? = some x) ∧ (∀ ys, Sq k K H b ys → ys[i]? = some y) ∧ ∀ zs, Sq l K H c zs → zs[i]? = some z
  stop i H := ∃ xs ys zs : List V, Sq j K H a xs ∧ Sq k K H b ys ∧ Sq l K H c zs ∧ xs.length = i ∧ ys.length = i ∧ zs.length = i
theorem mem6 {z a b c d e x : Addr} (h : x ∈ [z, a, b, c, d, e]) : x = z ∨ x = a ∨ x = b ∨ x = c ∨ x = d ∨ x = e := by simpa using h
theorem old6 {z TI TO i1 i2 i3 q : Addr} (h : q ∈ [z, TO, i1, i2, i3]) : q ∈ [z, TI, TO, i1, i2, i3] := by
  simp at h ⊢
  rcases h with q | q | q | q | q <;> simp [q]
set_option maxHeartbeats 1000000 in
theorem trn3 {P : Program} {w : World} {K : PySem.W.Frag} {j k l : Kd} {es : List Expr} {kk : Nat} {tp : Pos} {a b c z TI TO i1 i2 i3 : Addr} (S : ZipSep3 z TI TO i1 i2 i3 [i1, a] [i2, b] [i3, c]) (n1 : a ≠ i1) (n2 : b ≠ i2) (n3 : c ≠ i3) :
    Turn P w K (.Tuple es kk tp) (It3 j k l K a b c) [z, TI, TO, i1, i2, i3] z (fun i h => IsZip h z TI TO .none ∧ IsTupOf3 h TI (.ref i1) (.ref i2) (.ref i3) ∧ (∃ x y u, IsTupOf3 h TO x y u) ∧ Itr j h i1 a i ∧ Itr k h i2 b i ∧ Itr l h i3 c i) where
  mem := by simp
  obj := fun i h st q hq => by
    obtain ⟨hz, hTI, ⟨x, y, u, hTO⟩, h1, h2, h3⟩ := st
    rcases mem6 hq with rfl | rfl | rfl | rfl | rfl | rfl
    · exact ⟨_, hz, fun v e => nomatch e⟩
    · exact ⟨_, hTI, fun v e => nomatch e⟩
    · exact ⟨_, hTO, fun v e => nomatch e⟩
    · exact itr_obj h1
    · exact itr_obj h2
    · exact itr_obj h3
  keep := fun i h h' st kp => by
    obtain ⟨hz, hTI, ⟨x, y, u, hTO⟩, h1, h2, h3⟩ := st
    exact ⟨kp z (by simp) _ hz, kp TI (by simp) _ hTI, ⟨x, y, u, kp TO (by simp) _ hTO⟩, itr_keep h1 fun o e => kp i1 (by simp) o e, itr_keep h2 fun o e => kp i2 (by simp) o e, itr_keep h3 fun o e => kp i3 (by simp) o e⟩
  item := by
    intro X eP ew eK calm i pn s σ H E I hf st gg
    subst eP ew eK
    obtain ⟨hz, hTI, hTO, h1, h2, h3⟩ := st
    obtain ⟨xs, ys, zs, x, y, u, qx, qy, qu, hx, hy, hu0⟩ := gg
    obtain ⟨us, rv, p1, _⟩ := at_ I qx
    obtain ⟨vs, rv2, p2, _⟩ := at_ I qy
    obtain ⟨ws, rv3, p3, _⟩ := at_ I qu
    have hh : X.A.in1.handled = none := I.ok.hd calm
    have l1 : i < us.toArray.size := by
      have := (List.getElem?_eq_some_iff.mp hx).1
      rw [List.size_toArray, ← rv.length]
      exact this
    have l2 : i < vs.toArray.size := by
      have := (List.getElem?_eq_some_iff.mp hy).1
      rw [List.size_toArray, ← rv2.length]
      exact this
    have l3 : i < ws.toArray.size := by
      have := (List.getElem?_eq_some_iff.mp hu0).1
      rw [List.size_toArray, ← rv3.length]
      exact this
    refine (GoesN.zip3 S (drw j hh n1 us.toArray) (drw k hh n2 vs.toArray) (drw l hh n3 ws.toArray)).goes i s (fun u s2 => ∃ x H', Inv X pn σ H' s2 ∧ RelV x u ∧ (It3 j k l X.K a b c).yld i H x H' ∧ _ ∧ ∀ q ∈ _, H' q = none) E (by omega) ⟨hz, hTI, hTO, ⟨h1, p1⟩, ⟨h2, p2⟩, h3, p3⟩ fun v h' tk Y st' kp _ => ?_
    obtain ⟨T, u1, u2, u3, rfl, le, hu, hu2, hu3, hT⟩ := Y
    obtain ⟨hz', hTI', hTO', ⟨h1', _⟩, ⟨h2', _⟩, h3', _⟩ := st'
    obtain ⟨w1, e1, r1⟩ := rv.get hx
    obtain ⟨w2, e2, r2⟩ := rv2.get hy
    obtain ⟨w3, e3, r3⟩ := rv3.get hu0
    have c1 : w1 = u1 := by
      have z1 : us[i]? = some u1 := by simpa using hu
      rw [e1] at z1
      exact Option.some.inj z1
    have c2 : w2 = u2 := by
      have z2 : vs[i]? = some u2 := by simpa using hu2
      rw [e2] at z2
      exact Option.some.inj z2
    have c3 : w3 = u3 := by
      have z3 : ws[i]? = some u3 := by simpa using hu3
      rw [e3] at z3
      exact Option.some.inj z3
    subst c1 c2 c3
    have fresh : H T = none := I.hok.fresh le
    have new : ObjOk X.prog X.w (upd H T (.tup [x, y, u])) h' T (.tup [x, y, u]) := ⟨by show 3 ≤ sizeLine; decide, [w1, w2, w3], .cons r1 (.cons r2 (.cons r3 .nil)), hT⟩
    have I1 := I.turnedNew (t' := tk) (ch := [z, TI, TO, i1, i2, i3]) (fun q o n e => kp q o (fun m => n (old6 m)) e) hf le new
    refine ⟨.ref T, _, I1, rfl, ⟨T, x, y, u, rfl, fresh, rfl, fun l hl => by rw [inj I hl qx]; exact hx, fun l hl => by rw [inj I hl qy]; exact hy, fun l hl => by rw [inj I hl qu]; exact hu0⟩, ⟨hz', hTI', hTO', h1', h2', h3'⟩, fun q hq => ?_⟩
    have lt : q < s.heap.objs.size := by
      rcases mem6 hq with rfl | rfl | rfl | rfl | rfl | rfl
      · exact Heap.lt_size hz
      · exact Heap.lt_size hTI
      · obtain ⟨_, _, _, e⟩ := hTO
        exact Heap.lt_size e
      · obtain ⟨_, e, _⟩ := itr_obj h1
        exact Heap.lt_size e
      · obtain ⟨_, e, _⟩ := itr_obj h2
        exact Heap.lt_size e
      · obtain ⟨_, e, _⟩ := itr_obj h3
        exact Heap.lt_size e
    rw [upd_ne (Nat.ne_of_lt (Nat.lt_of_lt_of_le lt le))]
    exact (hf q hq).1
  done := by
    intro X eP ew eK calm i pn s σ H E I hf st gg
    subst eP ew eK
    obtain ⟨hz, hTI, hTO, h1, h2, h3⟩ := st
    obtain ⟨xs, ys, zs, qx, qy, qu, hx, hy, hu⟩ := gg
    obtain ⟨us, rv, p1, _⟩ := at_ I qx
    obtain ⟨vs, rv2, p2, _⟩ := at_ I qy
    obtain ⟨ws, rv3, p3, _⟩ := at_ I qu
    have hh : X.A.in1.handled = none := I.ok.hd calm
    have e : i = min (min us.toArray.size vs.toArray.size) ws.toArray.size := by
      have l1 := rv.length
      have l2 := rv2.length
      have l3 := rv3.length
      simp
      omega
    subst e
    exact (GoesN.zip3 (elts := es) (x1 := kk) (pos := tp) S (drw j hh n1 us.toArray) (drw k hh n2 vs.toArray) (drw l hh n3 ws.toArray)).stops s (fun s1 => Inv X pn σ H s1) E ⟨hz, hTI, hTO, ⟨h1, p1⟩, ⟨h2, p2⟩, h3, p3⟩ fun h' tk kp _ => I.turnedL (t' := tk) (ch := [z, TI, TO, i1, i2, i3]) (fun q o n e => kp q o (fun m => n (old6 m)) e) hf
  self := fun A i s Q E st h => wpAny_pyIter_zip st.1 h
def iZip3 (K : PySem.W.Frag) (ta : TA) : TI := fun σ H R => ta σ H fun vs H1 => ∃ j k l a b c xs ys zs, vs = [.ref a, .ref b, .ref c] ∧ Sq j K H1 a xs ∧ Sq k K H1 b ys ∧ Sq l K H1 c zs ∧ R (It3 j k l K a b c) H1
theorem pi_zip3 {X : Cx} {e e2 e3 : Expr} {ta : TA} {p pos tp : Pos} {es : List Expr} {kk : Nat} (hg : Gl X "zip") (hm : X.mg "zip" = none) (ha : PA X [e, e2, e3] ta)
    (hs : starEach [e, e2, e3] X.env = (false, eval e X.env) :: starEach [e2, e3] X.env := by rfl) (hpl : (backTo pos (starEach [e2, e3] X.env)).any (·.1) = false := by rfl) :
    PI X (.Tuple es kk tp) (.Call (.Name "zip" p) [e, e2, e3] [] pos) (iZip3 X.K ta) := by
  refine ⟨fun pn s σ H R I h => ?_⟩
  refine Call_ (ld_blt I hg hm PyProof.Rows.boot_zip (PyProof.Rows.callWith_type1 (thn (ha.run pos pn s σ H _ I h) fun us s1 ⟨vs, H1, I1, r1, q1⟩ => ?_) hs hpl))
  obtain ⟨j, k, l, a, b, c, xs, ys, zs, ex, qx, qy, qu, q⟩ := q1
  subst ex
  cases r1 with
  | cons r rr =>
   cases rr with
   | cons r' rr =>
    cases rr with
    | cons r'' rr =>
    cases rr
    cases r
    cases r'
    cases r''
    obtain ⟨us, rv, p1, la⟩ := at_ I1 qx
    obtain ⟨vs, rv2, p2, lb⟩ := at_ I1 qy
    obtain ⟨ws, rv3, p3, lc⟩ := at_ I1 qu
    obtain ⟨o1, B1, f1⟩ := bgn j a us.toArray
    obtain ⟨o2, B2, f2⟩ := bgn k b vs.toArray
    obtain ⟨o3, B3, f3⟩ := bgn l c ws.toArray
    refine zip_begins3 B1 B2 B3 p1 p2 p3 fun h' hz hTI hTO g1 g2 g3 hsz kp => wpAny_pyIter_zip hz ?_
    have S := zip_sep3 (N := s1.heap.objs.size) (fp1 := [a]) (fp2 := [b]) (fp3 := [c]) (fun q hq => by rw [List.mem_singleton.mp hq]; exact la) (fun q hq => by rw [List.mem_singleton.mp hq]; exact lb) (fun q hq => by rw [List.mem_singleton.mp hq]; exact lc)
    have ne1 : a ≠ s1.heap.objs.size := Nat.ne_of_lt la
    have ne2 : b ≠ s1.heap.objs.size + 1 := Nat.ne_of_lt (Nat.lt_succ_of_lt lb)
    have ne3 : c ≠ s1.heap.objs.size + 2 := Nat.ne_of_lt (Nat.lt_succ_of_lt (Nat.lt_succ_of_lt lc))
    refine ⟨_, _, _, _, H1, rfl, I1.kept (t' := s1.toks) kp, trn3 (j := j) (k := k) (l := l) S ne1 ne2 ne3, ⟨hz, hTI, ⟨_, _, _, hTO⟩, f1 _ _ g1, f2 _ _ g2, f3 _ _ g3⟩, fun q hq => ?_, q⟩
    have le : s1.heap.objs.size ≤ q := by
      rcases mem6 hq with rfl | rfl | rfl | rfl | rfl | rfl
      · exact Nat.le_add_right _ _
      · exact Nat.le_add_right _ _
      · exact Nat.le_add_right _ _
      · exact Nat.le_refl _
      · exact Nat.le_add_right _ _
      · exact Nat.le_add_right _ _
    exact I1.fpOk le (I1.hok.fresh le)
def Y3 (xs ys zs : List V) : Nat → Hp → V → Hp → Prop := fun i H v H' => ∃ T x y z, v = .ref T ∧ H T = none ∧ H' = upd H T (.tup [x, y, z]) ∧ xs[i]? = some x ∧ ys[i]? = some y ∧ zs[i]? = some z
theorem walk3 {K : PySem.W.Frag} {a b c : Addr} {xs ys zs : List V} {j k l : Kd} (h1 : xs.length = ys.length) (h2 : xs.length = zs.length) : Walk (It3 j k l K a b c) xs.length (fun H => Sq j K H a xs ∧ Sq k K H b ys ∧ Sq l K H c zs) (Y3 xs ys zs) := by
  refine ⟨fun i _ hi q => ?_, fun _ q => ⟨xs, ys, zs, q.1, q.2.1, q.2.2, rfl, h1.symm, h2.symm⟩, fun i H v H' _ q y => ?_⟩
  · have g1 : i < ys.length := by omega
    have g2 : i < zs.length := by omega
    exact ⟨xs, ys, zs, xs[i], ys[i], zs[i], q.1, q.2.1, q.2.2, by simp [hi], by simp [g1], by simp [g2]⟩
  · obtain ⟨T, x, z, u, h1, h2, h3, h4, h5, h6⟩ := y
    exact ⟨T, x, z, u, h1, h2, h3, h4 xs q.1, h5 ys q.2.1, h6 zs q.2.2⟩
end Z3
set_option linter.all false
/-! list(zip(a, b)) of two lists; xs[::2], xs[1::2] of a list -/
namespace Lz
open PySem PySem.Spec PyProof.Rows L2
/-! ### every second item -/
def ev2 {α : Type} : List α → List α
  | [] => []
  | [a] => [a]
  | a :: _ :: r => a :: ev2 r
theorem ev2_get {α : Type} : ∀ (xs : List α) (k : Nat), (ev2 xs)[k]? = xs[2 * k]?
  | [], k => by simp [ev2]
  | [a], 0 => rfl
  | [a], k + 1 => by
    have e : 2 * (k + 1) = 2 * k + 1 + 1 := by omega
    simp [ev2, e]
  | a :: b :: r, 0 => rfl
  | a :: b :: r, k + 1 => by
    have e : 2 * (k + 1) = 2 * k + 1 + 1 := by omega
    show (ev2 r)[k]? = _
    rw [ev2_get r k, e]
    rfl
theorem ev2_len {α : Type} : ∀ xs : List α, (ev2 xs).length = (xs.length + 1) / 2
  | [] => by simp [ev2]
  | [_] => by simp [ev2]
  | _ :: _ :: r => by
    show (ev2 r).length + 1 = (r.length + 1 + 1 + 1) / 2
    rw [ev2_len r]
    omega
theorem ev2_map {α β : Type} (f : α → β) : ∀ xs : List α, ev2 (xs.map f) = (ev2 xs).map f
  | [] => rfl
  | [_] => rfl
  | a :: b :: r => by
    show f a :: ev2 (r.map f) = f a :: (ev2 r).map f
    rw [ev2_map f r]
theorem vals_ev2 : ∀ {xs : List V} {us : List Value}, Vals xs us → Vals (ev2 xs) (ev2 us)
  | _, _, .nil => .nil
  | _, _, .cons r .nil => .cons r .nil
  | _, _, .cons r (.cons _ rr) => .cons r (vals_ev2 rr)
theorem fm_get {α : Type} {f : Nat → Nat} {us ws : List α} {m : Nat} (hm : ws.length = m) (h : ∀ k, k < m → ws[k]? = us[f k]?) : ((List.range m).map f).filterMap (us[·]?) = ws := by
  induction m generalizing ws with
  | zero =>
    cases ws with
    | nil => rfl
    | cons _ _ => simp at hm
  | succ m ih =>
    have e : ws = ws.take m ++ [ws[m]'(by omega)] := by
      rw [List.take_append_getElem]
      exact (List.take_of_length_le (by omega)).symm
    have a := ih (ws := ws.take m) (by rw [List.length_take]; omega) fun k hk => by rw [List.getElem?_take, if_pos hk]; exact h k (by omega)
    have b := h m (by omega)
    rw [List.range_succ, List.map_append, List.filterMap_append, a]
    rw [List.getElem?_eq_getElem (by omega)] at b
    conv => rhs; rw [e]
    congr 1
    show [f m].filterMap (us[·]?) = _
    rw [List.filterMap_cons, ← b]
    rfl
theorem pick0 (us : List Value) : slicePick us.toArray none none (some 2) = (ev2 us).toArray := by
  unfold slicePick
  congr 1
  have e : sliceBounds none none (some 2) us.toArray.size = (0, (us.length : Int), 2) := by simp [sliceBounds]
  rw [e]
  show (sliceRange 0 (us.length : Int) 2).filterMap (us.toArray[·]?) = ev2 us
  have e2 : sliceRange 0 (us.length : Int) 2 = (List.range ((us.length + 1) / 2)).map fun k => 2 * k := by
    unfold sliceRange
    by_cases h : us.length = 0
    · rw [h]
      rfl
    · have z : ((us.length : Int) - 0 + 2 - 1) / 2 = (((us.length + 1) / 2 : Nat) : Int) := by omega
      have hp : (2 : Int) > 0 := by decide
      have hl : (0 : Int) < (us.length : Int) := by omega
      simp only [hp, hl, if_true, z, Int.toNat_natCast]
      apply List.map_congr_left
      intro k _
      omega
  rw [e2]
  have g : (fun i : Nat => us.toArray[i]?) = fun i : Nat => us[i]? := by
    funext i
    simp
  rw [g]
  exact fm_get (ev2_len us) fun k _ => ev2_get us k
theorem pick1 (us : List Value) : slicePick us.toArray (some 1) none (some 2) = (ev2 (us.drop 1)).toArray := by
  unfold slicePick
  congr 1
  by_cases h : us.length = 0
  · have e : us = [] := List.length_eq_zero_iff.mp h
    subst e
    rfl
  · have e : sliceBounds (some 1) none (some 2) us.toArray.size = (1, (us.length : Int), 2) := by
      simp [sliceBounds]
      omega
    rw [e]
    show (sliceRange 1 (us.length : Int) 2).filterMap (us.toArray[·]?) = _
    have e2 : sliceRange 1 (us.length : Int) 2 = (List.range (us.length / 2)).map fun k => 1 + 2 * k := by
      unfold sliceRange
      by_cases h1 : us.length = 1
      · rw [h1]
        rfl
      · have z : ((us.length : Int) - 1 + 2 - 1) / 2 = ((us.length / 2 : Nat) : Int) := by omega
        have hp : (2 : Int) > 0 := by decide
        have hl : (1 : Int) < (us.length : Int) := by omega
        simp only [hp, hl, if_true, z, Int.toNat_natCast]
        apply List.map_congr_left
        intro k _
        omega
    rw [e2]
    have g : (fun i : Nat => us.toArray[i]?) = fun i : Nat => us[i]? := by
      funext i
      simp
    rw [g]
    refine fm_get (by rw [ev2_len, List.length_drop]; omega) fun k _ => ?_
    rw [ev2_get, List.getElem?_drop]
section
variable {X : Cx}
def tEv (K : PySem.W.Frag) (n : Nat) (te : TE) : TE := fun σ H Q => te σ H fun x H1 => ∃ a xs, x = .ref a ∧ SqL K H1 a xs ∧ ∀ p, H1 p = none → Q (.ref p) (upd H1 p (.lst (ev2 (xs.drop n))))
theorem pe_ev0 {e : Expr} {te : TE} {k : Nat} {p1 p3 pos : Pos} (he : PE X e te) : PE X (.Subscript e (.Slice none none (some (.Constant (.int 2) k p1)) p3) pos) (tEv X.K 0 te) := by
  refine ⟨fun pn s σ H Q I h => Subscript_ (thn (he.run pn s σ H _ I h) fun v s1 ⟨x, H1, I1, r1, a, xs, ex, hx, q⟩ => ?_)⟩
  subst ex
  cases r1
  have two : PO X (some (.Constant (.int 2) k p1)) (tPart (tC (.int 2))) := po_some pe_int
  refine wpAny_Slice (thn (po_none.run pn s1 σ H1 (fun o G => o = none ∧ G = H1) I1 ⟨rfl, rfl⟩) fun v1 s2 ⟨o1, G1, I2, part1, e1, g1⟩ => ?_)
  subst e1 g1
  refine thn (po_none.run pn s2 σ G1 (fun o G => o = none ∧ G = G1) I2 ⟨rfl, rfl⟩) fun v2 s3 ⟨o2, G2, I3, part2, e2, g2⟩ => ?_
  subst e2 g2
  refine thn (two.run pn s3 σ G2 (fun o G => o = some 2 ∧ G = G2) I3 ⟨2, rfl, rfl, rfl⟩) fun v3 s4 ⟨o3, G3, I4, part3, e3, g3⟩ => ?_
  subst e3 g3
  have I5 : L2.Inv X pn σ G3 { s4 with heap := s4.heap.push { cls := .type "slice", data := .fields #[v1, v2, v3] } } := I4.kept (t' := s4.toks) fun b ob z => Heap.get?_push_of_some _ z
  obtain ⟨its, r, ht, hz⟩ := I5.list hx
  have hlen := r.length
  show wpAny (model X.prog X.w) X.A (subscriptTail e _ (.ref a) (.ref s4.heap.objs.size)) (EP X pn σ Q) X.xe _
  refine tail_any (ops := [.ref a, .ref s4.heap.objs.size]) ht.isList.typeIs slot_list_getitem.lookup ?_ (by with_unfolding_all rfl)
  refine wpAny_getItem_list_slice ht.isList (Heap.IsSliceOf.new ..) part1 part2 part3 (by simp) ?_ (by rw [List.size_toArray]; omega)
  rw [pick0]
  refine ⟨.ref _, _, I5.laid (t' := s4.toks) (o := .lst (ev2 xs)) (fun b ob z => Heap.get?_push_of_some _ z) (Nat.le_refl _) ?_, rfl, q _ (I5.hok.fresh (Nat.le_refl _))⟩
  exact ⟨by rw [ev2_len]; omega, ev2 its, 0, vals_ev2 r, Heap.get?_push_size _ rfl⟩
theorem pe_ev1 {e : Expr} {te : TE} {k j : Nat} {p1 p2 p3 pos : Pos} (he : PE X e te) : PE X (.Subscript e (.Slice (some (.Constant (.int 1) j p2)) none (some (.Constant (.int 2) k p1)) p3) pos) (tEv X.K 1 te) := by
  refine ⟨fun pn s σ H Q I h => Subscript_ (thn (he.run pn s σ H _ I h) fun v s1 ⟨x, H1, I1, r1, a, xs, ex, hx, q⟩ => ?_)⟩
  subst ex
  cases r1
  have one : PO X (some (.Constant (.int 1) j p2)) (tPart (tC (.int 1))) := po_some pe_int
  have two : PO X (some (.Constant (.int 2) k p1)) (tPart (tC (.int 2))) := po_some pe_int
  refine wpAny_Slice (thn (one.run pn s1 σ H1 (fun o G => o = some 1 ∧ G = H1) I1 ⟨1, rfl, rfl, rfl⟩) fun v1 s2 ⟨o1, G1, I2, part1, e1, g1⟩ => ?_)
  subst e1 g1
  refine thn (po_none.run pn s2 σ G1 (fun o G => o = none ∧ G = G1) I2 ⟨rfl, rfl⟩) fun v2 s3 ⟨o2, G2, I3, part2, e2, g2⟩ => ?_
  subst e2 g2
  refine thn (two.run pn s3 σ G2 (fun o G => o = some 2 ∧ G = G2) I3 ⟨2, rfl, rfl, rfl⟩) fun v3 s4 ⟨o3, G3, I4, part3, e3, g3⟩ => ?_
  subst e3 g3
  have I5 : L2.Inv X pn σ G3 { s4 with heap := s4.heap.push { cls := .type "slice", data := .fields #[v1, v2, v3] } } := I4.kept (t' := s4.toks) fun b ob z => Heap.get?_push_of_some _ z
  obtain ⟨its, r, ht, hz⟩ := I5.list hx
  have hlen := r.length
  show wpAny (model X.prog X.w) X.A (subscriptTail e _ (.ref a) (.ref s4.heap.objs.size)) (EP X pn σ Q) X.xe _
  refine tail_any (ops := [.ref a, .ref s4.heap.objs.size]) ht.isList.typeIs slot_list_getitem.lookup ?_ (by with_unfolding_all rfl)
  refine wpAny_getItem_list_slice ht.isList (Heap.IsSliceOf.new ..) part1 part2 part3 (by simp) ?_ (by rw [List.size_toArray]; omega)
  rw [pick1]
  refine ⟨.ref _, _, I5.laid (t' := s4.toks) (o := .lst (ev2 (xs.drop 1))) (fun b ob z => Heap.get?_push_of_some _ z) (Nat.le_refl _) ?_, rfl, q _ (I5.hok.fresh (Nat.le_refl _))⟩
  exact ⟨by rw [ev2_len, List.length_drop]; omega, ev2 (its.drop 1), 0, vals_ev2 (r.drop 1), Heap.get?_push_size _ rfl⟩
end
/-! ### list(zip(a, b)) -/
structure Zst (h : Heap) (z TI TO i1 i2 : Addr) (i : Nat) : Prop where
  zp : (i = 0 ∧ IsZip h z TI TO .none) ∨ ∃ T f o, IsZipHeld h z TI TO T f ∧ h.get? T = some o ∧ T ≠ z ∧ T ≠ TO ∧ T ≠ i1 ∧ T ≠ i2
  ti : IsPair h TI (.ref i1) (.ref i2)
  to : ∃ a b, IsPair h TO a b
theorem Zst.lz {h : Heap} {z TI TO i1 i2 : Addr} {i : Nat} (Z : Zst h z TI TO i1 i2 i) : z < h.objs.size := by
  rcases Z.zp with ⟨_, e⟩ | ⟨_, _, _, e, _⟩
  · exact Heap.lt_size e
  · exact Heap.lt_size e
theorem Zst.ty {s : Shared} {z TI TO i1 i2 : Addr} {i : Nat} (Z : Zst s.heap z TI TO i1 i2 i) : s.TypeIs (.ref z) "zip" := by
  rcases Z.zp with ⟨_, e⟩ | ⟨_, _, _, e, _⟩
  · exact ⟨_, e, rfl⟩
  · exact ⟨_, e, rfl⟩
theorem zip_no_len : typeLookup (.type "zip") "__len__" = pure none := by rw [typeLookup_type, builtinLookup_eq_fast]; kernel_rfl
theorem zip_no_hint : typeLookup (.type "zip") "__length_hint__" = pure none := by rw [typeLookup_type, builtinLookup_eq_fast]; kernel_rfl
section
variable {pr : Program} {w : World} {A : Around} {E : Value → Shared → Prop} {s : Shared} {z TI TO i1 i2 l1 l2 : Addr} {i : Nat} {xs ys : Array Value}
theorem next_ {x y : Value} {Q : Option Value → Shared → Prop} (D : ZipApart z TI TO i1 i2 l1 l2) (Z : Zst s.heap z TI TO i1 i2 i)
    (h1 : s.heap.IsListIter i1 l1 i) (h2 : s.heap.IsListIter i2 l2 i) (hl1 : s.heap.IsList l1 xs) (hl2 : s.heap.IsList l2 ys) (hx : xs[i]? = some x) (hy : ys[i]? = some y)
    (hQ : ∀ h', Zst h' z TI TO i1 i2 (i + 1) → h'.IsListIter i1 l1 (i + 1) → h'.IsListIter i2 l2 (i + 1) → IsPair h' s.heap.objs.size x y → (∀ c o, c ≠ z → c ≠ TO → c ≠ i1 → c ≠ i2 → s.heap.get? c = some o → h'.get? c = some o) → Q (some (.ref s.heap.objs.size)) { s with heap := h' }) :
    wpAny (model pr w) A (pyNext (.ref z)) Q E s := by
  have lz := Z.lz
  obtain ⟨zp, hTI, a, b, hTO⟩ := Z
  have lT : TO < s.heap.objs.size := Heap.lt_size hTO
  have g1 : i1 < s.heap.objs.size := by obtain ⟨_, e, _⟩ := h1; exact Heap.lt_size e
  have g2 : i2 < s.heap.objs.size := by obtain ⟨_, e, _⟩ := h2; exact Heap.lt_size e
  rcases zp with ⟨_, hz⟩ | ⟨T, f, o, hz, hT, t1, t2, t3, t4⟩
  · refine wpAny_pyNext_zip_item D hz hTI hTO h1 h2 hl1 hl2 hx hy fun h' b1 b2 b3 b4 b5 _ b7 => hQ h' ⟨.inr ⟨_, false, _, b1, b5, Nat.ne_of_gt lz, Nat.ne_of_gt lT, Nat.ne_of_gt g1, Nat.ne_of_gt g2⟩, b7 _ _ D.TIz D.TITO D.TIi1 D.TIi2 hTI, _, _, b2⟩ b3 b4 b5 b7
  · exact wpAny_pyNext_zip_item_held D hz hT hTI h1 h2 hl1 hl2 hx hy fun h' b1 b3 b4 b5 _ b7 => hQ h' ⟨.inr ⟨T, true, o, b1, b7 _ _ t1 t3 t4 hT, t1, t2, t3, t4⟩, b7 _ _ D.TIz D.TIi1 D.TIi2 hTI, _, _, b7 _ _ D.TOz D.TOi1 D.TOi2 hTO⟩ b3 b4 b5 fun c o' c1 _ c3 c4 e => b7 c o' c1 c3 c4 e
theorem last_ {Q : Option Value → Shared → Prop} (hh : A.handled = none) (D : ZipApart z TI TO i1 i2 l1 l2) (Z : Zst s.heap z TI TO i1 i2 i)
    (h1 : s.heap.IsListIter i1 l1 i) (h2 : s.heap.IsListIter i2 l2 i) (hl1 : s.heap.IsList l1 xs) (hl2 : s.heap.IsList l2 ys) (hx : xs[i]? = none)
    (hQ : ∀ h', (∀ c o, c ≠ z → c ≠ TO → c ≠ i1 → c ≠ i2 → s.heap.get? c = some o → h'.get? c = some o) → Q none { s with heap := h' }) :
    wpAny (model pr w) A (pyNext (.ref z)) Q E s := by
  obtain ⟨zp, hTI, a, b, hTO⟩ := Z
  rcases zp with ⟨_, hz⟩ | ⟨T, f, o, hz, hT, t1, t2, t3, t4⟩
  · exact wpAny_pyNext_zip_end hh D hz hTI hTO h1 h2 hl1 hl2 (.inl hx) hQ
  · exact wpAny_pyNext_zip_end_held hh D hz hT hTI h1 h2 hl1 hl2 (.inl hx) fun h' b7 => hQ h' fun c o' c1 _ c3 c4 e => b7 c o' c1 c3 c4 e
end
/-- what stands behind list(zip(a, b)): new pairs, a new list of them -/
structure Zipped (H0 H : Hp) (S : Addr) (ts : List Addr) (xs ys : List V) : Prop where
  same : Same H0 H
  new : H0 S = none
  lst : H S = some (.lst (ts.map V.ref))
  len : ts.length = xs.length
  get : ∀ (j : Nat) (t : Addr) (x y : V), ts[j]? = some t → xs[j]? = some x → ys[j]? = some y → H t = some (.tup [x, y])
section
variable {X : Cx} {A : Around} {pn : List (Addr × Obj)} {σ : L2.St} {R : Result → Shared → Prop} {z TI TO i1 i2 a b S : Addr} {xs ys : List V} {H0 : Hp}
theorem loop (hh : A.in1.handled = none) (D : ZipApart z TI TO i1 i2 a b) (res : Value) (hle : xs.length = ys.length) (hn : xs.length < sizeLine) (qa : SqL X.K H0 a xs) (qb : SqL X.K H0 b ys) (h0S : H0 S = none) (nS : S ≠ z ∧ S ≠ TI ∧ S ≠ TO ∧ S ≠ i1 ∧ S ≠ i2) :
    ∀ (k i : Nat) (s : Shared) (H : Hp) (ts : List Addr), xs.length - i = k → i ≤ xs.length → L2.Inv X pn σ H s → (∀ c ∈ [z, TI, TO, i1, i2], FpOk X pn H c) → Zst s.heap z TI TO i1 i2 i → s.heap.IsListIter i1 a i → s.heap.IsListIter i2 b i →
      Same H0 H → H S = some (.lst (ts.map V.ref)) → ts.length = i → (∀ (j : Nat) (t : Addr) (x y : V), ts[j]? = some t → xs[j]? = some x → ys[j]? = some y → H t = some (.tup [x, y])) →
      (∀ (s' : Shared) (H' : Hp) (ts' : List Addr), L2.Inv X pn σ H' s' → Zipped H0 H' S ts' xs ys → R (.ok (.ret res)) s') →
      codeAny (model X.prog X.w) A (.builtin "list.extend.loop" ⟨[.ref S, .ref z, res], []⟩) R s := by
  intro k
  induction k with
  | zero =>
    intro i s H ts hk hi I hf Z h1 h2 sm hS ht hg fin
    have e : i = xs.length := by omega
    obtain ⟨us, rv, p1, _⟩ := I.list (sm.seq qa)
    obtain ⟨vs, rv2, p2, _⟩ := I.list (sm.seq qb)
    refine codeAny_builtin F.entry_extend_loop ?_
    rw [Around.under_plainId F.plain_extend_loop _]
    show wpAny _ A.in1 (pyNext (.ref z) >>= _) _ _ s
    refine wpAny_bind (last_ hh D Z h1 h2 p1.isList p2.isList (by
      have := rv.length
      simp
      omega) fun h' kp => ?_)
    refine wpAny_pure (fin _ H ts (I.turnedL (t' := s.toks) (ch := [z, TI, TO, i1, i2]) (fun c o n q => kp c o (fun e => n (by rw [e]; simp)) (fun e => n (by rw [e]; simp)) (fun e => n (by rw [e]; simp)) (fun e => n (by rw [e]; simp)) q) hf) ⟨sm, h0S, hS, by omega, hg⟩)
  | succ k ih =>
    intro i s H ts hk hi I hf Z h1 h2 sm hS ht hg fin
    have hlt : i < xs.length := by omega
    obtain ⟨us, rv, p1, _⟩ := I.list (sm.seq qa)
    obtain ⟨vs, rv2, p2, _⟩ := I.list (sm.seq qb)
    have hx : xs[i]? = some xs[i] := List.getElem?_eq_getElem hlt
    have hy : ys[i]? = some (ys[i]'(by omega)) := List.getElem?_eq_getElem (by omega)
    obtain ⟨u, eu, ru⟩ := rv.get hx
    obtain ⟨v, ev, rv'⟩ := rv2.get hy
    refine codeAny_builtin F.entry_extend_loop ?_
    rw [Around.under_plainId F.plain_extend_loop _]
    show wpAny _ A.in1 (pyNext (.ref z) >>= _) _ _ s
    refine wpAny_bind (next_ D Z h1 h2 p1.isList p2.isList (x := u) (y := v) (by simpa using eu) (by simpa using ev) fun h' Z' h1' h2' hT kp => ?_)
    have new : ObjOk X.prog X.w (upd H s.heap.objs.size (.tup [xs[i], ys[i]'(by omega)])) h' s.heap.objs.size (.tup [xs[i], ys[i]'(by omega)]) := ⟨by show 2 ≤ sizeLine; decide, [u, v], .cons ru (.cons rv' .nil), ⟨_, hT, rfl, _, rfl⟩⟩
    have I1 := I.turnedNew (t' := s.toks) (ch := [z, TI, TO, i1, i2]) (fun c o n q => kp c o (fun e => n (by rw [e]; simp)) (fun e => n (by rw [e]; simp)) (fun e => n (by rw [e]; simp)) (fun e => n (by rw [e]; simp)) q) hf (Nat.le_refl _) new
    have hT0 : H s.heap.objs.size = none := I.hok.fresh (Nat.le_refl _)
    have neS : S ≠ s.heap.objs.size := ne_of_none hS hT0
    have hS1 : upd H s.heap.objs.size (.tup [xs[i], ys[i]'(by omega)]) S = some (.lst (ts.map V.ref)) := by
      rw [upd_ne neS]
      exact hS
    obtain ⟨_, its, n, ri, eS⟩ := I1.hok S _ hS1
    have il := ri.length
    rw [List.length_map] at il
    show wpAny _ A.in1 (updateSeq S (·.push (.ref s.heap.objs.size)) >>= _) _ _ _
    refine wpAny_bind (wpAny_updateSeq eS rfl (wpAny_pure ?_) (by rw [List.size_toArray]; omega) (by show (its.toArray.push _).size ≤ _; rw [Array.size_push, List.size_toArray]; omega))
    have oth : ∀ c o, c ≠ S → h'.get? c = some o → (h'.update S (Obj.mapSeq (·.push (.ref s.heap.objs.size)))).get? c = some o := fun c o n e => (Heap.get?_update_other _ _ (Ne.symm n)).trans e
    have eS2 := Heap.get?_update_self (Obj.mapSeq (·.push (Value.ref s.heap.objs.size))) eS rfl
    have I2 := I1.write (x := S) (e := S) (o := .lst ((ts ++ [s.heap.objs.size]).map V.ref)) (t' := s.toks) (by rw [hS1]; trivial) (.inl rfl) (fun c o n e => oth c o n e) ⟨_, eS2⟩ ⟨by rw [List.length_map, List.length_append, List.length_singleton]; omega, its ++ [.ref s.heap.objs.size], n + 1, by rw [List.map_append]; exact ri.append (.cons rfl .nil), by rw [eS2]; simp [Obj.mapSeq]⟩
    refine ⟨plainId_quiet F.plain_extend_loop _, ih (i + 1) _ _ (ts ++ [s.heap.objs.size]) (by omega) (by omega) I2 (fun c hc => ?_) ?_ ?_ ?_ ?_ upd_same (by rw [List.length_append, ht]; rfl) ?_ fin⟩
    · have f := hf c hc
      have lt : c ≠ s.heap.objs.size := by
        have q : c = z ∨ c = TI ∨ c = TO ∨ c = i1 ∨ c = i2 := by simpa using hc
        rcases q with q | q | q | q | q
        · rw [q]; exact Nat.ne_of_lt Z.lz
        · rw [q]; exact Nat.ne_of_lt (Heap.lt_size Z.ti)
        · rw [q]; obtain ⟨_, _, e⟩ := Z.to; exact Nat.ne_of_lt (Heap.lt_size e)
        · rw [q]; obtain ⟨_, e, _⟩ := h1; exact Nat.ne_of_lt (Heap.lt_size e)
        · rw [q]; obtain ⟨_, e, _⟩ := h2; exact Nat.ne_of_lt (Heap.lt_size e)
      have nc : c ≠ S := by
        have q : c = z ∨ c = TI ∨ c = TO ∨ c = i1 ∨ c = i2 := by simpa using hc
        rcases q with q | q | q | q | q
        · rw [q]; exact nS.1.symm
        · rw [q]; exact nS.2.1.symm
        · rw [q]; exact nS.2.2.1.symm
        · rw [q]; exact nS.2.2.2.1.symm
        · rw [q]; exact nS.2.2.2.2.symm
      refine ⟨?_, f.2⟩
      rw [upd_ne nc, upd_ne lt]
      exact f.1
    · obtain ⟨zp, t1, a1, b1, t2⟩ := Z'
      refine ⟨?_, oth _ _ nS.2.1.symm t1, a1, b1, oth _ _ nS.2.2.1.symm t2⟩
      rcases zp with ⟨q, _⟩ | ⟨T, f, o, q1, q2, q3⟩
      · omega
      · by_cases eT : T = S
        · exact .inr ⟨T, f, _, oth _ _ nS.1.symm q1, by rw [eT]; exact eS2, q3⟩
        · exact .inr ⟨T, f, o, oth _ _ nS.1.symm q1, oth _ _ eT q2, q3⟩
    · exact h1'.at fun o e => oth _ o nS.2.2.2.1.symm e
    · exact h2'.at fun o e => oth _ o nS.2.2.2.2.symm e
    · intro c o e
      rw [upd_ne (ne_of_none e h0S), upd_ne (ne_of_none (sm _ _ e) hT0)]
      exact sm _ _ e
    · intro j t x y hj hx' hy'
      by_cases hji : j < ts.length
      · rw [List.getElem?_append_left hji] at hj
        have q := hg j t x y hj hx' hy'
        rw [upd_ne (ne_of q hS (by intro z; cases z)), upd_ne (ne_of_none q hT0)]
        exact q
      · have ej : j = i := by
          have := (List.getElem?_eq_some_iff.mp hj).1
          rw [List.length_append, List.length_singleton] at this
          omega
        subst ej
        rw [List.getElem?_append_right (by omega), ht, Nat.sub_self] at hj
        cases hj
        rw [hx] at hx'
        rw [hy] at hy'
        cases hx'
        cases hy'
        rw [upd_ne neS.symm]
        exact upd_same
def tLZ (K : PySem.W.Frag) (ta : TA) : TE := fun σ H Q => ta σ H fun vs H1 => ∃ a b xs ys, vs = [.ref a, .ref b] ∧ SqL K H1 a xs ∧ SqL K H1 b ys ∧ xs.length = ys.length ∧ xs.length < sizeLine ∧ ∀ S ts H', Zipped H1 H' S ts xs ys → Q (.ref S) H'
theorem pe_LZ {e e2 : Expr} {ta : TA} {p p2 pos pos2 : Pos} (hc : X.calm = true) (hg : Gl X "list") (hm : X.mg "list" = none) (hg2 : Gl X "zip") (hm2 : X.mg "zip" = none) (ha : PA X [e, e2] ta)
    (hs : starEach [e, e2] X.env = (false, eval e X.env) :: starEach [e2] X.env := by rfl) (hpl : (backTo pos2 (starEach [e2] X.env)).any (·.1) = false := by rfl)
    (hs2 : starEach [.Call (.Name "zip" p2) [e, e2] [] pos2] X.env = (false, eval (.Call (.Name "zip" p2) [e, e2] [] pos2) X.env) :: starEach [] X.env := by rfl) :
    PE X (.Call (.Name "list" p) [.Call (.Name "zip" p2) [e, e2] [] pos2] [] pos) (tLZ X.K ta) := by
  refine ⟨fun pn s σ H Q I h => ?_⟩
  refine Call_ (ld_blt I hg hm boot_list (PyProof.Rows.callWith_type1 (args_cons (Call_ (ld_blt I hg2 hm2 boot_zip (PyProof.Rows.callWith_type1 (thn (ha.run pos2 pn s σ H _ I h) fun us s1 ⟨vs, H1, I1, r1, q1⟩ => ?_) hs hpl))) hs2) hs2 rfl))
  obtain ⟨a, b, xs, ys, ex, qx, qy, hle, hn, q⟩ := q1
  subst ex
  cases r1 with
  | cons r rr =>
   cases rr with
   | cons r' rr =>
    cases rr
    cases r
    cases r'
    obtain ⟨us, rv, p1, _⟩ := I1.list qx
    obtain ⟨vs, rv2, p2, _⟩ := I1.list qy
    have la := p1.lt
    have lb := p2.lt
    refine call_zip_2 p1.isList p2.isList fun h' hz hTI hTO h1 h2 hsz kp => args_nil ?_
    have I2 : L2.Inv X pn σ H1 { s1 with heap := h' } := I1.kept (t' := s1.toks) kp
    have D := PySem.W.ktu_apart s1.heap.objs.size a b la lb
    have hh : X.A.in1.in1.handled = none := I1.ok.hd hc
    have fp : ∀ c ∈ [s1.heap.objs.size + 4, s1.heap.objs.size + 2, s1.heap.objs.size + 3, s1.heap.objs.size, s1.heap.objs.size + 1], FpOk X pn H1 c := fun c hcm => by
      have le : s1.heap.objs.size ≤ c := by
        have e' : c = s1.heap.objs.size + 4 ∨ c = s1.heap.objs.size + 2 ∨ c = s1.heap.objs.size + 3 ∨ c = s1.heap.objs.size ∨ c = s1.heap.objs.size + 1 := by simpa using hcm
        rcases e' with q | q | q | q | q <;> (rw [q]; first | exact Nat.le_refl _ | exact Nat.le_add_right _ _)
      exact I1.fpOk le (I1.hok.fresh le)
    generalize s1.heap.objs.size + 4 = z at *
    generalize s1.heap.objs.size + 2 = TI at *
    generalize s1.heap.objs.size + 3 = TO at *
    generalize s1.heap.objs.size + 1 = i2 at *
    generalize s1.heap.objs.size = i1 at *
    have Z0 : Zst h' z TI TO i1 i2 0 := ⟨.inl ⟨rfl, hz⟩, hTI, _, _, hTO⟩
    have l1 : i1 < h'.objs.size := by obtain ⟨_, e, _⟩ := h1; exact Heap.lt_size e
    have l2 : i2 < h'.objs.size := by obtain ⟨_, e, _⟩ := h2; exact Heap.lt_size e
    refine callType_codes (Q₁ := fun obj t => obj = .ref h'.objs.size ∧ t = { s1 with heap := h'.push { cls := .type "list", data := .seq #[] } }) F.called_list (F.typeCall_list_1 _) F.entry_list_init (code_list_new _ ⟨rfl, rfl⟩) fun obj t ht => ?_
    obtain ⟨rfl, rfl⟩ := ht
    have eS : (h'.push { cls := .type "list", data := .seq #[] }).get? h'.objs.size = some { cls := .type "list", data := .seq #[] } := Heap.get?_push_size _ rfl
    have up : ∀ c o, h'.get? c = some o → (h'.push { cls := .type "list", data := .seq #[] }).get? c = some o := fun c o e => Heap.get?_push_of_some _ e
    refine ⟨⟨_, eS, rfl⟩, F.args_list_init_2 _ _, ?_⟩
    generalize h'.push { cls := .type "list", data := .seq #[] } = g at eS up ⊢
    have nS : h'.objs.size ≠ z ∧ h'.objs.size ≠ TI ∧ h'.objs.size ≠ TO ∧ h'.objs.size ≠ i1 ∧ h'.objs.size ≠ i2 := ⟨Nat.ne_of_gt Z0.lz, Nat.ne_of_gt (Heap.lt_size hTI), Nat.ne_of_gt (Heap.lt_size hTO), Nat.ne_of_gt l1, Nat.ne_of_gt l2⟩
    have h0S : H1 h'.objs.size = none := I2.hok.fresh (Nat.le_refl _)
    have lS : h'.objs.size ≤ h'.objs.size := Nat.le_refl _
    generalize eN : h'.objs.size = S at eS nS h0S lS ⊢
    show wpAny _ _ (do let old ← Builtin.List.listItems (.ref S); Builtin.List.listUpdate (.ref S) (fun _ => #[]); letGo old.toList.reverse; Builtin.List.listExtendWith (.ref S) (.ref z) .none) _ _ _
    unfold Builtin.List.listItems
    refine wpAny_bind (wpAny_bind (wpAny_seqItems eS rfl (wpAny_pure ?_)))
    show wpAny _ _ (updateSeq S (fun _ => #[]) >>= fun _ => letGo (#[] : Array Value).toList.reverse >>= fun _ => Builtin.List.listExtendWith (.ref S) (.ref z) .none) _ _ _
    refine wpAny_bind (wpAny_updateSeq eS rfl ?_)
    have eS2 := Heap.get?_update_self (Obj.mapSeq (fun _ => (#[] : Array Value))) eS rfl
    have o2 : ∀ c o, c ≠ S → g.get? c = some o → (g.update S (Obj.mapSeq (fun _ => (#[] : Array Value)))).get? c = some o := fun c o n e => (Heap.get?_update_other _ _ (Ne.symm n)).trans e
    refine wpAny_bind (wpAny_letGo ?_)
    generalize g.update S (Obj.mapSeq (fun _ => (#[] : Array Value))) = g2 at eS2 o2 ⊢
    have Z2 : Zst g2 z TI TO i1 i2 0 := ⟨.inl ⟨rfl, o2 _ _ nS.1.symm (up _ _ hz)⟩, o2 _ _ nS.2.1.symm (up _ _ hTI), _, _, o2 _ _ nS.2.2.1.symm (up _ _ hTO)⟩
    have ty2 : Shared.TypeIs { s1 with heap := g2 } (.ref z) "zip" := Zst.ty (s := { s1 with heap := g2 }) Z2
    unfold Builtin.List.listExtendWith
    refine wpAny_bind (wpAny_typeOf ty2 ?_)
    have c1 : Builtin.List.listSameRef (.ref S) (.ref z) = false := by simp [Builtin.List.listSameRef, nS.1]
    have c2 : (Value.type "zip" == Value.type "list") = false := by decide
    have c3 : (Value.type "zip" == Value.type "tuple") = false := by decide
    simp only [c1, c2, c3, Bool.or_false, Bool.false_eq_true, if_false]
    refine wpAny_bind (wpAny_pyIter_zip (o2 _ _ nS.1.symm (up _ _ hz)) ?_)
    refine wpAny_bind (wpAny_holding ?_)
    unfold Builtin.List.listLengthHint
    refine wpAny_bind (wpAny_specialOf ty2 zip_no_len ?_)
    show wpAny _ _ (specialOf (Value.ref z) (Str.ofString "__length_hint__") >>= _) _ _ _
    refine wpAny_bind (wpAny_specialOf ty2 zip_no_hint (wpAny_pure ?_))
    show wpAny _ _ (rule "list.extend.makes-room" >>= fun _ => Builtin.List.listTouch (.ref S) >>= fun _ => again (.builtin "list.extend.loop" ⟨[.ref S, .ref z, .none], []⟩)) _ _ _
    refine wpAny_bind (wpAny_rule (wpAny_bind ?_))
    show wpAny _ _ (updateSeq S (·.push .none) >>= fun _ => updateSeq S (·.pop)) _ _ _
    refine wpAny_bind (wpAny_updateSeq eS2 rfl ?_)
    have eS3 := Heap.get?_update_self (Obj.mapSeq (·.push Value.none)) eS2 rfl
    refine wpAny_updateSeq (hz := by seq_fits) eS3 rfl ?_
    have eS4 := Heap.get?_update_self (Obj.mapSeq (·.pop)) eS3 rfl
    have o4 : ∀ c o, c ≠ S → g2.get? c = some o → ((g2.update S (Obj.mapSeq (·.push Value.none))).update S (Obj.mapSeq (·.pop))).get? c = some o := fun c o n e => (Heap.get?_update_other _ _ (Ne.symm n)).trans ((Heap.get?_update_other _ _ (Ne.symm n)).trans e)
    refine wpAny_pure ⟨plainId_quiet F.plain_extend_loop _, ?_⟩
    generalize (g2.update S (Obj.mapSeq (·.push Value.none))).update S (Obj.mapSeq (·.pop)) = g4 at eS4 o4 ⊢
    have kp4 : ∀ c o, h'.get? c = some o → g4.get? c = some o := fun c o e => by
      have n : c ≠ S := by
        rw [← eN]
        exact Nat.ne_of_lt (Heap.lt_size e)
      exact o4 c o n (o2 c o n (up c o e))
    have I4 := I2.laid (t' := s1.toks) (o := .lst (([] : List Addr).map V.ref)) kp4 (Nat.le_of_eq eN) ⟨by simp, [], _, .nil, eS4⟩
    refine loop hh D .none hle hn qx qy h0S nS xs.length 0 _ _ [] (by omega) (Nat.zero_le _) I4 (fun c hcm => ?_) ⟨.inl ⟨rfl, kp4 _ _ hz⟩, kp4 _ _ hTI, _, _, kp4 _ _ hTO⟩ (h1.at fun o e => kp4 _ o e) (h2.at fun o e => kp4 _ o e) (fun c o e => by rw [upd_ne (ne_of_none e h0S)]; exact e) upd_same rfl (fun j t x y hj => by simp at hj) ?_
    · have f := fp c hcm
      refine ⟨?_, f.2⟩
      have n : c ≠ S := by
        have e' : c = z ∨ c = TI ∨ c = TO ∨ c = i1 ∨ c = i2 := by simpa using hcm
        rcases e' with q | q | q | q | q
        · rw [q]; exact nS.1.symm
        · rw [q]; exact nS.2.1.symm
        · rw [q]; exact nS.2.2.1.symm
        · rw [q]; exact nS.2.2.2.1.symm
        · rw [q]; exact nS.2.2.2.2.symm
      rw [upd_ne n]
      exact f.1
    · intro s' H' ts' I' Z'
      exact ⟨rfl, ⟨.ref S, H', I', rfl, q S ts' H' Z'⟩⟩
end
end Lz
set_option linter.all false
/-! set(xs) of a list of ints, as sorted() asks for it -/
namespace Si
open PySem PySem.Spec PyProof.Rows L2
abbrev nw (w : World) : Obj := { cls := .type "set", dict := none, data := .set #[] 0 (.fresh 0 0 (!w.params.followText "set-order")) }
section
variable {P : Program} {w : World} {A : Around} {E : Value → Shared → Prop} {s : Shared}
set_option maxHeartbeats 3200000 in
theorem set_list {l : Addr} {items : Array Value} (ns : List Int) {Q : Value → Shared → Prop} (hh : A.handled = none) (hl : s.heap.IsList l items) (hit : IntsAre items.toList ns) (hb : ns.length + 1 < scanBound)
    (h : ∀ (h' : Heap) (tk c : Nat), SetR w h' s.heap.objs.size (fun j => decide (j ∈ ns)) c → c ≤ ns.length → (∀ b o, s.heap.get? b = some o → h'.get? b = some o) → Q (.ref s.heap.objs.size) { s with heap := h', toks := tk }) :
    wpAny (model P w) A (call (.type "set") [.ref l]) Q E s := by
  have isz : items.size = ns.length := by
    have q := IntsAre.length hit
    rwa [Array.length_toList] at q
  obtain ⟨c, tl, hmro⟩ := F.called_set.mro
  have hmade := F.called_set.made
  have hsub := F.called_set.sub
  refine wpAny_call (codeAny_of_tree ?_)
  show wpAny _ _ (callAny (.type "set") _) _ _ _
  refine wpAny_pure ⟨Code.quiet_builtin _ (by decide +kernel), codeAny_builtin F.entry_type_call ?_⟩
  rw [Around.under_plain (weight_type_call_type "set" [.ref l] []) rfl]
  have h1 := F.called_set.notType
  have h2 := F.called_set.canCreate
  have hct := F.typeCall_set_1 (.ref l)
  repeat (any_goals (first | assumption | wp_step))
  refine codeAny_mono (code_set_led1 (.ref l) (E := E) (Q₁ := fun obj s₁ => obj = .ref s.heap.objs.size ∧ s₁ = { s with heap := s.heap.push (nw w) }) ⟨rfl, rfl⟩) fun r s₁ hr => ?_
  cases r with
  | error e => exact hr
  | ok fl =>
    cases fl with
    | ret obj =>
      obtain ⟨rfl, rfl⟩ := hr
      have hS : (s.heap.push (nw w)).get? s.heap.objs.size = some (nw w) := Heap.get?_push_size _ rfl
      have hT : Shared.TypeIs { s with heap := s.heap.push (nw w) } (.ref s.heap.objs.size) "set" := ⟨_, hS, rfl⟩
      have hli := F.called_set.init.lookup
      have hbi := F.called_set.init.bind (.ref s.heap.objs.size)
      repeat (any_goals (first | assumption | wp_step))
      refine codeAny_mono (codeAny_call_builtin (R := wants (fun r s₂ => r = .none ∧ ∃ h' tk c, s₂ = { s with heap := h', toks := tk } ∧ SetR w h' s.heap.objs.size (fun j => decide (j ∈ ns)) c ∧ c ≤ ns.length ∧
          (∀ b o, s.heap.get? b = some o → h'.get? b = some o)) E) F.called_set.init.plain F.entry_set_init (check_set_init_1 hT ?_)) fun r₂ s₂ hr₂ => ?_
      · obtain ⟨ol, hol, hcl, nl, hdl⟩ := hl
        obtain ⟨ocls, odict, odata, oslots⟩ := ol
        simp only at hcl hdl
        subst hcl; subst hdl
        have hol' : (s.heap.push (nw w)).get? l = some { cls := .type "list", dict := odict, data := .seq items nl, slots := oslots } := Heap.get?_push_of_some _ hol
        have hsls := F.sub_list_set
        have hslf := F.sub_list_frozenset
        have hne : (Value.type "list" == Value.type "dict") = false := by decide
        have hl1 : (s.heap.push (nw w)).IsList l items := ⟨_, hol', rfl, nl, rfl⟩
        unfold Builtin.«set.__init__» noKeywords Builtin.Frozenset.updateFrom
        generalize hPI : pyIter = PI
        wp_walk
        subst hPI
        refine wpAny_pyIter_list hl1 ?_
        refine wpAny_bind (wpAny_runValue ?_)
        have lS : l < s.heap.objs.size := Heap.lt_size hol
        have hh3 : A.in1.in1.in1.handled = none := by simp [hh]
        have neI : l ≠ (s.heap.push (nw w)).objs.size := by
          rw [Heap.size_push]
          exact Nat.ne_of_lt (Nat.lt_succ_of_lt lS)
        have notF : s.heap.objs.size ∉ [(s.heap.push (nw w)).objs.size, l] := by
          rw [Heap.size_push]
          simp only [List.mem_cons, List.mem_singleton, List.not_mem_nil, or_false, not_or]
          exact ⟨Nat.ne_of_lt (Nat.lt_succ_self _), Nat.ne_of_gt lS⟩
        have val : ∀ (i : Nat) (v : Value), items[i]? = some v → ∃ k t, ns[i]? = some k ∧ v = .int k t := fun i v hv => by
          have hi : i < ns.length := by rw [← isz]; exact (Array.getElem?_eq_some_iff.mp hv).1
          obtain ⟨t, e⟩ := IntsAre.int_at hit i v (by rw [Array.getElem?_toList]; exact hv)
          exact ⟨ns[i], t, List.getElem?_eq_getElem hi, by rw [e, List.getD_eq_getElem?_getD, List.getElem?_eq_getElem hi] <;> rfl⟩
        refine set_update_ints ((Walks.list hh3 _ l neI items).toS) s.heap.objs.size notF ns isz hb val (items.size - 0) 0 _ (by omega) (Nat.zero_le _) ⟨⟨_, Heap.get?_push_size _ rfl, rfl, rfl⟩, (hl1.push _)⟩ ⟨0, Nat.le_refl 0, setR_new_at (Heap.get?_push_of_some _ hS)⟩ ?_
        intro s' c' hm hc' hS'
        obtain ⟨h', g2, d', tk', os'⟩ := s'
        have eg : g2 = s.gens := hm.gens
        have ed : d' = s.drawn := hm.drawn
        have eo : os' = s.os := hm.os
        subst eg; subst ed; subst eo
        show wpAny _ _ _ _ _ _
        refine wpAny_pure ?_
        show wpAny _ _ (ret Value.none) _ _ _
        rw [isz] at hc'
        refine wpAny_pure ⟨rfl, h', tk', c', rfl, hS', hc', fun b o e => ?_⟩
        have b0 : b < s.heap.objs.size := Heap.lt_size e
        have b2 : b ≠ (s.heap.push (nw w)).objs.size := by
          rw [Heap.size_push]
          exact Nat.ne_of_lt (Nat.lt_succ_of_lt b0)
        exact hm.heap b o (by simp only [List.mem_cons, List.mem_singleton, List.not_mem_nil, or_false, not_or]; exact ⟨Nat.ne_of_lt b0, b2⟩) (Heap.get?_push_of_some _ (Heap.get?_push_of_some _ e))
      · cases r₂ with
        | error e => exact hr₂
        | ok fl₂ =>
          cases fl₂ with
          | ret r =>
            obtain ⟨rfl, h', tk, c', rfl, hS', hc', hk'⟩ := hr₂
            repeat (any_goals (first | assumption | wp_step))
            exact h _ _ _ hS' hc' hk'
          | _ => exact hr₂.elim
    | _ => exact hr.elim
end
/-- set(xs), a list of ints -/
def rSetL (K : PySem.W.Frag) (w : World) : List V → Hp → VK → Prop := fun xs H Q => ∃ (l : Addr) (ns : List Int), xs = [V.ref l] ∧ SqL K H l (ns.map V.int) ∧ ns.length ≤ 1000 ∧
  ∀ a c, H a = none → c ≤ ns.length → Q (.ref a) (upd H a (SetO w a (fun j => decide (j ∈ ns)) c))
theorem cr_setL {X : Cx} (hc : X.calm = true) : CallR X (.type "set") (rSetL X.K X.w) := by
  intro pins s σ H xs us Q I r h
  obtain ⟨l, ns, rfl, hl, hf, q⟩ := h
  rw [Vals.ref1 r]
  obtain ⟨its, rv, pl, hz⟩ := I.list hl
  refine set_list (P := X.prog) (w := X.w) ns (I.ok.hd hc) pl.isList (by simpa using rv.ints) (by unfold scanBound; omega) fun h' tk c R g k => ?_
  exact ⟨.ref s.heap.objs.size, upd H s.heap.objs.size (SetO X.w s.heap.objs.size (fun j => decide (j ∈ ns)) c), I.laid (t' := tk) k (Nat.le_refl _) (setO_new R), rfl, q _ _ (I.hok.fresh (Nat.le_refl _)) g⟩
end Si
set_option linter.all false
/-! zip(*xs): any number of lists, or of tuples, of one length -/
namespace Zn
open PySem PySem.Spec PyProof.Rows L2 Zm
section
variable {pr : Program} {w : World} {A : Around} {E : Value → Shared → Prop} {s : Shared}
theorem nx_item (k : Kd) {it a : Addr} {i : Nat} {items : Array Value} {x : Value} {Q : Value → Shared → Prop} (hit : Itr k s.heap it a i) (hl : Sqh k s.heap a items) (hx : items[i]? = some x)
    (hQ : ∀ h', Itr k h' it a (i + 1) → Heap.SameBut it s.heap h' → Q x { s with heap := h' }) : wpAny (model pr w) A (Builtin.SmallTypes.nextOf (.ref it)) Q E s := match k, hit, hl, hQ with
  | .l, hit, hl, hQ => wpAny_nextOf_list_item hit hl hx hQ
  | .t, hit, hl, hQ => wpAny_nextOf_tuple_item hit hl hx hQ
theorem nx_end (k : Kd) {it a : Addr} {i : Nat} {items : Array Value} {Q : Value → Shared → Prop} (hh : A.handled = none) (hit : Itr k s.heap it a i) (hl : Sqh k s.heap a items) (hx : items[i]? = none)
    (hE : ∀ h' e, Heap.ExtBut it s.heap h' → (∃ o, h'.get? e = some o ∧ o.cls = .type "StopIteration") → E (.ref e) { s with heap := h' }) : wpAny (model pr w) A (Builtin.SmallTypes.nextOf (.ref it)) Q E s := match k, hit, hl with
  | .l, hit, hl => wpAny_nextOf_list_end hh hit hl hx hE
  | .t, hit, hl => wpAny_nextOf_tuple_end hh hit hl hx hE
theorem steps {α σ : Type} {B : α → σ → Sem (ForInStep σ)} (J : Nat → σ → Shared → Prop) : ∀ (is : List α) (o : Nat) (st : σ) (s : Shared), J o st s →
    (∀ j it st s, is[j]? = some it → J (o + j) st s → wpAny (model pr w) A (B it st) (fun r s' => ∃ st', r = .yield st' ∧ J (o + j + 1) st' s') E s) →
    wpAny (model pr w) A (forIn is st B) (fun st s' => J (o + is.length) st s') E s
  | [], o, st, s, h0, _ => by
    rw [List.forIn_nil]
    exact wpAny_pure h0
  | it :: is, o, st, s, h0, hs => by
    rw [List.forIn_cons]
    refine wpAny_bind (wpAny_mono (hs 0 it st s rfl h0) (fun r s' h => ?_) fun _ _ x => x)
    obtain ⟨st', rfl, h1⟩ := h
    have z := steps J is (o + 1) st' s' h1 fun j it' st s e h => by
      have e1 : o + 1 + j = o + (j + 1) := by omega
      rw [e1] at h ⊢
      exact hs (j + 1) it' st s e h
    have e2 : o + (it :: is).length = o + 1 + is.length := by rw [List.length_cons]; omega
    rw [e2]
    exact z
/-- a zip of iterators -/
abbrev IsTup (h : Heap) (T : Addr) (vs : List Value) : Prop := h.get? T = some { cls := .type "tuple", data := .seq vs.toArray }
structure Apart (z TI TO : Addr) (is as : List Addr) : Prop where
  nd : is.Nodup
  zi : z ∉ is
  TIi : TI ∉ is
  TOi : TO ∉ is
  TIz : TI ≠ z
  TOz : TO ≠ z
  TITO : TI ≠ TO
  ai : ∀ a ∈ as, a ∉ is
  az : ∀ a ∈ as, a ≠ z
  aTO : ∀ a ∈ as, a ≠ TO
def Its (k : Kd) (h : Heap) (is as : List Addr) (lo hi i : Nat) : Prop := ∀ (j : Nat) (it a : Addr), lo ≤ j → j < hi → is[j]? = some it → as[j]? = some a → Itr k h it a i
def Sqs (k : Kd) (h : Heap) (as : List Addr) (xss : List (List Value)) : Prop := ∀ (j : Nat) (a : Addr) (xs : List Value), as[j]? = some a → xss[j]? = some xs → Sqh k h a xs.toArray
theorem sqh_keep {k : Kd} {h h' : Heap} {a : Addr} {its : Array Value} (x : Sqh k h a its) (kp : ∀ o, h.get? a = some o → h'.get? a = some o) : Sqh k h' a its := by
  cases k with
  | l => exact x.at kp
  | t => exact x.at kp
theorem nd_inj {as : List Addr} (h : as.Nodup) {i j : Nat} {a : Addr} (h1 : as[i]? = some a) (h2 : as[j]? = some a) : i = j := by
  obtain ⟨hi, e1⟩ := List.getElem?_eq_some_iff.mp h1
  obtain ⟨hj, e2⟩ := List.getElem?_eq_some_iff.mp h2
  have pw := List.pairwise_iff_getElem.mp h
  rcases Nat.lt_trichotomy i j with l | l | l
  · exact absurd (e1.trans e2.symm) (pw i j hi hj l)
  · exact l
  · exact absurd (e2.trans e1.symm) (pw j i hj hi l)
/-- the i-th items of all -/
structure Col (xss : List (List Value)) (i : Nat) (row : List Value) : Prop where
  len : row.length = xss.length
  get : ∀ {j : Nat} {xs : List Value}, xss[j]? = some xs → ∃ v, xs[i]? = some v ∧ row[j]? = some v
theorem take_one {α : Type} {l : List α} {j : Nat} {v : α} (h : l[j]? = some v) : l.take (j + 1) = l.take j ++ [v] := by
  rw [List.take_add_one, h]
  rfl
theorem not_empty {is : List Addr} (h : is ≠ []) : (is.map Value.ref).toArray.isEmpty = false := by
  cases is with
  | nil => exact absurd rfl h
  | cons a b => rfl
theorem next_held {z TI TO T : Addr} {f : Bool} {oT : Obj} {i : Nat} {k : Kd} {is as : List Addr} {xss : List (List Value)} {row : List Value} {Q : Value → Shared → Prop} (D : Apart z TI TO is as)
    (hz : IsZipHeld s.heap z TI TO T f) (hT : s.heap.get? T = some oT) (hTI : IsTup s.heap TI (is.map Value.ref)) (hit : Its k s.heap is as 0 is.length i) (hsq : Sqs k s.heap as xss) (la : as.length = is.length) (lx : xss.length = is.length) (col : Col xss i row) (hne : is ≠ []) (hsz : row.length ≤ sizeLine)
    (hQ : ∀ h', IsZipHeld h' z TI TO T true → Its k h' is as 0 is.length (i + 1) → IsTup h' s.heap.objs.size row → h'.objs.size = s.heap.objs.size + 1 → (∀ c o, c ≠ z → c ∉ is → s.heap.get? c = some o → h'.get? c = some o) → Q (.ref s.heap.objs.size) { s with heap := h' }) :
    wpAny (model pr w) A (Builtin.«zip.__next__» ⟨[.ref z], []⟩) (fun fin s' => ∃ v, fin = .done (.ret v) ∧ Q v s') E s := by
  show wpAny _ _ (field (.ref z) 2 >>= _) _ _ _
  refine wpAny_bind (wpAny_field hz rfl (x := .bool false) rfl ?_)
  show wpAny _ _ (field (.ref z) 3 >>= _) _ _ _
  refine wpAny_bind (wpAny_field hz rfl (x := .ref TI) rfl ?_)
  refine wpAny_bind (wpAny_seqItems hTI rfl ?_)
  dsimp only
  rw [not_empty hne]
  simp only [Bool.false_eq_true, if_false]
  refine wpAny_bind (wpAny_tupleHeld_zip hz hT fun h₁ hz₁ hs₁ => ?_)
  simp only [Bool.false_eq_true, if_false]
  refine wpAny_bind ?_
  rw [← Array.forIn_toList]
  have rl := col.len
  refine wpAny_mono (steps (fun j (st : Option PySem.Fin × Array Value) s' => st.1 = none ∧ st.2.toList = row.take j ∧ ∃ h', s' = { s with heap := h' } ∧ h'.objs.size = s.heap.objs.size ∧ IsZipHeld h' z TI TO T true ∧ Its k h' is as 0 j (i + 1) ∧ Its k h' is as j is.length i ∧ ∀ c o, c ≠ z → c ∉ is → s.heap.get? c = some o → h'.get? c = some o)
    _ 0 _ _ ⟨rfl, rfl, h₁, rfl, hs₁.1, hz₁, fun j it a _ h2 => absurd h2 (Nat.not_lt_zero _), fun j it a h1 h2 e1 e2 => itr_keep (hit j it a h1 h2 e1 e2) fun o e => hs₁.extBut _ _ (fun q => D.zi (by rw [← q]; exact List.mem_of_getElem? e1)) e, fun c o c1 _ e => hs₁.extBut _ _ c1 e⟩ ?_) ?_ fun _ _ x => x
  · rintro j it ⟨r, items⟩ s' ej ⟨rfl, hi, h', rfl, hsz', hz', d1, d2, kp⟩
    rw [Nat.zero_add] at *
    dsimp only at hi
    have ej' : (is.map Value.ref)[j]? = some it := by simpa using ej
    rw [List.getElem?_map] at ej'
    obtain ⟨q, eq, rfl⟩ := Option.map_eq_some_iff.mp ej'
    have hj : j < is.length := (List.getElem?_eq_some_iff.mp eq).1
    have ea : as[j]? = some (as[j]'(by omega)) := List.getElem?_eq_getElem (by omega)
    have ex : xss[j]? = some (xss[j]'(by omega)) := List.getElem?_eq_getElem (by omega)
    obtain ⟨v, ev, er⟩ := col.get ex
    have ma := List.mem_of_getElem? ea
    have mq := List.mem_of_getElem? eq
    refine wpAny_bind (wpAny_holding ?_)
    show wpAny _ _ (Builtin.SmallTypes.nextOf (.ref q) >>= _) _ _ _
    refine wpAny_bind (nx_item k (s := { s with heap := h' }) (x := v) (d2 j q _ (Nat.le_refl _) hj eq ea) (sqh_keep (hsq j _ _ ea ex) fun o e => kp _ o (D.az _ ma) (D.ai _ ma) e) (by simpa using ev) fun h₂ hq₂ hs₂ => wpAny_pure ?_)
    refine wpAny_pure ⟨_, rfl, rfl, ?_, h₂, rfl, by rw [hs₂.1]; exact hsz', hs₂.extBut _ _ (fun e => D.zi (by rw [e]; exact mq)) hz', fun j' it' a' l1 l2 e1 e2 => ?_, fun j' it' a' l1 l2 e1 e2 => ?_, fun c o c1 c2 e => hs₂.extBut _ _ (fun e' => c2 (by rw [e']; exact mq)) (kp c o c1 c2 e)⟩
    · show (items.push v).toList = _
      rw [Array.toList_push, hi, take_one er]
    · by_cases e : j' = j
      · subst e
        rw [eq] at e1
        rw [ea] at e2
        cases e1
        cases e2
        exact hq₂
      · exact itr_keep (d1 j' it' a' l1 (by omega) e1 e2) fun o eo => hs₂.extBut _ _ (fun e' => e (nd_inj D.nd e1 (by rw [e']; exact eq))) eo
    · exact itr_keep (d2 j' it' a' (by omega) l2 e1 e2) fun o eo => hs₂.extBut _ _ (fun e' => absurd (nd_inj D.nd e1 (by rw [e']; exact eq)) (by omega)) eo
  · rintro ⟨r, items⟩ s' ⟨rfl, hi, h', rfl, hsz', hz', d1, d2, kp⟩
    have el : 0 + (List.map Value.ref is).toArray.toList.length = is.length := by simp
    rw [el] at hi d1
    dsimp only at hi
    rw [List.take_of_length_le (by omega)] at hi
    dsimp only
    rw [hi]
    refine wpAny_bind (wpAny_newTuple ?_ hsz)
    refine wpAny_pure ⟨_, rfl, ?_⟩
    have hp : IsTup (h'.push { cls := .type "tuple", data := .seq row.toArray }) h'.objs.size row := Heap.get?_push_size _ rfl
    have hz4 : (h'.push { cls := .type "tuple", data := .seq row.toArray }).objs.size = h'.objs.size + 1 := Heap.size_push ..
    show Q (.ref h'.objs.size) _
    rw [hsz'] at hp hz4 ⊢
    exact hQ _ (Heap.get?_push_of_some _ hz') (fun j it a l1 l2 e1 e2 => itr_keep (d1 j it a l1 l2 e1 e2) fun o e => Heap.get?_push_of_some _ e) hp hz4 fun c o c1 c2 e => Heap.get?_push_of_some _ (kp c o c1 c2 e)
theorem end_held {z TI TO T : Addr} {f : Bool} {oT : Obj} {i : Nat} {k : Kd} {is as : List Addr} {xss : List (List Value)} {Q : PySem.Fin → Shared → Prop} (hh : A.handled = none) (D : Apart z TI TO is as)
    (hz : IsZipHeld s.heap z TI TO T f) (hT : s.heap.get? T = some oT) (hTI : IsTup s.heap TI (is.map Value.ref)) (hit : Its k s.heap is as 0 is.length i) (hsq : Sqs k s.heap as xss) (la : as.length = is.length) (lx : xss.length = is.length) (hne : is ≠ []) (hend : ∀ xs ∈ xss, xs.length ≤ i)
    (hE : ∀ h' e, (∀ c o, c ≠ z → c ∉ is → s.heap.get? c = some o → h'.get? c = some o) → (∃ o, h'.get? e = some o ∧ o.cls = .type "StopIteration") → E (.ref e) { s with heap := h' }) :
    wpAny (model pr w) A (Builtin.«zip.__next__» ⟨[.ref z], []⟩) Q E s := by
  show wpAny _ _ (field (.ref z) 2 >>= _) _ _ _
  refine wpAny_bind (wpAny_field hz rfl (x := .bool false) rfl ?_)
  show wpAny _ _ (field (.ref z) 3 >>= _) _ _ _
  refine wpAny_bind (wpAny_field hz rfl (x := .ref TI) rfl ?_)
  refine wpAny_bind (wpAny_seqItems hTI rfl ?_)
  dsimp only
  rw [not_empty hne]
  simp only [Bool.false_eq_true, if_false]
  refine wpAny_bind (wpAny_tupleHeld_zip hz hT fun h₁ hz₁ hs₁ => ?_)
  simp only [Bool.false_eq_true, if_false]
  refine wpAny_bind ?_
  rw [← Array.forIn_toList]
  cases is with
  | nil => exact absurd rfl hne
  | cons q is =>
    cases as with
    | nil => simp at la
    | cons a as =>
      cases xss with
      | nil => simp at lx
      | cons xs xss =>
        have hq := hit 0 q a (Nat.le_refl _) (by simp) rfl rfl
        have ha := hsq 0 a xs rfl rfl
        have na := D.az a (by simp)
        have nq := D.ai a (by simp)
        show wpAny _ _ (forIn (Value.ref q :: is.map Value.ref) _ _) _ _ _
        rw [List.forIn_cons]
        refine wpAny_bind (wpAny_bind (wpAny_holding ?_))
        show wpAny _ _ (Builtin.SmallTypes.nextOf (.ref q) >>= _) _ _ _
        refine wpAny_bind (nx_end k (s := { s with heap := h₁ }) hh (itr_keep hq fun o e => hs₁.extBut _ _ (fun e' => D.zi (by rw [← e']; simp)) e) (sqh_keep ha fun o e => hs₁.extBut _ _ na e) (by
          have := hend xs (by simp)
          simpa using this) fun h₂ e hs₂ he => ?_)
        exact hE h₂ e (fun c o c1 c2 x => hs₂ _ _ (fun e' => c2 (by rw [e']; simp)) (hs₁.extBut _ _ c1 x)) he
theorem upd_tup {T : Addr} {os : List Value} {x : Value} {j : Nat} {Q : Unit → Shared → Prop} (hT : IsTup s.heap T os) (hz : os.length ≤ sizeLine)
    (h : ∀ h', IsTup h' T (os.set j x) → Heap.SameBut T s.heap h' → Q () { s with heap := h' }) : wpAny (model pr w) A (updateSeq T (·.setIfInBounds j x)) Q E s := by
  refine wpAny_updateSeq hT rfl (h _ ?_ (Heap.SameBut.update ..)) (by simp; omega) (by simp; omega)
  show Heap.get? (s.heap.update T _) T = _
  rw [Heap.get?_update_self _ hT rfl]
  simp [Obj.mapSeq]
theorem next_owned {z TI TO : Addr} {i : Nat} {k : Kd} {is as : List Addr} {xss : List (List Value)} {row os : List Value} {Q : Value → Shared → Prop} (D : Apart z TI TO is as)
    (hz : IsZip s.heap z TI TO .none) (hTI : IsTup s.heap TI (is.map Value.ref)) (hTO : IsTup s.heap TO os) (lo : os.length = is.length) (hit : Its k s.heap is as 0 is.length i) (hsq : Sqs k s.heap as xss) (la : as.length = is.length) (lx : xss.length = is.length) (col : Col xss i row) (hne : is ≠ []) (hsz : row.length ≤ sizeLine)
    (hQ : ∀ h', IsZip h' z TI TO (rawInt s.heap.objs.size) → IsTup h' TO row → Its k h' is as 0 is.length (i + 1) → IsTup h' s.heap.objs.size row → h'.objs.size = s.heap.objs.size + 1 → (∀ c o, c ≠ z → c ≠ TO → c ∉ is → s.heap.get? c = some o → h'.get? c = some o) → Q (.ref s.heap.objs.size) { s with heap := h' }) :
    wpAny (model pr w) A (Builtin.«zip.__next__» ⟨[.ref z], []⟩) (fun fin s' => ∃ v, fin = .done (.ret v) ∧ Q v s') E s := by
  show wpAny _ _ (field (.ref z) 2 >>= _) _ _ _
  refine wpAny_bind (wpAny_field hz rfl (x := .bool false) rfl ?_)
  show wpAny _ _ (field (.ref z) 3 >>= _) _ _ _
  refine wpAny_bind (wpAny_field hz rfl (x := .ref TI) rfl ?_)
  refine wpAny_bind (wpAny_seqItems hTI rfl ?_)
  dsimp only
  rw [not_empty hne]
  simp only [Bool.false_eq_true, if_false]
  refine wpAny_bind ?_
  unfold Builtin.SmallTypes.ownedTupleIsFree
  refine wpAny_bind (wpAny_field hz rfl (x := .none) rfl (wpAny_pure ?_))
  simp only [if_true]
  refine wpAny_bind (wpAny_rule ?_)
  refine wpAny_bind (wpAny_field hz rfl (x := .ref TO) rfl ?_)
  refine wpAny_bind (wpAny_setField_rec hz (by simp) fun h₁ hz₁ hs₁ => ?_)
  replace hz₁ : IsZip h₁ z TI TO .ellipsis := hz₁
  refine wpAny_bind ?_
  have rl := col.len
  refine wpAny_mono (steps (fun j (st : Option PySem.Fin × Unit) s' => st.1 = none ∧ ∃ h' os', s' = { s with heap := h' } ∧ h'.objs.size = s.heap.objs.size ∧ IsZip h' z TI TO .ellipsis ∧ IsTup h' TO os' ∧ os'.length = is.length ∧ os'.take j = row.take j ∧ Its k h' is as 0 j (i + 1) ∧ Its k h' is as j is.length i ∧ ∀ c o, c ≠ z → c ≠ TO → c ∉ is → s.heap.get? c = some o → h'.get? c = some o)
    _ 0 _ _ ⟨rfl, h₁, os, rfl, hs₁.1, hz₁, hs₁.extBut _ _ D.TOz hTO, lo, rfl, fun j it a _ h2 => absurd h2 (Nat.not_lt_zero _), fun j it a h1 h2 e1 e2 => itr_keep (hit j it a h1 h2 e1 e2) fun o e => hs₁.extBut _ _ (fun q => D.zi (by rw [← q]; exact List.mem_of_getElem? e1)) e, fun c o c1 _ _ e => hs₁.extBut _ _ c1 e⟩ ?_) ?_ fun _ _ x => x
  · rintro j ⟨it, jj⟩ ⟨r, u⟩ s' ej ⟨rfl, h', os', rfl, hsz', hz', ht', lo', hto, d1, d2, kp⟩
    rw [Nat.zero_add] at *
    have ej' : (is.map Value.ref).zipIdx[j]? = some (it, jj) := by simpa using ej
    rw [List.getElem?_zipIdx, List.getElem?_map] at ej'
    obtain ⟨y, ey, e2⟩ := Option.map_eq_some_iff.mp ej'
    obtain ⟨q, eq, rfl⟩ := Option.map_eq_some_iff.mp ey
    cases e2
    rw [Nat.zero_add]
    have hj : j < is.length := (List.getElem?_eq_some_iff.mp eq).1
    have ea : as[j]? = some (as[j]'(by omega)) := List.getElem?_eq_getElem (by omega)
    have ex : xss[j]? = some (xss[j]'(by omega)) := List.getElem?_eq_getElem (by omega)
    obtain ⟨v, ev, er⟩ := col.get ex
    have ma := List.mem_of_getElem? ea
    have mq := List.mem_of_getElem? eq
    refine wpAny_bind (wpAny_onRaise ?_)
    show wpAny _ _ (Builtin.SmallTypes.nextOf (.ref q) >>= _) _ _ _
    refine wpAny_bind (nx_item k (s := { s with heap := h' }) (x := v) (d2 j q _ (Nat.le_refl _) hj eq ea) (sqh_keep (hsq j _ _ ea ex) fun o e => kp _ o (D.az _ ma) (D.aTO _ ma) (D.ai _ ma) e) (by simpa using ev) fun h₂ hq₂ hs₂ => wpAny_pure ?_)
    have nTq : TO ≠ q := fun e => D.TOi (by rw [e]; exact mq)
    have nzq : z ≠ q := fun e => D.zi (by rw [e]; exact mq)
    have ht₂ : IsTup h₂ TO os' := hs₂.extBut _ _ nTq ht'
    dsimp only
    refine wpAny_bind (wpAny_seqItems ht₂ rfl ?_)
    refine wpAny_bind (upd_tup (s := { s with heap := h₂ }) ht₂ (by omega) fun h₃ ht₃ hs₃ => ?_)
    refine wpAny_bind (wpAny_letGo (wpAny_pure ?_))
    refine ⟨_, rfl, rfl, h₃, _, rfl, by rw [hs₃.1]; show h₂.objs.size = _; rw [hs₂.1]; exact hsz', hs₃.extBut _ _ D.TOz.symm (hs₂.extBut _ _ nzq hz'), ht₃, by rw [List.length_set]; exact lo', ?_, fun j' it' a' l1 l2 e1 e2 => ?_, fun j' it' a' l1 l2 e1 e2 => ?_, fun c o c1 c2 c3 e => hs₃.extBut _ _ c2 (hs₂.extBut _ _ (fun e' => c3 (by rw [e']; exact mq)) (kp c o c1 c2 c3 e))⟩
    · have e3 : (os'.set j v)[j]? = some v := by
        rw [List.getElem?_set_self (by omega)]
      rw [take_one e3, take_one er, List.take_set_of_le (Nat.le_refl _), hto]
    · have n' : it' ≠ TO := fun e => D.TOi (by rw [← e]; exact List.mem_of_getElem? e1)
      by_cases e : j' = j
      · subst e
        rw [eq] at e1
        rw [ea] at e2
        cases e1
        cases e2
        exact itr_keep hq₂ fun o eo => hs₃.extBut _ _ n' eo
      · exact itr_keep (d1 j' it' a' l1 (by omega) e1 e2) fun o eo => hs₃.extBut _ _ n' (hs₂.extBut _ _ (fun e' => e (nd_inj D.nd e1 (by rw [e']; exact eq))) eo)
    · have n' : it' ≠ TO := fun e => D.TOi (by rw [← e]; exact List.mem_of_getElem? e1)
      exact itr_keep (d2 j' it' a' (by omega) l2 e1 e2) fun o eo => hs₃.extBut _ _ n' (hs₂.extBut _ _ (fun e' => absurd (nd_inj D.nd e1 (by rw [e']; exact eq)) (by omega)) eo)
  · rintro ⟨r, u⟩ s' ⟨rfl, h', os', rfl, hsz', hz', ht', lo', hto, d1, d2, kp⟩
    have el : 0 + ((List.map Value.ref is).toArray.toList.zipIdx).length = is.length := by simp
    rw [el] at hto d1
    rw [List.take_of_length_le (by omega), List.take_of_length_le (by omega)] at hto
    subst hto
    dsimp only
    refine wpAny_bind (wpAny_seqItems ht' rfl ?_)
    dsimp only
    refine wpAny_bind (wpAny_newTuple ?_ hsz)
    have hzlt : z < h'.objs.size := Heap.lt_size hz'
    show wpAny _ _ (Builtin.SmallTypes.ownedTupleHandOut (.ref z) (.ref h'.objs.size) >>= _) _ _ _
    refine wpAny_bind ?_
    unfold Builtin.SmallTypes.ownedTupleHandOut
    have hz₆ : IsZip (h'.push { cls := .type "tuple", data := .seq os'.toArray }) z TI TO .ellipsis := Heap.get?_push_of_some _ hz'
    refine wpAny_bind (wpAny_setField_rec hz₆ (by simp) fun h₇ hz₇ hs₇ => ?_)
    replace hz₇ : IsZip h₇ z TI TO (rawInt h'.objs.size) := hz₇
    refine wpAny_setField_rec hz₇ (by simp) fun h₈ hz₈ hs₈ => ?_
    replace hz₈ : IsZip h₈ z TI TO (rawInt h'.objs.size) := hz₈
    have up : ∀ c o, c ≠ z → h'.get? c = some o → h₈.get? c = some o := fun c o c1 e => hs₈.extBut _ _ c1 (hs₇.extBut _ _ c1 (Heap.get?_push_of_some _ e))
    have hT₈ : IsTup h₈ h'.objs.size os' := hs₈.extBut _ _ (Nat.ne_of_gt hzlt) (hs₇.extBut _ _ (Nat.ne_of_gt hzlt) (Heap.get?_push_size _ rfl))
    have hz8 : h₈.objs.size = h'.objs.size + 1 := by rw [hs₈.1, hs₇.1, Heap.size_push]
    rw [hsz'] at hz₈ hT₈ hz8
    refine wpAny_pure ⟨_, rfl, ?_⟩
    show Q (.ref h'.objs.size) _
    rw [hsz']
    exact hQ h₈ hz₈ (up _ _ D.TOz ht') (fun j it a l1 l2 e1 e2 => itr_keep (d1 j it a l1 l2 e1 e2) fun o e => up _ o (fun q => D.zi (by rw [← q]; exact List.mem_of_getElem? e1)) e) hT₈ hz8 fun c o c1 c2 c3 e => up c o c1 (kp c o c1 c2 c3 e)
theorem end_owned {z TI TO : Addr} {i : Nat} {k : Kd} {is as : List Addr} {xss : List (List Value)} {Q : PySem.Fin → Shared → Prop} (hh : A.handled = none) (D : Apart z TI TO is as)
    (hz : IsZip s.heap z TI TO .none) (hTI : IsTup s.heap TI (is.map Value.ref)) (hit : Its k s.heap is as 0 is.length i) (hsq : Sqs k s.heap as xss) (la : as.length = is.length) (lx : xss.length = is.length) (hne : is ≠ []) (hend : ∀ xs ∈ xss, xs.length ≤ i)
    (hE : ∀ h' e, (∀ c o, c ≠ z → c ∉ is → s.heap.get? c = some o → h'.get? c = some o) → (∃ o, h'.get? e = some o ∧ o.cls = .type "StopIteration") → E (.ref e) { s with heap := h' }) :
    wpAny (model pr w) A (Builtin.«zip.__next__» ⟨[.ref z], []⟩) Q E s := by
  show wpAny _ _ (field (.ref z) 2 >>= _) _ _ _
  refine wpAny_bind (wpAny_field hz rfl (x := .bool false) rfl ?_)
  show wpAny _ _ (field (.ref z) 3 >>= _) _ _ _
  refine wpAny_bind (wpAny_field hz rfl (x := .ref TI) rfl ?_)
  refine wpAny_bind (wpAny_seqItems hTI rfl ?_)
  dsimp only
  rw [not_empty hne]
  simp only [Bool.false_eq_true, if_false]
  refine wpAny_bind ?_
  unfold Builtin.SmallTypes.ownedTupleIsFree
  refine wpAny_bind (wpAny_field hz rfl (x := .none) rfl (wpAny_pure ?_))
  simp only [if_true]
  refine wpAny_bind (wpAny_rule ?_)
  refine wpAny_bind (wpAny_field hz rfl (x := .ref TO) rfl ?_)
  refine wpAny_bind (wpAny_setField_rec hz (by simp) fun h₁ hz₁ hs₁ => ?_)
  replace hz₁ : IsZip h₁ z TI TO .ellipsis := hz₁
  refine wpAny_bind ?_
  cases is with
  | nil => exact absurd rfl hne
  | cons q is =>
    cases as with
    | nil => simp at la
    | cons a as =>
      cases xss with
      | nil => simp at lx
      | cons xs xss =>
        have hq := hit 0 q a (Nat.le_refl _) (by simp) rfl rfl
        have ha := hsq 0 a xs rfl rfl
        have na := D.az a (by simp)
        have nzq : z ≠ q := fun e => D.zi (by rw [e]; simp)
        show wpAny _ _ (forIn ((Value.ref q :: is.map Value.ref).zipIdx) _ _) _ _ _
        rw [List.zipIdx_cons, List.forIn_cons]
        refine wpAny_bind (wpAny_bind (wpAny_onRaise ?_))
        show wpAny _ _ (Builtin.SmallTypes.nextOf (.ref q) >>= _) _ _ _
        refine wpAny_bind (nx_end k (s := { s with heap := h₁ }) hh (itr_keep hq fun o e => hs₁.extBut _ _ nzq.symm e) (sqh_keep ha fun o e => hs₁.extBut _ _ na e) (by
          have := hend xs (by simp)
          simpa using this) fun h₂ e hs₂ he => ?_)
        obtain ⟨oe, hoe, hce⟩ := he
        have hz₂ : IsZip h₂ z TI TO .ellipsis := hs₂ _ _ nzq hz₁
        have hez : e ≠ z := fun x => by subst x; rw [hz₂] at hoe; cases hoe; simp at hce
        refine wpAny_setField_rec hz₂ (by simp) fun h₃ _ hs₃ => hE h₃ e (fun c o c1 c2 x => hs₃.extBut _ _ c1 (hs₂ _ _ (fun e' => c2 (by rw [e']; simp)) (hs₁.extBut _ _ c1 x))) ⟨oe, hs₃.extBut _ _ hez hoe, hce⟩
end
theorem it_of (k : Kd) {pr : Program} {w : World} {A : Around} {E : Value → Shared → Prop} {s : Shared} {a : Addr} {items : Array Value} {Q : Value → Shared → Prop} (hl : Sqh k s.heap a items)
    (hQ : ∀ h', Itr k h' s.heap.objs.size a 0 → h'.objs.size = s.heap.objs.size + 1 → (∀ c o, s.heap.get? c = some o → h'.get? c = some o) → Q (.ref s.heap.objs.size) { s with heap := h' }) : wpAny (model pr w) A (pyIter (.ref a)) Q E s := match k, hl, hQ with
  | .l, hl, hQ => wpAny_pyIter_list hl (hQ _ ⟨_, Heap.get?_push_size _ rfl, rfl, rfl⟩ (Heap.size_push ..) fun c o e => Heap.get?_push_of_some _ e)
  | .t, hl, hQ => wpAny_pyIter_tuple hl (hQ _ ⟨_, Heap.get?_push_size _ rfl, rfl, rfl⟩ (Heap.size_push ..) fun c o e => Heap.get?_push_of_some _ e)
def isF (n0 n : Nat) : List Addr := (List.range n).map fun j => n0 + j
theorem isF_get {n0 n j : Nat} (h : j < n) : (isF n0 n)[j]? = some (n0 + j) := by
  unfold isF
  rw [List.getElem?_map, List.getElem?_range h]
  rfl
theorem isF_len {n0 n : Nat} : (isF n0 n).length = n := by
  unfold isF
  rw [List.length_map, List.length_range]
theorem isF_succ {n0 n : Nat} : isF n0 (n + 1) = isF n0 n ++ [n0 + n] := by
  unfold isF
  rw [List.range_succ, List.map_append]
  rfl
section
variable {pr : Program} {w : World} {A : Around} {E : Value → Shared → Prop} {s : Shared}
theorem all_ (k : Kd) {as : List Addr} {xss : List (List Value)} {Q : List Value → Shared → Prop} (hsq : Sqs k s.heap as xss) (lx : xss.length = as.length)
    (hQ : ∀ h', Its k h' (isF s.heap.objs.size as.length) as 0 as.length 0 → h'.objs.size = s.heap.objs.size + as.length → (∀ c o, s.heap.get? c = some o → h'.get? c = some o) → Q ((isF s.heap.objs.size as.length).map Value.ref) { s with heap := h' }) :
    wpAny (model pr w) A (Builtin.SmallTypes.iterAll (as.map Value.ref)) Q E s := by
  unfold Builtin.SmallTypes.iterAll
  refine wpAny_bind (wpAny_mono (steps (fun j (st : Array Value) s' => st.toList = (isF s.heap.objs.size j).map Value.ref ∧ ∃ h', s' = { s with heap := h' } ∧ h'.objs.size = s.heap.objs.size + j ∧ Its k h' (isF s.heap.objs.size as.length) as 0 j 0 ∧ ∀ c o, s.heap.get? c = some o → h'.get? c = some o)
    _ 0 _ _ ⟨rfl, s.heap, rfl, rfl, fun j it a _ h2 => absurd h2 (Nat.not_lt_zero _), fun _ _ e => e⟩ ?_) ?_ fun _ _ x => x)
  · rintro j x st s' ej ⟨hi, h', rfl, hs, d1, kp⟩
    rw [Nat.zero_add] at *
    rw [List.getElem?_map] at ej
    obtain ⟨a, ea, rfl⟩ := Option.map_eq_some_iff.mp ej
    have hj : j < as.length := (List.getElem?_eq_some_iff.mp ea).1
    have ex : xss[j]? = some (xss[j]'(by omega)) := List.getElem?_eq_getElem (by omega)
    refine wpAny_bind (wpAny_holding (it_of k (s := { s with heap := h' }) (sqh_keep (hsq j a _ ea ex) fun o e => kp _ o e) fun h₂ i₂ s₂ k₂ => wpAny_pure ⟨_, rfl, ?_, h₂, rfl, ?_, fun j' it' a' l1 l2 e1 e2 => ?_, fun c o e => k₂ c o (kp c o e)⟩))
    · rw [Array.toList_push, hi, isF_succ, List.map_append]
      show _ ++ [Value.ref h'.objs.size] = _
      rw [hs]
      rfl
    · rw [s₂]
      show h'.objs.size + 1 = _
      omega
    · by_cases e : j' = j
      · subst e
        rw [isF_get hj] at e1
        rw [ea] at e2
        cases e1
        cases e2
        rw [← hs]
        exact i₂
      · exact itr_keep (d1 j' it' a' l1 (by omega) e1 e2) fun o eo => k₂ _ o eo
  · rintro st s' ⟨hi, h', rfl, hs, d1, kp⟩
    have el : 0 + (as.map Value.ref).length = as.length := by simp
    rw [el] at hi hs d1
    refine wpAny_pure ?_
    rw [hi]
    exact hQ h' d1 hs kp
end
theorem meets_new (k : Kd) (as : List Addr) (xss : List (List Value)) :
    Meets (Builtin.«zip.__new__» ⟨.type "zip" :: as.map Value.ref, []⟩) (fun _ R s => Sqs k s.heap as xss ∧ xss.length = as.length ∧ as.length ≤ sizeLine ∧ ∀ h', IsZip h' (s.heap.objs.size + as.length + 2) (s.heap.objs.size + as.length) (s.heap.objs.size + as.length + 1) .none → IsTup h' (s.heap.objs.size + as.length) ((isF s.heap.objs.size as.length).map Value.ref) → IsTup h' (s.heap.objs.size + as.length + 1) (List.replicate as.length .none) →
      Its k h' (isF s.heap.objs.size as.length) as 0 as.length 0 → (∀ c o, s.heap.get? c = some o → h'.get? c = some o) → h'.objs.size = s.heap.objs.size + as.length + 3 → R (.ok (.ret (.ref (s.heap.objs.size + as.length + 2)))) { s with heap := h' }) :=
  .of_wp fun prog w A R s h => by
    have hsub := sub_zip
    obtain ⟨hsq, lx, ln, hR⟩ := h
    unfold Builtin.«zip.__new__»
    have e1 : Builtin.SmallTypes.newClass "zip" ⟨.type "zip" :: as.map Value.ref, []⟩ = pure (.type "zip", as.map Value.ref) := by
      unfold Builtin.SmallTypes.newClass
      simp [isType, hsub]
    rw [e1]
    refine wpAny_bind (wpAny_pure ?_)
    dsimp only
    simp only [List.length_nil, Nat.not_lt_zero, gt_iff_lt, if_false]
    refine wpAny_bind (all_ k hsq lx fun h₁ d1 z1 k1 => ?_)
    have lm : ((isF s.heap.objs.size as.length).map Value.ref).length = as.length := by rw [List.length_map, isF_len]
    refine wpAny_bind (wpAny_newTuple ?_ (by rw [lm]; exact ln))
    have em : ((isF s.heap.objs.size as.length).map Value.ref).map (fun _ => Value.none) = List.replicate as.length Value.none := by
      rw [List.map_const', lm]
    rw [em]
    refine wpAny_bind (wpAny_newTuple ?_ (by rw [List.length_replicate]; exact ln))
    have zs1 : (h₁.push { cls := Value.type "tuple", data := Data.seq ((isF s.heap.objs.size as.length).map Value.ref).toArray }).objs.size = s.heap.objs.size + as.length + 1 := by rw [Heap.size_push, z1]
    have g1 : (h₁.push { cls := Value.type "tuple", data := Data.seq ((isF s.heap.objs.size as.length).map Value.ref).toArray }).get? h₁.objs.size = some { cls := Value.type "tuple", data := Data.seq ((isF s.heap.objs.size as.length).map Value.ref).toArray } := Heap.get?_push_size _ rfl
    have k2 : ∀ c o, h₁.get? c = some o → (h₁.push { cls := Value.type "tuple", data := Data.seq ((isF s.heap.objs.size as.length).map Value.ref).toArray }).get? c = some o := fun c o e => Heap.get?_push_of_some _ e
    dsimp only
    generalize h₁.push { cls := Value.type "tuple", data := Data.seq ((isF s.heap.objs.size as.length).map Value.ref).toArray } = h₂ at zs1 g1 k2 ⊢
    have zs2 : (h₂.push { cls := Value.type "tuple", data := Data.seq (List.replicate as.length Value.none).toArray }).objs.size = s.heap.objs.size + as.length + 2 := by rw [Heap.size_push, zs1]
    have g2 : (h₂.push { cls := Value.type "tuple", data := Data.seq (List.replicate as.length Value.none).toArray }).get? h₂.objs.size = some { cls := Value.type "tuple", data := Data.seq (List.replicate as.length Value.none).toArray } := Heap.get?_push_size _ rfl
    have k3 : ∀ c o, h₂.get? c = some o → (h₂.push { cls := Value.type "tuple", data := Data.seq (List.replicate as.length Value.none).toArray }).get? c = some o := fun c o e => Heap.get?_push_of_some _ e
    generalize h₂.push { cls := Value.type "tuple", data := Data.seq (List.replicate as.length Value.none).toArray } = h₃ at zs2 g2 k3 ⊢
    have g3 : (h₃.push { cls := Value.type "zip", data := .fields #[.none, .bool false, .bool false, .ref h₁.objs.size, .ref h₂.objs.size] }).get? h₃.objs.size = some { cls := Value.type "zip", data := .fields #[.none, .bool false, .bool false, .ref h₁.objs.size, .ref h₂.objs.size] } := Heap.get?_push_size _ rfl
    have k4 : ∀ c o, h₃.get? c = some o → (h₃.push { cls := Value.type "zip", data := .fields #[.none, .bool false, .bool false, .ref h₁.objs.size, .ref h₂.objs.size] }).get? c = some o := fun c o e => Heap.get?_push_of_some _ e
    have zs3 : (h₃.push { cls := Value.type "zip", data := .fields #[.none, .bool false, .bool false, .ref h₁.objs.size, .ref h₂.objs.size] }).objs.size = s.heap.objs.size + as.length + 3 := by rw [Heap.size_push, zs2]
    show wpAny _ _ (newObj (.type "zip") (.fields #[.none, .bool false, .bool false, .ref h₁.objs.size, .ref h₂.objs.size]) >>= _) _ _ _
    refine wpAny_bind (wpAny_newObj_type (wpAny_pure ⟨_, rfl, ?_⟩) ?_)
    · rw [z1, zs1, zs2] at g3
      rw [z1] at g1
      rw [zs1] at g2
      dsimp only
      rw [zs2]
      rw [z1, zs1] at k4 zs3 ⊢
      exact hR _ g3 (k4 _ _ (k3 _ _ g1)) (k4 _ _ g2) (fun j it a l1 l2 e1 e2 => itr_keep (d1 j it a l1 l2 e1 e2) fun o e => k4 _ _ (k3 _ _ (k2 _ _ e))) (fun c o e => k4 _ _ (k3 _ _ (k2 _ _ (k1 c o e)))) zs3
    · show 5 ≤ sizeLine + 2
      decide
theorem typeCall (vs : List Value) : checkTypeCall "zip" ⟨vs, []⟩ = pure () := by kernel_rfl
theorem newCall : ∀ vs : List Value, checkBuiltinCall "zip.__new__" ⟨.type "zip" :: vs, []⟩ = pure ()
  | [] => by kernel_rfl
  | a :: vs => by kernel_rfl
theorem args_init (a : Value) (vs : List Value) : argsOk "object.__init__" ⟨a :: vs, []⟩ := by
  unfold argsOk; rw [signature?_of (id := "object.__init__") (n := ['_', '_', 't', 'i', 'n', 'i', '_', '_']) (o := ['t', 'c', 'e', 'j', 'b', 'o']) (by kernel_rfl) F.owner_object]; kernel_rfl
section
variable {pr : Program} {w : World} {A : Around} {E : Value → Shared → Prop} {s : Shared}
theorem call_zip_n (k : Kd) {as : List Addr} {xss : List (List Value)} {Q : Value → Shared → Prop} (hsq : Sqs k s.heap as xss) (lx : xss.length = as.length) (ln : as.length ≤ sizeLine)
    (h : ∀ h', IsZip h' (s.heap.objs.size + as.length + 2) (s.heap.objs.size + as.length) (s.heap.objs.size + as.length + 1) .none → IsTup h' (s.heap.objs.size + as.length) ((isF s.heap.objs.size as.length).map Value.ref) → IsTup h' (s.heap.objs.size + as.length + 1) (List.replicate as.length .none) →
      Its k h' (isF s.heap.objs.size as.length) as 0 as.length 0 → (∀ c o, s.heap.get? c = some o → h'.get? c = some o) → h'.objs.size = s.heap.objs.size + as.length + 3 → Q (.ref (s.heap.objs.size + as.length + 2)) { s with heap := h' }) :
    wpAny (model pr w) A (call (.type "zip") (as.map Value.ref)) Q E s := by
  refine callType_new F.called_zip (by decide) (typeCall _) (newCall _) (fun obj => args_init obj _) F.entry_zip_new (meets_new k as xss) ⟨hsq, lx, ln, fun h' z ti to it kp sz => ?_⟩
  exact ⟨⟨_, z, rfl⟩, h h' z ti to it kp sz⟩
/-! ### next of it -/
structure Zst (k : Kd) (h : Heap) (z TI TO : Addr) (is as : List Addr) (i : Nat) : Prop where
  zp : (i = 0 ∧ IsZip h z TI TO .none) ∨ ∃ T f o, IsZipHeld h z TI TO T f ∧ h.get? T = some o ∧ T ≠ z ∧ T ≠ TO ∧ T ∉ is
  ti : IsTup h TI (is.map Value.ref)
  to : ∃ os : List Value, IsTup h TO os ∧ os.length = is.length
  it : Its k h is as 0 is.length i
theorem Zst.lz {k : Kd} {h : Heap} {z TI TO : Addr} {is as : List Addr} {i : Nat} (Z : Zst k h z TI TO is as i) : z < h.objs.size := by
  rcases Z.zp with ⟨_, e⟩ | ⟨_, _, _, e, _⟩
  · exact Heap.lt_size e
  · exact Heap.lt_size e
theorem Zst.ty {k : Kd} {z TI TO : Addr} {is as : List Addr} {i : Nat} (Z : Zst k s.heap z TI TO is as i) : s.TypeIs (.ref z) "zip" := by
  rcases Z.zp with ⟨_, e⟩ | ⟨_, _, _, e, _⟩
  · exact ⟨_, e, rfl⟩
  · exact ⟨_, e, rfl⟩
theorem itr_lt {k : Kd} {h : Heap} {it a : Addr} {i : Nat} (x : Itr k h it a i) : it < h.objs.size := by
  obtain ⟨o, e, _⟩ := itr_obj x
  exact Heap.lt_size e
theorem next_ {k : Kd} {z TI TO : Addr} {is as : List Addr} {xss : List (List Value)} {row : List Value} {i : Nat} {Q : Option Value → Shared → Prop} (D : Apart z TI TO is as) (Z : Zst k s.heap z TI TO is as i) (hsq : Sqs k s.heap as xss) (la : as.length = is.length) (lx : xss.length = is.length) (col : Col xss i row) (hne : is ≠ []) (hsz : row.length ≤ sizeLine)
    (hQ : ∀ h', Zst k h' z TI TO is as (i + 1) → IsTup h' s.heap.objs.size row → (∀ c o, c ≠ z → c ≠ TO → c ∉ is → s.heap.get? c = some o → h'.get? c = some o) → Q (some (.ref s.heap.objs.size)) { s with heap := h' }) :
    wpAny (model pr w) A (pyNext (.ref z)) Q E s := by
  have ty := Z.ty
  have lz := Z.lz
  obtain ⟨zp, hTI, ⟨os, hTO, lo⟩, hit⟩ := Z
  have lT : TO < s.heap.objs.size := Heap.lt_size hTO
  have nis : s.heap.objs.size ∉ is := fun m => by
    obtain ⟨j, hj, e⟩ := List.mem_iff_getElem.mp m
    have := itr_lt (hit j is[j] (as[j]'(by omega)) (Nat.zero_le _) hj (List.getElem?_eq_getElem hj) (List.getElem?_eq_getElem (by omega)))
    rw [e] at this
    exact Nat.lt_irrefl _ this
  unfold pyNext
  rcases zp with ⟨_, hz⟩ | ⟨T, f, o, hz, hT, t1, t2, t3⟩
  · exact wpAny_bind (wpAny_attempt (wpAny_callSpecial?_slot (name := Str.ofString "__next__") ty F.slot_zip_next
      (wpAny_call_entry F.slot_zip_next ty F.entry_zip_next
        (next_owned D hz hTI hTO lo hit hsq la lx col hne hsz fun h' a1 a2 a3 a4 a5 a6 => wpAny_pure (hQ h' ⟨.inr ⟨_, false, _, a1, a4, Nat.ne_of_gt lz, Nat.ne_of_gt lT, nis⟩, a6 _ _ D.TIz D.TITO D.TIi hTI, ⟨_, a2, by rw [col.len]; exact lx⟩, a3⟩ a4 a6)) (F.args_zip_next_1 _))))
  · exact wpAny_bind (wpAny_attempt (wpAny_callSpecial?_slot (name := Str.ofString "__next__") ty F.slot_zip_next
      (wpAny_call_entry F.slot_zip_next ty F.entry_zip_next
        (next_held D hz hT hTI hit hsq la lx col hne hsz fun h' a1 a3 a4 a5 a6 => wpAny_pure (hQ h' ⟨.inr ⟨T, true, o, a1, a6 _ _ t1 t3 hT, t1, t2, t3⟩, a6 _ _ D.TIz D.TIi hTI, ⟨os, a6 _ _ D.TOz D.TOi hTO, lo⟩, a3⟩ a4 fun c o c1 _ c3 e => a6 c o c1 c3 e)) (F.args_zip_next_1 _))))
theorem last_ {k : Kd} {z TI TO : Addr} {is as : List Addr} {xss : List (List Value)} {i : Nat} {Q : Option Value → Shared → Prop} (hh : A.handled = none) (D : Apart z TI TO is as) (Z : Zst k s.heap z TI TO is as i) (hsq : Sqs k s.heap as xss) (la : as.length = is.length) (lx : xss.length = is.length) (hne : is ≠ []) (hend : ∀ xs ∈ xss, xs.length ≤ i)
    (hQ : ∀ h', (∀ c o, c ≠ z → c ∉ is → s.heap.get? c = some o → h'.get? c = some o) → Q none { s with heap := h' }) : wpAny (model pr w) A (pyNext (.ref z)) Q E s := by
  have ty := Z.ty
  obtain ⟨zp, hTI, _, hit⟩ := Z
  unfold pyNext
  refine wpAny_bind (wpAny_attempt (wpAny_callSpecial?_slot (name := Str.ofString "__next__") ty F.slot_zip_next (wpAny_call_entry F.slot_zip_next ty F.entry_zip_next ?_ (F.args_zip_next_1 _))))
  rcases zp with ⟨_, hz⟩ | ⟨T, f, o, hz, hT, t1, t2, t3⟩
  · refine end_owned hh D hz hTI hit hsq la lx hne hend fun h' e hk he => ?_
    obtain ⟨o, ho, hc⟩ := he
    refine wpAny_bind (wpAny_isInstance (T := "StopIteration") (b := true) ⟨o, ho, hc⟩ isSubtype_stop ?_)
    exact wpAny_pure (hQ _ hk)
  · refine end_held hh D hz hT hTI hit hsq la lx hne hend fun h' e hk he => ?_
    obtain ⟨o, ho, hc⟩ := he
    refine wpAny_bind (wpAny_isInstance (T := "StopIteration") (b := true) ⟨o, ho, hc⟩ isSubtype_stop ?_)
    exact wpAny_pure (hQ _ hk)
end
/-! ### list(zip(*xs)) -/
section
variable {M : Model} {A : Around} {E : Value → Shared → Prop} {s : Shared} {env : Env} {pos p : Pos} {Q : Value → Shared → Prop} {e : Expr}
theorem callWith_SType {T : String} (h : wpAny M A (eval e env) (fun v s₁ => PySem.W.StarOf M A E v (fun vs s₂ => wpAny M A (call (.type T) vs) Q E s₂) s₁) E s)
    (he : starEach [.Starred e p] env = [(true, eval e env)] := by rfl) : wpAny M A (callWith pos (.type T) [] (backTo pos (starEach [.Starred e p] env)) []) Q E s := by
  rw [he]
  refine PySem.W.ks_call (P := fun _ => True) rfl (fun h _ => ⟨.machine, .inr (.inl rfl), PySem.W.Looks.of_pure rfl⟩) (PySem.W.ks_lone ?_)
  have e2 : (fun vs s₂ => True ∧ wpAny M A (call (Value.type T) ([] ++ (⟨vs, []⟩ : Args).pos) (⟨vs, []⟩ : Args).kw) Q E s₂) = fun vs s₂ => wpAny M A (call (.type T) vs) Q E s₂ := by
    funext vs s₂
    exact propext ⟨fun h => h.2, fun h => ⟨trivial, h⟩⟩
  rw [e2]
  exact h
end
/-- the i-th items, as values told -/
def colV (xss : List (List V)) (i : Nat) : List V := xss.map fun xs => xs.getD i .non
/-- what stands behind list(zip(*xs)): new tuples, a new list of them -/
structure Zipped (H0 H : Hp) (S : Addr) (ts : List Addr) (xss : List (List V)) (m : Nat) : Prop where
  same : Same H0 H
  new : H0 S = none
  lst : H S = some (.lst (ts.map V.ref))
  len : ts.length = m
  get : ∀ (j : Nat) (t : Addr), ts[j]? = some t → H t = some (.tup (colV xss j))
def SqsV (k : Kd) (K : PySem.W.Frag) (H : Hp) (as : List Addr) (xss : List (List V)) : Prop := ∀ (j : Nat) (a : Addr) (xs : List V), as[j]? = some a → xss[j]? = some xs → Sq k K H a xs
theorem SqsV.tail {k : Kd} {K : PySem.W.Frag} {H : Hp} {a : Addr} {as : List Addr} {xs : List V} {xss : List (List V)} (h : SqsV k K H (a :: as) (xs :: xss)) : SqsV k K H as xss := fun j b ys e1 e2 => h (j + 1) b ys e1 e2
theorem sq_same {k : Kd} {K : PySem.W.Frag} {H H' : Hp} {a : Addr} {xs : List V} (s : Same H H') (q : Sq k K H a xs) : Sq k K H' a xs := by
  cases k with
  | l => exact s.seq q
  | t =>
    rcases q with q | q
    · rcases q with q | ⟨o, q⟩
      · exact .inl (.inl (s _ _ q))
      · exact .inl (.inr ⟨o, s _ _ q⟩)
    · exact .inr q
section
variable {X : Cx} {A : Around} {pn : List (Addr × Obj)} {σ : L2.St} {R : Result → Shared → Prop} {H H0 : Hp} {s : Shared}
theorem vals_all {k : Kd} (I : L2.Inv X pn σ H s) : ∀ {as : List Addr} {xss : List (List V)}, xss.length = as.length → SqsV k X.K H as xss → ∃ uss : List (List Value), uss.length = xss.length ∧ (∀ (j : Nat) (xs : List V), xss[j]? = some xs → ∃ us, uss[j]? = some us ∧ Vals xs us) ∧ Sqs k s.heap as uss ∧ ∀ a ∈ as, a < s.heap.objs.size
  | [], [], _, _ => ⟨[], rfl, fun j xs e => by simp at e, fun j a xs e => by simp at e, fun a ha => by cases ha⟩
  | [], _ :: _, e, _ => by simp at e
  | _ :: _, [], e, _ => by simp at e
  | a :: as, xs :: xss, e, q => by
    obtain ⟨us, r, sq, lt⟩ := at_ I (q 0 a xs rfl rfl)
    obtain ⟨uss, l1, l2, l3, l4⟩ := vals_all I (as := as) (xss := xss) (by simpa using e) q.tail
    refine ⟨us :: uss, by rw [List.length_cons, List.length_cons, l1], fun j ys ey => ?_, fun j b ys e1 e2 => ?_, fun b hb => ?_⟩
    · cases j with
      | zero => cases ey; exact ⟨us, rfl, r⟩
      | succ j => exact l2 j ys ey
    · cases j with
      | zero => cases e1; cases e2; exact sq
      | succ j => exact l3 j b ys e1 e2
    · rcases List.mem_cons.mp hb with rfl | hb
      · exact lt
      · exact l4 b hb
theorem col_of : ∀ {xss : List (List V)} {uss : List (List Value)} {m i : Nat}, uss.length = xss.length → (∀ (j : Nat) (xs : List V), xss[j]? = some xs → ∃ us, uss[j]? = some us ∧ Vals xs us) → (∀ xs ∈ xss, xs.length = m) → i < m → ∃ row, Col uss i row ∧ Vals (colV xss i) row
  | [], [], _, _, _, _, _, _ => ⟨[], ⟨rfl, fun e => by simp at e⟩, .nil⟩
  | [], _ :: _, _, _, e, _, _, _ => by simp at e
  | _ :: _, [], _, _, e, _, _, _ => by simp at e
  | xs :: xss, us :: uss, m, i, e, h, hm, hi => by
    obtain ⟨us', e1, r⟩ := h 0 xs rfl
    cases e1
    obtain ⟨row, c, v⟩ := col_of (xss := xss) (uss := uss) (m := m) (i := i) (by simpa using e) (fun j ys ey => h (j + 1) ys ey) (fun ys hy => hm ys (List.mem_cons_of_mem _ hy)) hi
    have hl := hm xs (by simp)
    have hx : xs[i]? = some (xs[i]'(by omega)) := List.getElem?_eq_getElem (by omega)
    obtain ⟨u, eu, ru⟩ := r.get hx
    have ed : xs.getD i V.non = xs[i]'(by omega) := by rw [List.getD_eq_getElem?_getD, hx]; rfl
    refine ⟨u :: row, ⟨by rw [List.length_cons, List.length_cons, c.len], fun {j ys} ej => ?_⟩, ?_⟩
    · cases j with
      | zero => cases ej; exact ⟨u, eu, rfl⟩
      | succ j => exact c.get (j := j) ej
    · show Vals (xs.getD i V.non :: colV xss i) (u :: row)
      rw [ed]
      exact .cons ru v
variable {z TI TO S : Addr} {is as : List Addr} {xss : List (List V)} {m : Nat} {k : Kd}
theorem loop (hh : A.in1.handled = none) (D : Apart z TI TO is as) (res : Value) (la : as.length = is.length) (lx : xss.length = as.length) (hm : ∀ xs ∈ xss, xs.length = m) (hn : m < sizeLine) (ha : as.length ≤ sizeLine) (hne : is ≠ []) (qs : SqsV k X.K H0 as xss) (h0S : H0 S = none) (nS : S ≠ z ∧ S ≠ TI ∧ S ≠ TO ∧ S ∉ is) :
    ∀ (n i : Nat) (s : Shared) (H : Hp) (ts : List Addr), m - i = n → i ≤ m → L2.Inv X pn σ H s → (∀ c ∈ z :: TI :: TO :: is, FpOk X pn H c) → Zst k s.heap z TI TO is as i →
      Same H0 H → H S = some (.lst (ts.map V.ref)) → ts.length = i → (∀ (j : Nat) (t : Addr), ts[j]? = some t → H t = some (.tup (colV xss j))) →
      (∀ (s' : Shared) (H' : Hp) (ts' : List Addr), L2.Inv X pn σ H' s' → Zipped H0 H' S ts' xss m → R (.ok (.ret res)) s') →
      codeAny (model X.prog X.w) A (.builtin "list.extend.loop" ⟨[.ref S, .ref z, res], []⟩) R s := by
  intro n
  induction n with
  | zero =>
    intro i s H ts hk hi I hf Z sm hS ht hg fin
    have e : i = m := by omega
    obtain ⟨uss, l1, l2, l3, l4⟩ := vals_all I lx (fun j a xs e1 e2 => sq_same sm (qs j a xs e1 e2))
    refine codeAny_builtin F.entry_extend_loop ?_
    rw [Around.under_plainId F.plain_extend_loop _]
    show wpAny _ A.in1 (pyNext (.ref z) >>= _) _ _ s
    refine wpAny_bind (last_ hh D Z l3 la (by omega) hne (fun us hu => ?_) fun h' kp => ?_)
    · obtain ⟨j, hj, ej⟩ := List.mem_iff_getElem.mp hu
      obtain ⟨us', e1, r⟩ := l2 j _ (List.getElem?_eq_getElem (by omega))
      rw [List.getElem?_eq_getElem hj, ej] at e1
      cases e1
      have := hm _ (List.getElem_mem (l := xss) (n := j) (by omega))
      have := r.length
      omega
    · refine wpAny_pure (fin _ H ts (I.turnedL (t' := s.toks) (ch := z :: TI :: TO :: is) (fun c o n q => kp c o (fun e => n (by rw [e]; simp)) (fun e => n (by simp [e])) q) hf) ⟨sm, h0S, hS, by omega, hg⟩)
  | succ n ih =>
    intro i s H ts hk hi I hf Z sm hS ht hg fin
    have hlt : i < m := by omega
    obtain ⟨uss, l1, l2, l3, l4⟩ := vals_all I lx (fun j a xs e1 e2 => sq_same sm (qs j a xs e1 e2))
    obtain ⟨row, col, rv⟩ := col_of l1 l2 hm hlt
    have rl := col.len
    refine codeAny_builtin F.entry_extend_loop ?_
    rw [Around.under_plainId F.plain_extend_loop _]
    show wpAny _ A.in1 (pyNext (.ref z) >>= _) _ _ s
    refine wpAny_bind (next_ D Z l3 la (by omega) col hne (by omega) fun h' Z' hT kp => ?_)
    have cl : (colV xss i).length = xss.length := by unfold colV; rw [List.length_map]
    have new : ObjOk X.prog X.w (upd H s.heap.objs.size (.tup (colV xss i))) h' s.heap.objs.size (.tup (colV xss i)) := ⟨by omega, row, rv, ⟨_, hT, rfl, _, rfl⟩⟩
    have I1 := I.turnedNew (t' := s.toks) (ch := z :: TI :: TO :: is) (fun c o n q => kp c o (fun e => n (by rw [e]; simp)) (fun e => n (by rw [e]; simp)) (fun e => n (by simp [e])) q) hf (Nat.le_refl _) new
    have hT0 : H s.heap.objs.size = none := I.hok.fresh (Nat.le_refl _)
    have neS : S ≠ s.heap.objs.size := ne_of_none hS hT0
    have hS1 : upd H s.heap.objs.size (.tup (colV xss i)) S = some (.lst (ts.map V.ref)) := by
      rw [upd_ne neS]
      exact hS
    obtain ⟨_, its, n', ri, eS⟩ := I1.hok S _ hS1
    have il := ri.length
    rw [List.length_map] at il
    show wpAny _ A.in1 (updateSeq S (·.push (.ref s.heap.objs.size)) >>= _) _ _ _
    refine wpAny_bind (wpAny_updateSeq eS rfl (wpAny_pure ?_) (by rw [List.size_toArray]; omega) (by show (its.toArray.push _).size ≤ _; rw [Array.size_push, List.size_toArray]; omega))
    have oth : ∀ c o, c ≠ S → h'.get? c = some o → (h'.update S (Obj.mapSeq (·.push (.ref s.heap.objs.size)))).get? c = some o := fun c o n e => (Heap.get?_update_other _ _ (Ne.symm n)).trans e
    have eS2 := Heap.get?_update_self (Obj.mapSeq (·.push (Value.ref s.heap.objs.size))) eS rfl
    have I2 := I1.write (x := S) (e := S) (o := .lst ((ts ++ [s.heap.objs.size]).map V.ref)) (t' := s.toks) (by rw [hS1]; trivial) (.inl rfl) (fun c o n e => oth c o n e) ⟨_, eS2⟩ ⟨by rw [List.length_map, List.length_append, List.length_singleton]; omega, its ++ [.ref s.heap.objs.size], n' + 1, by rw [List.map_append]; exact ri.append (.cons rfl .nil), by rw [eS2]; simp [Obj.mapSeq]⟩
    have lti : ∀ c ∈ is, c < s.heap.objs.size := fun c hc => by
      obtain ⟨j, hj, e⟩ := List.mem_iff_getElem.mp hc
      have := itr_lt (Z.it j is[j] (as[j]'(by omega)) (Nat.zero_le _) hj (List.getElem?_eq_getElem hj) (List.getElem?_eq_getElem (by omega)))
      rwa [e] at this
    refine ⟨plainId_quiet F.plain_extend_loop _, ih (i + 1) _ _ (ts ++ [s.heap.objs.size]) (by omega) (by omega) I2 (fun c hc => ?_) ?_ ?_ upd_same (by rw [List.length_append, ht]; rfl) ?_ fin⟩
    · have f := hf c hc
      have q : c = z ∨ c = TI ∨ c = TO ∨ c ∈ is := by simpa using hc
      have lt : c ≠ s.heap.objs.size := by
        rcases q with q | q | q | q
        · rw [q]; exact Nat.ne_of_lt Z.lz
        · rw [q]; exact Nat.ne_of_lt (Heap.lt_size Z.ti)
        · rw [q]; obtain ⟨_, e, _⟩ := Z.to; exact Nat.ne_of_lt (Heap.lt_size e)
        · exact Nat.ne_of_lt (lti c q)
      have nc : c ≠ S := by
        rcases q with q | q | q | q
        · rw [q]; exact nS.1.symm
        · rw [q]; exact nS.2.1.symm
        · rw [q]; exact nS.2.2.1.symm
        · exact fun e => nS.2.2.2 (by rw [← e]; exact q)
      refine ⟨?_, f.2⟩
      rw [upd_ne nc, upd_ne lt]
      exact f.1
    · obtain ⟨zp, t1, ⟨os, t2, t3⟩, t4⟩ := Z'
      refine ⟨?_, oth _ _ nS.2.1.symm t1, ⟨os, oth _ _ nS.2.2.1.symm t2, t3⟩, fun j it a l1 l2 e1 e2 => itr_keep (t4 j it a l1 l2 e1 e2) fun o e => oth _ o (fun q => nS.2.2.2 (by rw [← q]; exact List.mem_of_getElem? e1)) e⟩
      rcases zp with ⟨q, _⟩ | ⟨T, f, o, q1, q2, q3⟩
      · omega
      · by_cases eT : T = S
        · exact .inr ⟨T, f, _, oth _ _ nS.1.symm q1, by rw [eT]; exact eS2, q3⟩
        · exact .inr ⟨T, f, o, oth _ _ nS.1.symm q1, oth _ _ eT q2, q3⟩
    · intro c o e
      rw [upd_ne (ne_of_none e h0S), upd_ne (ne_of_none (sm _ _ e) hT0)]
      exact sm _ _ e
    · intro j t hj
      by_cases hji : j < ts.length
      · rw [List.getElem?_append_left hji] at hj
        have q := hg j t hj
        rw [upd_ne (ne_of q hS (by intro z; cases z)), upd_ne (ne_of_none q hT0)]
        exact q
      · have ej : j = i := by
          have := (List.getElem?_eq_some_iff.mp hj).1
          rw [List.length_append, List.length_singleton] at this
          omega
        subst ej
        rw [List.getElem?_append_right (by omega), ht, Nat.sub_self] at hj
        cases hj
        rw [upd_ne neS.symm]
        exact upd_same
def tLZn (K : PySem.W.Frag) (te : TE) : TE := fun σ H Q => te σ H fun x H1 => ∃ (p : Addr) (as : List Addr) (k : Kd) (xss : List (List V)) (m : Nat), x = .ref p ∧ (SqT K H1 p (as.map V.ref) ∨ SqL K H1 p (as.map V.ref)) ∧ as ≠ [] ∧ SqsV k K H1 as xss ∧ xss.length = as.length ∧ (∀ xs ∈ xss, xs.length = m) ∧ m < sizeLine ∧ as.length ≤ sizeLine ∧ ∀ S ts H', Zipped H1 H' S ts xss m → Q (.ref S) H'
theorem vals_refs : ∀ {as : List Addr} {us : List Value}, Vals (as.map V.ref) us → us = as.map Value.ref
  | [], _, .nil => rfl
  | a :: as, _, .cons r rr => by
    cases r
    rw [vals_refs rr]
    rfl
theorem mem_isF {n0 n c : Nat} (h : c ∈ isF n0 n) : n0 ≤ c ∧ c < n0 + n := by
  obtain ⟨j, hj, rfl⟩ := List.mem_map.mp h
  have := List.mem_range.mp hj
  omega
theorem nd_isF {n0 n : Nat} : (isF n0 n).Nodup := by
  unfold isF
  rw [List.nodup_iff_pairwise_ne, List.pairwise_map]
  exact (List.nodup_range (n := n)).imp fun {a b} h e => h (Nat.add_left_cancel e)
theorem pe_LZn {e : Expr} {te : TE} {p p2 pos pos2 sp : Pos} (hc : X.calm = true) (hg : Gl X "list") (hm : X.mg "list" = none) (hg2 : Gl X "zip") (hm2 : X.mg "zip" = none) (he : PE X e te)
    (hs : starEach [.Starred e sp] X.env = [(true, eval e X.env)] := by rfl)
    (hs2 : starEach [.Call (.Name "zip" p2) [.Starred e sp] [] pos2] X.env = (false, eval (.Call (.Name "zip" p2) [.Starred e sp] [] pos2) X.env) :: starEach [] X.env := by rfl) :
    PE X (.Call (.Name "list" p) [.Call (.Name "zip" p2) [.Starred e sp] [] pos2] [] pos) (tLZn X.K te) := by
  refine ⟨fun pn s σ H Q I h => ?_⟩
  refine Call_ (ld_blt I hg hm boot_list (PyProof.Rows.callWith_type1 (args_cons (Call_ (ld_blt I hg2 hm2 boot_zip (callWith_SType (thn (he.run pn s σ H _ I h) fun v s0 ⟨x, H1, I0, rx, q1⟩ => ?_) hs))) hs2) hs2 rfl))
  obtain ⟨pp, as, k, xss, m, ex, hp, hne, qs, lx, hm', hn, ha, q⟩ := q1
  subst ex
  obtain rfl : v = Value.ref pp := rx
  refine StX.star_any I0 hp fun us s1 I1 rv => ?_
  obtain rfl := vals_refs rv
  obtain ⟨uss, l1, l2, l3, l4⟩ := vals_all I1 lx qs
  refine call_zip_n k l3 (by omega) ha fun h' hz hTI hTO hit kp hsz => args_nil ?_
  have I2 : L2.Inv X pn σ H1 { s1 with heap := h' } := I1.kept (t' := s1.toks) kp
  have D : Apart (s1.heap.objs.size + as.length + 2) (s1.heap.objs.size + as.length) (s1.heap.objs.size + as.length + 1) (isF s1.heap.objs.size as.length) as := by
    refine ⟨nd_isF, fun m => ?_, fun m => ?_, fun m => ?_, Nat.ne_of_lt (Nat.lt_add_of_pos_right (by decide)), Nat.ne_of_lt (Nat.lt_succ_self _), Nat.ne_of_lt (Nat.lt_succ_self _), fun a ha m => ?_, fun a ha => Nat.ne_of_lt ?_, fun a ha => Nat.ne_of_lt ?_⟩
    · have := (mem_isF m).2
      omega
    · have := (mem_isF m).2
      omega
    · have := (mem_isF m).2
      omega
    · exact Nat.lt_irrefl _ (Nat.lt_of_lt_of_le (l4 a ha) (mem_isF m).1)
    · exact Nat.lt_of_lt_of_le (l4 a ha) (by omega)
    · exact Nat.lt_of_lt_of_le (l4 a ha) (by omega)
  have hh : X.A.in1.in1.handled = none := I1.ok.hd hc
  have hni : isF s1.heap.objs.size as.length ≠ [] := fun e => hne (by
    have := congrArg List.length e
    rw [isF_len] at this
    exact List.eq_nil_of_length_eq_zero this)
  have lis : as.length = (isF s1.heap.objs.size as.length).length := isF_len.symm
  have fp : ∀ c ∈ (s1.heap.objs.size + as.length + 2) :: (s1.heap.objs.size + as.length) :: (s1.heap.objs.size + as.length + 1) :: isF s1.heap.objs.size as.length, FpOk X pn H1 c := fun c hcm => by
    have le : s1.heap.objs.size ≤ c := by
      have e' : c = s1.heap.objs.size + as.length + 2 ∨ c = s1.heap.objs.size + as.length ∨ c = s1.heap.objs.size + as.length + 1 ∨ c ∈ isF s1.heap.objs.size as.length := by simpa using hcm
      rcases e' with q | q | q | q
      · rw [q]
        exact Nat.le_trans (Nat.le_add_right _ _) (Nat.le_add_right _ _)
      · rw [q]
        exact Nat.le_add_right _ _
      · rw [q]
        exact Nat.le_trans (Nat.le_add_right _ _) (Nat.le_add_right _ _)
      · exact (mem_isF q).1
    exact I1.fpOk le (I1.hok.fresh le)
  have lto : (List.replicate as.length Value.none).length = (isF s1.heap.objs.size as.length).length := by rw [List.length_replicate, isF_len]
  have lti : ∀ c ∈ isF s1.heap.objs.size as.length, c < h'.objs.size := fun c hc => by
    refine Nat.lt_of_lt_of_le (mem_isF hc).2 ?_
    rw [hsz]
    exact Nat.le_add_right _ _
  have hit2 : Its k h' (isF s1.heap.objs.size as.length) as 0 (isF s1.heap.objs.size as.length).length 0 := by
    rw [isF_len]
    exact hit
  clear hit
  generalize s1.heap.objs.size + as.length + 2 = z at *
  generalize s1.heap.objs.size + as.length + 1 = TO at *
  generalize s1.heap.objs.size + as.length = TI at *
  generalize isF s1.heap.objs.size as.length = is at *
  have Z0 : Zst k h' z TI TO is as 0 := ⟨.inl ⟨rfl, hz⟩, hTI, ⟨_, hTO, lto⟩, hit2⟩
  refine callType_codes (Q₁ := fun obj t => obj = .ref h'.objs.size ∧ t = { s1 with heap := h'.push { cls := .type "list", data := .seq #[] } }) F.called_list (F.typeCall_list_1 _) F.entry_list_init (code_list_new _ ⟨rfl, rfl⟩) fun obj t ht => ?_
  obtain ⟨rfl, rfl⟩ := ht
  have eS : (h'.push { cls := .type "list", data := .seq #[] }).get? h'.objs.size = some { cls := .type "list", data := .seq #[] } := Heap.get?_push_size _ rfl
  have up : ∀ c o, h'.get? c = some o → (h'.push { cls := .type "list", data := .seq #[] }).get? c = some o := fun c o e => Heap.get?_push_of_some _ e
  refine ⟨⟨_, eS, rfl⟩, F.args_list_init_2 _ _, ?_⟩
  generalize h'.push { cls := .type "list", data := .seq #[] } = g at eS up ⊢
  have nS : h'.objs.size ≠ z ∧ h'.objs.size ≠ TI ∧ h'.objs.size ≠ TO ∧ h'.objs.size ∉ is := ⟨Nat.ne_of_gt Z0.lz, Nat.ne_of_gt (Heap.lt_size hTI), Nat.ne_of_gt (Heap.lt_size hTO), fun m => Nat.lt_irrefl _ (lti _ m)⟩
  have h0S : H1 h'.objs.size = none := I2.hok.fresh (Nat.le_refl _)
  generalize eN : h'.objs.size = S at eS nS h0S ⊢
  show wpAny _ _ (do let old ← Builtin.List.listItems (.ref S); Builtin.List.listUpdate (.ref S) (fun _ => #[]); letGo old.toList.reverse; Builtin.List.listExtendWith (.ref S) (.ref z) .none) _ _ _
  unfold Builtin.List.listItems
  refine wpAny_bind (wpAny_bind (wpAny_seqItems eS rfl (wpAny_pure ?_)))
  show wpAny _ _ (updateSeq S (fun _ => #[]) >>= fun _ => letGo (#[] : Array Value).toList.reverse >>= fun _ => Builtin.List.listExtendWith (.ref S) (.ref z) .none) _ _ _
  refine wpAny_bind (wpAny_updateSeq eS rfl ?_)
  have eS2 := Heap.get?_update_self (Obj.mapSeq (fun _ => (#[] : Array Value))) eS rfl
  have o2 : ∀ c o, c ≠ S → g.get? c = some o → (g.update S (Obj.mapSeq (fun _ => (#[] : Array Value)))).get? c = some o := fun c o n e => (Heap.get?_update_other _ _ (Ne.symm n)).trans e
  refine wpAny_bind (wpAny_letGo ?_)
  generalize g.update S (Obj.mapSeq (fun _ => (#[] : Array Value))) = g2 at eS2 o2 ⊢
  have hz2 : IsZip g2 z TI TO .none := o2 _ _ nS.1.symm (up _ _ hz)
  have ty2 : Shared.TypeIs { s1 with heap := g2 } (.ref z) "zip" := ⟨_, hz2, rfl⟩
  unfold Builtin.List.listExtendWith
  refine wpAny_bind (wpAny_typeOf ty2 ?_)
  have c1 : Builtin.List.listSameRef (.ref S) (.ref z) = false := by simp [Builtin.List.listSameRef, nS.1]
  have c2 : (Value.type "zip" == Value.type "list") = false := by decide
  have c3 : (Value.type "zip" == Value.type "tuple") = false := by decide
  simp only [c1, c2, c3, Bool.or_false, Bool.false_eq_true, if_false]
  refine wpAny_bind (wpAny_pyIter_zip hz2 ?_)
  refine wpAny_bind (wpAny_holding ?_)
  unfold Builtin.List.listLengthHint
  refine wpAny_bind (wpAny_specialOf ty2 Lz.zip_no_len ?_)
  show wpAny _ _ (specialOf (Value.ref z) (Str.ofString "__length_hint__") >>= _) _ _ _
  refine wpAny_bind (wpAny_specialOf ty2 Lz.zip_no_hint (wpAny_pure ?_))
  show wpAny _ _ (rule "list.extend.makes-room" >>= fun _ => Builtin.List.listTouch (.ref S) >>= fun _ => again (.builtin "list.extend.loop" ⟨[.ref S, .ref z, .none], []⟩)) _ _ _
  refine wpAny_bind (wpAny_rule (wpAny_bind ?_))
  show wpAny _ _ (updateSeq S (·.push .none) >>= fun _ => updateSeq S (·.pop)) _ _ _
  refine wpAny_bind (wpAny_updateSeq eS2 rfl ?_)
  have eS3 := Heap.get?_update_self (Obj.mapSeq (·.push Value.none)) eS2 rfl
  refine wpAny_updateSeq (hz := by seq_fits) eS3 rfl ?_
  have eS4 := Heap.get?_update_self (Obj.mapSeq (·.pop)) eS3 rfl
  have o4 : ∀ c o, c ≠ S → g2.get? c = some o → ((g2.update S (Obj.mapSeq (·.push Value.none))).update S (Obj.mapSeq (·.pop))).get? c = some o := fun c o n e => (Heap.get?_update_other _ _ (Ne.symm n)).trans ((Heap.get?_update_other _ _ (Ne.symm n)).trans e)
  refine wpAny_pure ⟨plainId_quiet F.plain_extend_loop _, ?_⟩
  generalize (g2.update S (Obj.mapSeq (·.push Value.none))).update S (Obj.mapSeq (·.pop)) = g4 at eS4 o4 ⊢
  have kp4 : ∀ c o, h'.get? c = some o → g4.get? c = some o := fun c o e => by
    have n : c ≠ S := by
      rw [← eN]
      exact Nat.ne_of_lt (Heap.lt_size e)
    exact o4 c o n (o2 c o n (up c o e))
  have I4 := I2.laid (t' := s1.toks) (o := .lst (([] : List Addr).map V.ref)) kp4 (Nat.le_of_eq eN) ⟨by simp, [], _, .nil, eS4⟩
  refine loop hh D .none lis lx hm' hn ha hni qs h0S nS m 0 _ _ [] (by omega) (Nat.zero_le _) I4 (fun c hcm => ?_) ⟨.inl ⟨rfl, kp4 _ _ hz⟩, kp4 _ _ hTI, ⟨_, kp4 _ _ hTO, lto⟩, fun j it a l1 l2 e1 e2 => itr_keep (Z0.it j it a l1 l2 e1 e2) fun o e => kp4 _ _ e⟩ (fun c o e => by rw [upd_ne (ne_of_none e h0S)]; exact e) upd_same rfl (fun j t hj => by simp at hj) ?_
  · have f := fp c hcm
    refine ⟨?_, f.2⟩
    have n : c ≠ S := by
      have e' : c = z ∨ c = TI ∨ c = TO ∨ c ∈ is := by simpa using hcm
      rcases e' with q | q | q | q
      · rw [q]; exact nS.1.symm
      · rw [q]; exact nS.2.1.symm
      · rw [q]; exact nS.2.2.1.symm
      · exact fun e => nS.2.2.2 (by rw [← e]; exact q)
    rw [upd_ne n]
    exact f.1
  · intro s' H' ts' I' Z'
    exact ⟨rfl, ⟨.ref S, H', I', rfl, q S ts' H' Z'⟩⟩
end
end Zn
set_option linter.all false
/-! enumerate(x), x a list or a tuple -/
namespace En
open PySem PySem.Spec PyProof.Rows L2 Zm
set_option maxHeartbeats 1000000 in
theorem meets_new {v : Value} {o : Obj} {H : Heap → Prop} (B : Begins v o H) :
    Meets (Builtin.«enumerate.__new__» ⟨[.type "enumerate", v], []⟩) (fun _ R s => H s.heap ∧
      R (.ok (.ret (.ref (s.heap.push o).objs.size))) { s with heap := (s.heap.push o).push { cls := .type "enumerate", data := .fields #[.none, .bool false, .ref s.heap.objs.size, rawInt 0, .none, .none] } }) :=
  .of_wp fun prog w A R s h => by
    obtain ⟨hp, g, d, tk, os⟩ := s; obtain ⟨h1, h⟩ := h
    have hsub := sub_enumerate
    have q1 : ∀ {A' : Around} {E : Value → Shared → Prop} {Q : Value → Shared → Prop}, Q (.ref hp.objs.size) ⟨hp.push o, g, d, tk, os⟩ → wpAny (model prog w) A' (pyIter v) Q E ⟨hp, g, d, tk, os⟩ :=
      fun q => B.iter prog w _ _ ⟨hp, g, d, tk, os⟩ _ h1 q
    wp_walk using q1
    refine wpAny_stack_any fun st => wpAny_pure ?_
    split
    · rename_i c _ _ _ _ _
      cases (c == Value.type "enumerate")
      · wp_walk using q1
        exact ⟨_, rfl, h⟩
      · wp_walk using q1
        exact ⟨_, rfl, h⟩
    · wp_walk using q1
      exact ⟨_, rfl, h⟩
section
variable {prog : Program} {w : World} {A : Around} {E : Value → Shared → Prop} {s : Shared}
theorem begins {v : Value} {o : Obj} {H : Heap → Prop} {Q : Value → Shared → Prop} (B : Begins v o H) (h1 : H s.heap)
    (h : ∀ h', IsEnum h' (s.heap.objs.size + 1) s.heap.objs.size 0 .none → h'.get? s.heap.objs.size = some o → h'.objs.size = s.heap.objs.size + 2 →
      (∀ b o, s.heap.get? b = some o → h'.get? b = some o) → Q (.ref (s.heap.objs.size + 1)) { s with heap := h' }) :
    wpAny (model prog w) A (call (.type "enumerate") [v]) Q E s := by
  refine callType_new F.called_enumerate (by decide) (F.typeCall_enumerate_1 _) (F.newCall_enumerate_1 _) (fun obj => F.args_object_init_2 obj _) F.entry_enumerate_new
    (meets_new B) ⟨h1, ?_⟩
  have hz : (s.heap.push o).objs.size = s.heap.objs.size + 1 := Heap.size_push ..
  show _ ∧ _
  rw [hz]
  have he : IsEnum ((s.heap.push o).push { cls := .type "enumerate", data := .fields #[.none, .bool false, .ref s.heap.objs.size, rawInt 0, .none, .none] }) (s.heap.objs.size + 1) s.heap.objs.size 0 .none := by
    have := Heap.get?_push_size (s.heap.push o) (o := { cls := .type "enumerate", data := .fields #[.none, .bool false, .ref s.heap.objs.size, rawInt 0, .none, .none] }) rfl
    rw [hz] at this; exact this
  refine ⟨⟨_, he, rfl⟩, h _ he (Heap.get?_push_of_some _ (Heap.get?_push_size _ B.free)) (by rw [Heap.size_push, hz]) fun b o x => Heap.get?_push_of_some _ (Heap.get?_push_of_some _ x)⟩
end
def ItE (k : Kd) (K : PySem.W.Frag) (a : Addr) : It where
  go i H := ∃ (xs : List V) (x : V), Sq k K H a xs ∧ xs[i]? = some x
  yld i H v H' := ∃ T x, v = .ref T ∧ H T = none ∧ H' = upd H T (.tup [.int (i : Nat), x]) ∧ ∀ xs, Sq k K H a xs → xs[i]? = some x
  stop i H := ∃ xs : List V, Sq k K H a xs ∧ xs.length = i
theorem trn {P : Program} {w : World} {K : PySem.W.Frag} {k : Kd} {es : List Expr} {kk : Nat} {tp : Pos} {a e it : Addr} (ne : e ≠ it) (na : a ≠ it) (nea : e ≠ a) :
    Turn P w K (.Tuple es kk tp) (ItE k K a) [e, it] e (fun i h => (∃ old, IsEnum h e it (0 + ((i : Nat) : Int)) old) ∧ Itr k h it a i) where
  mem := by simp
  obj := fun i h st c hc => by
    obtain ⟨⟨old, he⟩, h1⟩ := st
    have e' : c = e ∨ c = it := by simpa using hc
    rcases e' with z | z
    · rw [z]; exact ⟨_, he, fun v q => nomatch q⟩
    · rw [z]; exact itr_obj h1
  keep := fun i h h' st kp => by
    obtain ⟨⟨old, he⟩, h1⟩ := st
    exact ⟨⟨old, kp e (by simp) _ he⟩, itr_keep h1 fun o q => kp it (by simp) o q⟩
  item := by
    intro X eP ew eK calm i pn s σ H E I hf st gg
    subst eP ew eK
    obtain ⟨hE, h1⟩ := st
    obtain ⟨xs, x, qx, hx⟩ := gg
    obtain ⟨us, rv, p1, _⟩ := at_ I qx
    have hh : X.A.in1.handled = none := I.ok.hd calm
    have l1 : i < us.toArray.size := by
      have := (List.getElem?_eq_some_iff.mp hx).1
      rw [List.size_toArray, ← rv.length]
      exact this
    refine (GoesN.enumFrom 0 (drw k hh na us.toArray) e ne (by simp [ne, nea]) (by simp)).goes i s (fun u s2 => ∃ x H', Inv X pn σ H' s2 ∧ RelV x u ∧ (ItE k X.K a).yld i H x H' ∧ _ ∧ ∀ c ∈ _, H' c = none) E l1 ⟨hE, h1, p1⟩ fun v h' tk Y st' kp _ => ?_
    obtain ⟨T, t, u, rfl, le, hu, hT⟩ := Y
    obtain ⟨hE', h1', _⟩ := st'
    obtain ⟨w1, e1, r1⟩ := rv.get hx
    have c1 : w1 = u := by
      have z1 : us[i]? = some u := by simpa using hu
      rw [e1] at z1
      exact Option.some.inj z1
    subst c1
    have fresh : H T = none := I.hok.fresh le
    have e0 : (0 : Int) + ((i : Nat) : Int) = ((i : Nat) : Int) := by omega
    rw [e0] at hT
    have new : ObjOk X.prog X.w (upd H T (.tup [.int (i : Nat), x])) h' T (.tup [.int (i : Nat), x]) := ⟨by show 2 ≤ sizeLine; decide, [.int (i : Nat) t, w1], .cons ⟨_, rfl⟩ (.cons r1 .nil), hT⟩
    have I1 := I.turnedNew (t' := tk) (ch := [e, it]) (fun c o n q => kp c o n q) hf le new
    refine ⟨.ref T, _, I1, rfl, ⟨T, x, rfl, fresh, rfl, fun l hl => by rw [inj I hl qx]; exact hx⟩, ⟨hE', h1'⟩, fun c hc => ?_⟩
    have lt : c < s.heap.objs.size := by
      have e' : c = e ∨ c = it := by simpa using hc
      rcases e' with z | z
      · obtain ⟨_, he⟩ := hE
        rw [z]; exact Heap.lt_size he
      · obtain ⟨_, q, _⟩ := itr_obj h1
        rw [z]; exact Heap.lt_size q
    rw [upd_ne (Nat.ne_of_lt (Nat.lt_of_lt_of_le lt le))]
    exact (hf c hc).1
  done := by
    intro X eP ew eK calm i pn s σ H E I hf st gg
    subst eP ew eK
    obtain ⟨hE, h1⟩ := st
    obtain ⟨xs, qx, hx⟩ := gg
    obtain ⟨us, rv, p1, _⟩ := at_ I qx
    have hh : X.A.in1.handled = none := I.ok.hd calm
    have e0 : i = us.toArray.size := by
      have l1 := rv.length
      simp
      omega
    subst e0
    exact (GoesN.enumFrom (elts := es) (x1 := kk) (pos := tp) 0 (drw k hh na us.toArray) e ne (by simp [ne, nea]) (by simp)).stops s (fun s1 => Inv X pn σ H s1) E ⟨hE, h1, p1⟩ fun h' tk kp _ => I.turnedL (t' := tk) (ch := [e, it]) (fun c o n q => kp c o n q) hf
  self := fun A i s Q E st h => let ⟨⟨_, he⟩, _⟩ := st; wpAny_pyIter_enum he h
def iEnumK (K : PySem.W.Frag) (ta : TA) : TI := fun σ H R => ta σ H fun vs H1 => ∃ k a xs, vs = [.ref a] ∧ Sq k K H1 a xs ∧ R (ItE k K a) H1
theorem pi_enumK {X : Cx} {e : Expr} {ta : TA} {p pos tp : Pos} {es : List Expr} {kk : Nat} (hg : Gl X "enumerate") (hm : X.mg "enumerate" = none) (ha : PA X [e] ta) (hs : starEach [e] X.env = [(false, eval e X.env)] := by rfl) :
    PI X (.Tuple es kk tp) (.Call (.Name "enumerate" p) [e] [] pos) (iEnumK X.K ta) := by
  refine ⟨fun pn s σ H R I h => ?_⟩
  refine Call_ (ld_blt I hg hm boot_enumerate (PyProof.Rows.callWith_type1 (thn (ha.run pos pn s σ H _ I h) fun us s1 ⟨vs, H1, I1, r1, q1⟩ => ?_) hs rfl))
  obtain ⟨k, a, xs, ex, qx, q⟩ := q1
  subst ex
  cases r1 with
  | cons r rr =>
    cases rr
    cases r
    obtain ⟨us, rv, p1, la⟩ := at_ I1 qx
    obtain ⟨o1, B1, f1⟩ := bgn k a us.toArray
    refine begins B1 p1 fun h' he g1 hsz kp => wpAny_pyIter_enum he ?_
    have ne1 : a ≠ s1.heap.objs.size := Nat.ne_of_lt la
    have ne2 : s1.heap.objs.size + 1 ≠ a := Nat.ne_of_gt (Nat.lt_succ_of_lt la)
    refine ⟨_, _, _, _, H1, rfl, I1.kept (t' := s1.toks) kp, trn (k := k) (Nat.succ_ne_self _) ne1 ne2, ⟨⟨.none, he⟩, f1 _ _ g1⟩, fun c hc => ?_, q⟩
    have e' : c = s1.heap.objs.size + 1 ∨ c = s1.heap.objs.size := by simpa using hc
    have le : s1.heap.objs.size ≤ c := by
      rcases e' with z | z
      · rw [z]; exact Nat.le_add_right _ _
      · rw [z]; exact Nat.le_refl _
    exact I1.fpOk le (I1.hok.fresh le)
theorem walkE {k : Kd} {K : PySem.W.Frag} {a : Addr} {xs : List V} : Walk (ItE k K a) xs.length (fun H => Sq k K H a xs) (YPair (fun i => some (.int (i : Nat))) (fun i => xs[i]?)) := by
  refine ⟨fun i _ hi q => ⟨xs, xs[i], q, by simp [hi]⟩, fun _ q => ⟨xs, q, rfl⟩, fun i H v H' _ q y => ?_⟩
  obtain ⟨T, x, h1, h2, h3, h4⟩ := y
  exact ⟨T, .int (i : Nat), x, h1, h2, h3, rfl, h4 xs q⟩
/-- a subscript of a list or a tuple -/
def rIxK (K : PySem.W.Frag) : R2 := fun x y H Q => ∃ p k xs i v, x = .ref p ∧ y = .int i ∧ Sq k K H p xs ∧ atI xs i = some v ∧ Q v H
theorem ix_kd {X : Cx} : IxR X (rIxK X.K) := by
  intro value slice pins s σ H x y v u Q I rx ry h hs
  obtain ⟨p, k, xs, i, z, rfl, rfl, hq, he, q⟩ := h
  cases k with
  | l => exact ix_list value slice pins s σ H _ _ v u Q I rx ry ⟨p, xs, i, z, rfl, rfl, hq, he, q⟩ hs
  | t => exact ix_tup value slice pins s σ H _ _ v u Q I rx ry ⟨p, xs, i, z, rfl, rfl, hq, he, q⟩ hs
end En
set_option linter.all false
/-! numbers by which rows make a row: leads of their columns -/
namespace Lin
theorem dot_last : ∀ (n : Nat) (u v : Vc), dot u v (n + 1) = dot u v n + u n * v n
  | 0, u, v => by
    show u 0 * v 0 + 0 = 0 + u 0 * v 0
    omega
  | n + 1, u, v => by
    show u 0 * v 0 + dot (shf u) (shf v) (n + 1) = u 0 * v 0 + dot (shf u) (shf v) n + u (n + 1) * v (n + 1)
    rw [dot_last n (shf u) (shf v)]
    show u 0 * v 0 + (dot (shf u) (shf v) n + u (n + 1) * v (n + 1)) = _
    omega
theorem dot_ext : ∀ (n : Nat) {u v w x : Vc}, (∀ i, i < n → u i = v i) → (∀ i, i < n → w i = x i) → dot u w n = dot v x n
  | 0, _, _, _, _, _, _ => rfl
  | n + 1, u, v, w, x, h, k => by
    show u 0 * w 0 + dot (shf u) (shf w) n = v 0 * x 0 + dot (shf v) (shf x) n
    rw [h 0 (by omega), k 0 (by omega), dot_ext n (u := shf u) (v := shf v) (w := shf w) (x := shf x) (fun i hi => h (i + 1) (by omega)) (fun i hi => k (i + 1) (by omega))]
def col (fs : List (List Int)) (j : Nat) : Vc := fun i => vec (fs.getD i []) j
theorem shf_col {f : List Int} {fs : List (List Int)} {j : Nat} : shf (col (f :: fs) j) = col fs j := by
  funext i
  show vec ((f :: fs).getD (i + 1) []) j = vec (fs.getD i []) j
  simp
theorem lot_coef {p : Int} {fs : List (List Int)} {u : Vc} (h : Lot p (spn fs) u) : ∃ a : Vc, ∀ j, Cg p (u j) (dot a (col fs j) fs.length) := by
  induction h with
  | zero => exact ⟨fun _ => 0, fun j => by rw [dot_zeroL]; exact Cg.rfl'⟩
  | @add u v c _ r ih =>
    obtain ⟨a, ha⟩ := ih
    obtain ⟨f, hf, rfl⟩ := r
    obtain ⟨i, hi, rfl⟩ := List.mem_iff_getElem.mp hf
    refine ⟨fun k => a k + c * un i k, fun j => ?_⟩
    rw [dot_combL, dot_comm _ (un i), dot_un _ i _ hi]
    have e : col fs j i = vec fs[i] j := by
      show vec (fs.getD i []) j = _
      rw [List.getD_eq_getElem?_getD, List.getElem?_eq_getElem hi]
      rfl
    rw [e]
    exact (ha j).add Cg.rfl'
  | eqv _ e ih =>
    obtain ⟨a, ha⟩ := ih
    exact ⟨a, fun j => (e j).symm.trans (ha j)⟩
/-- place j of all of them -/
def colI (gs : List (List Int)) (j : Nat) : List Int := gs.map fun g => g.getD j 0
theorem vec_col {gs : List (List Int)} {j i : Nat} : vec (colI gs j) i = col gs j i := by
  show (gs.map fun g => g.getD j 0).getD i 0 = (gs.getD i []).getD j 0
  rw [List.getD_eq_getElem?_getD, List.getD_eq_getElem?_getD (l := gs), List.getElem?_map]
  cases gs[i]? with
  | none => rfl
  | some g => rfl
theorem col_app {fs : List (List Int)} {f : List Int} {j i : Nat} (h : i < fs.length) : col (fs ++ [f]) j i = col fs j i := by
  show vec ((fs ++ [f]).getD i []) j = vec (fs.getD i []) j
  rw [List.getD_eq_getElem?_getD, List.getD_eq_getElem?_getD, List.getElem?_append_left h]
theorem col_end {fs : List (List Int)} {f : List Int} {j : Nat} : col (fs ++ [f]) j fs.length = vec f j := by
  show vec ((fs ++ [f]).getD fs.length []) j = vec f j
  rw [List.getD_eq_getElem?_getD]
  simp
def cols (fs : List (List Int)) (f : List Int) (n : Nat) : List (List Int) := (List.range n).map (colI (fs ++ [f]))
theorem mem_cols {fs : List (List Int)} {f : List Int} {n : Nat} {v : Vc} (h : spn (cols fs f n) v) : ∃ j, j < n ∧ v = col (fs ++ [f]) j := by
  obtain ⟨g, hg, rfl⟩ := h
  obtain ⟨j, hj, rfl⟩ := List.mem_map.mp hg
  exact ⟨j, List.mem_range.mp hj, funext fun i => vec_col⟩
theorem share_yes {p : Int} {n : Nat} {fs : List (List Int)} {f : List Int} {L : List (Nat × List Int)} (pl : PL p (fs.length + 1) (cols fs f n) L) (nk : fs.length ∉ L.map (·.1)) {ns : Vc} (hv : ∀ i, i < fs.length → ns i = cu (fun x => x.2 fs.length) (vecs L) i) {j : Nat} (hj : j < n) :
    Cg p (vec f j) (dot ns (col fs j) fs.length) := by
  have lt : Lot p (rowsOf (vecs L)) (col (fs ++ [f]) j) := (pl.lot _).mpr (.of ⟨colI (fs ++ [f]) j, List.mem_map.mpr ⟨j, List.mem_range.mpr hj, rfl⟩, funext fun i => vec_col⟩)
  have z := (lot_left pl.leads pl.ndv).mp lt fs.length
  have hp : ∀ x ∈ vecs L, x.1 < fs.length + 1 := fun x hx => by
    obtain ⟨y, hy, rfl⟩ := mem_vecs.mp hx
    exact pl.plc y hy
  have hne : ∀ x ∈ vecs L, x.1 ≠ fs.length := fun x hx e => by
    obtain ⟨y, hy, rfl⟩ := mem_vecs.mp hx
    exact nk (List.mem_map.mpr ⟨y, hy, e⟩)
  have e1 : own (col (fs ++ [f]) j) (vecs L) fs.length = dot ns (col fs j) fs.length := by
    rw [← own_as, ← dot_cu (a := fun x => x.2 fs.length) hp, dot_last, cu_out hne, Int.mul_zero, Int.add_zero, dot_comm]
    exact dot_ext _ (fun i hi => (hv i hi).symm) (fun i hi => col_app hi)
  have z' : Cg p (vec f j - dot ns (col fs j) fs.length) 0 := by
    rw [← e1, ← col_end (fs := fs) (f := f) (j := j)]
    exact z
  have a := z'.add (Cg.rfl' (a := dot ns (col fs j) fs.length))
  rw [Int.sub_add_cancel, Int.zero_add] at a
  exact a
theorem share_no {p : Int} {n : Nat} {fs : List (List Int)} {f : List Int} {L : List (Nat × List Int)} (p1 : 1 < p) (pl : PL p (fs.length + 1) (cols fs f n) L) (k : fs.length ∈ L.map (·.1)) : ¬ Lot p (spn fs) (vec f) := by
  intro h
  obtain ⟨a, ha⟩ := lot_coef h
  obtain ⟨x, hx, ex⟩ := List.mem_map.mp k
  have mx : (x.1, vec x.2) ∈ vecs L := mem_vecs.mpr ⟨x, hx, rfl⟩
  have lx : Lot p (spn (cols fs f n)) (vec x.2) := (pl.lot _).mp (.of ⟨_, mx, rfl⟩)
  have z := dot_lotL (n := fs.length + 1) (v := fun i => if i < fs.length then a i else -1) lx fun v hv => by
    obtain ⟨j, hj, rfl⟩ := mem_cols hv
    rw [dot_last, dot_ext fs.length (u := col (fs ++ [f]) j) (v := col fs j) (w := fun i => if i < fs.length then a i else -1) (x := a) (fun i hi => col_app hi) (fun i hi => by simp [hi]), col_end, dot_comm]
    have b := (ha j).symm.sub (Cg.rfl' (a := vec f j))
    rw [Int.sub_self] at b
    have e : dot a (col fs j) fs.length + vec f j * (if fs.length < fs.length then a fs.length else -1) = dot a (col fs j) fs.length - vec f j := by
      rw [if_neg (by omega)]
      omega
    show Cg p (dot a (col fs j) fs.length + vec f j * (if fs.length < fs.length then a fs.length else -1)) 0
    rw [e]
    exact b
  rw [dot_last] at z
  have e0 : Cg p (dot (vec x.2) (fun i => if i < fs.length then a i else -1) fs.length) 0 := by
    rw [dot_ext fs.length (u := vec x.2) (v := fun i => if i < fs.length then vec x.2 i else 0) (w := fun i => if i < fs.length then a i else -1) (x := a) (fun i hi => by simp [hi]) (fun i hi => by simp [hi])]
    have c := dot_eqv (p := p) fs.length (u := fun i => if i < fs.length then vec x.2 i else 0) (v := fun _ => 0) (w := a) (x := a) (fun i => by
      by_cases hi : i < fs.length
      · dsimp only
        rw [if_pos hi]
        exact pl.ahead _ mx i (by rw [ex]; exact hi)
      · dsimp only
        rw [if_neg hi]
        exact Cg.rfl') Eqv.refl
    rw [dot_zeroL] at c
    exact c
  have e1 : Cg p (vec x.2 fs.length) 1 := by
    have s := pl.leads.self _ mx
    rw [← ex]
    exact s
  have c := e0.symm.add (e1.symm.mul (Cg.rfl' (a := (-1 : Int))))
  have z2 : Cg p (0 + 1 * -1) 0 := by
    refine c.trans ?_
    have e : (if fs.length < fs.length then a fs.length else -1) = (-1 : Int) := if_neg (Nat.lt_irrefl _)
    rw [e] at z
    exact z
  obtain ⟨d, hd⟩ := z2
  exact one_zero p1 ⟨-d, by grind⟩
theorem comb_dot {j : Nat} : ∀ {ns : List Int} {rs : List (List (Int × Int))}, ns.length = rs.length → combV (pairV (ns.zip rs)) j = dot (vec ns) (col (rs.map flatR) j) rs.length
  | [], [], _ => rfl
  | [], _ :: _, h => by simp at h
  | _ :: _, [], h => by simp at h
  | n :: ns, r :: rs, h => by
    show n * vec (flatR r) j + combV (pairV (ns.zip rs)) j = vec (n :: ns) 0 * col (flatR r :: rs.map flatR) j 0 + dot (shf (vec (n :: ns))) (shf (col (flatR r :: rs.map flatR) j)) rs.length
    have e : shf (vec (n :: ns)) = vec ns := funext fun i => vec_succ
    rw [comb_dot (by simpa using h), shf_col, e]
    rfl
end Lin
/-! things by a hold and a table: stands, that they are fair, how many free numbers they have -/
namespace Lin
abbrev RowP := List (Int × Int)
theorem vec_flatP : ∀ (r : RowP) (k : Nat), vec (flatR r) (2 * k) = (r.getD k (0, 0)).1 ∧ vec (flatR r) (2 * k + 1) = (r.getD k (0, 0)).2
  | [], _ => ⟨rfl, rfl⟩
  | _ :: _, 0 => ⟨rfl, rfl⟩
  | u :: r, k + 1 => by
    have ih := vec_flatP r k
    rw [flat_cons, show 2 * (k + 1) + 1 = 2 * k + 1 + 1 + 1 by omega, show 2 * (k + 1) = 2 * k + 1 + 1 by omega, vec_succ, vec_succ, vec_succ, vec_succ]
    exact ih
theorem sum_range (u v : Vc) : ∀ m : Nat, ((List.range m).map fun k => u k * v k).sum = dot u v m
  | 0 => rfl
  | m + 1 => by
    rw [List.range_succ, List.map_append, List.sum_append, sum_range u v m, dot_last]
    simp
theorem dot_dotM {a b : Vc} {M : Nat → Vc} {n : Nat} : ∀ N : Nat, dot (fun k => dot a (fun i => M i k) N) b n = dot a (fun i => dot (M i) b n) N
  | 0 => dot_zeroL n b
  | N + 1 => by
    have e : (fun k => dot a (fun i => M i k) (N + 1)) = fun k => dot a (fun i => M i k) N + a N * M N k := funext fun k => dot_last N a _
    rw [e, dot_combL, dot_dotM N, dot_last]
theorem dot_cgN {p : Int} : ∀ (n : Nat) {u v w x : Vc}, (∀ i, i < n → Cg p (u i) (v i)) → (∀ i, i < n → Cg p (w i) (x i)) → Cg p (dot u w n) (dot v x n)
  | 0, _, _, _, _, _, _ => Cg.rfl'
  | n + 1, u, v, w, x, h, k => by
    rw [dot_last, dot_last]
    exact (dot_cgN n (fun i hi => h i (by omega)) fun i hi => k i (by omega)).add ((h n (by omega)).mul (k n (by omega)))
/-- a table that is its own mirror -/
def Sy (gs : List (List Int)) : Prop := ∀ i j, col gs j i = col gs i j
/-- what is told at post j -/
def toldV (gs : List (List Int)) (a : Vc) (m : Nat) : Vc := fun j => dot a (col gs j) m
/-- the stand by a hold, a table and held numbers -/
def stP (p : Int) (hs : List Int) (gs : List (List Int)) (ns : List Int) : RowP :=
  (List.range hs.length).map fun j => if vec hs j = 0 then (vec ns j, toldV gs (vec ns) hs.length j % p) else ((0 - toldV gs (vec ns) hs.length j % p) % p, vec ns j)
def unitL (m k : Nat) : List Int := (List.range m).map fun j => if j = k then 1 else 0
def unitsP (p : Int) (hs : List Int) (gs : List (List Int)) : List RowP := (List.range hs.length).map fun k => stP p hs gs (unitL hs.length k)
theorem st_len {p : Int} {hs : List Int} {gs : List (List Int)} {ns : List Int} : (stP p hs gs ns).length = hs.length := by
  unfold stP
  rw [List.length_map, List.length_range]
theorem st_get {p : Int} {hs : List Int} {gs : List (List Int)} {ns : List Int} {j : Nat} (h : j < hs.length) : (stP p hs gs ns)[j]? = some (if vec hs j = 0 then (vec ns j, toldV gs (vec ns) hs.length j % p) else ((0 - toldV gs (vec ns) hs.length j % p) % p, vec ns j)) := by
  unfold stP
  rw [List.getElem?_map, List.getElem?_range h]
  rfl
def InP (p : Int) (r : RowP) : Prop := ∀ u ∈ r, (0 ≤ u.1 ∧ u.1 < p) ∧ 0 ≤ u.2 ∧ u.2 < p
theorem st_in {p : Int} {hs : List Int} {gs : List (List Int)} {ns : List Int} (p0 : 0 < p) (rg : Rg p ns) : InP p (stP p hs gs ns) := fun u hu => by
  obtain ⟨j, _, rfl⟩ := List.mem_map.mp hu
  have a := rg.vec p0 j
  have b : ∀ x : Int, 0 ≤ x % p ∧ x % p < p := fun x => ⟨Int.emod_nonneg _ (by omega), Int.emod_lt_of_pos _ p0⟩
  split
  · exact ⟨a, b _⟩
  · exact ⟨b _, a⟩
theorem meets_range {p : Int} {F : Int × Int → Int × Int → Int} {G : Nat → Int} {f g : Nat → Int × Int} : ∀ m : Nat, (∀ j, j < m → Cg p (F (f j) (g j)) (G j)) → Cg p (List.zipWith F ((List.range m).map f) ((List.range m).map g)).sum ((List.range m).map G).sum
  | 0, _ => Cg.rfl'
  | m + 1, h => by
    rw [List.range_succ, List.map_append, List.map_append, List.map_append, List.zipWith_append (by simp), List.sum_append, List.sum_append]
    refine (meets_range m fun j hj => h j (by omega)).add ?_
    have a := h m (by omega)
    simpa using a
theorem sum_sub (u v a b : Vc) : ∀ m : Nat, ((List.range m).map fun k => u k * v k - a k * b k).sum = dot u v m - dot a b m
  | 0 => rfl
  | m + 1 => by
    rw [List.range_succ, List.map_append, List.sum_append, sum_sub u v a b m, dot_last, dot_last]
    simp
    omega
/-- two stands meet with 0 -/
theorem st_fair {p : Int} {hs : List Int} {gs : List (List Int)} {ns ms : List Int} (sy : Sy gs) : Cg p (List.zipWith (fun u v => u.1 * v.2 - v.1 * u.2) (stP p hs gs ns) (stP p hs gs ms)).sum 0 := by
  have key := meets_range (p := p) (F := fun u v : Int × Int => u.1 * v.2 - v.1 * u.2) (G := fun j => vec ns j * toldV gs (vec ms) hs.length j - vec ms j * toldV gs (vec ns) hs.length j) (f := fun j => if vec hs j = 0 then (vec ns j, toldV gs (vec ns) hs.length j % p) else ((0 - toldV gs (vec ns) hs.length j % p) % p, vec ns j)) (g := fun j => if vec hs j = 0 then (vec ms j, toldV gs (vec ms) hs.length j % p) else ((0 - toldV gs (vec ms) hs.length j % p) % p, vec ms j)) hs.length fun j _ => by
    have c1 := Cg.mod (p := p) (toldV gs (vec ns) hs.length j)
    have c2 := Cg.mod (p := p) (toldV gs (vec ms) hs.length j)
    split
    · exact ((Cg.rfl' (a := vec ns j)).mul c2).sub ((Cg.rfl' (a := vec ms j)).mul c1)
    · have d1 := (Cg.mod (p := p) (0 - toldV gs (vec ns) hs.length j % p)).trans ((Cg.rfl' (a := 0)).sub c1)
      have d2 := (Cg.mod (p := p) (0 - toldV gs (vec ms) hs.length j % p)).trans ((Cg.rfl' (a := 0)).sub c2)
      have e := (d1.mul (Cg.rfl' (a := vec ms j))).sub (d2.mul (Cg.rfl' (a := vec ns j)))
      have z : (0 - toldV gs (vec ns) hs.length j) * vec ms j - (0 - toldV gs (vec ms) hs.length j) * vec ns j = vec ns j * toldV gs (vec ms) hs.length j - vec ms j * toldV gs (vec ns) hs.length j := by grind
      rw [z] at e
      exact e
  refine key.trans ?_
  rw [sum_sub]
  have x : dot (vec ms) (toldV gs (vec ns) hs.length) hs.length = dot (vec ns) (toldV gs (vec ms) hs.length) hs.length := by
    rw [dot_comm]
    have e := dot_dotM (a := vec ns) (b := vec ms) (M := fun i k => col gs k i) (n := hs.length) hs.length
    refine e.trans ?_
    congr 1
    funext i
    have e2 : (fun k => col gs k i) = col gs i := funext fun k => sy i k
    rw [e2, dot_comm]
    rfl
  rw [x]
  exact ⟨0, by omega⟩
theorem unit_at {m k j : Nat} : vec (unitL m k) j = if j = k ∧ j < m then 1 else 0 := by
  show (unitL m k).getD j 0 = _
  unfold unitL
  rw [List.getD_eq_getElem?_getD, List.getElem?_map]
  by_cases h : j < m
  · rw [List.getElem?_range h]
    by_cases e : j = k
    · rw [if_pos ⟨e, h⟩]
      show (if j = k then (1 : Int) else 0) = 1
      rw [if_pos e]
    · rw [if_neg (fun z => e z.1)]
      show (if j = k then (1 : Int) else 0) = 0
      rw [if_neg e]
  · rw [List.getElem?_eq_none (by simpa using h)]
    rw [if_neg (fun z => h z.2)]
    rfl
theorem unit_rg {p : Int} {m k : Nat} (p1 : 1 < p) : Rg p (unitL m k) := fun u hu => by
  obtain ⟨j, _, rfl⟩ := List.mem_map.mp hu
  split <;> omega
theorem unit_len {m k : Nat} : (unitL m k).length = m := by
  unfold unitL
  rw [List.length_map, List.length_range]
/-- the place of post k's held number -/
def plc (hs : List Int) (k : Nat) : Nat := if vec hs k = 0 then 2 * k else 2 * k + 1
/-- a stand's held number -/
theorem st_held {p : Int} {hs : List Int} {gs : List (List Int)} {ns : List Int} {k : Nat} (h : k < hs.length) : vec (flatR (stP p hs gs ns)) (plc hs k) = vec ns k := by
  obtain ⟨a, b⟩ := vec_flatP (stP p hs gs ns) k
  have e : (stP p hs gs ns).getD k (0, 0) = if vec hs k = 0 then (vec ns k, toldV gs (vec ns) hs.length k % p) else ((0 - toldV gs (vec ns) hs.length k % p) % p, vec ns k) := by
    rw [List.getD_eq_getElem?_getD, st_get h]
    rfl
  rw [e] at a b
  unfold plc
  split
  · rename_i z
    rw [if_pos z] at a
    exact a
  · rename_i z
    rw [if_neg z] at b
    exact b
theorem units_get {p : Int} {hs : List Int} {gs : List (List Int)} {k : Nat} (h : k < hs.length) : (unitsP p hs gs)[k]? = some (stP p hs gs (unitL hs.length k)) := by
  unfold unitsP
  rw [List.getElem?_map, List.getElem?_range h]
  rfl
theorem units_len {p : Int} {hs : List Int} {gs : List (List Int)} : (unitsP p hs gs).length = hs.length := by
  unfold unitsP
  rw [List.length_map, List.length_range]
theorem units_fit {p : Int} {hs : List Int} {gs : List (List Int)} (p1 : 1 < p) : ∀ r ∈ unitsP p hs gs, InP p r ∧ r.length = hs.length := fun r hr => by
  obtain ⟨k, _, rfl⟩ := List.mem_map.mp hr
  exact ⟨st_in (by omega) (unit_rg p1), st_len⟩
theorem units_fresh {p : Int} {hs : List Int} {gs : List (List Int)} (p1 : 1 < p) : ∀ m, m ≤ hs.length → Fresh p (((unitsP p hs gs).take m).map flatR)
  | 0, _ => by
    rw [List.take_zero]
    exact .nil
  | m + 1, h => by
    have ih := units_fresh (p := p) (hs := hs) (gs := gs) p1 m (by omega)
    have e := units_get (p := p) (gs := gs) (hs := hs) (k := m) (by omega)
    rw [List.take_add_one, e, List.map_append]
    refine .snoc (plc hs m) ih (fun f hf => ?_) fun z => ?_
    · obtain ⟨r, hr, rfl⟩ := List.mem_map.mp hf
      obtain ⟨k, hk⟩ := List.mem_iff_getElem?.mp hr
      have hkm : k < m := by
        have := (List.getElem?_eq_some_iff.mp hk).1
        rw [List.length_take] at this
        omega
      rw [List.getElem?_take, if_pos hkm, units_get (p := p) (hs := hs) (gs := gs) (k := k) (by omega)] at hk
      cases hk
      rw [st_held (hs := hs) (k := m) (by omega), unit_at, if_neg (by omega)]
      exact Cg.rfl'
    · rw [st_held (hs := hs) (k := m) (by omega), unit_at, if_pos ⟨rfl, by omega⟩] at z
      have := cg_eq (p := p) ⟨by omega, p1⟩ ⟨Int.le_refl 0, by omega⟩ z
      omega
theorem units_fair {p : Int} {hs : List Int} {gs : List (List Int)} (sy : Sy gs) : ∀ r ∈ unitsP p hs gs, ∀ s ∈ unitsP p hs gs, Cg p (List.zipWith (fun u v => u.1 * v.2 - v.1 * u.2) r s).sum 0 := fun r hr s hs' => by
  obtain ⟨k, _, rfl⟩ := List.mem_map.mp hr
  obtain ⟨j, _, rfl⟩ := List.mem_map.mp hs'
  exact st_fair sy
/-- rows of one lot whose spanning rows meet with 0 meet with 0 -/
theorem lot_fair {p : Int} {m : Nat} {rs : List RowP} (lr : ∀ r ∈ rs, r.length = m) (h : ∀ r ∈ rs, ∀ s ∈ rs, Cg p (List.zipWith (fun u v => u.1 * v.2 - v.1 * u.2) r s).sum 0) {r s : RowP} (l1 : r.length = m) (l2 : s.length = m) (h1 : Lot p (spn (rs.map flatR)) (vec (flatR r))) (h2 : Lot p (spn (rs.map flatR)) (vec (flatR s))) : Cg p (List.zipWith (fun u v => u.1 * v.2 - v.1 * u.2) r s).sum 0 := by
  have met : ∀ r s : RowP, r.length = m → s.length = m → (List.zipWith (fun u v => u.1 * v.2 - v.1 * u.2) r s).sum = dot (crs (vec (flatR r))) (vec (flatR s)) (2 * m) := fun r s a b => by
    have e := meet_dot (r := r) (s := s) (by rw [a, b])
    rw [a] at e
    exact e
  have half : ∀ r ∈ rs, Cg p (dot (crs (vec (flatR r))) (vec (flatR s)) (2 * m)) 0 := fun r hr => dot_lotR h2 fun v hv => by
    obtain ⟨f, hf, rfl⟩ := hv
    obtain ⟨t, ht, rfl⟩ := List.mem_map.mp hf
    rw [← met r t (lr r hr) (lr t ht)]
    exact h r hr t ht
  rw [met r s l1 l2, dot_crs]
  have z : Cg p (dot (crs (vec (flatR s))) (vec (flatR r)) (2 * m)) 0 := dot_lotR h1 fun v hv => by
    obtain ⟨f, hf, rfl⟩ := hv
    obtain ⟨t, ht, rfl⟩ := List.mem_map.mp hf
    rw [dot_crs]
    have a := (Cg.rfl' (p := p) (a := 0)).sub (half t ht)
    have e : (0 : Int) - dot (crs (vec (flatR t))) (vec (flatR s)) (2 * m) = -dot (crs (vec (flatR t))) (vec (flatR s)) (2 * m) := by omega
    rw [e, Int.sub_zero] at a
    exact a
  have a := (Cg.rfl' (p := p) (a := 0)).sub z
  have e : (0 : Int) - dot (crs (vec (flatR s))) (vec (flatR r)) (2 * m) = -dot (crs (vec (flatR s))) (vec (flatR r)) (2 * m) := by omega
  rw [e, Int.sub_zero] at a
  exact a
/-- so many plain rows -/
theorem units_plain {p : Int} {hs : List Int} {gs : List (List Int)} {fs : List (List Int)} {L : List (Nat × List Int)} (p1 : 1 < p) (inv : ∀ u, 0 < u → u < p → ∃ c, c * u % p = 1) (pl : PL p (2 * hs.length) fs L) (e : ∀ u, Lot p (spn fs) u ↔ Lot p (spn ((unitsP p hs gs).map flatR)) u) : L.length = hs.length := by
  have fr := units_fresh (p := p) (hs := hs) (gs := gs) p1 hs.length (Nat.le_refl _)
  have tk : (unitsP p hs gs).take hs.length = unitsP p hs gs := List.take_of_length_le (by rw [units_len]; exact Nat.le_refl _)
  rw [tk] at fr
  obtain ⟨M, pm, lm⟩ := fr.pl (n := 2 * hs.length) p1 inv fun f hf => by
    obtain ⟨r, hr, rfl⟩ := List.mem_map.mp hf
    obtain ⟨i, l⟩ := units_fit p1 r hr
    refine ⟨by rw [flat_len, l], fun u hu => ?_⟩
    obtain ⟨v, hv, hm⟩ := List.mem_flatMap.mp hu
    have := i v hv
    have m : u = v.1 ∨ u = v.2 := by simpa using hm
    rcases m with e | e
    · rw [e]; exact this.1
    · rw [e]; exact this.2
  rw [PL.len_eq p1 pl pm e, lm, List.length_map, units_len]
end Lin
/-! rows by the sides of a hold; the table of a thing by a hold; stands as sums -/
namespace Lin
theorem vec_app (a b : List Int) (i : Nat) : vec (a ++ b) i = if i < a.length then vec a i else vec b (i - a.length) := by
  show (a ++ b).getD i 0 = _
  rw [List.getD_eq_getElem?_getD]
  by_cases h : i < a.length
  · rw [if_pos h, List.getElem?_append_left h]
    show _ = a.getD i 0
    rw [List.getD_eq_getElem?_getD]
  · rw [if_neg h, List.getElem?_append_right (by omega)]
    show _ = b.getD (i - a.length) 0
    rw [List.getD_eq_getElem?_getD]
def sdP (p : Int) (hs : List Int) (r : RowP) : List Int := List.zipWith (fun h u => if h = 0 then u.1 else u.2) hs r ++ List.zipWith (fun h u => if h = 0 then u.2 else -u.1 % p) hs r
def sdV (hs : List Int) (v : Vc) : Vc := fun i => if i < hs.length then v (plc hs i) else if i < 2 * hs.length then (if vec hs (i - hs.length) = 0 then v (2 * (i - hs.length) + 1) else -v (2 * (i - hs.length))) else 0
theorem sd_len {p : Int} {hs : List Int} {r : RowP} (h : r.length = hs.length) : (sdP p hs r).length = 2 * hs.length := by
  unfold sdP
  rw [List.length_append, List.length_zipWith, List.length_zipWith]
  omega
theorem zip_vec {f : Int → Int × Int → Int} {hs : List Int} {r : RowP} {j : Nat} (h : r.length = hs.length) (hj : j < hs.length) : vec (List.zipWith f hs r) j = f (vec hs j) (r.getD j (0, 0)) := by
  have e1 : hs[j]? = some (vec hs j) := by
    have e := List.getElem?_eq_getElem hj
    rw [e, vec_some e]
  have e2 : r[j]? = some (r.getD j (0, 0)) := by
    rw [List.getD_eq_getElem?_getD, List.getElem?_eq_getElem (by omega)]
    rfl
  refine vec_some ?_
  rw [List.getElem?_zipWith, e1, e2]
theorem sd_vec {p : Int} {hs : List Int} {r : RowP} (h : r.length = hs.length) : Eqv p (vec (sdP p hs r)) (sdV hs (vec (flatR r))) := fun i => by
  unfold sdP sdV
  rw [vec_app, List.length_zipWith, h, Nat.min_self]
  by_cases h1 : i < hs.length
  · rw [if_pos h1, if_pos h1, zip_vec h h1]
    obtain ⟨a, b⟩ := vec_flatP r i
    unfold plc
    split
    · rw [a]
      exact Cg.rfl'
    · rw [b]
      exact Cg.rfl'
  · rw [if_neg h1, if_neg h1]
    by_cases h2 : i < 2 * hs.length
    · rw [if_pos h2, zip_vec h (by omega)]
      obtain ⟨a, b⟩ := vec_flatP r (i - hs.length)
      split
      · rw [b]
        exact Cg.rfl'
      · rw [a]
        exact Cg.mod _
    · rw [if_neg h2, vec_out (by rw [List.length_zipWith]; omega)]
      exact Cg.rfl'
theorem sd_rg {p : Int} {hs : List Int} {r : RowP} (p0 : 0 < p) (h : InP p r) : Rg p (sdP p hs r) := fun u hu => by
  unfold sdP at hu
  have b : ∀ x : Int, 0 ≤ x % p ∧ x % p < p := fun x => ⟨Int.emod_nonneg _ (by omega), Int.emod_lt_of_pos _ p0⟩
  rcases List.mem_append.mp hu with m | m
  · obtain ⟨i, hi, rfl⟩ := List.mem_iff_getElem.mp m
    rw [List.getElem_zipWith]
    have := h _ (List.getElem_mem (l := r) (n := i) (by rw [List.length_zipWith] at hi; omega))
    split
    · exact this.1
    · exact this.2
  · obtain ⟨i, hi, rfl⟩ := List.mem_iff_getElem.mp m
    rw [List.getElem_zipWith]
    have := h _ (List.getElem_mem (l := r) (n := i) (by rw [List.length_zipWith] at hi; omega))
    split
    · exact this.2
    · exact b _
theorem sd_comb {hs : List Int} {u v : Vc} {c : Int} (i : Nat) : sdV hs (fun j => u j + c * v j) i = sdV hs u i + c * sdV hs v i := by
  unfold sdV
  split
  · rfl
  · split
    · split
      · rfl
      · grind
    · grind
theorem sd_eqv {p : Int} {hs : List Int} {u v : Vc} (h : Eqv p u v) : Eqv p (sdV hs u) (sdV hs v) := fun i => by
  unfold sdV
  split
  · exact h _
  · split
    · split
      · exact h _
      · have a := (Cg.rfl' (p := p) (a := 0)).sub (h (2 * (i - hs.length)))
        rw [Int.zero_sub, Int.zero_sub] at a
        exact a
    · exact Cg.rfl'
theorem lot_sd {p : Int} {hs : List Int} {R S : Vc → Prop} {u : Vc} (h : Lot p R u) (k : ∀ v, R v → Lot p S (sdV hs v)) : Lot p S (sdV hs u) := by
  induction h with
  | zero =>
    refine .eqv .zero fun i => ?_
    · have e : sdV hs (fun _ => 0) i = 0 := by
        unfold sdV
        split
        · rfl
        · split
          · split <;> rfl
          · rfl
      rw [e]
      exact Cg.rfl'
  | add c _ r ih =>
    refine .eqv (Lot.comb c ih (k _ r)) fun i => ?_
    rw [sd_comb]
    exact Cg.rfl'
  | eqv _ e ih => exact .eqv ih (sd_eqv e)
theorem span_sd {p : Int} {hs : List Int} {ss us : List RowP} (ls : ∀ r ∈ ss, r.length = hs.length) (lu : ∀ r ∈ us, r.length = hs.length) (h : ∀ u, Lot p (spn (ss.map flatR)) u ↔ Lot p (spn (us.map flatR)) u) (u : Vc) : Lot p (spn (ss.map (sdP p hs))) u ↔ Lot p (spn (us.map (sdP p hs))) u := by
  have one : ∀ {xs ys : List RowP}, (∀ r ∈ xs, r.length = hs.length) → (∀ r ∈ ys, r.length = hs.length) → (∀ u, Lot p (spn (xs.map flatR)) u → Lot p (spn (ys.map flatR)) u) → ∀ v, spn (xs.map (sdP p hs)) v → Lot p (spn (ys.map (sdP p hs))) v := by
    intro xs ys lx ly hh v hv
    obtain ⟨f, hf, rfl⟩ := hv
    obtain ⟨r, hr, rfl⟩ := List.mem_map.mp hf
    have a := hh _ (.of ⟨flatR r, List.mem_map.mpr ⟨r, hr, rfl⟩, rfl⟩)
    refine .eqv (lot_sd (hs := hs) a fun w hw => ?_) (sd_vec (lx r hr)).symm
    obtain ⟨f, hf, rfl⟩ := hw
    obtain ⟨s, hs', rfl⟩ := List.mem_map.mp hf
    exact .eqv (.of ⟨sdP p hs s, List.mem_map.mpr ⟨s, hs', rfl⟩, rfl⟩) (sd_vec (ly s hs'))
  exact Lot.iff (one ls lu fun u => (h u).mp) (one lu ls fun u => (h u).mpr) u
/-- what is told at all posts -/
def toldL (p : Int) (gs : List (List Int)) (ns : List Int) (m : Nat) : List Int := (List.range m).map fun j => toldV gs (vec ns) m j % p
theorem sd_st {p : Int} {hs : List Int} {gs : List (List Int)} {ns : List Int} (p0 : 0 < p) (hl : ns.length = hs.length) : sdP p hs (stP p hs gs ns) = ns ++ toldL p gs ns hs.length := by
  unfold sdP
  congr 1
  · apply List.ext_getElem?
    intro j
    rw [List.getElem?_zipWith]
    by_cases h : j < hs.length
    · have e1 := List.getElem?_eq_getElem h
      have en := List.getElem?_eq_getElem (l := ns) (i := j) (by omega)
      rw [st_get h, e1, en]
      show some (if hs[j] = 0 then _ else _) = some ns[j]
      rw [← vec_some e1, ← vec_some en]
      split <;> rfl
    · rw [List.getElem?_eq_none (l := hs) (by omega), List.getElem?_eq_none (l := ns) (by omega)]
  · apply List.ext_getElem?
    intro j
    rw [List.getElem?_zipWith]
    by_cases h : j < hs.length
    · have e1 := List.getElem?_eq_getElem h
      rw [st_get h, e1]
      unfold toldL
      rw [List.getElem?_map, List.getElem?_range h]
      show some (if hs[j] = 0 then _ else _) = some _
      rw [← vec_some e1]
      split
      · rfl
      · dsimp only
        congr 1
        have b : ∀ x : Int, 0 ≤ x % p ∧ x % p < p := fun x => ⟨Int.emod_nonneg _ (by omega), Int.emod_lt_of_pos _ p0⟩
        refine cg_eq (b _) (b _) ?_
        have c := (Cg.mod (p := p) (0 - toldV gs (vec ns) hs.length j % p))
        have d := (Cg.mod (p := p) (-((0 - toldV gs (vec ns) hs.length j % p) % p))).trans (by
          have a := (Cg.rfl' (p := p) (a := 0)).sub c
          rw [Int.zero_sub] at a
          exact a)
        have e : (0 : Int) - (0 - toldV gs (vec ns) hs.length j % p) = toldV gs (vec ns) hs.length j % p := by omega
        rw [e] at d
        exact d
    · rw [List.getElem?_eq_none (l := hs) (by omega)]
      exact (List.getElem?_eq_none (by unfold toldL; rw [List.length_map, List.length_range]; omega)).symm
theorem dot_unit {m k : Nat} {v : Vc} (h : k < m) : dot (vec (unitL m k)) v m = v k := by
  have e := dot_ext m (u := vec (unitL m k)) (v := un k) (w := v) (x := v) (fun i hi => by
    rw [unit_at]
    show _ = if i = k then 1 else 0
    by_cases z : i = k
    · rw [if_pos ⟨z, hi⟩, if_pos z]
    · rw [if_neg (fun w => z w.1), if_neg z]) fun _ _ => rfl
  rw [e, dot_comm, dot_un m k v h]
theorem told_unit {p : Int} {gs : List (List Int)} {m k : Nat} {g : List Int} (h : k < m) (eg : gs[k]? = some g) (gl : g.length = m) (rg : Rg p g) (p0 : 0 < p) : toldL p gs (unitL m k) m = g := by
  unfold toldL
  apply List.ext_getElem?
  intro j
  rw [List.getElem?_map]
  by_cases hj : j < m
  · rw [List.getElem?_range hj]
    have e : col gs j k = vec g j := by
      unfold col
      rw [List.getD_eq_getElem?_getD, eg]
      rfl
    have e2 : g[j]? = some (vec g j) := by
      have e := List.getElem?_eq_getElem (l := g) (i := j) (by omega)
      rw [e, vec_some e]
    show some (toldV gs (vec (unitL m k)) m j % p) = _
    unfold toldV
    rw [dot_unit h, e, e2]
    have := rg.vec p0 j
    rw [Int.emod_eq_of_lt this.1 this.2]
  · rw [List.getElem?_eq_none (by simpa using hj), List.getElem?_eq_none (by omega)]
    rfl
/-- the leads of a thing by a hold that stands: the numbers held alone, then the table -/
theorem lead_table {p : Int} {hs : List Int} {gs : List (List Int)} {fs : List (List Int)} {L : List (Nat × List Int)} (p1 : 1 < p) (gl : gs.length = hs.length) (gok : ∀ g ∈ gs, g.length = hs.length ∧ Rg p g) (pl : PL p (2 * hs.length) fs L) (up : Up L)
    (e : ∀ u, Lot p (spn fs) u ↔ Lot p (spn ((unitsP p hs gs).map (sdP p hs))) u) : L = (List.range hs.length).zip ((List.range hs.length).map fun k => unitL hs.length k ++ gs.getD k []) := by
  have p0 : 0 < p := by omega
  have eu : (unitsP p hs gs).map (sdP p hs) = (List.range hs.length).map fun k => unitL hs.length k ++ gs.getD k [] := by
    unfold unitsP
    rw [List.map_map]
    apply List.map_congr_left
    intro k hk
    have hk' := List.mem_range.mp hk
    have eg : gs[k]? = some (gs.getD k []) := by
      rw [List.getD_eq_getElem?_getD, List.getElem?_eq_getElem (by omega)]
      rfl
    have ok := gok _ (List.mem_of_getElem? eg)
    show sdP p hs (stP p hs gs (unitL hs.length k)) = _
    rw [sd_st p0 unit_len, told_unit hk' eg ok.1 ok.2 p0]
  have pln : Pln p (2 * hs.length) (List.range hs.length) ((List.range hs.length).map fun k => unitL hs.length k ++ gs.getD k []) := by
    refine ⟨by rw [List.length_map], List.pairwise_lt_range, fun q hq => by have := List.mem_range.mp hq; omega, fun i q f hi hf => ?_⟩
    have hil : i < hs.length := by
      have := (List.getElem?_eq_some_iff.mp hi).1
      simpa using this
    rw [List.getElem?_range hil] at hi
    cases hi
    rw [List.getElem?_map, List.getElem?_range hil] at hf
    cases hf
    have eg : gs[i]? = some (gs.getD i []) := by
      rw [List.getD_eq_getElem?_getD, List.getElem?_eq_getElem (by omega)]
      rfl
    have ok := gok _ (List.mem_of_getElem? eg)
    have at_ : ∀ o, o < hs.length → vec (unitL hs.length i ++ gs.getD i []) o = if o = i then 1 else 0 := fun o ho => by
      rw [vec_app, unit_len, if_pos ho, unit_at]
      by_cases z : o = i
      · rw [if_pos ⟨z, ho⟩, if_pos z]
      · rw [if_neg (fun w => z w.1), if_neg z]
    refine ⟨by rw [List.length_append, unit_len, ok.1]; omega, fun u hu => ?_, fun j hj => by rw [at_ j (by omega), if_neg (by omega)], by rw [at_ i hil, if_pos rfl], fun o ho hlt => by rw [at_ o (List.mem_range.mp ho), if_neg (by omega)]⟩
    rcases List.mem_append.mp hu with m | m
    · exact unit_rg p1 u m
    · exact ok.2 u m
  obtain ⟨h1, h2⟩ := pln.pl
  refine pl.one p1 h1 up h2 fun u => ?_
  rw [← eu]
  exact e u
/-! stands as sums of the stands of 1 held alone -/
def stV (hs : List Int) (gs : List (List Int)) (m : Nat) (a : Vc) : Vc := fun i => if i < 2 * m then (if (vec hs (i / 2) = 0) = (i % 2 = 0) then a (i / 2) else if i % 2 = 0 then -toldV gs a m (i / 2) else toldV gs a m (i / 2)) else 0
theorem st_vec {p : Int} {hs : List Int} {gs : List (List Int)} {ns : List Int} : Eqv p (vec (flatR (stP p hs gs ns))) (stV hs gs hs.length (vec ns)) := fun i => by
  unfold stV
  by_cases h : i < 2 * hs.length
  · rw [if_pos h]
    have hj : i / 2 < hs.length := by omega
    obtain ⟨a, b⟩ := vec_flatP (stP p hs gs ns) (i / 2)
    have e : (stP p hs gs ns).getD (i / 2) (0, 0) = if vec hs (i / 2) = 0 then (vec ns (i / 2), toldV gs (vec ns) hs.length (i / 2) % p) else ((0 - toldV gs (vec ns) hs.length (i / 2) % p) % p, vec ns (i / 2)) := by
      rw [List.getD_eq_getElem?_getD, st_get hj]
      rfl
    rw [e] at a b
    have md := Cg.mod (p := p) (toldV gs (vec ns) hs.length (i / 2))
    by_cases z : vec hs (i / 2) = 0
    · rw [if_pos z] at a b
      by_cases q : i % 2 = 0
      · rw [if_pos (by simp [z, q])]
        have ei : 2 * (i / 2) = i := by omega
        rw [ei] at a
        rw [a]
        exact Cg.rfl'
      · rw [if_neg (by simp [z, q]), if_neg q]
        have ei : 2 * (i / 2) + 1 = i := by omega
        rw [ei] at b
        rw [b]
        exact md
    · rw [if_neg z] at a b
      by_cases q : i % 2 = 0
      · rw [if_neg (by simp [z, q]), if_pos q]
        have ei : 2 * (i / 2) = i := by omega
        rw [ei] at a
        rw [a]
        have c := (Cg.mod (p := p) (0 - toldV gs (vec ns) hs.length (i / 2) % p)).trans ((Cg.rfl' (a := 0)).sub md)
        rw [Int.zero_sub (toldV gs (vec ns) hs.length (i / 2))] at c
        exact c
      · rw [if_pos (by simp [z, q])]
        have ei : 2 * (i / 2) + 1 = i := by omega
        rw [ei] at b
        rw [b]
        exact Cg.rfl'
  · rw [if_neg h, vec_out (by rw [flat_len, st_len]; omega)]
    exact Cg.rfl'
theorem dot_neg : ∀ (n : Nat) (a f : Vc), dot a (fun k => -f k) n = -dot a f n
  | 0, _, _ => rfl
  | n + 1, a, f => by
    rw [dot_last, dot_last, dot_neg n a f]
    grind
theorem st_dot {hs : List Int} {gs : List (List Int)} {m : Nat} {a : Vc} {i : Nat} : dot a (fun k => stV hs gs m (vec (unitL m k)) i) m = stV hs gs m a i := by
  have td : ∀ j, dot a (fun k => toldV gs (vec (unitL m k)) m j) m = toldV gs a m j := fun j => by
    unfold toldV
    exact dot_ext m (fun _ _ => rfl) fun k hk => dot_unit hk
  unfold stV
  by_cases h : i < 2 * m
  · have hj : i / 2 < m := by omega
    simp only [if_pos h]
    by_cases z : (vec hs (i / 2) = 0) = (i % 2 = 0)
    · simp only [if_pos z]
      have e := dot_ext m (u := a) (v := a) (w := fun k => vec (unitL m k) (i / 2)) (x := un (i / 2)) (fun _ _ => rfl) fun k hk => by
        rw [unit_at]
        show _ = if k = i / 2 then 1 else 0
        by_cases q : i / 2 = k
        · rw [if_pos ⟨q, hj⟩, if_pos q.symm]
        · rw [if_neg (fun w => q w.1), if_neg (fun w => q w.symm)]
      rw [e, dot_un m (i / 2) a hj]
    · simp only [if_neg z]
      by_cases q : i % 2 = 0
      · simp only [if_pos q]
        rw [dot_neg, td]
      · simp only [if_neg q]
        exact td _
  · simp only [if_neg h]
    exact dot_zero m a
theorem in_sumP {p : Int} (p0 : 0 < p) : ∀ (l : List (Int × RowP)) (acc : RowP), InP p acc → InP p (sumP p acc l)
  | [], _, h => h
  | x :: l, acc, _ => in_sumP p0 l _ fun u hu => by
    unfold addP at hu
    obtain ⟨i, hi, rfl⟩ := List.mem_iff_getElem.mp hu
    rw [List.getElem_zipWith]
    exact ⟨⟨Int.emod_nonneg _ (by omega), Int.emod_lt_of_pos _ p0⟩, Int.emod_nonneg _ (by omega), Int.emod_lt_of_pos _ p0⟩
theorem flat_rgP {p : Int} {r : RowP} (h : InP p r) : Rg p (flatR r) := fun u hu => by
  obtain ⟨v, hv, hm⟩ := List.mem_flatMap.mp hu
  have := h v hv
  have m : u = v.1 ∨ u = v.2 := by simpa using hm
  rcases m with e | e
  · rw [e]; exact this.1
  · rw [e]; exact this.2
theorem stand_sum {p : Int} {hs : List Int} {gs : List (List Int)} {ns : List Int} (p1 : 1 < p) (hl : ns.length = hs.length) (rg : Rg p ns) : sumP p (List.replicate hs.length (0, 0)) (ns.zip (unitsP p hs gs)) = stP p hs gs ns := by
  have p0 : 0 < p := by omega
  have lu : ∀ x ∈ ns.zip (unitsP p hs gs), x.2.length = hs.length := fun x hx => (units_fit p1 _ (List.of_mem_zip hx).2).2
  have ul := units_len (p := p) (hs := hs) (gs := gs)
  apply flat_inj
  refine list_eq p0 (by rw [flat_len, flat_len, sum_lenP _ lu (by simp), st_len]) (flat_rgP (in_sumP p0 _ _ fun u hu => ?_)) (flat_rgP (st_in p0 rg)) fun j => ?_
  · rw [(List.mem_replicate.mp hu).2]
    exact ⟨⟨Int.le_refl 0, p0⟩, Int.le_refl 0, p0⟩
  have b := vec_sumP (p := p) (ns.zip (unitsP p hs gs)) (acc := List.replicate hs.length ((0 : Int), (0 : Int))) lu (by simp) j
  dsimp only at b
  rw [vec_noP, Int.zero_add, comb_dot (by rw [ul]; exact hl), ul] at b
  refine b.trans (Cg.trans ?_ (st_vec (ns := ns) j).symm)
  rw [← st_dot]
  refine dot_cgN hs.length (fun _ _ => Cg.rfl') fun k hk => ?_
  have e : col ((unitsP p hs gs).map flatR) j k = vec (flatR (stP p hs gs (unitL hs.length k))) j := by
    unfold col
    rw [List.getD_eq_getElem?_getD, List.getElem?_map, units_get hk]
    rfl
  rw [e]
  exact st_vec j
end Lin
set_option linter.all false
/-! two lots joined and crossed: their numbers of plain rows add up alike -/
namespace Lin
def FreeOver (p : Int) : List (List Int) → List (List Int) → Prop
  | _, [] => True
  | fs, f :: r => ¬ Lot p (spn fs) (vec f) ∧ FreeOver p (fs ++ [f]) r
theorem spn_sub {p : Int} {fs gs : List (List Int)} (h : ∀ f ∈ fs, f ∈ gs) {u : Vc} (k : Lot p (spn fs) u) : Lot p (spn gs) u :=
  Lot.sub (fun v hv => let ⟨f, hf, e⟩ := hv; Lot.of ⟨f, h f hf, e⟩) k
theorem FreeOver.mono {p : Int} : ∀ {r fs gs : List (List Int)}, (∀ f ∈ gs, f ∈ fs) → FreeOver p fs r → FreeOver p gs r
  | [], _, _, _, _ => trivial
  | f :: r, fs, gs, h, k => ⟨fun z => k.1 (spn_sub h z), FreeOver.mono (fun g hg => by
      rcases List.mem_append.mp hg with m | m
      · exact List.mem_append.mpr (.inl (h g m))
      · exact List.mem_append.mpr (.inr m)) k.2⟩
theorem first_of : ∀ us : List Int, (¬ ∀ x ∈ us, x = 0) → ∃ (j : Nat) (u : Int), us[j]? = some u ∧ u ≠ 0 ∧ ∀ i, i < j → us[i]? = some 0 := by
  intro us
  induction us with
  | nil => intro h; exact absurd (fun x hx => by cases hx) h
  | cons a us ih2 =>
    intro h
    by_cases ha : a = 0
    · have h' : ¬ ∀ x ∈ us, x = 0 := fun k => h fun x hx => by
        rcases List.mem_cons.mp hx with rfl | hx
        · exact ha
        · exact k x hx
      obtain ⟨j, u, e1, e2, e3⟩ := ih2 h'
      refine ⟨j + 1, u, e1, e2, fun i hi => ?_⟩
      cases i with
      | zero => rw [ha]; rfl
      | succ i => exact e3 i (by omega)
    · exact ⟨0, a, rfl, ha, fun i hi => absurd hi (Nat.not_lt_zero _)⟩
theorem FreeOver.pl {p : Int} {n : Nat} (p1 : 1 < p) (inv : ∀ u, 0 < u → u < p → ∃ c, c * u % p = 1) : ∀ {r fs : List (List Int)} {L : List (Nat × List Int)}, PL p n fs L → FreeOver p fs r → (∀ f ∈ r, f.length = n ∧ Rg p f) → ∃ M, PL p n (fs ++ r) M ∧ M.length = L.length + r.length
  | [], fs, L, h, _, _ => ⟨L, by rw [List.append_nil]; exact h, rfl⟩
  | f :: r, fs, L, pl, k, hf => by
    obtain ⟨fl, fr⟩ := hf f (by simp)
    have p0 : 0 < p := by omega
    obtain ⟨j, u, e1, e2, e3⟩ := first_of _ fun hz => k.1 ((pl.zero p0 fl fr).mp hz)
    have ur := clear_rg p0 L fr u (List.mem_of_getElem? e1)
    obtain ⟨c, hc⟩ := inv u (by omega) ur.2
    obtain ⟨M, h1, h2⟩ := FreeOver.pl p1 inv (pl.step p1 fl fr e1 e2 e3 hc) k.2 fun g hg => hf g (List.mem_cons_of_mem _ hg)
    refine ⟨M, by rw [List.append_assoc] at h1; exact h1, ?_⟩
    rw [h2, List.length_append]
    have e : (moreL p j (scaled p c (clearL p f L)) L).length = L.length := by simp [moreL]
    rw [e]
    simp only [List.length_cons, List.length_nil]
    omega
theorem extend {p : Int} : ∀ (gs fs : List (List Int)), ∃ es, (∀ e ∈ es, e ∈ gs) ∧ FreeOver p fs es ∧ ∀ g ∈ gs, Lot p (spn (fs ++ es)) (vec g)
  | [], fs => ⟨[], by simp, trivial, by simp⟩
  | g :: gs, fs => by
    by_cases h : Lot p (spn fs) (vec g)
    · obtain ⟨es, h1, h2, h3⟩ := extend gs fs
      refine ⟨es, fun e he => List.mem_cons_of_mem _ (h1 e he), h2, fun x hx => ?_⟩
      rcases List.mem_cons.mp hx with rfl | hx
      · exact spn_sub (fun f hf => List.mem_append.mpr (.inl hf)) h
      · exact h3 x hx
    · obtain ⟨es, h1, h2, h3⟩ := extend gs (fs ++ [g])
      refine ⟨g :: es, fun e he => ?_, ⟨h, h2⟩, fun x hx => ?_⟩
      · rcases List.mem_cons.mp he with rfl | he
        · simp
        · exact List.mem_cons_of_mem _ (h1 e he)
      · rw [List.append_assoc] at h3
        rcases List.mem_cons.mp hx with rfl | hx
        · exact Lot.of ⟨x, by simp, rfl⟩
        · exact h3 x hx
theorem lot_split {p : Int} {xs ys : List (List Int)} {u : Vc} (h : Lot p (spn (xs ++ ys)) u) : ∃ v w, Lot p (spn xs) v ∧ Lot p (spn ys) w ∧ Eqv p u fun i => v i + w i := by
  induction h with
  | zero => exact ⟨_, _, .zero, .zero, fun i => ⟨0, by simp⟩⟩
  | @add u v c _ r ih =>
    obtain ⟨a, b, ha, hb, e⟩ := ih
    obtain ⟨f, hf, rfl⟩ := r
    rcases List.mem_append.mp hf with m | m
    · refine ⟨fun i => a i + c * vec f i, b, ha.comb c (.of ⟨f, m, rfl⟩), hb, fun i => ?_⟩
      have k := (e i).add (Cg.rfl' (a := c * vec f i))
      have e2 : a i + b i + c * vec f i = a i + c * vec f i + b i := by omega
      rw [e2] at k
      exact k
    · refine ⟨a, fun i => b i + c * vec f i, ha, hb.comb c (.of ⟨f, m, rfl⟩), fun i => ?_⟩
      have k := (e i).add (Cg.rfl' (a := c * vec f i))
      rw [Int.add_assoc] at k
      exact k
  | eqv _ e ih =>
    obtain ⟨a, b, ha, hb, e2⟩ := ih
    exact ⟨a, b, ha, hb, e.symm.trans e2⟩
theorem dim {p : Int} {n : Nat} {fa fb fi : List (List Int)} {KA KB KS KI : List (Nat × List Int)} (p1 : 1 < p) (inv : ∀ u, 0 < u → u < p → ∃ c, c * u % p = 1) (ha : ∀ f ∈ fa, f.length = n ∧ Rg p f) (hb : ∀ f ∈ fb, f.length = n ∧ Rg p f)
    (hA : PL p n fa KA) (hB : PL p n fb KB) (hS : PL p n (fa ++ fb) KS) (hI : PL p n fi KI) (e : ∀ u, Lot p (spn fi) u ↔ Lot p (spn fa) u ∧ Lot p (spn fb) u) : KS.length + KI.length = KA.length + KB.length := by
  obtain ⟨es, a1, a2, a3⟩ := extend (p := p) fa fi
  obtain ⟨ds, b1, b2, b3⟩ := extend (p := p) fb (fi ++ es)
  have inA : ∀ f ∈ fi, Lot p (spn fa) (vec f) := fun f hf => ((e _).mp (.of ⟨f, hf, rfl⟩)).1
  have inB : ∀ f ∈ fi, Lot p (spn fb) (vec f) := fun f hf => ((e _).mp (.of ⟨f, hf, rfl⟩)).2
  have sA : ∀ u, Lot p (spn (fi ++ es)) u ↔ Lot p (spn fa) u := Lot.iff (fun v hv => by
      obtain ⟨f, hf, rfl⟩ := hv
      rcases List.mem_append.mp hf with m | m
      · exact inA f m
      · exact .of ⟨f, a1 f m, rfl⟩) (fun v hv => by
      obtain ⟨f, hf, rfl⟩ := hv
      exact a3 f hf)
  obtain ⟨M1, m1, l1⟩ := FreeOver.pl p1 inv hI a2 fun f hf => ha f (a1 f hf)
  obtain ⟨M2, m2, l2⟩ := FreeOver.pl p1 inv m1 b2 fun f hf => hb f (b1 f hf)
  obtain ⟨M3, m3, l3⟩ := FreeOver.pl p1 inv hI (b2.mono fun f hf => List.mem_append.mpr (.inl hf)) fun f hf => hb f (b1 f hf)
  have k1 := m1.len_eq p1 hA sA
  have k2 := m2.len_eq p1 hS (Lot.iff (fun v hv => by
      obtain ⟨f, hf, rfl⟩ := hv
      rcases List.mem_append.mp hf with m | m
      · exact spn_sub (fun g hg => List.mem_append.mpr (.inl hg)) ((sA _).mp (.of ⟨f, m, rfl⟩))
      · exact .of ⟨f, List.mem_append.mpr (.inr (b1 f m)), rfl⟩) (fun v hv => by
      obtain ⟨f, hf, rfl⟩ := hv
      rcases List.mem_append.mp hf with m | m
      · exact spn_sub (fun g hg => List.mem_append.mpr (.inl hg)) (a3 f m)
      · exact b3 f m))
  have k3 := m3.len_eq p1 hB (Lot.iff (fun v hv => by
      obtain ⟨f, hf, rfl⟩ := hv
      rcases List.mem_append.mp hf with m | m
      · exact inB f m
      · exact .of ⟨f, b1 f m, rfl⟩) (fun v hv => by
      obtain ⟨f, hf, rfl⟩ := hv
      obtain ⟨v, w, hv, hw, ev⟩ := lot_split (b3 f hf)
      have wB : Lot p (spn fb) w := spn_sub b1 hw
      have vB : Lot p (spn fb) v := by
        refine .eqv ((Lot.of (p := p) (R := spn fb) ⟨f, hf, rfl⟩).comb (-1) wB) fun i => ?_
        have k := (ev i).sub (Cg.rfl' (a := w i))
        have e1 : vec f i - w i = vec f i + -1 * w i := by omega
        have e2 : v i + w i - w i = v i := by omega
        rw [e1, e2] at k
        exact k
      have vI := (e v).mpr ⟨(sA v).mp hv, vB⟩
      refine .eqv ((spn_sub (fun g hg => List.mem_append.mpr (.inl hg)) vI).comb 1 (spn_sub (gs := fi ++ ds) (fun g hg => List.mem_append.mpr (.inr hg)) hw)) fun i => ?_
      have k := (ev i).symm
      rw [Int.one_mul]
      exact k))
  omega
end Lin
/-! all sums of multiples of rows that are free of one another -/
namespace Lin
/-- to each of these one multiple of r -/
def allS (p : Int) (acc : List RowP) (r : RowP) : List RowP := acc.flatMap fun a => (List.range p.toNat).map fun k => addP p a (timP p (k : Nat) r)
def allP (p : Int) (acc : List RowP) : List RowP → List RowP
  | [] => acc
  | r :: rs => allP p (allS p acc r) rs
theorem all_snoc {p : Int} {r : RowP} : ∀ (rs : List RowP) (acc : List RowP), allP p acc (rs ++ [r]) = allS p (allP p acc rs) r
  | [], _ => rfl
  | _ :: rs, acc => all_snoc rs _
theorem lot_last {p : Int} {fs : List (List Int)} {f : List Int} {u : Vc} (h : Lot p (spn (fs ++ [f])) u) : ∃ (c : Int) (v : Vc), Lot p (spn fs) v ∧ Eqv p u fun i => v i + c * vec f i := by
  induction h with
  | zero => exact ⟨0, _, .zero, fun i => ⟨0, by simp⟩⟩
  | @add u w c _ hw ih =>
    obtain ⟨d, v, hv, e⟩ := ih
    rcases (spn_snoc).mp hw with hw | rfl
    · refine ⟨d, _, .add c hv hw, fun i => ?_⟩
      obtain ⟨x, hx⟩ := e i
      exact ⟨x, by grind⟩
    · refine ⟨d + c, v, hv, fun i => ?_⟩
      obtain ⟨x, hx⟩ := e i
      exact ⟨x, by grind⟩
  | eqv _ e2 ih =>
    obtain ⟨d, v, hv, e⟩ := ih
    exact ⟨d, v, hv, fun i => (e2 i).symm.trans (e i)⟩
theorem row_eq {p : Int} {m : Nat} {r s : RowP} (p0 : 0 < p) (h1 : InP p r) (h2 : InP p s) (l1 : r.length = m) (l2 : s.length = m) (e : Eqv p (vec (flatR r)) (vec (flatR s))) : r = s :=
  flat_inj (list_eq p0 (by rw [flat_len, flat_len, l1, l2]) (flat_rgP h1) (flat_rgP h2) e)
theorem add_inP {p : Int} (p0 : 0 < p) {r s : RowP} : InP p (addP p r s) := fun u hu => by
  unfold addP at hu
  obtain ⟨i, hi, rfl⟩ := List.mem_iff_getElem.mp hu
  rw [List.getElem_zipWith]
  exact ⟨⟨Int.emod_nonneg _ (by omega), Int.emod_lt_of_pos _ p0⟩, Int.emod_nonneg _ (by omega), Int.emod_lt_of_pos _ p0⟩
/-- each row has a place at which it isn't 0, where all ahead of it are -/
def FreeP (p : Int) (rs : List RowP) : Prop := ∀ i r, rs[i]? = some r → ∃ q, (∀ s ∈ rs.take i, Cg p (vec (flatR s) q) 0) ∧ ¬ Cg p (vec (flatR r) q) 0
structure AllOf (p : Int) (m : Nat) (rs : List RowP) (xs : List RowP) : Prop where
  mem : ∀ x, x ∈ xs ↔ InP p x ∧ x.length = m ∧ Lot p (spn (rs.map flatR)) (vec (flatR x))
  nd : xs.Nodup
  len : xs.length = p.toNat ^ rs.length
theorem cancel {p a b c d : Int} (hc : c * d % p = 1) (h : Cg p (a * d) (b * d)) : Cg p a b := by
  have e : Cg p (c * d) 1 := by
    have := Cg.mod (p := p) (c * d)
    rw [hc] at this
    exact this.symm
  have h2 := (Cg.rfl' (p := p) (a := c)).mul h
  have h3 := (Cg.rfl' (p := p) (a := a)).mul e
  have h4 := (Cg.rfl' (p := p) (a := b)).mul e
  have e1 : c * (a * d) = a * (c * d) := by grind
  have e2 : c * (b * d) = b * (c * d) := by grind
  rw [e1, e2] at h2
  have := h3.symm.trans (h2.trans h4)
  simpa using this
theorem all_step {p : Int} {m : Nat} {rs : List RowP} {xs : List RowP} {r : RowP} (p1 : 1 < p) (inv : ∀ u, 0 < u → u < p → ∃ c, c * u % p = 1) (h : AllOf p m rs xs) (lrs : ∀ s ∈ rs, s.length = m) (lr : r.length = m) {q : Nat} (z : ∀ s ∈ rs, Cg p (vec (flatR s) q) 0) (nz : ¬ Cg p (vec (flatR r) q) 0) : AllOf p m (rs ++ [r]) (allS p xs r) := by
  have p0 : 0 < p := by omega
  have e : (rs ++ [r]).map flatR = rs.map flatR ++ [flatR r] := by rw [List.map_append]; rfl
  have lt : ∀ k : Int, (timP p k r).length = m := fun k => by rw [tim_lenP, lr]
  have va : ∀ (a : RowP) (k : Int), a.length = m → Eqv p (vec (flatR (addP p a (timP p k r)))) fun i => vec (flatR a) i + k * vec (flatR r) i := fun a k la i => (vec_addP (by rw [la, lt]) i).trans (Cg.rfl'.add (vec_timP i))
  have sub : ∀ {v : Vc}, Lot p (spn (rs.map flatR)) v → Lot p (spn (rs.map flatR ++ [flatR r])) v := fun hv => Lot.sub (fun w hw => .of (spn_snoc.mpr (.inl hw))) hv
  have q0 : ∀ x ∈ xs, Cg p (vec (flatR x) q) 0 := fun x hx => ((h.mem x).mp hx).2.2.at0 fun v hv => by
    obtain ⟨f, hf, rfl⟩ := hv
    obtain ⟨s, hs, rfl⟩ := List.mem_map.mp hf
    exact z s hs
  obtain ⟨c, hc⟩ : ∃ c, c * vec (flatR r) q % p = 1 := by
    have a := Int.emod_nonneg (vec (flatR r) q) (b := p) (by omega)
    have b := Int.emod_lt_of_pos (vec (flatR r) q) p0
    have n : vec (flatR r) q % p ≠ 0 := fun e => nz (by
      have := Cg.mod (p := p) (vec (flatR r) q)
      rw [e] at this
      exact this.symm)
    obtain ⟨c, hc⟩ := inv _ (by omega) b
    exact ⟨c, by rw [← hc, Int.mul_emod, Int.mul_emod c (vec (flatR r) q % p), Int.emod_emod]⟩
  have same : ∀ a ∈ xs, ∀ b ∈ xs, ∀ k j : Nat, (k : Int) < p → (j : Int) < p → addP p a (timP p (k : Nat) r) = addP p b (timP p (j : Nat) r) → k = j ∧ a = b := fun a ha b hb k j hk hj eq => by
    obtain ⟨ia, la, _⟩ := (h.mem a).mp ha
    obtain ⟨ib, lb, _⟩ := (h.mem b).mp hb
    have g : ∀ i, Cg p (vec (flatR a) i + (k : Int) * vec (flatR r) i) (vec (flatR b) i + (j : Int) * vec (flatR r) i) := fun i => by
      have x1 := va a k la i
      rw [eq] at x1
      exact x1.symm.trans (va b j lb i)
    have gq := g q
    have g2 : Cg p ((k : Int) * vec (flatR r) q) ((j : Int) * vec (flatR r) q) := by
      have x2 := gq.sub ((q0 a ha).trans (q0 b hb).symm)
      have e1 : vec (flatR a) q + (k : Int) * vec (flatR r) q - vec (flatR a) q = (k : Int) * vec (flatR r) q := by omega
      have e2 : vec (flatR b) q + (j : Int) * vec (flatR r) q - vec (flatR b) q = (j : Int) * vec (flatR r) q := by omega
      rw [e1, e2] at x2
      exact x2
    have ekj : (k : Int) = j := cg_eq ⟨by omega, hk⟩ ⟨by omega, hj⟩ (cancel hc g2)
    have ekj' : k = j := by omega
    refine ⟨ekj', row_eq p0 ia ib la lb fun i => ?_⟩
    have gi := g i
    rw [ekj] at gi
    have x := gi.sub (Cg.rfl' (p := p) (a := (j : Int) * vec (flatR r) i))
    have e1 : ∀ y z : Int, y + z - z = y := fun y z => by omega
    rw [e1, e1] at x
    exact x
  refine ⟨fun x => ?_, ?_, ?_⟩
  · constructor
    · intro hx
      obtain ⟨a, ha, hx⟩ := List.mem_flatMap.mp hx
      obtain ⟨k, hk, rfl⟩ := List.mem_map.mp hx
      obtain ⟨ia, la, ta⟩ := (h.mem a).mp ha
      refine ⟨add_inP p0, by rw [add_lenP (by rw [la, lt]), la], ?_⟩
      rw [e]
      exact .eqv (.add (k : Int) (sub ta) (spn_snoc.mpr (.inr rfl))) fun i => (va a k la i).symm
    · rintro ⟨ix, lx, tx⟩
      rw [e] at tx
      obtain ⟨d, v, hv, ev⟩ := lot_last tx
      have dk0 := Int.emod_nonneg d (b := p) (by omega)
      have dk1 := Int.emod_lt_of_pos d p0
      have ek : ((d % p).toNat : Int) = d % p := Int.toNat_of_nonneg dk0
      have ly : (addP p x (timP p (p - d % p) r)).length = m := by rw [add_lenP (by rw [lx, lt]), lx]
      have cd := Cg.mod (p := p) d
      have my : addP p x (timP p (p - d % p) r) ∈ xs := (h.mem _).mpr ⟨add_inP p0, ly, .eqv hv fun i => by
        refine Cg.symm ((va x (p - d % p) lx i).trans ?_)
        obtain ⟨x1, h1⟩ := ev i
        obtain ⟨x2, h2⟩ := cd
        exact ⟨x1 + vec (flatR r) i - x2 * vec (flatR r) i, by show vec (flatR x) i + (p - d % p) * vec (flatR r) i = _; rw [h1, h2]; grind⟩⟩
      refine List.mem_flatMap.mpr ⟨_, my, List.mem_map.mpr ⟨(d % p).toNat, List.mem_range.mpr (by omega), ?_⟩⟩
      refine row_eq (m := m) p0 (add_inP p0) ix (by rw [add_lenP (by rw [ly, lt]), ly]) lx fun i => ?_
      refine (va _ _ ly i).trans (((va x (p - d % p) lx i).add (Cg.rfl' (a := ((d % p).toNat : Int) * vec (flatR r) i))).trans ?_)
      rw [ek]
      exact ⟨vec (flatR r) i, by grind⟩
  · unfold allS
    show List.Pairwise (· ≠ ·) _
    rw [List.pairwise_flatMap]
    refine ⟨fun a ha => ?_, ?_⟩
    · rw [List.pairwise_map]
      refine List.Pairwise.imp_of_mem (fun {k j} hk hj hkj eq => ?_) List.nodup_range
      exact hkj (same a ha a ha k j (by have := List.mem_range.mp hk; omega) (by have := List.mem_range.mp hj; omega) eq).1
    · refine List.Pairwise.imp_of_mem (fun {a b} ha hb hab x hx y hy eq => ?_) h.nd
      obtain ⟨k, hk, rfl⟩ := List.mem_map.mp hx
      obtain ⟨j, hj, rfl⟩ := List.mem_map.mp hy
      exact hab (same a ha b hb k j (by have := List.mem_range.mp hk; omega) (by have := List.mem_range.mp hj; omega) eq).2
  · have ll : ∀ ys : List RowP, (ys.flatMap fun a => (List.range p.toNat).map fun k => addP p a (timP p (k : Nat) r)).length = ys.length * p.toNat := fun ys => by
      induction ys with
      | nil => simp
      | cons y ys ih =>
        rw [List.flatMap_cons, List.length_append, ih, List.length_map, List.length_range, List.length_cons, Nat.succ_mul]
        omega
    unfold allS
    rw [ll, h.len, List.length_append, List.length_singleton, Nat.pow_succ]
theorem all_nil {p : Int} {m : Nat} (p0 : 0 < p) : AllOf p m [] [List.replicate m ((0 : Int), (0 : Int))] := by
  have i0 : InP p (List.replicate m ((0 : Int), (0 : Int))) := fun u hu => by
    rw [(List.mem_replicate.mp hu).2]
    exact ⟨⟨Int.le_refl 0, p0⟩, Int.le_refl 0, p0⟩
  refine ⟨fun x => ?_, by simp, rfl⟩
  rw [List.mem_singleton]
  constructor
  · rintro rfl
    exact ⟨i0, by simp, .eqv .zero fun i => by rw [vec_noP]; exact Cg.rfl'⟩
  · rintro ⟨ix, lx, tx⟩
    refine row_eq (m := m) p0 ix i0 lx (by simp) fun i => ?_
    rw [vec_noP]
    exact tx.at0 fun v hv => by
      obtain ⟨f, hf, _⟩ := hv
      simp at hf
theorem all_of {p : Int} {m : Nat} {rs : List RowP} (p1 : 1 < p) (inv : ∀ u, 0 < u → u < p → ∃ c, c * u % p = 1) (lrs : ∀ s ∈ rs, s.length = m) (fr : FreeP p rs) : ∀ i, i ≤ rs.length → AllOf p m (rs.take i) (allP p [List.replicate m ((0 : Int), (0 : Int))] (rs.take i))
  | 0, _ => by
    rw [List.take_zero]
    exact all_nil (by omega)
  | i + 1, hi => by
    have ih := all_of p1 inv lrs fr i (by omega)
    have e : rs[i]? = some rs[i] := List.getElem?_eq_getElem hi
    rw [List.take_add_one, e]
    show AllOf p m (rs.take i ++ [rs[i]]) (allP p _ (rs.take i ++ [rs[i]]))
    rw [all_snoc]
    obtain ⟨q, z, nz⟩ := fr i _ e
    exact all_step p1 inv ih (fun s hs => lrs s (List.mem_of_mem_take hs)) (lrs _ (List.getElem_mem hi)) z nz
theorem all_perm {p : Int} {m : Nat} {rs ss : List RowP} (p1 : 1 < p) (inv : ∀ u, 0 < u → u < p → ∃ c, c * u % p = 1) (lr : ∀ s ∈ rs, s.length = m) (ls : ∀ s ∈ ss, s.length = m) (fr : FreeP p rs) (fs : FreeP p ss) (e : ∀ u, Lot p (spn (rs.map flatR)) u ↔ Lot p (spn (ss.map flatR)) u) :
    (allP p [List.replicate m ((0 : Int), (0 : Int))] rs).Perm (allP p [List.replicate m ((0 : Int), (0 : Int))] ss) := by
  have a := all_of p1 inv lr fr rs.length (Nat.le_refl _)
  have b := all_of p1 inv ls fs ss.length (Nat.le_refl _)
  rw [List.take_length] at a b
  refine (List.perm_ext_iff_of_nodup a.nd b.nd).mpr fun x => ?_
  rw [a.mem, b.mem, e]
theorem plain_free {p : Int} {n : Nat} {fs : List (List Int)} {L : List (Nat × List Int)} {rs : List RowP} (p1 : 1 < p) (pl : PL p n fs L) (e : rs.map flatR = L.map (·.2)) : FreeP p rs := fun i r hr => by
  have hi : (L.map (·.2))[i]? = some (flatR r) := by rw [← e, List.getElem?_map, hr]; rfl
  rw [List.getElem?_map] at hi
  obtain ⟨x, hx, ex⟩ := Option.map_eq_some_iff.mp hi
  have mx : (x.1, vec x.2) ∈ vecs L := List.mem_map.mpr ⟨x, List.mem_of_getElem? hx, rfl⟩
  refine ⟨x.1, fun s hs => ?_, fun z => ?_⟩
  · obtain ⟨j, hj⟩ := List.mem_iff_getElem?.mp hs
    have hji : j < i := by
      have := (List.getElem?_eq_some_iff.mp hj).1
      rw [List.length_take] at this
      omega
    rw [List.getElem?_take, if_pos hji] at hj
    have h2 : (L.map (·.2))[j]? = some (flatR s) := by rw [← e, List.getElem?_map, hj]; rfl
    rw [List.getElem?_map] at h2
    obtain ⟨y, hy, ey⟩ := Option.map_eq_some_iff.mp h2
    have my : (y.1, vec y.2) ∈ vecs L := List.mem_map.mpr ⟨y, List.mem_of_getElem? hy, rfl⟩
    have ne : y.1 ≠ x.1 := fun q => by
      have a : (L.map (·.1))[j]? = some y.1 := by rw [List.getElem?_map, hy]; rfl
      have b : (L.map (·.1))[i]? = some x.1 := by rw [List.getElem?_map, hx]; rfl
      rw [q] at a
      have := (List.getElem?_inj (List.getElem?_eq_some_iff.mp a).1 pl.nd).mp (a.trans b.symm)
      omega
    have z := pl.leads.other _ my _ mx ne
    rw [← ey]
    exact z
  · have s := pl.leads.self _ mx
    rw [← ex] at z
    exact one_zero p1 (s.symm.trans z)
theorem units_free {p : Int} {hs : List Int} {gs : List (List Int)} (p1 : 1 < p) : FreeP p (unitsP p hs gs) := fun i r hr => by
  have hi := (List.getElem?_eq_some_iff.mp hr).1
  rw [units_len] at hi
  rw [units_get hi] at hr
  cases hr
  refine ⟨plc hs i, fun s hs' => ?_, fun z => ?_⟩
  · obtain ⟨j, hj⟩ := List.mem_iff_getElem?.mp hs'
    have hji : j < i := by
      have := (List.getElem?_eq_some_iff.mp hj).1
      rw [List.length_take] at this
      omega
    rw [List.getElem?_take, if_pos hji, units_get (by omega)] at hj
    cases hj
    rw [st_held (hs := hs) (k := i) hi, unit_at, if_neg (by omega)]
    exact Cg.rfl'
  · rw [st_held (hs := hs) (k := i) hi, unit_at, if_pos ⟨rfl, hi⟩] at z
    exact one_zero p1 z
end Lin
set_option linter.all false
/-! dicts whose keys are tuples of tuples of whole numbers, by their one object (HO.ext) -/
namespace Kx
open PySem PySem.Spec PyProof.Rows PySem.Calls L2
mutual
/-- the value is such a key -/
inductive NkV (H : Hp) : V → NestedKey → Prop
  | num (i : Int) : NkV H (.int i) (.num i)
  | tup {a : Addr} {vs : List V} {ks : List NestedKey} : H a = some (.tup vs) → NkAll H vs ks → NkV H (.ref a) (.tup ks)
inductive NkAll (H : Hp) : List V → List NestedKey → Prop
  | nil : NkAll H [] []
  | cons {v : V} {k : NestedKey} {vs : List V} {ks : List NestedKey} : NkV H v k → NkAll H vs ks → NkAll H (v :: vs) (k :: ks)
end
mutual
theorem NkV.mono {H H' : Hp} (ht : ∀ b xs, H b = some (.tup xs) → H' b = some (.tup xs)) : ∀ {v : V} (k : NestedKey), NkV H v k → NkV H' v k
  | _, .num i, h => by
    cases h
    exact .num i
  | _, .tup ks, h => by
    cases h with
    | tup e a => exact .tup (ht _ _ e) (NkAll.mono ht ks a)
  | _, .none, h => by cases h
  | _, .text _, h => by cases h
theorem NkAll.mono {H H' : Hp} (ht : ∀ b xs, H b = some (.tup xs) → H' b = some (.tup xs)) : ∀ {vs : List V} (ks : List NestedKey), NkAll H vs ks → NkAll H' vs ks
  | _, [], h => by
    cases h
    exact .nil
  | _, k :: ks, h => by
    cases h with
    | cons a b => exact .cons (NkV.mono ht k a) (NkAll.mono ht ks b)
end
section
variable {P : Program} {w : World} {H : Hp} {h : Heap}
mutual
theorem NkV.is (ok : HOk P w H h) : ∀ {v : V} {u : Value} (k : NestedKey), NkV H v k → RelV v u → NestedIs h k u
  | _, _, .num i, x, r => by
    cases x
    obtain ⟨t, rfl⟩ := r
    exact .int i t
  | _, u, .tup ks, x, r => by
    cases x with
    | @tup a vs _ e al =>
      obtain rfl : u = Value.ref a := r
      obtain ⟨_, its, rv, o, ho, hc, n, hd⟩ := (show ObjOk P w H h a (.tup vs) from ok _ _ e)
      exact .tup ho hc hd (NkAll.is ok ks al rv)
  | _, _, .none, x, r => by cases x
  | _, _, .text _, x, r => by cases x
theorem NkAll.is (ok : HOk P w H h) : ∀ {vs : List V} {us : List Value} (ks : List NestedKey), NkAll H vs ks → Vals vs us → NestedAll h ks us
  | _, _, [], x, r => by
    cases x
    cases r
    exact .nil
  | _, _, k :: ks, x, r => by
    cases x with
    | cons a b =>
      cases r with
      | cons r1 r2 => exact .cons (NkV.is ok k a r1) (NkAll.is ok ks b r2)
end
end
abbrev E3 := NestedKey × Addr × V
/-- a value that bears no token -/
def vOf : V → Value
  | .bl b => .bool b
  | .ref a => .ref a
  | _ => .none
def enc (p : E3) : NestedKey × Addr × Value := (p.1, p.2.1, vOf p.2.2)
structure Xd (P : Program) (w : World) (D : Addr) (o : Obj) (ks : List E3) : Prop where
  sys : (D == sysModules) = false
  ex : o.ExactDict
  few : ks.length ≤ sizeLine
  nd : (ks.map (·.1)).Nodup
  dat : ∃ es ep, o.data = .dict es ep ∧ es.toList = (ks.map enc).map (entryOfKey (nestedKind P w))
  rel : ∀ p ∈ ks, RelV p.2.2 (vOf p.2.2)
def xo (D : Addr) (o : Obj) : HO := .ext fun h => h.get? D = some o
/-- at D a dict of these keys (as they stand at these addresses) and values -/
structure KdAt (P : Program) (w : World) (H : Hp) (D : Addr) (ks : List E3) : Prop where
  ex : ∃ o, H D = some (xo D o) ∧ Xd P w D o ks
  key : ∀ p ∈ ks, NkV H (.ref p.2.1) p.1 ∧ p.1.depth ≤ 8
/-- d[k] = v -/
def putX (ks : List E3) (k : NestedKey) (b : Addr) (v : V) : List E3 := if k ∈ ks.map (·.1) then ks.map fun p => if p.1 = k then (p.1, p.2.1, v) else p else ks ++ [(k, b, v)]
theorem KdAt.mono {P : Program} {w : World} {H H' : Hp} {D : Addr} {ks : List E3} (h : KdAt P w H D ks) (e : ∀ o, H D = some (xo D o) → H' D = some (xo D o)) (ht : ∀ b xs, H b = some (.tup xs) → H' b = some (.tup xs)) : KdAt P w H' D ks :=
  ⟨let ⟨o, a, b⟩ := h.ex; ⟨o, e o a, b⟩, fun p hp => ⟨NkV.mono ht _ (h.key p hp).1, (h.key p hp).2⟩⟩
theorem keys_enc (ks : List E3) : (ks.map enc).map (·.1) = ks.map (·.1) := by
  rw [List.map_map]
  rfl
theorem at_some {k : NestedKey} : ∀ {ks : List E3}, (atKey (ks.map enc) k).isSome = decide (k ∈ ks.map (·.1))
  | [] => by simp [atKey]
  | p :: ks => by
    have ih := at_some (k := k) (ks := ks)
    unfold atKey at ih ⊢
    rw [List.map_cons, List.find?_cons]
    by_cases h : p.1 = k
    · have e : decide ((enc p).1 = k) = true := decide_eq_true h
      rw [e]
      simp [h]
    · have e : decide ((enc p).1 = k) = false := decide_eq_false h
      rw [e]
      dsimp only
      rw [ih]
      have h' : ¬ k = p.1 := fun z => h z.symm
      simp [h']
theorem stored_enc (ks : List E3) (k : NestedKey) (b : Addr) (v : V) : storedH (ks.map enc) k b (vOf v) = (putX ks k b v).map enc := by
  unfold storedH putX
  rw [at_some]
  by_cases h : k ∈ ks.map (·.1)
  · rw [decide_eq_true h, if_pos rfl, if_pos h, List.map_map, List.map_map]
    refine List.map_congr_left fun p _ => ?_
    show putAt k (vOf v) (enc p) = enc _
    unfold putAt
    show (if (enc p).1 = k then _ else _) = enc (if p.1 = k then _ else _)
    by_cases e : p.1 = k
    · have e' : (enc p).1 = k := e
      rw [if_pos e', if_pos e]
      rfl
    · have e' : ¬ (enc p).1 = k := e
      rw [if_neg e', if_neg e]
  · rw [decide_eq_false h, if_neg (by decide), if_neg h, List.map_append]
    rfl
theorem put_length (ks : List E3) (k : NestedKey) (b : Addr) (v : V) : (putX ks k b v).length ≤ ks.length + 1 := by
  unfold putX
  split
  · rw [List.length_map]
    omega
  · rw [List.length_append]
    exact Nat.le_refl _
theorem put_mem {ks : List E3} {k : NestedKey} {b : Addr} {v : V} {p : E3} (h : p ∈ putX ks k b v) : (∃ q ∈ ks, p.1 = q.1 ∧ p.2.1 = q.2.1 ∧ (p.2.2 = q.2.2 ∨ p.2.2 = v)) ∨ p = (k, b, v) := by
  unfold putX at h
  split at h
  · obtain ⟨q, hq, e⟩ := List.mem_map.mp h
    refine .inl ⟨q, hq, ?_⟩
    split at e
    · rw [← e]
      exact ⟨rfl, rfl, .inr rfl⟩
    · rw [← e]
      exact ⟨rfl, rfl, .inl rfl⟩
  · rcases List.mem_append.mp h with h | h
    · exact .inl ⟨p, h, rfl, rfl, .inl rfl⟩
    · exact .inr (List.mem_singleton.mp h)
section
variable {X : Cx} {pins : List (Addr × Obj)} {σ : L2.St} {H : Hp} {s : Shared} {D : Addr} {ks : List E3}
theorem KdAt.obj (I : Inv X pins σ H s) (h : KdAt X.prog X.w H D ks) : ∃ o, s.heap.get? D = some o ∧ H D = some (xo D o) ∧ Xd X.prog X.w D o ks := by
  obtain ⟨o, e, x⟩ := h.ex
  obtain ⟨g, _⟩ := (show ObjOk X.prog X.w H s.heap D (xo D o) from I.hok _ _ e)
  exact ⟨o, g, e, x⟩
theorem KdAt.of (I : Inv X pins σ H s) (h : KdAt X.prog X.w H D ks) : s.heap.DictOfH (nestedKind X.prog X.w) D (ks.map enc) := by
  obtain ⟨o, g, _, x⟩ := h.obj I
  obtain ⟨es, ep, h1, h2⟩ := x.dat
  refine ⟨o, es, ep, g, x.ex, h1, h2, fun q hq => ?_, by rw [keys_enc]; exact x.nd⟩
  obtain ⟨p, hp, rfl⟩ := List.mem_map.mp hq
  exact ⟨NkV.is I.hok _ (h.key p hp).1 rfl, (h.key p hp).2⟩
theorem is_key {b : Addr} {k : NestedKey} (I : Inv X pins σ H s) (h : NkV H (.ref b) k) (d : k.depth ≤ 8) : (nestedKind X.prog X.w).is s.heap k b := ⟨NkV.is I.hok _ h rfl, d⟩
theorem room_in1 {A : Around} (hu : A.units + 64 < cLine) : (nestedKind X.prog X.w).room A.in1 := by
  show A.in1.units + 8 < cLine
  have : A.in1.units ≤ A.units + 1 := by
    show A.units + 1 ≤ A.units + 1
    exact Nat.le_refl _
  omega
end
section
variable {X : Cx}
def rXIn (P : Program) (w : World) : R2 := fun x y H Q => ∃ b k D ks, x = .ref b ∧ y = .ref D ∧ NkV H (.ref b) k ∧ k.depth ≤ 8 ∧ KdAt P w H D ks ∧ Q (.bl (decide (k ∈ ks.map (·.1)))) H
def rXNot (P : Program) (w : World) : R2 := fun x y H Q => ∃ b k D ks, x = .ref b ∧ y = .ref D ∧ NkV H (.ref b) k ∧ k.depth ≤ 8 ∧ KdAt P w H D ks ∧ Q (.bl (!decide (k ∈ ks.map (·.1)))) H
theorem op_xin (hu : X.A.units + 64 < cLine) : OpR X (compareOp .In) (rXIn X.prog X.w) := by
  intro pins s σ H x y v u Q I rx ry h
  obtain ⟨b, k, D, ks, rfl, rfl, hk, hd, kd, q⟩ := h
  cases rx
  cases ry
  obtain ⟨o, _, _, x⟩ := kd.obj I
  refine wpAny_in_heap (room_in1 hu) (is_key I hk hd) x.sys (kd.of I) ?_
  rw [at_some]
  exact ⟨.bl _, H, I.tok _, rfl, q⟩
theorem op_xnot (hu : X.A.units + 64 < cLine) : OpR X (compareOp .NotIn) (rXNot X.prog X.w) := by
  intro pins s σ H x y v u Q I rx ry h
  obtain ⟨b, k, D, ks, rfl, rfl, hk, hd, kd, q⟩ := h
  cases rx
  cases ry
  obtain ⟨o, _, _, x⟩ := kd.obj I
  refine wpAny_notIn_heap (room_in1 hu) (is_key I hk hd) x.sys (kd.of I) ?_
  rw [at_some]
  exact ⟨.bl _, H, I.tok _, rfl, q⟩
def rSetX (P : Program) (w : World) : TSet := fun o i v H Q => ∃ D b k ks, o = .ref D ∧ i = .ref b ∧ NkV H (.ref b) k ∧ k.depth ≤ 8 ∧ KdAt P w H D ks ∧ ks.length < sizeLine ∧ RelV v (vOf v) ∧ (∀ u, RelV v u → u = vOf v) ∧
  ∀ o', KdAt P w (upd H D (xo D o')) D (putX ks k b v) → Q (upd H D (xo D o'))
theorem set_x (hu : X.A.units + 64 < cLine) : PSet X (rSetX X.prog X.w) := by
  intro pins s σ H o i v ov iv u Q I ro ri rv h
  obtain ⟨D, b, k, ks, rfl, rfl, hk, hd, kd, hl, rvv, only, q⟩ := h
  cases (show ov = Value.ref D from ro)
  cases (show iv = Value.ref b from ri)
  cases only u rv
  obtain ⟨o0, g0, e0, x0⟩ := kd.obj I
  have lm : (ks.map enc).length ≤ sizeLine := by rw [List.length_map]; omega
  refine wpAny_setItem_heap (hsz := lm) (room_in1 hu) (is_key I hk hd) (kd.of I) fun h' dd hs => ?_
  rw [stored_enc] at dd
  obtain ⟨o', es, ep, hq, h2, h3, h4, _, h5⟩ := dd
  rw [keys_enc] at h5
  have kd' : KdAt X.prog X.w (upd H D (xo D o')) D (putX ks k b v) := by
    have ht : ∀ c xs, H c = some (.tup xs) → upd H D (xo D o') c = some (.tup xs) := fun c xs e => by
      rw [upd_ne (ne_of e e0 (fun z => nomatch z))]
      exact e
    refine ⟨⟨o', upd_same, x0.sys, h2, Nat.le_trans (put_length ..) hl, h5, ⟨es, ep, h3, h4⟩, fun p hp => ?_⟩, fun p hp => ?_⟩
    · rcases put_mem hp with ⟨r, hr, e1, e2, e3 | e3⟩ | rfl
      · rw [e3]
        exact x0.rel r hr
      · rw [e3]
        exact rvv
      · exact rvv
    · rcases put_mem hp with ⟨r, hr, e1, e2, _⟩ | rfl
      · rw [e1, e2]
        exact ⟨NkV.mono ht _ (kd.key r hr).1, (kd.key r hr).2⟩
      · exact ⟨NkV.mono ht _ hk, hd⟩
  refine ⟨_, d_write (ob := xo D o') I (by rw [e0]; exact True.intro) hs ⟨o', hq⟩ ⟨hq, ⟨o', hq⟩, fun h1 h2 e k => k _ e⟩, q o' kd'⟩
/-- {} to be such a dict -/
def tXNew (P : Program) (w : World) : TE := fun _ H Q => ∀ p o, H p = none → KdAt P w (upd H p (xo p o)) p [] → Q (.ref p) (upd H p (xo p o))
theorem pe_xnew {pos : Pos} : PE X (.Dict [] [] pos) (tXNew X.prog X.w) := ⟨fun pins s σ H Q I h => by
  have hg : (s.heap.push { cls := .type "dict", data := .dict #[] }).get? s.heap.objs.size = some { cls := .type "dict", data := .dict #[] } := Heap.get?_push_size _ rfl
  refine wpAny_Dict_empty ⟨.ref s.heap.objs.size, _, I.laid (a := s.heap.objs.size) (o := xo s.heap.objs.size { cls := .type "dict", data := .dict #[] }) (t' := s.toks) (fun _ _ q => Heap.get?_push_of_some _ q) (Nat.le_refl _) ⟨hg, ⟨_, hg⟩, fun h1 h2 e k => k _ e⟩, rfl, h _ _ (I.hok.fresh (Nat.le_refl _)) ?_⟩
  exact ⟨⟨_, upd_same, beq_eq_false_iff_ne.mpr (Ne.symm (Nat.ne_of_lt I.big)), ⟨rfl, rfl, rfl⟩, Nat.zero_le _, List.nodup_nil, ⟨_, _, rfl, rfl⟩, fun p hp => nomatch hp⟩, fun p hp => nomatch hp⟩⟩
def rLenX (P : Program) (w : World) : List V → Hp → VK → Prop := fun xs H Q => ∃ D ks, xs = [.ref D] ∧ KdAt P w H D ks ∧ Q (.int ((ks.length : Nat) : Int)) H
theorem call_xlen : CallR X (.builtin "len") (rLenX X.prog X.w) := by
  intro pins s σ H xs us Q I r h
  obtain ⟨D, ks, rfl, kd, q⟩ := h
  obtain ⟨u, rfl, rx⟩ := vals1 r
  obtain rfl : u = .ref D := rx
  obtain ⟨o, _, _, x⟩ := kd.obj I
  have hz := x.few
  refine call_len_dictH x.sys (kd.of I) (by rw [List.length_map]; rw [sizeLine_eq] at hz; omega) ?_
  rw [List.length_map]
  exact ⟨.int _, H, I.tok _, ⟨_, rfl⟩, q⟩
end
/-! walks -/
def Itx (P : Program) (w : World) (D : Addr) (o : Obj) (ks : List E3) (f : E3 → V) : It := ⟨fun i H => (H D = some (xo D o) ∧ KdAt P w H D ks) ∧ i < ks.length, fun i H x H' => H' = H ∧ ∃ p, ks[i]? = some p ∧ x = f p, fun i H => (H D = some (xo D o) ∧ KdAt P w H D ks) ∧ ks.length ≤ i⟩
theorem xd_at {X : Cx} {pins : List (Addr × Obj)} {σ : L2.St} {H : Hp} {s : Shared} {D : Addr} {ks : List E3} {o : Obj} (I : Inv X pins σ H s) (e : H D = some (xo D o)) (kd : KdAt X.prog X.w H D ks) :
    ∃ es ep, s.heap.get? D = some o ∧ o.ExactDict ∧ o.data = .dict es ep ∧ (D == sysModules) = false ∧ es.size = ks.length ∧ ∀ (i : Nat) (p : E3), ks[i]? = some p → ∃ en, es[i]? = some en ∧ en.key = .ref p.2.1 ∧ en.val = vOf p.2.2 ∧ RelV p.2.2 (vOf p.2.2) := by
  obtain ⟨o', g, e', x⟩ := kd.obj I
  have g2 : s.heap.get? D = some o := (show ObjOk X.prog X.w H s.heap D (xo D o) from I.hok _ _ e).1
  have eo : o' = o := by
    rw [g] at g2
    exact Option.some.inj g2
  subst eo
  obtain ⟨es, ep, h1, h2⟩ := x.dat
  refine ⟨es, ep, g, x.ex, h1, x.sys, by rw [← Array.length_toList, h2, List.length_map, List.length_map], fun i p hp => ?_⟩
  refine ⟨entryOfKey (nestedKind X.prog X.w) (enc p), ?_, rfl, rfl, x.rel p (List.mem_of_getElem? hp)⟩
  rw [← Array.getElem?_toList, h2, List.getElem?_map, List.getElem?_map, hp]
  rfl
section
variable {P : Program} {w : World} {K : PySem.W.Frag} {tg : Expr} {D : Addr} {o : Obj} {es : Array DictEntry} {ep : Nat} {ks : List E3}
theorem turn_x (it : Addr) (hod : o.data = .dict es ep) : Turn P w K tg (Itx P w D o ks fun p => .ref p.2.1) [it] it (fun i h => h.IsKeyIter it D i ks.length ep) where
  mem := by simp
  obj := fun i h st b hb => by
    have e : b = it := by simpa using hb
    subst e
    obtain ⟨oi, e, c, dd⟩ := st
    exact ⟨oi, e, fun v z => by rw [dd] at z; cases z⟩
  keep := fun i h h' st k => st.at fun oi e => k it (by simp) oi e
  item := by
    intro X hP hw hK hc i pins s σ H E I hf st hg
    subst hP hw hK
    obtain ⟨⟨hd, kd⟩, hi⟩ := hg
    obtain ⟨f0, f1, f2, f3, f4, f5⟩ := hf it (by simp)
    obtain ⟨es', ep', hgd, hx, hdt, hs, hsz, ent⟩ := xd_at I hd kd
    obtain ⟨rfl, rfl⟩ := dict_ep hod hdt
    obtain ⟨p, hkv⟩ : ∃ p, ks[i]? = some p := ⟨ks[i], List.getElem?_eq_getElem hi⟩
    obtain ⟨en, hen, hkey, _⟩ := ent i p hkv
    refine next_key_item st hgd hdt hsz hen fun h' st' sb => ?_
    have I1 : Inv X pins σ H { s with heap := h' } := I.turned (t' := s.toks) (fun b ob hb e => (sb.2 b hb).trans e) f0 f1 f3 f4 f5
    obtain ⟨oi, e, c, dd⟩ := id st'
    exact ⟨en.key, rfl, go_of (s := { s with heap := h' }) e c dd (by decide) ⟨.ref p.2.1, H, I1, hkey, ⟨rfl, p, hkv, rfl⟩, st', fun b hb => (hf b hb).1⟩⟩
  done := by
    intro X hP hw hK hc i pins s σ H E I hf st hg
    subst hP hw hK
    obtain ⟨⟨hd, kd⟩, hi⟩ := hg
    obtain ⟨f0, f1, f2, f3, f4, f5⟩ := hf it (by simp)
    obtain ⟨es', ep', hgd, hx, hdt, hs, hsz, ent⟩ := xd_at I hd kd
    obtain ⟨rfl, rfl⟩ := dict_ep hod hdt
    exact next_key_end (I.ok.hd hc) st hgd hdt hsz hi fun h' eb => ⟨rfl, I.turned (t' := s.toks) (fun b ob hb e => eb b ob hb e) f0 f1 f3 f4 f5⟩
  self := fun A i s Q E st h => wpAny_pyIter_keyiter st h
theorem turn_xv (it : Addr) (hod : o.data = .dict es ep) : Turn P w K tg (Itx P w D o ks fun p => p.2.2) [it] it (fun i h => h.IsValIter it D i ks.length ep) where
  mem := by simp
  obj := fun i h st b hb => by
    have e : b = it := by simpa using hb
    subst e
    obtain ⟨oi, e, c, dd⟩ := st
    exact ⟨oi, e, fun v z => by rw [dd] at z; cases z⟩
  keep := fun i h h' st k => st.at fun oi e => k it (by simp) oi e
  item := by
    intro X hP hw hK hc i pins s σ H E I hf st hg
    subst hP hw hK
    obtain ⟨⟨hd, kd⟩, hi⟩ := hg
    obtain ⟨f0, f1, f2, f3, f4, f5⟩ := hf it (by simp)
    obtain ⟨es', ep', hgd, hx, hdt, hs, hsz, ent⟩ := xd_at I hd kd
    obtain ⟨rfl, rfl⟩ := dict_ep hod hdt
    obtain ⟨p, hkv⟩ : ∃ p, ks[i]? = some p := ⟨ks[i], List.getElem?_eq_getElem hi⟩
    obtain ⟨en, hen, hkey, hval, rel⟩ := ent i p hkv
    rw [← hsz] at st
    have hi2 : i < es'.size := by omega
    refine wpAny_pyNext_values_item_raw st ⟨o, hgd, hx, hdt⟩ hi2 fun h' st' sb => ?_
    have I1 : Inv X pins σ H { s with heap := h' } := I.turned (t' := s.toks) (fun b ob hb e => (sb.2 b hb).trans e) f0 f1 f3 f4 f5
    obtain ⟨oi, e, c, dd⟩ := id st'
    have ee : es'[i] = en := by
      rw [Array.getElem?_eq_getElem hi2] at hen
      exact Option.some.inj hen
    refine ⟨_, rfl, go_of (s := { s with heap := h' }) e c dd (by decide) ⟨p.2.2, H, I1, ?_, ⟨rfl, p, hkv, rfl⟩, ?_, fun b hb => (hf b hb).1⟩⟩
    · rw [ee, hval]
      exact rel
    · show h'.IsValIter it D (i + 1) ks.length _
      rw [← hsz]
      exact st'
  done := by
    intro X hP hw hK hc i pins s σ H E I hf st hg
    subst hP hw hK
    obtain ⟨⟨hd, kd⟩, hi⟩ := hg
    obtain ⟨f0, f1, f2, f3, f4, f5⟩ := hf it (by simp)
    obtain ⟨es', ep', hgd, hx, hdt, hs, hsz, ent⟩ := xd_at I hd kd
    obtain ⟨rfl, rfl⟩ := dict_ep hod hdt
    rw [← hsz] at st
    exact wpAny_pyNext_values_end_raw (I.ok.hd hc) st ⟨o, hgd, hx, hdt⟩ (by omega) fun h' eb => ⟨rfl, I.turned (t' := s.toks) (fun b ob hb e => eb b ob hb e) f0 f1 f3 f4 f5⟩
  self := fun A i s Q E st h => wpAny_pyIter_valiter st h
theorem walk_x {f : E3 → V} : Walk (Itx P w D o ks f) ks.length (fun H => H D = some (xo D o) ∧ KdAt P w H D ks) (fun i H x H' => H' = H ∧ ∃ p, ks[i]? = some p ∧ x = f p) :=
  ⟨fun _ _ hi q => ⟨q, hi⟩, fun _ q => ⟨q, Nat.le_refl _⟩, fun _ _ _ _ _ _ y => y⟩
end
def iX (P : Program) (w : World) (td : TE) : TI := fun σ H R => td σ H fun x H1 => ∃ D ks o, x = .ref D ∧ H1 D = some (xo D o) ∧ KdAt P w H1 D ks ∧ R (Itx P w D o ks fun p => .ref p.2.1) H1
def iXv (P : Program) (w : World) (td : TE) : TI := fun σ H R => td σ H fun x H1 => ∃ D ks o, x = .ref D ∧ H1 D = some (xo D o) ∧ KdAt P w H1 D ks ∧ R (Itx P w D o ks fun p => p.2.2) H1
section
variable {X : Cx} {tg e : Expr} {td : TE} {apos cpos : Pos}
theorem pi_x (he : PE X e td) : PI X tg e (iX X.prog X.w td) := by
  refine ⟨fun pins s σ H R I h => ?_⟩
  refine thn (he.run pins s σ H _ I h) fun u s1 ⟨x, H1, I1, rx, D, ks, o, ex, hd, kd, q⟩ => ?_
  subst ex
  obtain rfl : u = Value.ref D := rx
  obtain ⟨es, ep, hgd, hx, hdt, hs, hsz, ent⟩ := xd_at I1 hd kd
  refine iter_keys hs hgd hx hdt (pi_one (tk := s1.toks) I1 _ (turn_x _ hdt) ⟨_, Heap.get?_push_size _ rfl, rfl, ?_⟩ q)
  rw [hsz] <;> rfl
theorem pi_xvalues (he : PE X e td) (hbase : attributeBase e "values" X.env (eval e X.env) = eval e X.env := by rfl) (hline : (apos.endLine == cpos.line) = true := by rfl) : PI X tg (.Call (.Attribute e "values" apos) [] [] cpos) (iXv X.prog X.w td) := by
  refine ⟨fun pins s σ H R I h => ?_⟩
  refine wpAny_Call_method (T := "dict") (id := "dict.values") hbase rfl hline F.plainAttrs_dict F.slot_dict_values F.type_dict_values (thn (he.run pins s σ H _ I h) fun u s1 ⟨x, H1, I1, rx, D, ks, o, ex, hd, kd, q⟩ => ?_)
  subst ex
  obtain rfl : u = Value.ref D := rx
  obtain ⟨es, ep, hgd, hx, hdt, hs, hsz, ent⟩ := xd_at I1 hd kd
  have raw : s1.heap.DictRaw D es ep := ⟨o, hgd, hx, hdt⟩
  refine ⟨raw.typeIs, fun b eb => by cases eb; exact ⟨o, hgd, hx.2.1⟩, ?_⟩
  have I2 : Inv X pins σ H1 { s1 with heap := s1.heap.push { cls := .type "dict_values", data := .fields #[.ref D] } } := I1.kept (t' := s1.toks) fun b ob q => Heap.get?_push_of_some _ q
  have raw2 : (s1.heap.push { cls := .type "dict_values", data := .fields #[.ref D] }).DictRaw D es ep := raw.at fun ob e => Heap.get?_push_of_some _ e
  have fin : wpAny (model X.prog X.w) X.A (pyIter (.ref s1.heap.objs.size)) (PIE X pins σ tg R) X.xe { s1 with heap := s1.heap.push { cls := .type "dict_values", data := .fields #[.ref D] } } := by
    refine wpAny_pyIter_values_raw (d := D) ⟨_, Heap.get?_push_size _ rfl, rfl, rfl⟩ raw2 (pi_one (tk := s1.toks) I2 _ (turn_xv _ hdt) ⟨_, Heap.get?_push_size _ rfl, rfl, ?_⟩ q)
    rw [hsz] <;> rfl
  show wpAny _ _ (callWith cpos (.builtin "dict.values") [.ref D] [] []) _ X.xe s1
  exact method_meetsIn F.slot_dict_values F.entry_dict_values rfl (PySem.evalArgs_none ⟨rfl, raw.typeIs, F.args_dict_values_1 _, _, meets_dict_values_raw D hs, ⟨es, ep, raw⟩, fin⟩)
end
/-! dict(a list of pairs) -/
def allX (ks : List E3) : List E3 := ks.foldl (fun acc e => putX acc e.1 e.2.1 e.2.2) []
theorem all_enc : ∀ (ks acc : List E3), storedAllH (acc.map enc) (ks.map enc) = (ks.foldl (fun acc e => putX acc e.1 e.2.1 e.2.2) acc).map enc
  | [], _ => rfl
  | e :: ks, acc => by
    have ih := all_enc ks (putX acc e.1 e.2.1 e.2.2)
    rw [List.foldl_cons, ← ih, ← stored_enc]
    rfl
theorem all_len : ∀ (ks acc : List E3), (ks.foldl (fun acc e => putX acc e.1 e.2.1 e.2.2) acc).length ≤ acc.length + ks.length
  | [], _ => Nat.le_refl _
  | e :: ks, acc => by
    have ih := all_len ks (putX acc e.1 e.2.1 e.2.2)
    have := put_length acc e.1 e.2.1 e.2.2
    rw [List.foldl_cons, List.length_cons]
    omega
theorem all_mem : ∀ (ks acc : List E3) (p : E3), p ∈ ks.foldl (fun acc e => putX acc e.1 e.2.1 e.2.2) acc → (∃ q, (q ∈ acc ∨ q ∈ ks) ∧ p.1 = q.1 ∧ p.2.1 = q.2.1) ∧ ∃ q, (q ∈ acc ∨ q ∈ ks) ∧ p.2.2 = q.2.2
  | [], _, p, h => ⟨⟨p, .inl h, rfl, rfl⟩, p, .inl h, rfl⟩
  | e :: ks, acc, p, h => by
    obtain ⟨⟨q, hq, e1, e2⟩, r, hr, e3⟩ := all_mem ks _ p h
    constructor
    · rcases hq with hq | hq
      · rcases put_mem hq with ⟨z, hz, f1, f2, _⟩ | f
        · exact ⟨z, .inl hz, e1.trans f1, e2.trans f2⟩
        · rw [f] at e1 e2
          exact ⟨e, .inr (List.mem_cons_self ..), e1, e2⟩
      · exact ⟨q, .inr (List.mem_cons_of_mem _ hq), e1, e2⟩
    · rcases hr with hr | hr
      · rcases put_mem hr with ⟨z, hz, f1, f2, f3 | f3⟩ | f
        · exact ⟨z, .inl hz, e3.trans f3⟩
        · exact ⟨e, .inr (List.mem_cons_self ..), e3.trans f3⟩
        · rw [f] at e3
          exact ⟨e, .inr (List.mem_cons_self ..), e3⟩
      · exact ⟨r, .inr (List.mem_cons_of_mem _ hr), e3⟩
section
variable {X : Cx}
def rDictX (P : Program) (w : World) (K : PySem.W.Frag) : List V → Hp → VK → Prop := fun xs H Q => ∃ (a : Addr) (ts : List Addr) (ks : List E3), xs = [.ref a] ∧ SqL K H a (ts.map V.ref) ∧ ts.length = ks.length ∧
  (∀ (i : Nat) (t : Addr) (e : E3), ts[i]? = some t → ks[i]? = some e → H t = some (.tup [.ref e.2.1, e.2.2]) ∧ NkV H (.ref e.2.1) e.1 ∧ e.1.depth ≤ 8 ∧ RelV e.2.2 (vOf e.2.2) ∧ ∀ u, RelV e.2.2 u → u = vOf e.2.2) ∧
  ∀ p o, H p = none → KdAt P w (upd H p (xo p o)) p (allX ks) → Q (.ref p) (upd H p (xo p o))
theorem call_xdict (hcalm : X.calm = true) (hu : X.A.units + 64 < cLine) : CallR X (.type "dict") (rDictX X.prog X.w X.K) := by
  intro pins s σ H xs us Q I r h
  obtain ⟨a, ts, ks, rfl, hq, hl, hp, q⟩ := h
  obtain ⟨u, rfl, rx⟩ := vals1 r
  cases rx
  obtain ⟨its, rv, pl, hz⟩ := I.list hq
  have ei := refs_at rv
  subst ei
  rw [List.length_map] at hz
  have at_ : ∀ (i : Nat) (e : E3), ks[i]? = some e → ∃ t, ts[i]? = some t := fun i e he => by
    have hi := (List.getElem?_eq_some_iff.mp he).1
    exact ⟨ts[i]'(by omega), List.getElem?_eq_getElem (by omega)⟩
  have PA := PairArg.list (prog := X.prog) (w := X.w) a (ts.map Value.ref).toArray (fun j => ts.getD j 0) (ks.map fun e => ((Value.ref e.2.1 : Value), vOf e.2.2))
  refine call_dict_pairsH (knd := nestedKind X.prog X.w) (ps := ks.map enc) PA (I.ok.hd hcalm) ?_ ?_ ⟨by rw [List.length_map, List.length_map], fun i key v e => ?_⟩ (fun h' hk x hx => ?_) (by rw [List.length_map]; omega) fun h' tk hd' hk => ?_
  · show X.A.in1.in1.units + 8 < cLine
    have : X.A.in1.in1.units = X.A.units + 1 + 1 := rfl
    omega
  · obtain ⟨o, n, ho, hc, hd, hdat⟩ := pl
    refine ⟨⟨o, n, ho, hc, hd, hdat⟩, by rw [List.size_toArray, List.length_map, List.length_map, hl], fun j k v e => ?_⟩
    rw [List.getElem?_map] at e
    obtain ⟨e0, he, ee⟩ := Option.map_eq_some_iff.mp e
    cases ee
    obtain ⟨t, ht⟩ := at_ j e0 he
    obtain ⟨h1, h2, h3, h4, h5⟩ := hp j t e0 ht he
    have eT : ts.getD j 0 = t := by rw [List.getD_eq_getElem?_getD, ht]; rfl
    dsimp only
    rw [eT]
    refine ⟨by simp [ht], .inl ?_⟩
    obtain ⟨its, rv2, it, _⟩ := I.tuple (SqT.of h1)
    obtain ⟨u, y, ei, ru, ry⟩ := vals2 rv2
    subst ei
    cases (show u = Value.ref e0.2.1 from ru)
    cases h5 y ry
    exact it
  · obtain ⟨e0, he, ee⟩ : ∃ e0, ks[i]? = some e0 ∧ ((Value.ref e0.2.1 : Value), vOf e0.2.2) = (key, v) := by
      have e' : (ks.map fun e => ((Value.ref e.2.1 : Value), vOf e.2.2))[i]? = some (key, v) := e
      rw [List.getElem?_map] at e'
      exact Option.map_eq_some_iff.mp e'
    cases ee
    exact ⟨e0.1, e0.2.1, by rw [List.getElem?_map, he]; rfl, rfl⟩
  · obtain ⟨e, he, rfl⟩ := List.mem_map.mp hx
    obtain ⟨i, hi⟩ := List.mem_iff_getElem?.mp he
    obtain ⟨t, ht⟩ := at_ i e hi
    obtain ⟨h1, h2, h3, h4, h5⟩ := hp i t e ht hi
    exact nestedKind_stays.stays (fun b o vs n eb _ => hk b o (Nat.ne_of_lt (Heap.lt_size eb)) (by simp) eb) (is_key I h2 h3)
  · have ea := all_enc ks []
    rw [List.map_nil] at ea
    rw [ea] at hd'
    obtain ⟨o, es, ep, g, h2, h3, h4, _, h5⟩ := hd'
    rw [keys_enc] at h5
    have hn : H s.heap.objs.size = none := I.hok.fresh (Nat.le_refl _)
    have ht : ∀ c xs, H c = some (.tup xs) → upd H s.heap.objs.size (xo s.heap.objs.size o) c = some (.tup xs) := fun c xs e => by
      rw [upd_ne (ne_of_none e hn)]
      exact e
    refine ⟨.ref s.heap.objs.size, upd H s.heap.objs.size (xo s.heap.objs.size o), I.laid (t' := tk) (fun b ob e => hk b ob (by simp) e) (Nat.le_refl _) ⟨g, ⟨o, g⟩, fun h1 h2 e k => k _ e⟩, rfl, q _ o hn ?_⟩
    refine ⟨⟨o, upd_same, beq_eq_false_iff_ne.mpr (Ne.symm (Nat.ne_of_lt I.big)), h2, ?_, h5, ⟨es, ep, h3, h4⟩, fun p hp' => ?_⟩, fun p hp' => ?_⟩
    · have := all_len ks []
      rw [List.length_nil] at this
      exact Nat.le_trans this (by omega)
    · obtain ⟨_, z, hz, e3⟩ := all_mem ks [] p hp'
      rcases hz with hz | hz
      · cases hz
      · obtain ⟨i, hi⟩ := List.mem_iff_getElem?.mp hz
        obtain ⟨t, ht'⟩ := at_ i z hi
        rw [e3]
        exact (hp i t z ht' hi).2.2.2.1
    · obtain ⟨⟨z, hz, e1, e2⟩, _⟩ := all_mem ks [] p hp'
      rcases hz with hz | hz
      · cases hz
      · obtain ⟨i, hi⟩ := List.mem_iff_getElem?.mp hz
        obtain ⟨t, ht'⟩ := at_ i z hi
        rw [e1, e2]
        exact ⟨NkV.mono ht _ (hp i t z ht' hi).2.1, (hp i t z ht' hi).2.2.1⟩
end
end Kx
namespace Kp
open PySem L2
def top (i : Nat) : Stmt := PySem.Challenge.pw_fairposts_k18_whole_small_spaces.main.body.getD i (.Pass ⟨0, 0, 0, 0⟩)
abbrev s_inverse : Stmt := top 1
def N_inverse : List Str := ["p", "number", "worth", "step"]
theorem sc_inverse : FnScope ["p", "number", "worth", "step"] ["p", "number"] (defScope s_inverse) := ⟨rfl, rfl, rfl, by decide +kernel, rfl, by decide +kernel, by decide +kernel⟩
abbrev s_flat_of : Stmt := top 3
def N_flat_of : List Str := ["row", "pair", "number"]
theorem sc_flat_of : FnScope ["row", "pair", "number"] ["row"] (defScope s_flat_of) := ⟨rfl, rfl, rfl, by decide +kernel, rfl, by decide +kernel, by decide +kernel⟩
abbrev s_row_of : Stmt := top 4
def N_row_of : List Str := ["flat", "place"]
theorem sc_row_of : FnScope ["flat", "place"] ["flat"] (defScope s_row_of) := ⟨rfl, rfl, rfl, by decide +kernel, rfl, by decide +kernel, by decide +kernel⟩
abbrev s_first_place : Stmt := top 5
def N_first_place : List Str := ["flat", "place", "number"]
theorem sc_first_place : FnScope ["flat", "place", "number"] ["flat"] (defScope s_first_place) := ⟨rfl, rfl, rfl, by decide +kernel, rfl, by decide +kernel, by decide +kernel⟩
abbrev s_lessened : Stmt := top 6
def N_lessened : List Str := ["p", "flat", "number", "other", "mine", "its"]
theorem sc_lessened : FnScope ["p", "flat", "number", "other", "mine", "its"] ["p", "flat", "number", "other"] (defScope s_lessened) := ⟨rfl, rfl, rfl, by decide +kernel, rfl, by decide +kernel, by decide +kernel⟩
abbrev s_cleared : Stmt := top 7
def N_cleared : List Str := ["p", "flat", "leads", "place"]
theorem sc_cleared : FnScope ["p", "flat", "leads", "place"] ["p", "flat", "leads"] (defScope s_cleared) := ⟨rfl, rfl, rfl, by decide +kernel, rfl, by decide +kernel, by decide +kernel⟩
abbrev s_leads_of : Stmt := top 8
def N_leads_of : List Str := ["p", "flats", "leads", "flat", "rest", "first", "scale", "lead", "place", "number"]
theorem sc_leads_of : FnScope ["p", "flats", "leads", "flat", "rest", "first", "scale", "lead", "place", "number"] ["p", "flats"] (defScope s_leads_of) := ⟨rfl, rfl, rfl, by decide +kernel, rfl, by decide +kernel, by decide +kernel⟩
abbrev s_row_leads : Stmt := top 9
def N_row_leads : List Str := ["p", "rows", "row"]
theorem sc_row_leads : FnScope ["p", "rows", "row"] ["p", "rows"] (defScope s_row_leads) := ⟨rfl, rfl, rfl, by decide +kernel, rfl, by decide +kernel, by decide +kernel⟩
abbrev s_plain : Stmt := top 10
def N_plain : List Str := ["p", "posts", "rows", "leads", "place"]
theorem sc_plain : FnScope ["p", "posts", "rows", "leads", "place"] ["p", "posts", "rows"] (defScope s_plain) := ⟨rfl, rfl, rfl, by decide +kernel, rfl, by decide +kernel, by decide +kernel⟩
abbrev s_crossed : Stmt := top 11
def N_crossed : List Str := ["p", "row", "push", "answer"]
theorem sc_crossed : FnScope ["p", "row", "push", "answer"] ["p", "row"] (defScope s_crossed) := ⟨rfl, rfl, rfl, by decide +kernel, rfl, by decide +kernel, by decide +kernel⟩
abbrev s_mirror : Stmt := top 12
def N_mirror : List Str := ["p", "posts", "rows", "leads", "found", "free", "flat", "place", "row"]
theorem sc_mirror : FnScope ["p", "posts", "rows", "leads", "found", "free", "flat", "place", "row"] ["p", "posts", "rows"] (defScope s_mirror) := ⟨rfl, rfl, rfl, by decide +kernel, rfl, by decide +kernel, by decide +kernel⟩
abbrev s_is_in : Stmt := top 13
def N_is_in : List Str := ["p", "posts", "rows", "row"]
theorem sc_is_in : FnScope ["p", "posts", "rows", "row"] ["p", "posts", "rows", "row"] (defScope s_is_in) := ⟨rfl, rfl, rfl, by decide +kernel, rfl, by decide +kernel, by decide +kernel⟩
abbrev s__law_deck : Stmt := top 15
def N__law_deck : List Str := ["_law_script", "_law_cells", "_law_cell"]
theorem sc__law_deck : FnScope ["_law_script", "_law_cells", "_law_cell"] ["_law_script"] (defScope s__law_deck) := ⟨rfl, rfl, rfl, by decide +kernel, rfl, by decide +kernel, by decide +kernel⟩
abbrev s__law_next : Stmt := top 16
def N__law_next : List Str := ["_law_deck_here", "_law_many", "_law_cell", "_law_mixed", "_law_rest"]
theorem sc__law_next : FnScope ["_law_deck_here", "_law_many", "_law_cell", "_law_mixed", "_law_rest"] ["_law_deck_here", "_law_many"] (defScope s__law_next) := ⟨rfl, rfl, rfl, by decide +kernel, rfl, by decide +kernel, by decide +kernel⟩
abbrev s__law_prime : Stmt := top 17
def N__law_prime : List Str := ["_law_deck_here"]
theorem sc__law_prime : FnScope ["_law_deck_here"] ["_law_deck_here"] (defScope s__law_prime) := ⟨rfl, rfl, rfl, by decide +kernel, rfl, by decide +kernel, by decide +kernel⟩
abbrev s__law_numbers : Stmt := top 18
def N__law_numbers : List Str := ["_law_deck_here", "_law_p", "_law_many", "_law_k"]
theorem sc__law_numbers : FnScope ["_law_deck_here", "_law_p", "_law_many", "_law_k"] ["_law_deck_here", "_law_p", "_law_many"] (defScope s__law_numbers) := ⟨rfl, rfl, rfl, by decide +kernel, rfl, by decide +kernel, by decide +kernel⟩
abbrev s__law_added : Stmt := top 20
def N__law_added : List Str := ["_law_p", "_law_one", "_law_other", "_law_x", "_law_y", "_law_right", "_law_down"]
theorem sc__law_added : FnScope ["_law_p", "_law_one", "_law_other", "_law_x", "_law_y", "_law_right", "_law_down"] ["_law_p", "_law_one", "_law_other"] (defScope s__law_added) := ⟨rfl, rfl, rfl, by decide +kernel, rfl, by decide +kernel, by decide +kernel⟩
abbrev s__law_times : Stmt := top 21
def N__law_times : List Str := ["_law_p", "_law_number", "_law_row_here", "_law_x", "_law_y"]
theorem sc__law_times : FnScope ["_law_p", "_law_number", "_law_row_here", "_law_x", "_law_y"] ["_law_p", "_law_number", "_law_row_here"] (defScope s__law_times) := ⟨rfl, rfl, rfl, by decide +kernel, rfl, by decide +kernel, by decide +kernel⟩
abbrev s__law_sum : Stmt := top 22
def N__law_sum : List Str := ["_law_p", "_law_posts", "_law_numbers_here", "_law_rows", "_law_found", "_law_number", "_law_row_here"]
theorem sc__law_sum : FnScope ["_law_p", "_law_posts", "_law_numbers_here", "_law_rows", "_law_found", "_law_number", "_law_row_here"] ["_law_p", "_law_posts", "_law_numbers_here", "_law_rows"] (defScope s__law_sum) := ⟨rfl, rfl, rfl, by decide +kernel, rfl, by decide +kernel, by decide +kernel⟩
abbrev s__law_stirred : Stmt := top 23
def N__law_stirred : List Str := ["_law_deck_here", "_law_p", "_law_posts", "_law_rows", "_law_found", "_law_turn", "_law_k", "_law_j"]
theorem sc__law_stirred : FnScope ["_law_deck_here", "_law_p", "_law_posts", "_law_rows", "_law_found", "_law_turn", "_law_k", "_law_j"] ["_law_deck_here", "_law_p", "_law_posts", "_law_rows"] (defScope s__law_stirred) := ⟨rfl, rfl, rfl, by decide +kernel, rfl, by decide +kernel, by decide +kernel⟩
abbrev s__law_plain_set : Stmt := top 25
def N__law_plain_set : List Str := ["_law_deck_here", "_law_p", "_law_posts", "_law_most", "_law_pool", "_law_many", "_law_places", "_law_found", "_law_place", "_law_numbers_here", "_law_other", "_law_k"]
theorem sc__law_plain_set : FnScope ["_law_deck_here", "_law_p", "_law_posts", "_law_most", "_law_pool", "_law_many", "_law_places", "_law_found", "_law_place", "_law_numbers_here", "_law_other", "_law_k"] ["_law_deck_here", "_law_p", "_law_posts", "_law_most"] (defScope s__law_plain_set) := ⟨rfl, rfl, rfl, by decide +kernel, rfl, by decide +kernel, by decide +kernel⟩
abbrev s__law_spanning : Stmt := top 26
def N__law_spanning : List Str := ["_law_deck_here", "_law_p", "_law_posts", "_law_rows", "_law_found", "_law_turn", "_law_more"]
theorem sc__law_spanning : FnScope ["_law_deck_here", "_law_p", "_law_posts", "_law_rows", "_law_found", "_law_turn", "_law_more"] ["_law_deck_here", "_law_p", "_law_posts", "_law_rows"] (defScope s__law_spanning) := ⟨rfl, rfl, rfl, by decide +kernel, rfl, by decide +kernel, by decide +kernel⟩
abbrev s__law_meet : Stmt := top 27
def N__law_meet : List Str := ["_law_p", "_law_one", "_law_other", "_law_x", "_law_y", "_law_right", "_law_down"]
theorem sc__law_meet : FnScope ["_law_p", "_law_one", "_law_other", "_law_x", "_law_y", "_law_right", "_law_down"] ["_law_p", "_law_one", "_law_other"] (defScope s__law_meet) := ⟨rfl, rfl, rfl, by decide +kernel, rfl, by decide +kernel, by decide +kernel⟩
abbrev s__law_all : Stmt := top 28
def N__law_all : List Str := ["_law_p", "_law_posts", "_law_rows", "_law_found", "_law_row_here", "_law_some", "_law_more", "_law_one", "_law_k", "_law_other"]
theorem sc__law_all : FnScope ["_law_p", "_law_posts", "_law_rows", "_law_found", "_law_row_here", "_law_some", "_law_more", "_law_one", "_law_k", "_law_other"] ["_law_p", "_law_posts", "_law_rows"] (defScope s__law_all) := ⟨rfl, rfl, rfl, by decide +kernel, rfl, by decide +kernel, by decide +kernel⟩
abbrev s__law_power : Stmt := top 29
def N__law_power : List Str := ["_law_number", "_law_many", "_law_found", "_law_turn"]
theorem sc__law_power : FnScope ["_law_number", "_law_many", "_law_found", "_law_turn"] ["_law_number", "_law_many"] (defScope s__law_power) := ⟨rfl, rfl, rfl, by decide +kernel, rfl, by decide +kernel, by decide +kernel⟩
abbrev s__law_figures : Stmt := top 30
def N__law_figures : List Str := ["_law_p", "_law_many", "_law_number", "_law_found", "_law_turn"]
theorem sc__law_figures : FnScope ["_law_p", "_law_many", "_law_number", "_law_found", "_law_turn"] ["_law_p", "_law_many", "_law_number"] (defScope s__law_figures) := ⟨rfl, rfl, rfl, by decide +kernel, rfl, by decide +kernel, by decide +kernel⟩
abbrev s__law_truth : Stmt := top 31
def N__law_truth : List Str := ["_law_found", "_law_due"]
theorem sc__law_truth : FnScope ["_law_found", "_law_due"] ["_law_found", "_law_due"] (defScope s__law_truth) := ⟨rfl, rfl, rfl, by decide +kernel, rfl, by decide +kernel, by decide +kernel⟩
abbrev s__law_every_row : Stmt := top 32
def N__law_every_row : List Str := ["_law_p", "_law_posts", "_law_found", "_law_number", "_law_numbers_here"]
theorem sc__law_every_row : FnScope ["_law_p", "_law_posts", "_law_found", "_law_number", "_law_numbers_here"] ["_law_p", "_law_posts"] (defScope s__law_every_row) := ⟨rfl, rfl, rfl, by decide +kernel, rfl, by decide +kernel, by decide +kernel⟩
abbrev s_law : Stmt := top 33
def N_law : List Str := ["_law_script", "_law_deck_here", "_law_turn", "_law_p", "_law_posts", "_law_rows", "_law_sums", "_law_others", "_law_row_here", "_law_places", "_law_some", "_law_meets", "_law_one"]
theorem sc_law : FnScope ["_law_script", "_law_deck_here", "_law_turn", "_law_p", "_law_posts", "_law_rows", "_law_sums", "_law_others", "_law_row_here", "_law_places", "_law_some", "_law_meets", "_law_one"] ["_law_script"] (defScope s_law) := ⟨rfl, rfl, rfl, by decide +kernel, rfl, by decide +kernel, by decide +kernel⟩
structure Df (K : PySem.W.Frag) (mg : Str → Option Value) (x : Str) (st : Stmt) (ps : List Str) (f : Addr) (fd : FuncData) : Prop where
  F : Fun K x x st f fd
  b : Binds K fd ps []
  g : mg x = some (.ref f)
structure Ad where
  f_inverse : Addr
  d_inverse : FuncData
  f_flat_of : Addr
  d_flat_of : FuncData
  f_row_of : Addr
  d_row_of : FuncData
  f_first_place : Addr
  d_first_place : FuncData
  f_lessened : Addr
  d_lessened : FuncData
  f_cleared : Addr
  d_cleared : FuncData
  f_leads_of : Addr
  d_leads_of : FuncData
  f_row_leads : Addr
  d_row_leads : FuncData
  f_plain : Addr
  d_plain : FuncData
  f_crossed : Addr
  d_crossed : FuncData
  f_mirror : Addr
  d_mirror : FuncData
  f_is_in : Addr
  d_is_in : FuncData
  f__law_deck : Addr
  d__law_deck : FuncData
  f__law_next : Addr
  d__law_next : FuncData
  f__law_prime : Addr
  d__law_prime : FuncData
  f__law_numbers : Addr
  d__law_numbers : FuncData
  f__law_added : Addr
  d__law_added : FuncData
  f__law_times : Addr
  d__law_times : FuncData
  f__law_sum : Addr
  d__law_sum : FuncData
  f__law_stirred : Addr
  d__law_stirred : FuncData
  f__law_plain_set : Addr
  d__law_plain_set : FuncData
  f__law_spanning : Addr
  d__law_spanning : FuncData
  f__law_meet : Addr
  d__law_meet : FuncData
  f__law_all : Addr
  d__law_all : FuncData
  f__law_power : Addr
  d__law_power : FuncData
  f__law_figures : Addr
  d__law_figures : FuncData
  f__law_truth : Addr
  d__law_truth : FuncData
  f__law_every_row : Addr
  d__law_every_row : FuncData
  f_law : Addr
  d_law : FuncData
structure Tx (K : PySem.W.Frag) (mg : Str → Option Value) (A : Ad) : Prop where
  d_inverse : Df K mg "inverse" s_inverse ["p", "number"] A.f_inverse A.d_inverse
  d_flat_of : Df K mg "flat_of" s_flat_of ["row"] A.f_flat_of A.d_flat_of
  d_row_of : Df K mg "row_of" s_row_of ["flat"] A.f_row_of A.d_row_of
  d_first_place : Df K mg "first_place" s_first_place ["flat"] A.f_first_place A.d_first_place
  d_lessened : Df K mg "lessened" s_lessened ["p", "flat", "number", "other"] A.f_lessened A.d_lessened
  d_cleared : Df K mg "cleared" s_cleared ["p", "flat", "leads"] A.f_cleared A.d_cleared
  d_leads_of : Df K mg "leads_of" s_leads_of ["p", "flats"] A.f_leads_of A.d_leads_of
  d_row_leads : Df K mg "row_leads" s_row_leads ["p", "rows"] A.f_row_leads A.d_row_leads
  d_plain : Df K mg "plain" s_plain ["p", "posts", "rows"] A.f_plain A.d_plain
  d_crossed : Df K mg "crossed" s_crossed ["p", "row"] A.f_crossed A.d_crossed
  d_mirror : Df K mg "mirror" s_mirror ["p", "posts", "rows"] A.f_mirror A.d_mirror
  d_is_in : Df K mg "is_in" s_is_in ["p", "posts", "rows", "row"] A.f_is_in A.d_is_in
  d__law_deck : Df K mg "_law_deck" s__law_deck ["_law_script"] A.f__law_deck A.d__law_deck
  d__law_next : Df K mg "_law_next" s__law_next ["_law_deck_here", "_law_many"] A.f__law_next A.d__law_next
  d__law_prime : Df K mg "_law_prime" s__law_prime ["_law_deck_here"] A.f__law_prime A.d__law_prime
  d__law_numbers : Df K mg "_law_numbers" s__law_numbers ["_law_deck_here", "_law_p", "_law_many"] A.f__law_numbers A.d__law_numbers
  d__law_added : Df K mg "_law_added" s__law_added ["_law_p", "_law_one", "_law_other"] A.f__law_added A.d__law_added
  d__law_times : Df K mg "_law_times" s__law_times ["_law_p", "_law_number", "_law_row_here"] A.f__law_times A.d__law_times
  d__law_sum : Df K mg "_law_sum" s__law_sum ["_law_p", "_law_posts", "_law_numbers_here", "_law_rows"] A.f__law_sum A.d__law_sum
  d__law_stirred : Df K mg "_law_stirred" s__law_stirred ["_law_deck_here", "_law_p", "_law_posts", "_law_rows"] A.f__law_stirred A.d__law_stirred
  d__law_plain_set : Df K mg "_law_plain_set" s__law_plain_set ["_law_deck_here", "_law_p", "_law_posts", "_law_most"] A.f__law_plain_set A.d__law_plain_set
  d__law_spanning : Df K mg "_law_spanning" s__law_spanning ["_law_deck_here", "_law_p", "_law_posts", "_law_rows"] A.f__law_spanning A.d__law_spanning
  d__law_meet : Df K mg "_law_meet" s__law_meet ["_law_p", "_law_one", "_law_other"] A.f__law_meet A.d__law_meet
  d__law_all : Df K mg "_law_all" s__law_all ["_law_p", "_law_posts", "_law_rows"] A.f__law_all A.d__law_all
  d__law_power : Df K mg "_law_power" s__law_power ["_law_number", "_law_many"] A.f__law_power A.d__law_power
  d__law_figures : Df K mg "_law_figures" s__law_figures ["_law_p", "_law_many", "_law_number"] A.f__law_figures A.d__law_figures
  d__law_truth : Df K mg "_law_truth" s__law_truth ["_law_found", "_law_due"] A.f__law_truth A.d__law_truth
  d__law_every_row : Df K mg "_law_every_row" s__law_every_row ["_law_p", "_law_posts"] A.f__law_every_row A.d__law_every_row
  d_law : Df K mg "law" s_law ["_law_script"] A.f_law A.d_law
  b_abs : mg "abs" = none
  b_bool : mg "bool" = none
  b_dict : mg "dict" = none
  b_enumerate : mg "enumerate" = none
  b_int : mg "int" = none
  b_isinstance : mg "isinstance" = none
  b_len : mg "len" = none
  b_list : mg "list" = none
  b_min : mg "min" = none
  b_range : mg "range" = none
  b_sorted : mg "sorted" = none
  b_sum : mg "sum" = none
  b_tuple : mg "tuple" = none
  b_zip : mg "zip" = none
/-! ### heaps -/
theorem same_upd {H : Hp} {p : Addr} {o : HO} (h : H p = none) : Same H (upd H p o) := fun b x e => by
  rw [upd_ne (ne_of_none e h)]
  exact e
/-- all but the deck's two lists that change stays -/
def Fr (d g : Addr) (H H' : Hp) : Prop := ∀ a o, a ≠ d → a ≠ g → H a = some o → H' a = some o
theorem Fr.refl (d g : Addr) (H : Hp) : Fr d g H H := fun _ _ _ _ h => h
theorem Fr.trans {d g : Addr} {H H1 H2 : Hp} (x : Fr d g H H1) (y : Fr d g H1 H2) : Fr d g H H2 := fun a o hd hg h => y a o hd hg (x a o hd hg h)
theorem Fr.of_same {d g : Addr} {H H1 : Hp} (x : Same H H1) : Fr d g H H1 := fun a o _ _ h => x a o h
theorem Fr.new {d g : Addr} {H : Hp} {p : Addr} {o : HO} (h : H p = none) : Fr d g H (upd H p o) := .of_same (same_upd h)
theorem Fr.atd {d g : Addr} {H : Hp} {o : HO} : Fr d g H (upd H d o) := fun a x hd _ h => by
  rw [upd_ne hd]
  exact h
theorem Fr.atg {d g : Addr} {H : Hp} {o : HO} : Fr d g H (upd H g o) := fun a x _ hg h => by
  rw [upd_ne hg]
  exact h
/-- the deck: a list of great cells, of cells, and a count that is at most k -/
structure Dk (d g c : Addr) (k : Int) (H : Hp) : Prop where
  ex : ∃ (gs cs : List Int) (n : Int), H d = some (.lst [.ref g, .ref c, .int n]) ∧ H g = some (.lst (gs.map V.int)) ∧ H c = some (.lst (cs.map V.int)) ∧ 0 < cs.length ∧ cs.length ≤ 100 ∧ 0 ≤ n ∧ n ≤ k
  dg : d ≠ g
  dc : d ≠ c
  gc : g ≠ c
theorem Dk.mono {d g c : Addr} {k j : Int} {H : Hp} (D : Dk d g c k H) (h : k ≤ j) : Dk d g c j H := by
  obtain ⟨gs, cs, n, h1, h2, h3, h4, h5, h6, h7⟩ := D.ex
  exact ⟨⟨gs, cs, n, h1, h2, h3, h4, h5, h6, by omega⟩, D.dg, D.dc, D.gc⟩
theorem Dk.same {d g c : Addr} {k : Int} {H H' : Hp} (D : Dk d g c k H) (s : Same H H') : Dk d g c k H' := by
  obtain ⟨gs, cs, n, h1, h2, h3, h4, h5, h6, h7⟩ := D.ex
  exact ⟨⟨gs, cs, n, s _ _ h1, s _ _ h2, s _ _ h3, h4, h5, h6, h7⟩, D.dg, D.dc, D.gc⟩
theorem Dk.hd {d g c : Addr} {k : Int} {H : Hp} (D : Dk d g c k H) : ∃ o, H d = some o := by
  obtain ⟨gs, cs, n, h1, _⟩ := D.ex
  exact ⟨_, h1⟩
theorem Dk.nd {d g c p : Addr} {k : Int} {H : Hp} (D : Dk d g c k H) (h : H p = none) : p ≠ d ∧ p ≠ g ∧ p ≠ c := by
  obtain ⟨gs, cs, n, h1, h2, h3, _⟩ := D.ex
  exact ⟨(ne_of_none h1 h).symm, (ne_of_none h2 h).symm, (ne_of_none h3 h).symm⟩
theorem neqv_nil : ∀ gs : List Int, PyData.eqv (.list (gs.map PyData.int)) (.list []) = gs.isEmpty
  | [] => rfl
  | _ :: _ => rfl
theorem dp_ints {K : PySem.W.Frag} {H : Hp} : ∀ gs : List Int, DpAll K H (gs.map V.int) (gs.map PyData.int)
  | [] => .nil
  | i :: r => .cons (.int i) (dp_ints r)
theorem lay_ints : ∀ gs : List Int, PyData.canLayAll0 (gs.map PyData.int) = true
  | [] => by simp [PyData.canLayAll0]
  | z :: zs => by simp [PyData.canLayAll0, PyData.canLay0, lay_ints zs]
theorem dep_ints : ∀ gs : List Int, PyData.depthAll (gs.map PyData.int) = 0
  | [] => by simp [PyData.depthAll]
  | z :: zs => by simp [PyData.depthAll, PyData.depth, dep_ints zs]
theorem sh_ints (gs : List Int) : SeqAt.shaped (.list (gs.map PyData.int)) = true := by
  have h1 := dep_ints gs
  have h2 : PyData.depth (.list (gs.map PyData.int)) ≤ 64 := by
    simp only [PyData.depth]
    omega
  show (PyData.canLay0 (.list (gs.map PyData.int)) && decide (PyData.depth (.list (gs.map PyData.int)) ≤ 64)) = true
  rw [Bool.and_eq_true]
  exact ⟨by simp only [PyData.canLay0]; exact lay_ints gs, decide_eq_true h2⟩
theorem atI_zero {α : Type} {x : α} {xs : List α} : atI (x :: xs) 0 = some x := atI_nat (j := 0) rfl
theorem ints_at {cs : List Int} {i : Int} (h0 : 0 ≤ i) (h1 : i < cs.length) : ∃ v : Int, atI (cs.map V.int) i = some (V.int v) := by
  obtain ⟨j, rfl⟩ := Int.eq_ofNat_of_zero_le h0
  have hj : j < cs.length := by omega
  refine ⟨cs[j], ?_⟩
  apply atI_nat
  rw [List.getElem?_map, List.getElem?_eq_getElem hj]
  rfl
theorem int_of_map {cs : List Int} {i : Nat} {y : V} (h : (cs.map V.int)[i]? = some y) : ∃ u, y = V.int u := by
  rw [List.getElem?_map] at h
  cases e : cs[i]? with
  | none =>
    rw [e] at h
    cases h
  | some u =>
    rw [e] at h
    exact ⟨u, (Option.some.inj h).symm⟩
theorem ixN_zero {n : Nat} (h : 0 < n) : ixN n 0 = some 0 := by
  unfold ixN
  rw [if_pos (Int.le_refl 0), if_pos (by omega)]
  rfl
theorem ixN_seq0 {n : Nat} (h : 0 < n) : seqIndex? 0 n = some 0 := (ixN_seq (ixN_zero h)).1
theorem mod_in {a m : Int} (h0 : 0 < m) (h1 : m ≤ 2 ^ 64) : -(2 ^ 64) < a % m ∧ a % m < 2 ^ 64 := by
  have x := Int.emod_nonneg a (b := m) (by omega)
  have y := Int.emod_lt_of_pos a h0
  exact ⟨by omega, by omega⟩
theorem bl_t {c : Prop} [Decidable c] (h : c) : V.bl (decide c) = V.bl true := by rw [decide_eq_true h]
theorem bl_f {c : Prop} [Decidable c] (h : ¬ c) : V.bl (decide c) = V.bl false := by rw [decide_eq_false h]
theorem nb_f {c : Prop} [Decidable c] (h : c) : V.bl (!decide c) = V.bl false := by rw [decide_eq_true h]; rfl
theorem nb_t {c : Prop} [Decidable c] (h : ¬ c) : V.bl (!decide c) = V.bl true := by rw [decide_eq_false h]; rfl
/-! ### isinstance -/
def isB (T U : String) : Bool := (kitB T U).getD false
/-- the built-in type of a value -/
def TyB1 (K : PySem.W.Frag) (H : Hp) (x : V) (T : String) : Prop := TyX K H x (.type T) ∧ (T = "int" ∨ T = "bool" ∨ T = "NoneType" ∨ T = "str" ∨ T = "list" ∨ T = "tuple" ∨ T = "dict")
theorem isi_of {K : PySem.W.Frag} {T : String} (U : String) (hT : T = "int" ∨ T = "bool" ∨ T = "NoneType" ∨ T = "str" ∨ T = "list" ∨ T = "tuple" ∨ T = "dict") (hU : U = "int" ∨ U = "bool" ∨ U = "tuple" ∨ U = "list" ∨ U = "str") : PySem.W.kitOne K (.type T) (.type U) = some (isB T U) := by
  rcases hT with rfl | rfl | rfl | rfl | rfl | rfl | rfl <;> rcases hU with rfl | rfl | rfl | rfl | rfl <;> exact kit_ty (by decide +kernel)
theorem isB_ii : isB "int" "int" = true := by decide +kernel
theorem isB_ib : isB "int" "bool" = false := by decide +kernel
theorem isB_bi : isB "bool" "int" = true := by decide +kernel
theorem isB_bb : isB "bool" "bool" = true := by decide +kernel
theorem isB_tt : isB "tuple" "tuple" = true := by decide +kernel
/-! ### a call where it is known that no repr is under way (guards), and the law's own end over it -/
open PySem.Spec PyProof.Rows in
theorem at_call {P : Program} {w : World} {K : PySem.W.Frag} {mg : Str → Option Value} {base : Heap} {A : Around} {outer : List Env}
    {x qual : Str} {st : Stmt} {f : Addr} {fd : FuncData} {N ps : List Str} {k : Nat} (F : Fun K x qual st f fd)
    (S : FnScope N ps (defScope st)) {s : Shared} {H : Hp} {args : Args} {us : List Value} {vs : List V} {Q : VK} {E : XK}
    (hl : vs.length = ps.length) (room : Room (k + 1) A) (e0 : Env0 P w K mg base A outer s H)
    (hb : BindsTo s fd args (ps.zip us)) (rv : Vals vs us)
    (body : ∀ cdv : Value, Room k (A.deeper (envOfC qual (defScope st) s.heap.objs.size f cdv)) →
      ∃ t, PSs (cxOf CX0 P w K mg base N qual (defScope st) f cdv A outer s H E).nox (defBody st) t ∧
        t { nx := fun _ H' => Q .non H', rt := Q } (start N vs) H) :
    codeAny (model P w) A (.call (.ref f) args) (CR CX0 outer P w H s Q E) s := by
  obtain ⟨oc, od, kV, doc, pm, an, cdv, ct, osl, rfl, look, code⟩ := F.ex
  have inn : ∀ {b o}, base.get? b = some o → s.heap.get? b = some o := fun z => (e0.bs _ _ z).1
  have kin : K.In s.heap := e0.mod.kin.keeps fun _ _ z => inn z
  have nol : s.heap.NoLimit := e0.mod.nolimit.keeps fun _ _ z => inn z
  refine codeAny_call_function room.depth (kin _ _ look) rfl S.co S.gen rfl (PySem.W.codeRec_of kin code) (hb _ _ _ _ ?_)
  refine wpAny_newFunctionEnv_cells S.kind (fun y hy => ?_) fun env he s1 inc => ?_
  · obtain ⟨n, v⟩ := y
    cases S.par n (List.of_mem_zip hy).1 with
    | inl z => exact Or.inl z
    | inr z => exact Or.inr ⟨z, PySem.W.cellsFrom_some _ _ _ (Or.inl z)⟩
  · subst he
    refine ⟨nol.keeps inc.toInCall.keep, codeAny_func ?_⟩
    obtain ⟨t, ht, hq⟩ := body cdv (room.deeper _)
    have I0 := inv_start (CX := CX0) (E := E) S room.hd e0 hl rv inc
    refine wpAny_mono (ht.nox.run [] s1 (start N vs) H _ I0 hq) (fun fl s' hs => ?_) (fun _ _ z => z)
    match fl, hs with
    | .ret _, ⟨v, _, H', J, r1, q1⟩ => exact ⟨v, H', J.os, J.bare, J.base, J.hok, r1, q1⟩
    | .next, ⟨_, H', J, q1⟩ => exact ⟨V.non, H', J.os, J.bare, J.base, J.hok, rfl, q1⟩
    | .brk, ⟨_, _, _, z⟩ => exact z.elim
    | .cont, ⟨_, _, _, z⟩ => exact z.elim
open PySem.Spec PyProof.Rows in
theorem core_end {P : Program} {w : World} {K : PySem.W.Frag} {mg mb : Str → Option Value} {fa a : Addr} {t : Shared} {vs : List Value} {H : Hp}
    (kin : K.In t.heap) (hm : t.heap.Ns mainGlobals mg) (hb : t.heap.Ns builtinsNs mb) (boot : ∀ x : Str, x ≠ "__name__" → mb x = bootBuiltins x)
    (nol : t.heap.NoLimit) (hg : t.gens = #[]) (ha : t.heap.get? a = some { cls := .type "list", data := .seq vs.toArray })
    (only : Only H) (hok : HOk P w H t.heap) (atA : ∀ b o, H b = some o → b = a) (notK : ∀ o, H a = some o → K.lookup a = none)
    (R : ∀ base : Heap, (∀ b o, t.heap.get? b = some o → H b = none → base.get? b = some o) → Env0 P w K mg base callerA [] t H →
      codeAny (model P w) callerA (.call (.ref fa) ⟨[.ref a], []⟩) (CR CX0 [] P w H t (fun v _ => v = .bl true) E0) t) :
    codeAny (model P w) callerA (.call (.ref fa) ⟨[.ref a], []⟩)
      (fun r u => r = .ok (.ret (.bool true)) ∧ PySem.OldK t.heap u.heap ∧ u.os = t.os ∧ AllBare u.gens) t := by
  have hid : ∀ {b o}, t.heap.get? b = some o → H b = none → (hidT t.heap H).get? b = some o := fun z n => hidT_get z n
  have names : ∀ {b : Addr} {m : Str → Option Value}, t.heap.Ns b m → (hidT t.heap H).Ns b m := by
    rintro b m ⟨o, es, ep, z, d, r⟩
    refine ⟨o, es, ep, hid z ?_, d, r⟩
    cases q : H b with
    | none => rfl
    | some u =>
      cases atA b u q
      rw [ha] at z
      cases z
      cases d
  have kinB : K.In (hidT t.heap H) := by
    intro b o z
    refine hid (kin b o z) ?_
    cases q : H b with
    | none => rfl
    | some u =>
      cases atA b u q
      rw [notK u q] at z
      cases z
  obtain ⟨mc, n1, n2⟩ := nol
  have md : Mod K mg (hidT t.heap H) := ⟨kinB, names hm, ⟨mb, names hb, boot⟩, ⟨mc, names n1, n2⟩⟩
  have e0 : Env0 P w K mg (hidT t.heap H) callerA [] t H := by
    refine ⟨rfl, md, fun b o z => of_hidT z, Nat.le_of_eq (hidT_size _ _), trivial, fun b z => ?_, hok, .of_eq hg⟩
    exact (List.not_mem_nil (show b ∈ ([] : List Addr) from z)).elim
  refine codeAny_mono (R _ (fun b o z n => hid z n) e0) fun r u h => ?_
  match r, h with
  | .ok (.ret y), ⟨v, H', hos, bare, un, hok', rel, e⟩ =>
    have e2 : v = V.bl true := e
    subst e2
    cases (show y = Value.bool true from rel)
    refine ⟨rfl, OldK.of_keep fun b o z => ?_, hos, bare⟩
    rcases only b with n | ⟨ob, xs, n⟩
    · exact un.keep b o z n (fun y => (List.not_mem_nil (show b ∈ ([] : List Addr) from y)).elim) (by simp)
    · obtain ⟨g1, _⟩ := hok b _ n
      obtain ⟨g2, _⟩ := hok' b _ (un.frzs b ob _ n)
      rw [g1] at z
      cases z
      exact g2
  | .ok .next, h => exact False.elim h
  | .ok .brk, h => exact False.elim h
  | .ok .cont, h => exact False.elim h
  | .error _, h => exact False.elim h
open PySem.Spec PyProof.Rows in
/-- the law's call, over every script of at most 63 numbers, gives True -/
def LawOk (P : Program) (w : World) (K : PySem.W.Frag) (mg : Str → Option Value) (fa : Addr) : Prop :=
  ∀ (base : Heap) (t : Shared) (H : Hp) (a : Addr) (ns : List Int), ns.length ≤ 63 → (∃ o, base.get? sysModules = some o) → Env0 P w K mg base callerA [] t H → SqL K H a (ns.map V.int) →
    codeAny (model P w) callerA (.call (.ref fa) ⟨[.ref a], []⟩) (CR CX0 [] P w H t (fun v _ => v = .bl true) E0) t
open PySem.Spec PyProof.Rows in
theorem walk_g {l : PySem.W.OpenLaw} {q : Program} {loose : List Str} {XP : (Str → Option Value) → Heap → Prop} {YP : World → Heap → Prop} {d : DefRec} {K : Params → PySem.W.Frag}
    (hn : l.most = some 63) (hdf : d.params.defaults = []) (hi : importsNone q = true) (hY : ∀ (w : World) (h : Heap), YP w h → (K w.params).In h)
    (F : ∀ (w : World) (mg : Str → Option Value) (fa : Addr) (h : Heap), (K w.params).In h → h.Ns mainGlobals mg → mg d.name = some (.ref fa) → LawOk l.prog w (K w.params) mg fa) :
    PySem.W.WalkO q loose XP YP l.row.toRowW d [] (fun f vs => PySem.call f vs) := by
  refine Att.attach_call hn hdf fun w s₀ t mg mb fa o pm cd doc a vs ns G Y ho hd hcd hmg hobj hints hlen hg => ?_
  have kin := hY w _ Y
  have L := F w mg fa _ kin G.T.g hmg
  have rv := vals_ints hints
  have small : ns.length ≤ sizeLine := Nat.le_trans hlen (by decide)
  obtain ⟨mm, ⟨os, es, ep, hos, hod, _⟩, _⟩ := (G.T.seer hi).mods
  cases hk : (K w.params).lookup a with
  | some u =>
    have z := kin a u hk
    rw [hobj] at z
    cases z
    refine core_end (H := fun _ => none) kin G.T.g G.T.b G.T.builtins G.T.nolimit hg hobj (fun _ => .inl rfl) (fun b u z => nomatch z) (fun b o z => nomatch z) (fun o z => nomatch z) fun base up e0 => ?_
    exact L base t _ a ns hlen ⟨_, up _ _ hos rfl⟩ e0 (.inr ⟨_, vs.toArray, _, hk, rfl, rfl, rfl, by rw [List.size_toArray, hints.length]; exact small, by simpa using rv⟩)
  | none =>
    refine core_end (H := fun b => if b = a then some (.frz { cls := .type "list", data := .seq vs.toArray } (.lst (ns.map V.int))) else none) kin G.T.g G.T.b G.T.builtins G.T.nolimit hg hobj (fun b => ?_) (fun b u z => ?_) (fun b o z => ?_) (fun _ _ => hk) fun base up e0 => ?_
    · by_cases e : b = a
      · exact .inr ⟨_, _, if_pos e⟩
      · exact .inl (if_neg e)
    · by_cases e : b = a
      · cases (if_pos e).symm.trans z
        subst e
        exact ⟨hobj, by rw [List.length_map]; exact small, vs, _, rv, hobj⟩
      · cases (if_neg e).symm.trans z
    · by_cases e : b = a
      · exact e
      · cases (if_neg e).symm.trans z
    · have ne : sysModules ≠ a := fun z => by
        rw [z, hobj] at hos
        cases hos
        cases hod
      have h1 := L base t _ a ns hlen ⟨_, up _ _ hos (if_neg ne)⟩ e0
      exact h1 (.inl (.inr ⟨_, if_pos rfl⟩))
open PySem.Spec PyProof.Rows in
theorem guards_caller : callerA.guards = some [] := rfl
section
variable {X : Cx}
open PySem.Spec PyProof.Rows in
/-- repr(x), x of lists, tuples, ints, texts, truths, None -/
theorem call_reprD (hg : X.A.guards = some []) (hu : X.A.units + 80 < cLine) : CallR X (.builtin "repr") (fun xs H Q => ∃ (a : Addr) (d : PyData), xs = [.ref a] ∧ Dp X.K H (.ref a) d ∧ d.showable = true ∧ d.hasDict = false ∧ d.depth ≤ 64 ∧ d.shown.length ≤ sizeLine ∧ Q (.str d.shown) H) := by
  intro pins s σ H xs us Q I r h
  obtain ⟨a, d, rfl, hd, hs, hn, hz, hl, q⟩ := h
  obtain ⟨u, rfl, ru⟩ := vals1 r
  obtain ⟨as, rd⟩ := Dp.reads I d _ u hd ru
  obtain rfl : u = Value.ref a := ru
  refine repr_of_reads' rd hs (PyData.noDict_hsm hn) hg (by omega) (fun _ _ z => z) (fun h' u tk hk => ?_) hl
  exact ⟨.str d.shown, H, I.kept hk, ⟨_, rfl⟩, q⟩
end
theorem ru80 {k : Nat} {A : Around} (hr : Room k A) : A.units + 80 < cLine := by
  have := hr.un
  omega
open PySem.Spec PyProof.Rows in
theorem law_at {P : Program} {w : World} {K : PySem.W.Frag} {mg : Str → Option Value} {st : Stmt} {f : Addr} {fd : FuncData} {N : List Str} {p : Str} {k : Nat}
    (D : Df K mg "law" st [p] f fd) (S : FnScope N [p] (defScope st)) (room : Room (k + 1) callerA)
    (body : ∀ (base : Heap) (t : Shared) (H : Hp) (a : Addr) (ns : List Int) (cdv : Value), ns.length ≤ 63 → (∃ o, base.get? sysModules = some o) → SqL K H a (ns.map V.int) →
      Room k (callerA.deeper (envOfC "law" (defScope st) t.heap.objs.size f cdv)) →
      ∃ tm, PSs (cxOf CX0 P w K mg base N "law" (defScope st) f cdv callerA [] t H E0).nox (defBody st) tm ∧
        tm { nx := fun _ _ => V.non = .bl true, rt := fun v _ => v = .bl true } (start N [.ref a]) H) : LawOk P w K mg f := by
  intro base t H a ns hl hm e0 hS
  have kin : K.In t.heap := e0.mod.kin.keeps fun b o z => (e0.bs b o z).1
  exact at_call (vs := [.ref a]) D.F S rfl room e0 (D.b t [.ref a] kin rfl) (.cons rfl .nil) fun cdv hr => body base t H a ns cdv hl hm hS hr
/-! ### things of any depth: None, truths, ints, texts, lists, tuples, {} -/
/-- dicts of whole numbers -/
inductive DqKv : List (Key × V) → List (PyData × PyData) → Prop
  | nil : DqKv [] []
  | cons (i j : Int) {kvs : List (Key × V)} {ds : List (PyData × PyData)} : DqKv kvs ds → DqKv ((.inl i, .int j) :: kvs) ((.int i, .int j) :: ds)
mutual
inductive Dq (H : Hp) : V → PyData → Prop
  | non : Dq H .non .none
  | bl (b : Bool) : Dq H (.bl b) (.bool b)
  | int (i : Int) : Dq H (.int i) (.int i)
  | str (x : Str) : Dq H (.str x) (.str x)
  | lst {a : Addr} {xs : List V} {ds : List PyData} : H a = some (.lst xs) → DqAll H xs ds → Dq H (.ref a) (.list ds)
  | tup {a : Addr} {xs : List V} {ds : List PyData} : H a = some (.tup xs) → DqAll H xs ds → Dq H (.ref a) (.tuple ds)
  | dic {a : Addr} {kvs : List (Key × V)} {ds : List (PyData × PyData)} : H a = some (.dK kvs) → DqKv kvs ds → Dq H (.ref a) (.dict ds)
inductive DqAll (H : Hp) : List V → List PyData → Prop
  | nil : DqAll H [] []
  | cons {v : V} {vs : List V} {d : PyData} {ds : List PyData} : Dq H v d → DqAll H vs ds → DqAll H (v :: vs) (d :: ds)
end
theorem DqAll.length {H : Hp} : ∀ {vs : List V} {ds : List PyData}, DqAll H vs ds → vs.length = ds.length
  | [], _, h => by
    cases h
    rfl
  | _ :: vs, _, h => by
    cases h with
    | cons _ h2 => exact congrArg (· + 1) (DqAll.length h2)
theorem DqAll.append {H : Hp} : ∀ {vs ws : List V} {ds es : List PyData}, DqAll H vs ds → DqAll H ws es → DqAll H (vs ++ ws) (ds ++ es)
  | [], _, _, _, h, k => by
    cases h
    exact k
  | _ :: _, _, _, _, h, k => by
    cases h with
    | cons h1 h2 => exact .cons h1 (DqAll.append h2 k)
theorem DqAll.get {H : Hp} : ∀ {vs : List V} {ds : List PyData} {i : Nat} {v : V}, DqAll H vs ds → vs[i]? = some v → ∃ d, ds[i]? = some d ∧ Dq H v d
  | [], _, _, _, _, e => by simp at e
  | x :: vs, _, 0, v, h, e => by
    cases h with
    | cons h1 h2 =>
      cases (Option.some.inj e)
      exact ⟨_, rfl, h1⟩
  | x :: vs, _, i + 1, v, h, e => by
    cases h with
    | cons h1 h2 => exact DqAll.get (i := i) h2 (show vs[i]? = some v from e)
theorem DqAll.take {H : Hp} : ∀ {vs : List V} {ds : List PyData} (n : Nat), DqAll H vs ds → DqAll H (vs.take n) (ds.take n)
  | _, _, 0, _ => by
    rw [List.take_zero, List.take_zero]
    exact .nil
  | [], _, n + 1, h => by
    cases h
    exact .nil
  | _ :: _, _, n + 1, h => by
    cases h with
    | cons h1 h2 => exact .cons h1 (DqAll.take n h2)
theorem DqAll.drop {H : Hp} : ∀ {vs : List V} {ds : List PyData} (n : Nat), DqAll H vs ds → DqAll H (vs.drop n) (ds.drop n)
  | _, _, 0, h => h
  | [], _, n + 1, h => by
    cases h
    exact .nil
  | _ :: _, _, n + 1, h => by
    cases h with
    | cons h1 h2 => exact DqAll.drop n h2
theorem DqAll.rev {H : Hp} : ∀ {vs : List V} {ds : List PyData}, DqAll H vs ds → DqAll H vs.reverse ds.reverse
  | [], _, h => by
    cases h
    exact .nil
  | v :: vs, _, h => by
    cases h with
    | cons h1 h2 =>
      rw [List.reverse_cons, List.reverse_cons]
      exact (DqAll.rev h2).append (.cons h1 .nil)
mutual
theorem Dq.mono {H H' : Hp} (s : ∀ a o, H a = some o → (∀ xs, o = .lst xs → H' a = some o) ∧ (∀ xs, o = .tup xs → H' a = some o) ∧ (∀ kvs, o = .dK kvs → H' a = some o)) : ∀ (d : PyData) (v : V), Dq H v d → Dq H' v d
  | .none, _, h => by
    cases h
    exact .non
  | .bool b, _, h => by
    cases h
    exact .bl b
  | .int i, _, h => by
    cases h
    exact .int i
  | .str x, _, h => by
    cases h
    exact .str x
  | .list ds, _, h => by
    cases h with
    | lst e k => exact .lst ((s _ _ e).1 _ rfl) (Dq.monoAll s ds _ k)
  | .tuple ds, _, h => by
    cases h with
    | tup e k => exact .tup ((s _ _ e).2.1 _ rfl) (Dq.monoAll s ds _ k)
  | .dict _, _, h => by
    cases h with
    | dic e k => exact .dic ((s _ _ e).2.2 _ rfl) k
theorem Dq.monoAll {H H' : Hp} (s : ∀ a o, H a = some o → (∀ xs, o = .lst xs → H' a = some o) ∧ (∀ xs, o = .tup xs → H' a = some o) ∧ (∀ kvs, o = .dK kvs → H' a = some o)) : ∀ (ds : List PyData) (vs : List V), DqAll H vs ds → DqAll H' vs ds
  | [], _, h => by
    cases h
    exact .nil
  | d :: ds, _, h => by
    cases h with
    | cons h1 h2 => exact .cons (Dq.mono s d _ h1) (Dq.monoAll s ds _ h2)
end
theorem Dq.same {H H' : Hp} {v : V} {d : PyData} (h : Dq H v d) (s : Same H H') : Dq H' v d := Dq.mono (fun _ _ e => ⟨fun _ _ => s _ _ e, fun _ _ => s _ _ e, fun _ _ => s _ _ e⟩) d v h
theorem DqAll.same {H H' : Hp} {v : List V} {d : List PyData} (h : DqAll H v d) (s : Same H H') : DqAll H' v d := Dq.monoAll (fun _ _ e => ⟨fun _ _ => s _ _ e, fun _ _ => s _ _ e, fun _ _ => s _ _ e⟩) d v h
section
variable {X : Cx} {pins : List (Addr × Obj)} {σ : L2.St} {H : Hp} {s : Shared}
open PySem.Spec PyProof.Rows
theorem kv_reads {P : Program} {w : World} (h : Heap) : ∀ {kvs : List (Key × V)} {ds : List (PyData × PyData)} {vs : List (Key × Value)} {es : List DictEntry}, DqKv kvs ds → KV kvs vs → PySem.Pairs (mixKind P w) es vs → ReadsAll h (es.map (·.key)) (ds.map (·.1)) [] ∧ ReadsAll h (es.map (·.val)) (ds.map (·.2)) []
  | _, _, _, _, .nil, k, p => by
    cases k
    cases p
    exact ⟨.nil, .nil⟩
  | _, _, _, _, .cons i j r, k, p => by
    cases k with
    | cons a k2 =>
      cases p with
      | cons ek ev p2 =>
        obtain ⟨r1, r2⟩ := kv_reads h r k2 p2
        obtain ⟨a1, a2⟩ := a
        rw [← a1] at ek
        obtain ⟨i2, t, e1, e2⟩ | ⟨x, t, e1, e2⟩ := keyIs_shape (show keyIs (Sum.inl i) _ = true from ek)
        · cases e1
          obtain ⟨t2, e3⟩ := a2
          rw [e3] at ev
          refine ⟨?_, ?_⟩
          · rw [List.map_cons, List.map_cons, e2]
            exact ReadsAll.cons (as := []) (bs := []) (.int i t) r1
          · rw [List.map_cons, List.map_cons, ev]
            exact ReadsAll.cons (as := []) (bs := []) (.int j t2) r2
        · cases e1
theorem tracked_ne (I : L2.Inv X pins σ H s) (hm : ∃ o, X.base.get? sysModules = some o) {a : Addr} {o : HO} (e : H a = some o) : sysModules ≠ a := fun z => by
  obtain ⟨ob, hb⟩ := hm
  have n := (I.bs _ _ hb).2
  rw [z, e] at n
  cases n
mutual
theorem Dq.reads (I : L2.Inv X pins σ H s) (hm : ∃ o, X.base.get? sysModules = some o) : ∀ (d : PyData) (v : V) (u : Value), Dq H v d → L2.RelV v u → ∃ as, Reads s.heap u d as ∧ sysModules ∉ as
  | .none, _, _, h, r => by
    cases h
    cases r
    exact ⟨_, Reads.none, by simp⟩
  | .bool b, _, _, h, r => by
    cases h
    cases r
    exact ⟨_, Reads.bool b, by simp⟩
  | .int i, _, _, h, r => by
    cases h
    obtain ⟨t, rfl⟩ := r
    exact ⟨_, Reads.int i t, by simp⟩
  | .str x, _, _, h, r => by
    cases h
    obtain ⟨t, rfl⟩ := r
    exact ⟨_, Reads.str x t, by simp⟩
  | .list ds, _, _, h, r => by
    cases h with
    | lst e k =>
      cases r
      have ne := tracked_ne I hm e
      obtain ⟨its, rv, ⟨o, n, ho, hc, _, hd⟩, _⟩ := I.list (SqL.of e)
      obtain ⟨as, hr, hn⟩ := Dq.readsAll I hm ds _ its k rv
      exact ⟨_, Reads.list ho hc hd hr, fun z => by
        rcases List.mem_cons.mp z with z | z
        · exact ne z
        · exact hn z⟩
  | .tuple ds, _, _, h, r => by
    cases h with
    | tup e k =>
      cases r
      obtain ⟨its, rv, ⟨o, ho, hc, n, hd⟩, _⟩ := I.tuple (SqT.of e)
      obtain ⟨as, hr, hn⟩ := Dq.readsAll I hm ds _ its k rv
      exact ⟨_, Reads.tuple ho hc hd hr, hn⟩
  | .dict _, _, _, h, r => by
    cases h with
    | dic e k =>
      cases r
      have ne := tracked_ne I hm e
      obtain ⟨_, _, vs, kv, o, es, ep, h1, h2, h3, h4, h6, _⟩ := I.hok _ _ e
      obtain ⟨r1, r2⟩ := kv_reads s.heap k kv h6
      refine ⟨_, Reads.dict (as := []) (bs := []) h1 h2.1 h3 r1 r2, fun z => ?_⟩
      rcases List.mem_cons.mp z with z | z
      · exact ne z
      · simp at z
theorem Dq.readsAll (I : L2.Inv X pins σ H s) (hm : ∃ o, X.base.get? sysModules = some o) : ∀ (ds : List PyData) (vs : List V) (us : List Value), DqAll H vs ds → L2.Vals vs us → ∃ as, ReadsAll s.heap us ds as ∧ sysModules ∉ as
  | [], _, _, h, r => by
    cases h
    cases r
    exact ⟨_, ReadsAll.nil, by simp⟩
  | d :: ds, _, _, h, r => by
    cases h with
    | cons h1 h2 =>
      cases r with
      | cons r1 r2 =>
        obtain ⟨as, q1, n1⟩ := Dq.reads I hm d _ _ h1 r1
        obtain ⟨bs, q2, n2⟩ := Dq.readsAll I hm ds _ _ h2 r2
        exact ⟨_, ReadsAll.cons q1 q2, fun z => (List.mem_append.mp z).elim n1 n2⟩
end
end
section
variable {X : Cx}
open PySem.Spec PyProof.Rows in
/-- repr(x), x any such thing -/
theorem call_reprQ (hm : ∃ o, X.base.get? sysModules = some o) (hg : X.A.guards = some []) (hu : X.A.units + 80 < cLine) : CallR X (.builtin "repr") (fun xs H Q => ∃ (x : V) (d : PyData), xs = [x] ∧ Dq H x d ∧ d.showable = true ∧ d.depth ≤ 64 ∧ d.shown.length ≤ sizeLine ∧ Q (.str d.shown) H) := by
  intro pins s σ H xs us Q I r h
  obtain ⟨x, d, rfl, hd, hs, hz, hl, q⟩ := h
  obtain ⟨u, rfl, ru⟩ := vals1 r
  cases hd with
  | non =>
    obtain rfl : u = Value.none := ru
    exact PySem.P.repr_of_none ⟨.str _, H, I.tok _, ⟨_, rfl⟩, q⟩
  | bl b =>
    obtain rfl : u = Value.bool b := ru
    exact PySem.P.repr_of_bool ⟨.str _, H, I.tok _, ⟨_, rfl⟩, q⟩
  | int i =>
    obtain ⟨t, rfl⟩ := ru
    exact PySem.P.repr_of_int (by simpa [PyData.showable] using hs) ⟨.str _, H, I.tok _, ⟨_, rfl⟩, q⟩
  | str z =>
    obtain ⟨t, rfl⟩ := ru
    exact PySem.P.repr_of_str ⟨.str _, H, I.tok _, ⟨_, rfl⟩, q⟩ hl
  | @lst a xs ds e k =>
    obtain ⟨as, rd, hn⟩ := Dq.reads I hm (.list ds) _ u (.lst e k) ru
    obtain rfl : u = Value.ref a := ru
    refine repr_of_reads' rd hs (fun _ => hn) hg (by omega) (fun _ _ z => z) (fun h' u tk hk => ?_) hl
    exact ⟨.str _, H, I.kept hk, ⟨_, rfl⟩, q⟩
  | @tup a xs ds e k =>
    obtain ⟨as, rd, hn⟩ := Dq.reads I hm (.tuple ds) _ u (.tup e k) ru
    obtain rfl : u = Value.ref a := ru
    refine repr_of_reads' rd hs (fun _ => hn) hg (by omega) (fun _ _ z => z) (fun h' u tk hk => ?_) hl
    exact ⟨.str _, H, I.kept hk, ⟨_, rfl⟩, q⟩
  | @dic a kvs ds e k =>
    obtain ⟨as, rd, hn⟩ := Dq.reads I hm (.dict ds) _ u (.dic e k) ru
    obtain rfl : u = Value.ref a := ru
    refine repr_of_reads' rd hs (fun _ => hn) hg (by omega) (fun _ _ z => z) (fun h' u tk hk => ?_) hl
    exact ⟨.str _, H, I.kept hk, ⟨_, rfl⟩, q⟩
end
/-! ### how great a thing is -/
def Gd (n m : Nat) (d : PyData) : Prop := d.showable = true ∧ d.leavesShort 120 = true ∧ d.weight ≤ n ∧ d.depth ≤ m
def GdAll (n m : Nat) (ds : List PyData) : Prop := PyData.showableAll ds = true ∧ PyData.leavesShortAll 120 ds = true ∧ PyData.weightAll ds ≤ n ∧ PyData.depthAll ds ≤ m
theorem Gd.mono {n m n' m' : Nat} {d : PyData} (h : Gd n m d) (a : n ≤ n') (b : m ≤ m') : Gd n' m' d := ⟨h.1, h.2.1, by have := h.2.2.1; omega, by have := h.2.2.2; omega⟩
theorem GdAll.mono {n m n' m' : Nat} {d : List PyData} (h : GdAll n m d) (a : n ≤ n') (b : m ≤ m') : GdAll n' m' d := ⟨h.1, h.2.1, by have := h.2.2.1; omega, by have := h.2.2.2; omega⟩
theorem GdAll.nil {n m : Nat} : GdAll n m [] := ⟨by simp [PyData.showableAll], by simp [PyData.leavesShortAll], by simp [PyData.weightAll], by simp [PyData.depthAll]⟩
theorem GdAll.cons {a b m : Nat} {d : PyData} {ds : List PyData} (h : Gd a m d) (k : GdAll b m ds) : GdAll (a + 1 + b) m (d :: ds) := by
  obtain ⟨h1, h2, h3, h4⟩ := h
  obtain ⟨k1, k2, k3, k4⟩ := k
  refine ⟨by simp [PyData.showableAll, h1, k1], by simp [PyData.leavesShortAll, h2, k2], ?_, ?_⟩
  · simp only [PyData.weightAll]
    omega
  · simp only [PyData.depthAll]
    omega
theorem GdAll.head {n m : Nat} {d : PyData} {ds : List PyData} (h : GdAll n m (d :: ds)) : ∃ a b, a + 1 + b ≤ n ∧ Gd a m d ∧ GdAll b m ds := by
  obtain ⟨h1, h2, h3, h4⟩ := h
  simp only [PyData.showableAll, Bool.and_eq_true] at h1
  simp only [PyData.leavesShortAll, Bool.and_eq_true] at h2
  simp only [PyData.weightAll] at h3
  simp only [PyData.depthAll] at h4
  exact ⟨d.weight, PyData.weightAll ds, h3, ⟨h1.1, h2.1, Nat.le_refl _, by omega⟩, ⟨h1.2, h2.2, Nat.le_refl _, by omega⟩⟩
theorem GdAll.append {m : Nat} : ∀ {a b : Nat} {xs ys : List PyData}, GdAll a m xs → GdAll b m ys → GdAll (a + b) m (xs ++ ys)
  | _, _, [], _, _, k => k.mono (by omega) (by omega)
  | a, b, x :: xs, _, h, k => by
    obtain ⟨u, v, e, h1, h2⟩ := h.head
    exact (GdAll.cons h1 (GdAll.append h2 k)).mono (by omega) (by omega)
theorem GdAll.split {m : Nat} : ∀ {n : Nat} (xs : List PyData) {ys : List PyData}, GdAll n m (xs ++ ys) → ∃ a b, a + b ≤ n ∧ GdAll a m xs ∧ GdAll b m ys
  | n, [], _, h => ⟨0, n, by omega, .nil, h⟩
  | n, x :: xs, _, h => by
    obtain ⟨u, v, e, h1, h2⟩ := GdAll.head (show GdAll n m (x :: (xs ++ _)) from h)
    obtain ⟨a, b, e2, k1, k2⟩ := GdAll.split xs h2
    exact ⟨u + 1 + a, b, by omega, .cons h1 k1, k2⟩
theorem GdAll.cut {n m : Nat} {ds : List PyData} (i : Nat) (h : GdAll n m ds) : ∃ a b, a + b ≤ n ∧ GdAll a m (ds.take i) ∧ GdAll b m (ds.drop i) := by
  rw [← List.take_append_drop i ds] at h
  exact GdAll.split _ h
theorem GdAll.take {n m : Nat} {ds : List PyData} (i : Nat) (h : GdAll n m ds) : GdAll n m (ds.take i) := by
  obtain ⟨a, b, e, h1, _⟩ := h.cut i
  exact h1.mono (by omega) (by omega)
theorem GdAll.drop {n m : Nat} {ds : List PyData} (i : Nat) (h : GdAll n m ds) : GdAll n m (ds.drop i) := by
  obtain ⟨a, b, e, _, h1⟩ := h.cut i
  exact h1.mono (by omega) (by omega)
theorem GdAll.rev {m : Nat} : ∀ {n : Nat} {ds : List PyData}, GdAll n m ds → GdAll n m ds.reverse
  | _, [], h => h
  | n, x :: xs, h => by
    obtain ⟨u, v, e, h1, h2⟩ := h.head
    rw [List.reverse_cons]
    exact ((GdAll.rev h2).append (GdAll.cons h1 (GdAll.nil (n := 0)))).mono (by omega) (by omega)
theorem GdAll.get {m : Nat} : ∀ {n : Nat} {ds : List PyData} {i : Nat} {d : PyData}, GdAll n m ds → ds[i]? = some d → Gd n m d
  | _, [], _, _, _, e => by simp at e
  | n, x :: xs, 0, d, h, e => by
    obtain ⟨u, v, e2, h1, h2⟩ := h.head
    cases (Option.some.inj e)
    exact h1.mono (by omega) (by omega)
  | n, x :: xs, i + 1, d, h, e => by
    obtain ⟨u, v, e2, h1, h2⟩ := h.head
    exact (GdAll.get (i := i) h2 (show xs[i]? = some d from e)).mono (by omega) (by omega)
theorem Gd.tup {n m : Nat} {ds : List PyData} (h : GdAll n m ds) : Gd n (m + 1) (.tuple ds) := by
  obtain ⟨h1, h2, h3, h4⟩ := h
  exact ⟨by simp only [PyData.showable]; exact h1, by simp only [PyData.leavesShort]; exact h2, by simp only [PyData.weight]; exact h3, by simp only [PyData.depth]; omega⟩
theorem Gd.lst {n m : Nat} {ds : List PyData} (h : GdAll n m ds) : Gd n (m + 1) (.list ds) := by
  obtain ⟨h1, h2, h3, h4⟩ := h
  exact ⟨by simp only [PyData.showable]; exact h1, by simp only [PyData.leavesShort]; exact h2, by simp only [PyData.weight]; exact h3, by simp only [PyData.depth]; omega⟩
theorem Gd.of_tup {n m : Nat} {ds : List PyData} (h : Gd n m (.tuple ds)) : GdAll n m ds := by
  obtain ⟨h1, h2, h3, h4⟩ := h
  simp only [PyData.showable] at h1
  simp only [PyData.leavesShort] at h2
  simp only [PyData.weight] at h3
  simp only [PyData.depth] at h4
  exact ⟨h1, h2, h3, by omega⟩
theorem Gd.shown {n m : Nat} {d : PyData} (h : Gd n m d) (hn : n ≤ 100000) : d.shown.length ≤ sizeLine := by
  have z := PyData.shown_le 120 (by decide) d h.2.1
  have k := h.2.2.1
  have e : sizeLine = 16777216 := by decide
  omega
theorem Gd.int {i : Int} {k : Nat} (hk : 0 < k) (hk2 : k ≤ 110) (h : i.natAbs < 2 ^ k) : Gd (k + 1) 0 (.int i) := by
  refine ⟨?_, ?_, ?_, ?_⟩
  · simp only [PyData.showable, decide_eq_true_eq]
    exact Nat.lt_of_lt_of_le (PySem.Flt.log2_lt_of hk h) (by omega)
  · simp only [PyData.leavesShort, decide_eq_true_eq]
    have z := PySem.Flt.log2_lt_of hk h
    have e := int_text_length_le (a := i) (k := k) hk z
    show (Str.ofString (toString i)).length ≤ 120
    rw [PySem.ofString_length]
    omega
  · have z := PySem.Flt.log2_lt_of hk h
    simp only [PyData.weight]
    split <;> omega
  · simp [PyData.depth]
/-! ### the mathematics -/
def isInt : PyData → Bool
  | .int _ => true
  | _ => false
def isTup : PyData → Bool
  | .tuple _ => true
  | _ => false
def isNumD (p : Int) : PyData → Bool
  | .int i => decide (0 ≤ i) && decide (i < p)
  | _ => false
def isPairD (p : Int) : PyData → Bool
  | .tuple [x, y] => isNumD p x && isNumD p y
  | _ => false
def isRowD (p n : Int) : PyData → Bool
  | .tuple ds => decide ((ds.length : Int) = n) && ds.all (isPairD p)
  | _ => false
theorem Dq.ty {K : PySem.W.Frag} {H : Hp} {x : V} {d : PyData} (h : Dq H x d) : ∃ t, TyB1 K H x t ∧ (isB t "int" && !isB t "bool") = isInt d ∧ isB t "tuple" = isTup d := by
  cases h with
  | non => exact ⟨"NoneType", ⟨.base .non, by simp⟩, by decide +kernel, by decide +kernel⟩
  | bl b => exact ⟨"bool", ⟨.base (.bl b), by simp⟩, (by show (isB "bool" "int" && !isB "bool" "bool") = false; decide +kernel), (by show isB "bool" "tuple" = false; decide +kernel)⟩
  | int i => exact ⟨"int", ⟨.base (.int i), by simp⟩, (by show (isB "int" "int" && !isB "int" "bool") = true; decide +kernel), (by show isB "int" "tuple" = false; decide +kernel)⟩
  | str z => exact ⟨"str", ⟨.base (.str z), by simp⟩, (by show (isB "str" "int" && !isB "str" "bool") = false; decide +kernel), (by show isB "str" "tuple" = false; decide +kernel)⟩
  | lst e k => exact ⟨"list", ⟨.base (.lst e), by simp⟩, (by show (isB "list" "int" && !isB "list" "bool") = false; decide +kernel), (by show isB "list" "tuple" = false; decide +kernel)⟩
  | tup e k => exact ⟨"tuple", ⟨.base (.tup e), by simp⟩, (by show (isB "tuple" "int" && !isB "tuple" "bool") = false; decide +kernel), (by show isB "tuple" "tuple" = true; decide +kernel)⟩
  | dic e _ => exact ⟨"dict", ⟨.base (.dK e), by simp⟩, (by show (isB "dict" "int" && !isB "dict" "bool") = false; decide +kernel), (by show isB "dict" "tuple" = false; decide +kernel)⟩
theorem isInt_of {H : Hp} {x : V} {d : PyData} (h : Dq H x d) (e : isInt d = true) : ∃ i, x = .int i ∧ d = .int i := by
  cases h <;> first | exact ⟨_, rfl, rfl⟩ | cases e
theorem isTup_of {H : Hp} {x : V} {d : PyData} (h : Dq H x d) (e : isTup d = true) : ∃ a xs ds, x = .ref a ∧ H a = some (.tup xs) ∧ DqAll H xs ds ∧ d = .tuple ds := by
  cases h <;> first | exact ⟨_, _, _, rfl, by assumption, by assumption, rfl⟩ | cases e
theorem num_false {p : Int} {d : PyData} (e : isInt d = false) : isNumD p d = false := by
  cases d <;> first | rfl | cases e
theorem row_false {p n : Int} {d : PyData} (e : isTup d = false) : isRowD p n d = false := by
  cases d <;> first | rfl | cases e
theorem pair_false {p : Int} {d : PyData} (e : isTup d = false) : isPairD p d = false := by
  cases d <;> first | rfl | cases e
theorem pair_len {p : Int} {ds : List PyData} (e : ¬ ((ds.length : Int) = 2)) : isPairD p (.tuple ds) = false := by
  match ds, e with
  | [], _ => rfl
  | [_], _ => rfl
  | [_, _], e => exact absurd rfl e
  | _ :: _ :: _ :: _, _ => rfl
theorem two_of {ds : List PyData} (e : (ds.length : Int) = 2) : ∃ x y, ds = [x, y] := by
  match ds, e with
  | [x, y], _ => exact ⟨x, y, rfl⟩
  | [], e => cases e
  | [_], e => cases e
  | _ :: _ :: _ :: r, e =>
    have e2 : ((r.length + 3 : Nat) : Int) = 2 := e
    omega
/-! ### xs == [], xs != [] of lists of anything -/
section
open PySem.Spec PyProof.Rows
variable {X : Cx}
def rEqL0 (K : PySem.W.Frag) : R2 := fun x y H Q => ∃ a b xs, x = .ref a ∧ y = .ref b ∧ SqL K H a xs ∧ SqL K H b [] ∧ Q (.bl xs.isEmpty) H
def rNeL0 (K : PySem.W.Frag) : R2 := fun x y H Q => ∃ a b xs, x = .ref a ∧ y = .ref b ∧ SqL K H a xs ∧ SqL K H b [] ∧ Q (.bl (!xs.isEmpty)) H
theorem op_eqL0 (hu : X.A.units + 80 < cLine) : OpR X (compareOp .Eq) (rEqL0 X.K) := by
  intro pins s σ H x y v u Q I rx ry h
  obtain ⟨a, b, xs, rfl, rfl, ha, hb, q⟩ := h
  cases rx
  cases ry
  obtain ⟨its, r, ht, hz⟩ := I.list ha
  obtain ⟨its2, r2, ht2, _⟩ := I.list hb
  cases r2
  cases r with
  | nil => exact SeqAt.eq_listAt (e := fun _ => true) ht.isList ht2.isList rfl (by omega) (fun j h1 h2 => absurd h2 (by simp)) ⟨.bl true, H, I, rfl, q⟩
  | cons _ _ => exact SeqAt.eq_list_lengthsAt ht.isList ht2.isList (by simp) (by omega) ⟨.bl false, H, I, rfl, q⟩
theorem op_neL0 (hu : X.A.units + 80 < cLine) : OpR X (compareOp .NotEq) (rNeL0 X.K) := by
  intro pins s σ H x y v u Q I rx ry h
  obtain ⟨a, b, xs, rfl, rfl, ha, hb, q⟩ := h
  cases rx
  cases ry
  obtain ⟨its, r, ht, hz⟩ := I.list ha
  obtain ⟨its2, r2, ht2, _⟩ := I.list hb
  cases r2
  cases r with
  | nil => exact SeqAt.RcNeAt.lists (e := fun _ => true) ht.isList ht2.isList rfl (by omega) (fun j h1 h2 => absurd h2 (by simp)) _ _ _ _ ⟨.bl false, H, I, rfl, q⟩
  | cons _ _ => exact SeqAt.RcNeAt.lists_lengths ht.isList ht2.isList (by simp) (by omega) _ _ _ _ ⟨.bl true, H, I, rfl, q⟩
end
/-! ### t * 2, t empty or not -/
section
open PySem.Spec PyProof.Rows
theorem tuple_mulE (l : Addr) (n : Nat) (dd : Option Addr) (sl : Array (Option Value)) (u : Tok) :
    Meets (Builtin.«tuple.__mul__» ⟨[.ref l, .int 2 u], []⟩) (fun _ R s => s.heap.get? l = some { cls := .type "tuple", dict := dd, data := .seq #[] n, slots := sl } ∧ R (.ok (.ret (Value.ref l))) s) :=
  .of_wp fun prog w A R s h => by
    obtain ⟨hp, g, d, tk, os⟩ := s
    obtain ⟨hl, h⟩ := h
    have f1 := AutoSeq1.idx_int
    wp_walk using wpAny_loadPart' hl
    repeat (first
      | (refine wpAny_ite_false (decide_eq_false (by decide)) ?_; wp_walk using wpAny_loadPart' hl)
      | (refine wpAny_ite_true (decide_eq_true (by simp)) ?_; wp_walk using wpAny_loadPart' hl))
    exact ⟨_, rfl, h⟩
variable {X : Cx}
def rRep2 (K : PySem.W.Frag) : R2 := fun x y H Q => ∃ l xs, x = .ref l ∧ y = .int 2 ∧ SqT K H l xs ∧ xs.length ≤ 1000 ∧ (xs = [] → Q (.ref l) H) ∧ (xs ≠ [] → ∀ p, H p = none → Q (.ref p) (upd H p (.tup (xs ++ xs))))
theorem op_rep2 : OpR X (binaryOp .Mult) (rRep2 X.K) := by
  intro pins s σ H x y v u Q I rx ry h
  obtain ⟨l, xs, rfl, rfl, hT, hz, q0, q1⟩ := h
  by_cases hne : xs = []
  · subst hne
    cases rx
    obtain ⟨t, rfl⟩ := ry
    obtain ⟨its, r, ⟨⟨cls, dd, data, sl⟩, ho, hc, n, hd⟩, hs⟩ := I.tuple hT
    cases r
    simp only at hc hd
    subst hc hd
    refine wpAny_binaryOp_repeat_ref (T := "tuple") (U := "int") (by decide) ⟨_, ho, rfl⟩ (fun s' => typeIs_int s' 2 t) noFill_tuple_mul F.fills_int_mul F.slot_int_rmul repeat_tuple F.slot_int_index.lookup
      (call_meets F.slot_int_rmul (typeIs_int s 2 t) F.entry_int_rmul (F.args_int_rmul_2 _ _) (int_rmul_tuple 2 t l #[] n dd sl)
        ⟨ho, rfl, ⟨_, ho, rfl⟩, call_meets F.slot_tuple_mul ⟨_, ho, rfl⟩ F.entry_tuple_mul (F.args_tuple_mul_2 _ _) (tuple_mulE l n dd sl t) ⟨ho, ?_⟩⟩)
    exact ⟨.ref l, H, I, rfl, q0 rfl⟩
  · refine op_repT pins s σ H _ _ v u Q I rx ry ⟨l, 2, xs, rfl, rfl, hT, hne, by decide, by decide, hz, fun p hp => ?_⟩
    have e : (List.replicate (2 : Int).toNat xs).flatten = xs ++ xs := by
      show xs ++ (xs ++ []) = xs ++ xs
      rw [List.append_nil]
    rw [e]
    exact q1 hne p hp
end
/-! ### things beside the deck -/
def cut (d g : Addr) (H : Hp) : Hp := fun a => if a = d ∨ a = g then none else H a
theorem cut_same {d g : Addr} {H : Hp} : Same (cut d g H) H := fun a o e => by
  unfold cut at e
  split at e
  · cases e
  · exact e
theorem cut_at {d g a : Addr} {H : Hp} {o : HO} (h1 : a ≠ d) (h2 : a ≠ g) (e : H a = some o) : cut d g H a = some o := by
  unfold cut
  rw [if_neg (fun z => z.elim h1 h2)]
  exact e
theorem Fr.cut {d g : Addr} {H H' : Hp} (f : Fr d g H H') : Same (cut d g H) (cut d g H') := fun a o e => by
  unfold Kp.cut at e ⊢
  split at e
  · cases e
  · rename_i n
    rw [if_neg n]
    exact f a o (fun z => n (.inl z)) (fun z => n (.inr z)) e
theorem cut_upd {d g L : Addr} {H : Hp} {o : HO} : Fr L L (cut d g H) (cut d g (upd H L o)) := fun a x h1 _ e => by
  unfold Kp.cut at e ⊢
  split at e
  · cases e
  · rename_i n
    rw [if_neg n, upd_ne h1]
    exact e
def Thg (d g : Addr) (n m : Nat) (H : Hp) (x : V) : Prop := ∃ dd, Dq (cut d g H) x dd ∧ Gd n m dd
def Ths (d g : Addr) (n m : Nat) (H : Hp) (xs : List V) : Prop := ∃ ds, DqAll (cut d g H) xs ds ∧ GdAll n m ds
section
variable {d g c : Addr} {k : Int} {n m n' m' : Nat} {H H' : Hp} {x : V} {xs ys : List V}
theorem Thg.fr (h : Thg d g n m H x) (f : Fr d g H H') : Thg d g n m H' x := let ⟨dd, h1, h2⟩ := h; ⟨dd, h1.same f.cut, h2⟩
theorem Ths.fr (h : Ths d g n m H xs) (f : Fr d g H H') : Ths d g n m H' xs := let ⟨dd, h1, h2⟩ := h; ⟨dd, h1.same f.cut, h2⟩
theorem Thg.mono (h : Thg d g n m H x) (a : n ≤ n') (b : m ≤ m') : Thg d g n' m' H x := let ⟨dd, h1, h2⟩ := h; ⟨dd, h1, h2.mono a b⟩
theorem Ths.mono (h : Ths d g n m H xs) (a : n ≤ n') (b : m ≤ m') : Ths d g n' m' H xs := let ⟨dd, h1, h2⟩ := h; ⟨dd, h1, h2.mono a b⟩
theorem Ths.nil : Ths d g n m H [] := ⟨[], .nil, .nil⟩
theorem Ths.cons (h : Thg d g n m H x) (t : Ths d g n' m H xs) : Ths d g (n + 1 + n') m H (x :: xs) := let ⟨a, h1, h2⟩ := h; let ⟨b, t1, t2⟩ := t; ⟨a :: b, .cons h1 t1, .cons h2 t2⟩
theorem Ths.append (h : Ths d g n m H xs) (t : Ths d g n' m H ys) : Ths d g (n + n') m H (xs ++ ys) := let ⟨a, h1, h2⟩ := h; let ⟨b, t1, t2⟩ := t; ⟨a ++ b, h1.append t1, h2.append t2⟩
theorem Ths.cutV (h : Ths d g n m H xs) (lo hi : Option Int) : Ths d g n m H (cutV xs lo hi) := let ⟨_, h1, h2⟩ := h; ⟨_, (h1.drop _).take _, (h2.drop _).take _⟩
theorem Ths.rev (h : Ths d g n m H xs) : Ths d g n m H xs.reverse := let ⟨_, h1, h2⟩ := h; ⟨_, h1.rev, h2.rev⟩
theorem Ths.get {i : Nat} (h : Ths d g n m H xs) (e : xs[i]? = some x) : Thg d g n m H x := by
  obtain ⟨ds, h1, h2⟩ := h
  obtain ⟨dd, e1, e2⟩ := h1.get e
  exact ⟨dd, e2, h2.get e1⟩
theorem GdAll.len {m : Nat} : ∀ {n : Nat} {ds : List PyData}, GdAll n m ds → ds.length ≤ n
  | _, [], _ => Nat.zero_le _
  | n, _ :: r, h => by
    obtain ⟨u, v, e, h1, h2⟩ := h.head
    have z := GdAll.len h2
    show r.length + 1 ≤ n
    omega
theorem Ths.len (h : Ths d g n m H xs) : xs.length ≤ n := by
  obtain ⟨ds, h1, h2⟩ := h
  rw [h1.length]
  exact h2.len
theorem Thg.newT {p : Addr} (D : Dk d g c k H) (hp : H p = none) (h : Ths d g n m H xs) : Thg d g n (m + 1) (upd H p (.tup xs)) (.ref p) := by
  obtain ⟨ds, h1, h2⟩ := h
  have np := D.nd hp
  exact ⟨.tuple ds, .tup (cut_at np.1 np.2.1 upd_same) (h1.same (Fr.new hp).cut), .tup h2⟩
theorem Thg.newL {p : Addr} (D : Dk d g c k H) (hp : H p = none) (h : Ths d g n m H xs) : Thg d g n (m + 1) (upd H p (.lst xs)) (.ref p) := by
  obtain ⟨ds, h1, h2⟩ := h
  have np := D.nd hp
  exact ⟨.list ds, .lst (cut_at np.1 np.2.1 upd_same) (h1.same (Fr.new hp).cut), .lst h2⟩
theorem Thg.tupOf {a : Addr} (e : H a = some (.tup xs)) (h1 : a ≠ d) (h2 : a ≠ g) (t : Ths d g n m H xs) : Thg d g n (m + 1) H (.ref a) := by
  obtain ⟨ds, k1, k2⟩ := t
  exact ⟨.tuple ds, .tup (cut_at h1 h2 e) k1, .tup k2⟩
theorem Thg.int {i : Int} (h : i.natAbs < 2 ^ 110) : Thg d g 111 m H (.int i) := ⟨.int i, .int i, (Gd.int (by decide) (by decide) h).mono (Nat.le_refl _) (Nat.zero_le _)⟩
theorem Thg.small {i : Int} (h : i.natAbs < 16) : Thg d g 5 m H (.int i) := ⟨.int i, .int i, (Gd.int (k := 4) (by decide) (by decide) h).mono (Nat.le_refl _) (Nat.zero_le _)⟩
theorem Ths.pick {r : Int} (h : Ths d g n m H xs) (h0 : 0 ≤ r) (h1 : r < xs.length) : ∃ y, atI xs r = some y ∧ Thg d g n m H y := by
  obtain ⟨j, rfl⟩ := Int.eq_ofNat_of_zero_le h0
  have hj : j < xs.length := by omega
  exact ⟨xs[j], atI_nat (List.getElem?_eq_getElem hj), h.get (List.getElem?_eq_getElem hj)⟩
theorem Ths.at_ {r : Int} (h : Ths d g n m H xs) (h0 : 0 ≤ r) (h1 : r < xs.length) : ∃ y, atI xs r = some y ∧ Thg d g n m H y := h.pick h0 h1
theorem Thg.bl {b : Bool} : Thg d g n m H (.bl b) := ⟨.bool b, .bl b, by simp [PyData.showable], by simp [PyData.leavesShort], by simp [PyData.weight], by simp [PyData.depth]⟩
theorem Thg.non : Thg d g n m H .non := ⟨.none, .non, by simp [PyData.showable], by simp [PyData.leavesShort], by simp [PyData.weight], by simp [PyData.depth]⟩
theorem Thg.str {z : Str} (h1 : PyData.leavesShort 120 (.str z) = true) (h2 : z.cps.size ≤ n) : Thg d g n m H (.str z) := ⟨.str z, .str z, by simp [PyData.showable], h1, by simpa [PyData.weight] using h2, by simp [PyData.depth]⟩
theorem Thg.dic {p : Addr} (D : Dk d g c k H) (hp : H p = none) : Thg d g n (m + 1) (upd H p (.dK [])) (.ref p) := by
  have np := D.nd hp
  exact ⟨.dict [], .dic (cut_at np.1 np.2.1 upd_same) .nil, by simp [PyData.showable, PyData.showableKv], by simp [PyData.leavesShort, PyData.leavesShortKv], by simp [PyData.weight, PyData.weightKv], by simp [PyData.depth, PyData.depthKv]⟩
/-- its type: a tuple of such, or something else -/
theorem Thg.ty (K : PySem.W.Frag) (h : Thg d g n m H x) : ∃ t, TyB1 K H x t ∧ ((isB t "tuple" = true ∧ ∃ a xs, x = .ref a ∧ H a = some (.tup xs) ∧ Ths d g n m H xs) ∨ isB t "tuple" = false) := by
  obtain ⟨dd, h1, h2⟩ := h
  have h1' := h1.same cut_same
  obtain ⟨t, ty, _, et⟩ := h1'.ty (K := K)
  refine ⟨t, ty, ?_⟩
  cases e : isTup dd with
  | false => exact .inr (et.trans e)
  | true =>
    obtain ⟨a, xs, ds, rfl, ha, hds, rfl⟩ := isTup_of h1 e
    exact .inl ⟨et.trans e, a, xs, rfl, cut_same _ _ ha, ds, hds, h2.of_tup⟩
theorem cat_ok {K : PySem.W.Frag} {a b : Addr} {Q : VK} (D : Dk d g c k H) (ha : H a = some (.tup xs)) (hb : H b = some (.tup ys)) (ta : Ths d g n m H xs) (tb : Ths d g n' m H ys) (hl : n + n' ≤ 100000)
    (q : ∀ (p : Addr) (zs : List V) (H' : Hp), Dk d g c k H' → Fr d g H H' → H' p = some (.tup zs) → Ths d g (n + n') m H' zs → Q (.ref p) H') : rCatA K (.ref a) (.ref b) H Q := by
  have l1 := ta.len
  have l2 := tb.len
  have e : sizeLine = 16777216 := by decide
  refine ⟨a, b, xs, ys, rfl, rfl, SqT.of ha, SqT.of hb, by omega, fun z => ?_, fun _ z => ?_, fun _ _ p hp => ?_⟩
  · exact q b ys H D (Fr.refl _ _ _) hb (tb.mono (by omega) (Nat.le_refl _))
  · exact q a xs H D (Fr.refl _ _ _) ha (ta.mono (by omega) (Nat.le_refl _))
  · exact q p _ _ (D.same (same_upd hp)) (.new hp) upd_same ((ta.append tb).fr (.new hp))
theorem sl_ok {K : PySem.W.Frag} {a : Addr} {lo hi : Option Int} {Q : VK} (D : Dk d g c k H) (ha : H a = some (.tup xs)) (ta : Ths d g n m H xs)
    (q : ∀ (p : Addr) (zs : List V) (H' : Hp), Dk d g c k H' → Fr d g H H' → H' p = some (.tup zs) → Ths d g n m H' zs → Q (.ref p) H') : rSlA K (.ref a) lo hi H Q :=
  ⟨a, xs, rfl, SqT.of ha, fun _ => q a xs H D (Fr.refl _ _ _) ha ta, fun _ p hp => q p _ _ (D.same (same_upd hp)) (.new hp) upd_same ((ta.cutV lo hi).fr (.new hp))⟩
end
/-! readings by the module's own objects, told outright (within comprehensions) -/
def rLen (K : PySem.W.Frag) : List V → Hp → VK → Prop := fun xs H Q => ∃ p ys, xs = [.ref p] ∧ (SqL K H p ys ∨ SqT K H p ys) ∧ Q (.int ys.length) H
def rTupOf (K : PySem.W.Frag) : List V → Hp → VK → Prop := fun xs H Q => ∃ p ys, xs = [.ref p] ∧ ((SqL K H p ys ∧ ∀ l, H l = none → Q (.ref l) (upd H l (.tup ys))) ∨ (SqT K H p ys ∧ Q (.ref p) H))
def rListOf (K : PySem.W.Frag) : List V → Hp → VK → Prop := fun xs H Q => ∃ p ys, xs = [.ref p] ∧ (SqL K H p ys ∨ SqT K H p ys) ∧ ∀ l, H l = none → Q (.ref l) (upd H l (.lst ys))
/-! ### rows: tuples of pairs -/
/-- all but tables stays; tables stay tables -/
structure Sm (H H' : Hp) : Prop where
  kp : ∀ a o, (∀ ps, o ≠ HO.tbl ps) → H a = some o → H' a = some o
  tb : ∀ P, GxR.TabG H P → GxR.TabG H' P
theorem Sm.refl (H : Hp) : Sm H H := ⟨fun _ _ _ e => e, fun _ e => e⟩
theorem Sm.trans {H H1 H2 : Hp} (a : Sm H H1) (b : Sm H1 H2) : Sm H H2 := ⟨fun x o n e => b.kp x o n (a.kp x o n e), fun P e => b.tb P (a.tb P e)⟩
theorem Sm.of_same {H H1 : Hp} (s : Same H H1) : Sm H H1 := ⟨fun x o _ e => s x o e, fun _ ⟨ps, e, t⟩ => ⟨ps, s _ _ e, t⟩⟩
theorem Sm.new {H : Hp} {p : Addr} {o : HO} (h : H p = none) : Sm H (upd H p o) := .of_same (same_upd h)
theorem Sm.tabbed {H H1 : Hp} {P : Addr} (g : GxR.TabG H P) (t : GxR.Tabbed P H H1) : Sm H H1 := by
  obtain ⟨t1, t2⟩ := t
  refine ⟨fun x o n e => ?_, fun R ⟨ps, e, tr⟩ => ?_⟩
  · by_cases h : x = P
    · obtain ⟨ps, e2, _⟩ := g
      rw [h, e2] at e
      cases e
      exact absurd rfl (n ps)
    · rw [t2 x h]
      exact e
  · by_cases h : R = P
    · rw [h]
      exact t1
    · exact ⟨ps, by rw [t2 R h]; exact e, tr⟩
theorem Sm.tup {H H1 : Hp} (s : Sm H H1) {a : Addr} {xs : List V} (e : H a = some (.tup xs)) : H1 a = some (.tup xs) := s.kp _ _ (fun _ z => by cases z) e
theorem Sm.lst {H H1 : Hp} (s : Sm H H1) {a : Addr} {xs : List V} (e : H a = some (.lst xs)) : H1 a = some (.lst xs) := s.kp _ _ (fun _ z => by cases z) e
/-- a list that is written while all else stays -/
theorem Sm.put {H H1 : Hp} {L : Addr} {o : HO} (s : Sm H H1) (h : H L = none) : Sm H (upd H1 L o) := by
  refine ⟨fun x u n e => ?_, fun R ⟨ps, e, t⟩ => ?_⟩
  · rw [upd_ne (ne_of_none e h)]
    exact s.kp _ _ n e
  · obtain ⟨qs, e2, t2⟩ := s.tb R ⟨ps, e, t⟩
    exact ⟨qs, by rw [upd_ne (ne_of_none e h)]; exact e2, t2⟩
abbrev Row := List (Int × Int)
def Pr (H : Hp) (x : V) (u : Int × Int) : Prop := ∃ a, x = .ref a ∧ H a = some (.tup [.int u.1, .int u.2])
structure Prs (H : Hp) (xs : List V) (r : Row) : Prop where
  len : xs.length = r.length
  get : ∀ {i : Nat} {x : V}, xs[i]? = some x → ∃ u, r[i]? = some u ∧ Pr H x u
def Rw (H : Hp) (t : Addr) (r : Row) : Prop := ∃ xs, H t = some (.tup xs) ∧ Prs H xs r
theorem Pr.sm {H H1 : Hp} {x : V} {u : Int × Int} (h : Pr H x u) (s : Sm H H1) : Pr H1 x u := let ⟨a, e, h⟩ := h; ⟨a, e, s.tup h⟩
theorem Prs.sm {H H1 : Hp} {xs : List V} {r : Row} (h : Prs H xs r) (s : Sm H H1) : Prs H1 xs r := ⟨h.len, fun e => let ⟨u, e2, p⟩ := h.get e; ⟨u, e2, p.sm s⟩⟩
theorem Rw.sm {H H1 : Hp} {t : Addr} {r : Row} (h : Rw H t r) (s : Sm H H1) : Rw H1 t r := let ⟨xs, e, p⟩ := h; ⟨xs, s.tup e, p.sm s⟩
theorem Prs.nil {H : Hp} : Prs H [] [] := ⟨rfl, fun {i x} e => by simp at e⟩
theorem Prs.snoc {H : Hp} {xs : List V} {r : Row} {x : V} {u : Int × Int} (h : Prs H xs r) (p : Pr H x u) : Prs H (xs ++ [x]) (r ++ [u]) := by
  refine ⟨by simp [h.len], fun {i y} e => ?_⟩
  by_cases hi : i < xs.length
  · rw [List.getElem?_append_left hi] at e
    rw [List.getElem?_append_left (by rw [← h.len]; exact hi)]
    exact h.get e
  · rw [List.getElem?_append_right (by omega)] at e
    rw [List.getElem?_append_right (by rw [← h.len]; omega), ← h.len]
    cases hk : i - xs.length with
    | zero =>
      rw [hk] at e
      cases e
      exact ⟨u, rfl, p⟩
    | succ m =>
      rw [hk] at e
      simp at e
theorem take_snoc {α : Type} {xs : List α} {i : Nat} {u : α} (e : xs[i]? = some u) : xs.take (i + 1) = xs.take i ++ [u] := by
  rw [List.take_add_one, e]
  rfl
/-! walks -/
section
variable {K : PySem.W.Frag} {a b : Addr} {xs ys : List V} {g : TG} {tt : TT} {te : TE} {vs : List Nat} {σ : L2.St} {Hs : Hp}
theorem gx_tup {Q : List V → Hp → Prop} (Pv : Nat → List V → Hp → Prop) (h0 : Pv 0 [] Hs) (hl : ∀ i zs H, i ≤ xs.length → Pv i zs H → SqT K H a xs)
    (hs : ∀ i x zs H, xs[i]? = some x → Pv i zs H → g x (wipe σ vs) H fun σ2 H2 => wipe σ2 vs = wipe σ vs ∧ te σ2 H2 fun y H3 => zs.length < sizeLine ∧ Pv (i + 1) (zs ++ [y]) H3) (hd : ∀ zs H, Pv xs.length zs H → Q zs H) :
    ∃ W : Nat → Nat → List V → Hp → Prop, (∃ m, W 0 m [] Hs) ∧ Gx.Turns (Itt K a) g te vs σ Q W := by
  refine ⟨fun i m zs H => m = xs.length - i ∧ i ≤ xs.length ∧ Pv i zs H, ⟨xs.length, by simp, Nat.zero_le _, h0⟩, ?_⟩
  rintro i m zs H ⟨rfl, hi, p⟩
  have q := hl i zs H hi p
  by_cases hlt : i < xs.length
  · refine .inr ⟨⟨xs, xs[i], q, by simp [hlt]⟩, Pv (i + 1), fun zs H' p' => ⟨xs.length - (i + 1), by omega, rfl, hlt, p'⟩, fun x H' y => ?_⟩
    obtain ⟨e, y⟩ := y
    subst e
    exact hs i x zs _ (y xs q) p
  · have e : i = xs.length := by omega
    subst e
    exact .inl ⟨⟨xs, q, Nat.le_refl _⟩, hd zs H p⟩
theorem gx_zip {Q : List V → Hp → Prop} (hle : xs.length = ys.length) (Pv : Nat → List V → Hp → Prop) (h0 : Pv 0 [] Hs) (hl : ∀ i zs H, Pv i zs H → SqT K H a xs ∧ SqT K H b ys)
    (hs : ∀ i x y T zs H, xs[i]? = some x → ys[i]? = some y → Pv i zs H → H T = none → g (.ref T) (wipe σ vs) (upd H T (.tup [x, y])) fun σ2 H2 => wipe σ2 vs = wipe σ vs ∧ te σ2 H2 fun y H3 => zs.length < sizeLine ∧ Pv (i + 1) (zs ++ [y]) H3) (hd : ∀ zs H, Pv xs.length zs H → Q zs H) :
    ∃ W : Nat → Nat → List V → Hp → Prop, (∃ m, W 0 m [] Hs) ∧ Gx.Turns (RZ.ItzT K a b) g te vs σ Q W := by
  refine ⟨fun i m zs H => m = xs.length - i ∧ i ≤ xs.length ∧ Pv i zs H, ⟨xs.length, by simp, Nat.zero_le _, h0⟩, ?_⟩
  rintro i m zs H ⟨rfl, hi, p⟩
  obtain ⟨qx, qy⟩ := hl i zs H p
  by_cases hlt : i < xs.length
  · have hx : xs[i]? = some xs[i] := List.getElem?_eq_getElem hlt
    have hlt2 : i < ys.length := by omega
    have hy : ys[i]? = some ys[i] := List.getElem?_eq_getElem hlt2
    refine .inr ⟨⟨xs, ys, _, _, qx, qy, hx, hy⟩, Pv (i + 1), fun zs H' p' => ⟨xs.length - (i + 1), by omega, rfl, hlt, p'⟩, fun v H' y => ?_⟩
    obtain ⟨T, x', y', rfl, hT, rfl, f1, f2⟩ := y
    exact hs i x' y' T zs H (f1 xs qx) (f2 ys qy) p hT
  · have e : i = xs.length := by omega
    subst e
    exact .inl ⟨⟨xs, ys, qx, qy, Or.inl (Nat.le_refl _)⟩, hd zs H p⟩
theorem lc_zip {D : Addr} {Qd : Hp → Prop} (hle : xs.length = ys.length) (Pv : Nat → Hp → Prop) (h0 : Pv 0 (upd Hs D (.lst []))) (hl : ∀ i H, Pv i H → SqT K H a xs ∧ SqT K H b ys)
    (hs : ∀ i x y T H, xs[i]? = some x → ys[i]? = some y → Pv i H → H T = none → g (.ref T) (wipe σ vs) (upd H T (.tup [x, y])) fun σ2 H2 => wipe σ2 vs = wipe σ vs ∧ tt σ2 H2 fun b H3 =>
      if b = true then te σ2 H3 fun y H4 => ∃ acc, H4 D = some (.lst acc) ∧ acc.length < sizeLine ∧ Pv (i + 1) (upd H4 D (.lst (acc ++ [y]))) else Pv (i + 1) H3) (hd : ∀ H, Pv xs.length H → Qd H) :
    ∃ W : Nat → Nat → Hp → Prop, (∃ m, W 0 m (upd Hs D (.lst []))) ∧ ∀ i m H, W i m H →
      ((RZ.ItzT K a b).stop i H ∧ Qd H) ∨ ((RZ.ItzT K a b).go i H ∧ ∃ Nx : Hp → Prop, (∀ H', Nx H' → ∃ m', m' < m ∧ W (i + 1) m' H') ∧ ∀ x H', (RZ.ItzT K a b).yld i H x H' → g x (wipe σ vs) H' fun σ2 H2 => wipe σ2 vs = wipe σ vs ∧ tt σ2 H2 fun b H3 =>
        if b = true then te σ2 H3 fun y H4 => ∃ acc, H4 D = some (.lst acc) ∧ acc.length < sizeLine ∧ Nx (upd H4 D (.lst (acc ++ [y]))) else Nx H3) := by
  refine ⟨fun i m H => m = xs.length - i ∧ i ≤ xs.length ∧ Pv i H, ⟨xs.length, by simp, Nat.zero_le _, h0⟩, ?_⟩
  rintro i m H ⟨rfl, hi, p⟩
  obtain ⟨qx, qy⟩ := hl i H p
  by_cases hlt : i < xs.length
  · have hx : xs[i]? = some xs[i] := List.getElem?_eq_getElem hlt
    have hlt2 : i < ys.length := by omega
    have hy : ys[i]? = some ys[i] := List.getElem?_eq_getElem hlt2
    refine .inr ⟨⟨xs, ys, _, _, qx, qy, hx, hy⟩, Pv (i + 1), fun H' p' => ⟨xs.length - (i + 1), by omega, rfl, hlt, p'⟩, fun v H' y => ?_⟩
    obtain ⟨T, x', y', rfl, hT, rfl, f1, f2⟩ := y
    exact hs i x' y' T H (f1 xs qx) (f2 ys qy) p hT
  · have e : i = xs.length := by omega
    subst e
    exact .inl ⟨⟨xs, ys, qx, qy, Or.inl (Nat.le_refl _)⟩, hd H p⟩
end
/-! a def whose code object is known -/
structure FunC (K : PySem.W.Frag) (x qual : Str) (st : Stmt) (f : Addr) (fd : FuncData) (c : Addr) : Prop where
  ex : ∃ (oc : Value) (od : Option Addr) (kV doc pm : Value) (an : Option Addr) (ct : Value) (osl : Array (Option Value)),
    fd = PySem.W.fnOf x qual (defArgs st) (defBody st) (defScope st) .none kV doc pm an (.ref c) ct ∧ K.lookup f = some ⟨oc, od, .func fd, osl⟩ ∧ PySem.W.codeIn K (.ref c) qual = true
open PySem.Spec PyProof.Rows in
theorem FunC.ok {P : Program} {w : World} {K : PySem.W.Frag} {mg : Str → Option Value} {base : Heap} {x qual : Str} {st : Stmt} {f c : Addr} {fd : FuncData} {N ps : List Str} {k : Nat} {sp : Sp} (F : FunC K x qual st f fd c) (S : FnScope N ps (defScope st)) (len : ∀ vs H Q E, sp vs H Q E → vs.length = ps.length)
    (hbody : ∀ (A : Around) (outer : List Env) (s : Shared) (H : Hp) (vs : List V) (Q : VK) (E : XK), Room k (A.deeper (envOfC qual (defScope st) s.heap.objs.size f (.ref c))) → sp vs H Q E →
      ∃ t, PSs (cxOf CX0 P w K mg base N qual (defScope st) f (.ref c) A outer s H E).nox (defBody st) t ∧ t { nx := fun _ H' => Q .non H', rt := Q } (start N vs) H) : FnOk P w K mg base CX0 (k + 1) f fd ps sp := by
  obtain ⟨oc, od, kV, doc, pm, an, ct, osl, rfl, lk, hcd⟩ := F.ex
  refine fn_of lk hcd S len fun A outer s H vs Q E hr hsp => ?_
  obtain ⟨t, h, q⟩ := hbody A outer s H vs Q E hr hsp
  exact ⟨t, h.nox, q⟩
/-! what is reckoned -/
def addR (p : Int) (r s : Row) : Row := List.zipWith (fun u v => ((u.1 + v.1) % p, (u.2 + v.2) % p)) r s
def timR (p n : Int) (r : Row) : Row := r.map fun u => (n * u.1 % p, n * u.2 % p)
def mets (r s : Row) : List Int := List.zipWith (fun u v => u.1 * v.2 - v.1 * u.2) r s
def metR (p : Int) (r s : Row) : Int := (mets r s).sum % p
def parR (r : Row) (js : List Nat) : Row := js.map fun j => r.getD j (0, 0)
def noR (n : Nat) : Row := List.replicate n (0, 0)
/-- a row of numbers that are no greater than we reckon with -/
def Fit (r : Row) : Prop := r.length ≤ 20 ∧ ∀ u ∈ r, (0 ≤ u.1 ∧ u.1 < 13) ∧ 0 ≤ u.2 ∧ u.2 < 13
theorem Fit.get {r : Row} (h : Fit r) {i : Nat} {u : Int × Int} (e : r[i]? = some u) : (0 ≤ u.1 ∧ u.1 < 13) ∧ 0 ≤ u.2 ∧ u.2 < 13 := h.2 u (List.mem_of_getElem? e)
theorem cmul {a b : Int} (h : 0 ≤ a ∧ a < 13) : CMul a b := .inl ⟨by omega, by omega⟩
theorem small {n : Nat} (h : n ≤ 1000) : n < sizeLine := small1000 h
structure Cd where
  c_row_of : Addr
  p_row_of : Addr
  c_crossed : Addr
  p_crossed : Addr
structure Tb (K : PySem.W.Frag) (mg : Str → Option Value) (base : Heap) (A : Ad) (C : Cd) : Prop where
  t_row_of : GxR.TabB base mg C.c_row_of C.p_row_of
  k_row_of : FunC K "row_of" "row_of" s_row_of A.f_row_of A.d_row_of C.c_row_of
  t_crossed : GxR.TabB base mg C.c_crossed C.p_crossed
  k_crossed : FunC K "crossed" "crossed" s_crossed A.f_crossed A.d_crossed C.c_crossed
/-! ### the end of a law with tables -/
open PySem.Spec PyProof.Rows in
def OwnTabs (names : List Str) (mg : Str → Option Value) (h : Heap) : Prop := ∀ x ∈ names, ∃ (a : Addr) (o : Obj) (fd : FuncData) (c P : Addr), mg x = some (.ref a) ∧ h.get? a = some o ∧ o.data = .func fd ∧ fd.code = .ref c ∧ PySem.W.CodeHd h c P ∧ h.get? P = some { cls := .none, data := .fields #[] }
open PySem.Spec PyProof.Rows in
theorem own_at {names : List Str} {mg : Str → Option Value} {h : Heap} {K : PySem.W.Frag} {x : Str} {f q p : Addr} {oc e : Value} {od dd : Option Addr} {fd : FuncData} {sl us : Array (Option Value)} {vs : Array Value} (own : OwnTabs names mg h) (hx : x ∈ names) (X : K.In h) (m : mg x = some (.ref f))
    (l : K.lookup f = some ⟨oc, od, .func fd, sl⟩) (hc : fd.code = .ref q) (u : K.lookup q = some ⟨e, dd, .fields vs, us⟩) (g : vs[11]? = some (.ref p)) : PySem.W.CodeHd h q p ∧ h.get? p = some { cls := .none, data := .fields #[] } := by
  obtain ⟨a, o, fd', c, P, h1, h2, h3, h4, h5, h6⟩ := own x hx
  rw [m] at h1
  cases h1
  rw [X _ _ l] at h2
  cases h2
  cases h3
  rw [hc] at h4
  cases h4
  have h5' := h5
  obtain ⟨o, vs', file, tf, flags, tg, inF, text, tt, e1, r1, r2, r3, _⟩ := h5
  rw [X _ _ u] at e1
  cases e1
  cases r2
  rw [g] at r3
  cases r3
  exact ⟨h5', h6⟩
theorem tb_conv {base : Heap} {mg : Str → Option Value} {c P : Addr} (t : LamX.TabB base mg c P) : GxR.TabB base mg c P := ⟨t.code, t.bm, t.gP⟩
theorem tab0 {H : Hp} {P : Addr} (h : H P = some (.tbl #[])) : GxR.TabG H P := ⟨#[], h, trivial⟩
open PySem.Spec PyProof.Rows in
theorem walkT {l : PySem.W.OpenLaw} {k : Nat} {x : Str} {q : Program} {loose : List Str} {XP : (Str → Option Value) → Heap → Prop} {YP : World → Heap → Prop} {d : DefRec} {K : Params → PySem.W.Frag} (names : List Str) (hn : l.most = some 63) (hdf : d.params.defaults = []) (hr : Room k callerA)
    (hrec : (names.all fun y => (recsOf q).any fun e => e.name == y) = true) (hY : ∀ (w : World) (h : Heap), YP w h → (K w.params).In h)
    (F : ∀ (w : World) (mg : Str → Option Value) (fa : Addr) (h : Heap), (K w.params).In h → h.Ns mainGlobals mg → mg d.name = some (.ref fa) → OwnTabs names mg h → LamX.LawAtS l w (K w.params) CX0 k 63 x mg fa h) :
    PySem.W.WalkO q loose XP YP l.row.toRowW d [] (fun f vs => PySem.call f vs) := by
  refine Att.attach_callB hn hdf fun w s₀ s₁ mg mb fa o pm cd doc a vs ns G Y ho hd hcd hmg hobj hints hlen hbits hg => ?_
  have KX := hY w _ Y
  have own : OwnTabs names mg s₁.heap := fun y hy => by
    obtain ⟨dL, hm, hn1⟩ := List.any_eq_true.mp (List.all_eq_true.mp hrec y hy)
    have hn2 : dL.name = y := beq_iff_eq.mp hn1
    obtain ⟨a', o', fd', c', P', h1, h2, h3, h4, h5, h6⟩ := G.T.tab dL hm
    rw [hn2] at h1
    exact ⟨a', o', fd', c', P', h1, h2, h3, h4, PySem.W.CodeHd.of h5 h6, h6.2⟩
  obtain ⟨fd, cs, sp, hT, nT, C, hb, hsp, hF⟩ := F w mg fa _ KX G.T.g hmg own
  exact LamX.law_callTs KX G.T.g G.T.b G.T.builtins G.T.nolimit hg hT nT C G.T.bmain hobj hints (Nat.le_trans hlen (by decide)) hr hF hb (fun H hH hS => hsp H a ns hlen hbits hH hS) fun H e s' z => z
/-! ### the law's end with guards and with tables -/
open PySem.Spec PyProof.Rows in
theorem core_endT {P : Program} {w : World} {K : PySem.W.Frag} {mg mb : Str → Option Value} {fa a : Addr} {t : Shared} {vs : List Value} {H : Hp} (cs : List (Addr × Addr))
    (kin : K.In t.heap) (hm : t.heap.Ns mainGlobals mg) (hb : t.heap.Ns builtinsNs mb) (boot : ∀ x : Str, x ≠ "__name__" → mb x = bootBuiltins x)
    (nol : t.heap.NoLimit) (hg : t.gens = #[]) (ha : t.heap.get? a = some { cls := .type "list", data := .seq vs.toArray })
    (hbm : ∃ (bm : Addr) (ob : Obj), mg "__builtins__" = some (.ref bm) ∧ bm ≠ builtinsNs ∧ t.heap.get? bm = some ob ∧ ob.cls = .type "module" ∧ ob.dict = some builtinsNs ∧ ob.data = .plain)
    (tabs : ∀ p ∈ cs, t.heap.get? p.2 = some { cls := .none, data := .fields #[] }) (hC : ∀ p ∈ cs, PySem.W.CodeHd t.heap p.1 p.2) (nT : ∀ p ∈ cs, K.lookup p.2 = none) (hT : ∀ p ∈ cs, H p.2 = some (.tbl #[]))
    (only : ∀ b, H b = none ∨ (∃ ob xs, H b = some (.frz ob (.lst xs))) ∨ ∃ p ∈ cs, p.2 = b) (hok : HOk P w H t.heap) (atA : ∀ b o, H b = some o → b = a ∨ ∃ p ∈ cs, p.2 = b) (notK : ∀ o, H a = some o → K.lookup a = none)
    (R : ∀ base : Heap, (∀ b o, t.heap.get? b = some o → H b = none → base.get? b = some o) → (∀ p ∈ cs, GxR.TabB base mg p.1 p.2) → Env0 P w K mg base callerA [] t H →
      codeAny (model P w) callerA (.call (.ref fa) ⟨[.ref a], []⟩) (CR CX0 [] P w H t (fun v _ => v = .bl true) E0) t) :
    codeAny (model P w) callerA (.call (.ref fa) ⟨[.ref a], []⟩)
      (fun r u => r = .ok (.ret (.bool true)) ∧ PySem.OldK t.heap u.heap ∧ u.os = t.os ∧ AllBare u.gens) t := by
  have hid : ∀ {b o}, t.heap.get? b = some o → H b = none → (hidT t.heap H).get? b = some o := fun z n => hidT_get z n
  have free : ∀ {b : Addr} {o : Obj}, t.heap.get? b = some o → (∀ us n, o.data ≠ .seq us n) → o.data ≠ .fields #[] → H b = none := by
    intro b o z h1 h2
    cases q : H b with
    | none => rfl
    | some u =>
      rcases atA b u q with e | ⟨p, hp, e⟩
      · subst e
        rw [ha] at z
        cases z
        exact absurd rfl (h1 _ _)
      · subst e
        rw [tabs p hp] at z
        cases z
        exact absurd rfl h2
  have names : ∀ {b : Addr} {m : Str → Option Value}, t.heap.Ns b m → (hidT t.heap H).Ns b m := by
    rintro b m ⟨o, es, ep, z, d, r⟩
    refine ⟨o, es, ep, hid z (free z (fun us n e => ?_) fun e => ?_), d, r⟩
    · rw [d] at e
      cases e
    · rw [d] at e
      cases e
  have kinB : K.In (hidT t.heap H) := by
    intro b o z
    refine hid (kin b o z) ?_
    cases q : H b with
    | none => rfl
    | some u =>
      rcases atA b u q with e | ⟨p, hp, e⟩
      · subst e
        rw [notK u q] at z
        cases z
      · subst e
        rw [nT p hp] at z
        cases z
  obtain ⟨mc, n1, n2⟩ := nol
  have md : Mod K mg (hidT t.heap H) := ⟨kinB, names hm, ⟨mb, names hb, boot⟩, ⟨mc, names n1, n2⟩⟩
  have e0 : Env0 P w K mg (hidT t.heap H) callerA [] t H := by
    refine ⟨rfl, md, fun b o z => of_hidT z, Nat.le_of_eq (hidT_size _ _), trivial, fun b z => ?_, hok, .of_eq hg⟩
    exact (List.not_mem_nil (show b ∈ ([] : List Addr) from z)).elim
  have TB : ∀ p ∈ cs, GxR.TabB (hidT t.heap H) mg p.1 p.2 := by
    intro p hp
    have hTp := tabs p hp
    obtain ⟨mo, me, mp, mz, mdat, _⟩ := hm
    refine ⟨?_, ?_, fun z => ?_⟩
    · obtain ⟨o, us, file, tf, flags, tg, inF, text, tt, e1, r1, r2, r3, rest⟩ := hC p hp
      refine ⟨o, us, file, tf, flags, tg, inF, text, tt, hid e1 (free e1 (fun us n z => ?_) fun z => ?_), r1, r2, r3, rest⟩
      · rw [r2] at z
        cases z
      · rw [r2] at z
        cases z
        simp at r3
    · obtain ⟨bm, ob, b1, b2, b3, b4, b5, b6⟩ := hbm
      refine ⟨bm, ob, b1, b2, fun q => ?_, fun q => ?_, hid b3 (free b3 (fun us n z => ?_) fun z => ?_), b4, b5, b6⟩
      · rw [q, mz] at b3
        cases b3
        rw [mdat] at b6
        cases b6
      · rw [q, hTp] at b3
        cases b3
        cases b6
      · rw [b6] at z
        cases z
      · rw [b6] at z
        cases z
    · rw [z, hTp] at mz
      cases mz
      cases mdat
  refine codeAny_mono (R _ (fun b o z n => hid z n) TB e0) fun r u h => ?_
  match r, h with
  | .ok (.ret y), ⟨v, H', hos, bare, un, hok', rel, e⟩ =>
    have e2 : v = V.bl true := e
    subst e2
    cases (show y = Value.bool true from rel)
    have grown : ∀ p ∈ cs, ∃ more : Array Value, u.heap.get? p.2 = some { cls := .none, data := .fields more } := fun p hp => by
      obtain ⟨more, z⟩ := un.tbls p.2 #[] (hT p hp)
      exact ⟨_, hok' p.2 _ z⟩
    have key : ∀ b o, t.heap.get? b = some o → u.heap.get? b = some o ∨ ∃ p ∈ cs, p.2 = b := by
      intro b o z
      rcases only b with n | ⟨ob, xs, n⟩ | n
      · exact .inl (un.keep b o z n (fun y => (List.not_mem_nil (show b ∈ ([] : List Addr) from y)).elim) (by simp))
      · obtain ⟨g1, _⟩ := hok b _ n
        obtain ⟨g2, _⟩ := hok' b _ (un.frzs b ob _ n)
        rw [g1] at z
        cases z
        exact .inl g2
      · exact .inr n
    refine ⟨rfl, ⟨fun b o z => ?_, fun b o z => ?_⟩, hos, bare⟩
    · rcases key b o z with k | ⟨p, hp, e⟩
      · exact .inl k
      · subst e
        obtain ⟨more, hmo⟩ := grown p hp
        rw [tabs p hp] at z
        cases z
        exact .inr (.inl ⟨((hC p hp).tab (tabs p hp)).isCodeTable, rfl, #[], more, rfl, by rw [Array.empty_append]; exact hmo⟩)
    · rcases key b o z with k | ⟨p, hp, e⟩
      · exact ⟨o, k⟩
      · subst e
        obtain ⟨more, hmo⟩ := grown p hp
        exact ⟨_, hmo⟩
  | .ok .next, h => exact False.elim h
  | .ok .brk, h => exact False.elim h
  | .ok .cont, h => exact False.elim h
  | .error _, h => exact False.elim h
open PySem.Spec PyProof.Rows in
/-- the law's call, over every script of at most 63 numbers, gives True; cs: code objects and tables -/
def LawOkT (P : Program) (w : World) (K : PySem.W.Frag) (mg : Str → Option Value) (fa : Addr) (cs : List (Addr × Addr)) : Prop :=
  ∀ (base : Heap) (t : Shared) (H : Hp) (a : Addr) (ns : List Int), ns.length ≤ 63 → (∃ o, base.get? sysModules = some o) → Env0 P w K mg base callerA [] t H → (∀ p ∈ cs, GxR.TabB base mg p.1 p.2) → (∀ p ∈ cs, H p.2 = some (.tbl #[])) → SqL K H a (ns.map V.int) →
    codeAny (model P w) callerA (.call (.ref fa) ⟨[.ref a], []⟩) (CR CX0 [] P w H t (fun v _ => v = .bl true) E0) t
open PySem.Spec PyProof.Rows in
theorem walk_gT {l : PySem.W.OpenLaw} {q : Program} {loose : List Str} {XP : (Str → Option Value) → Heap → Prop} {YP : World → Heap → Prop} {d : DefRec} {K : Params → PySem.W.Frag} (nms : List Str)
    (hn : l.most = some 63) (hdf : d.params.defaults = []) (hi : importsNone q = true) (hrec : (nms.all fun y => (recsOf q).any fun e => e.name == y) = true) (hY : ∀ (w : World) (h : Heap), YP w h → (K w.params).In h)
    (F : ∀ (w : World) (mg : Str → Option Value) (fa : Addr) (h : Heap), (K w.params).In h → h.Ns mainGlobals mg → mg d.name = some (.ref fa) → OwnTabs nms mg h → ∃ cs : List (Addr × Addr), (∀ p ∈ cs, h.get? p.2 = some { cls := .none, data := .fields #[] }) ∧ (∀ p ∈ cs, (K w.params).lookup p.2 = none) ∧
      (∀ p ∈ cs, PySem.W.CodeHd h p.1 p.2) ∧ LawOkT l.prog w (K w.params) mg fa cs) :
    PySem.W.WalkO q loose XP YP l.row.toRowW d [] (fun f vs => PySem.call f vs) := by
  refine Att.attach_call hn hdf fun w s₀ t mg mb fa o pm cd doc a vs ns G Y ho hd hcd hmg hobj hints hlen hg => ?_
  have kin := hY w _ Y
  have own : OwnTabs nms mg t.heap := fun y hy => by
    obtain ⟨dL, hm, hn1⟩ := List.any_eq_true.mp (List.all_eq_true.mp hrec y hy)
    have hn2 : dL.name = y := beq_iff_eq.mp hn1
    obtain ⟨a', o', fd', c', P', h1, h2, h3, h4, h5, h6⟩ := G.T.tab dL hm
    rw [hn2] at h1
    exact ⟨a', o', fd', c', P', h1, h2, h3, h4, PySem.W.CodeHd.of h5 h6, h6.2⟩
  obtain ⟨cs, tabs, nT, hC, L⟩ := F w mg fa _ kin G.T.g hmg own
  have rv := vals_ints hints
  have small : ns.length ≤ sizeLine := Nat.le_trans hlen (by decide)
  obtain ⟨mm, ⟨os, es, ep, hos, hod, _⟩, _⟩ := (G.T.seer hi).mods
  have neT : ∀ p ∈ cs, p.2 ≠ a := fun p hp z => by
    have e := tabs p hp
    rw [z, hobj] at e
    have e' := congrArg Obj.data (Option.some.inj e)
    cases e'
  have neS : ∀ p ∈ cs, p.2 ≠ sysModules := fun p hp z => by
    have e := tabs p hp
    rw [z, hos] at e
    cases e
    cases hod
  have mem : ∀ {b}, b ∈ cs.map (·.2) → ∃ p ∈ cs, p.2 = b := fun h => List.mem_map.mp h
  have inn : ∀ p ∈ cs, p.2 ∈ cs.map (·.2) := fun p hp => List.mem_map.mpr ⟨p, hp, rfl⟩
  cases hk : (K w.params).lookup a with
  | some u =>
    have z := kin a u hk
    rw [hobj] at z
    cases z
    refine core_endT cs (H := fun b => if b ∈ cs.map (·.2) then some (.tbl #[]) else none) kin G.T.g G.T.b G.T.builtins G.T.nolimit hg hobj G.T.bmain tabs hC nT (fun p hp => if_pos (inn p hp)) (fun b => ?_) (fun b u z => ?_) (fun b o z => ?_) (fun o z => ?_) fun base up TB e0 => ?_
    · by_cases h : b ∈ cs.map (·.2)
      · exact .inr (.inr (mem h))
      · exact .inl (if_neg h)
    · by_cases h : b ∈ cs.map (·.2)
      · cases (if_pos h).symm.trans z
        obtain ⟨p, hp, rfl⟩ := mem h
        exact tabs p hp
      · cases (if_neg h).symm.trans z
    · by_cases h : b ∈ cs.map (·.2)
      · exact .inr (mem h)
      · cases (if_neg h).symm.trans z
    · by_cases h : a ∈ cs.map (·.2)
      · obtain ⟨p, hp, e⟩ := mem h
        exact absurd e (neT p hp)
      · cases (if_neg h).symm.trans z
    · refine L base t _ a ns hlen ⟨_, up _ _ hos (if_neg fun h => ?_)⟩ e0 TB (fun p hp => if_pos (inn p hp)) (.inr ⟨_, vs.toArray, _, hk, rfl, rfl, rfl, by rw [List.size_toArray, hints.length]; exact small, by simpa using rv⟩)
      obtain ⟨p, hp, e⟩ := mem h
      exact neS p hp e
  | none =>
    refine core_endT cs (H := fun b => if b = a then some (.frz { cls := .type "list", data := .seq vs.toArray } (.lst (ns.map V.int))) else if b ∈ cs.map (·.2) then some (.tbl #[]) else none) kin G.T.g G.T.b G.T.builtins G.T.nolimit hg hobj G.T.bmain tabs hC nT (fun p hp => (if_neg (neT p hp)).trans (if_pos (inn p hp))) (fun b => ?_) (fun b u z => ?_) (fun b o z => ?_) (fun _ _ => hk) fun base up TB e0 => ?_
    · by_cases e : b = a
      · exact .inr (.inl ⟨_, _, if_pos e⟩)
      · by_cases h : b ∈ cs.map (·.2)
        · exact .inr (.inr (mem h))
        · exact .inl ((if_neg e).trans (if_neg h))
    · by_cases e : b = a
      · cases (if_pos e).symm.trans z
        subst e
        exact ⟨hobj, by rw [List.length_map]; exact small, vs, _, rv, hobj⟩
      · have z1 := (if_neg e).symm.trans z
        by_cases h : b ∈ cs.map (·.2)
        · cases (if_pos h).symm.trans z1
          obtain ⟨p, hp, rfl⟩ := mem h
          exact tabs p hp
        · cases (if_neg h).symm.trans z1
    · by_cases e : b = a
      · exact .inl e
      · have z1 := (if_neg e).symm.trans z
        by_cases h : b ∈ cs.map (·.2)
        · exact .inr (mem h)
        · cases (if_neg h).symm.trans z1
    · have ne : sysModules ≠ a := fun z => by
        rw [z, hobj] at hos
        cases hos
        cases hod
      have ne2 : ¬ sysModules ∈ cs.map (·.2) := fun h => by
        obtain ⟨p, hp, e⟩ := mem h
        exact neS p hp e
      have h1 := L base t _ a ns hlen ⟨_, up _ _ hos ((if_neg ne).trans (if_neg ne2))⟩ e0 TB (fun p hp => (if_neg (neT p hp)).trans (if_pos (inn p hp)))
      exact h1 (.inl (.inr ⟨_, if_pos rfl⟩))
open PySem.Spec PyProof.Rows in
theorem law_atT {P : Program} {w : World} {K : PySem.W.Frag} {mg : Str → Option Value} {st : Stmt} {f : Addr} {fd : FuncData} {N : List Str} {p : Str} {k : Nat} {cs : List (Addr × Addr)}
    (D : Df K mg "law" st [p] f fd) (S : FnScope N [p] (defScope st)) (room : Room (k + 1) callerA)
    (body : ∀ (base : Heap) (t : Shared) (H : Hp) (a : Addr) (ns : List Int) (cdv : Value), ns.length ≤ 63 → (∃ o, base.get? sysModules = some o) → (∀ p ∈ cs, GxR.TabB base mg p.1 p.2) → (∀ p ∈ cs, H p.2 = some (.tbl #[])) → SqL K H a (ns.map V.int) →
      Room k (callerA.deeper (envOfC "law" (defScope st) t.heap.objs.size f cdv)) →
      ∃ tm, PSs (cxOf CX0 P w K mg base N "law" (defScope st) f cdv callerA [] t H E0).nox (defBody st) tm ∧
        tm { nx := fun _ _ => V.non = .bl true, rt := fun v _ => v = .bl true } (start N [.ref a]) H) : LawOkT P w K mg f cs := by
  intro base t H a ns hl hm e0 TB hH hS
  have kin : K.In t.heap := e0.mod.kin.keeps fun b o z => (e0.bs b o z).1
  exact at_call (vs := [.ref a]) D.F S rfl room e0 (D.b t [.ref a] kin rfl) (.cons rfl .nil) fun cdv hr => body base t H a ns cdv hl hm TB hH hS hr
/-! a generator expression over a walk -/
theorem gx_it {J : It} {n : Nat} {G : Hp → Prop} {Y : Nat → Hp → V → Hp → Prop} (w : Walk J n G Y) {g : TG} {te : TE} {vs : List Nat} {σ : L2.St} {Hs : Hp} {Q : List V → Hp → Prop} (Pv : Nat → List V → Hp → Prop) (h0 : Pv 0 [] Hs) (hG : ∀ i zs H, i ≤ n → Pv i zs H → G H)
    (hs : ∀ i x zs H H', i < n → Pv i zs H → Y i H x H' → g x (wipe σ vs) H' fun σ2 H2 => wipe σ2 vs = wipe σ vs ∧ te σ2 H2 fun y H3 => zs.length < sizeLine ∧ Pv (i + 1) (zs ++ [y]) H3) (hd : ∀ zs H, Pv n zs H → Q zs H) :
    ∃ W : Nat → Nat → List V → Hp → Prop, (∃ m, W 0 m [] Hs) ∧ Gx.Turns J g te vs σ Q W := by
  refine ⟨fun i m zs H => m + i = n ∧ Pv i zs H, ⟨n, rfl, h0⟩, ?_⟩
  rintro i m zs H ⟨e, p⟩
  have q := hG i zs H (by omega) p
  cases m with
  | zero =>
    have e' : i = n := by omega
    subst e'
    exact .inl ⟨w.stops H q, hd zs H p⟩
  | succ m => exact .inr ⟨w.goes i H (by omega) q, Pv (i + 1), fun zs H' p' => ⟨m, by omega, by omega, p'⟩, fun x H' y => hs i x zs H H' (by omega) p (w.yields i H x H' (by omega) q y)⟩
section
variable {P : Program} {w : World} {K : PySem.W.Frag} {mg : Str → Option Value} {base : Heap} {A : Ad} {C : Cd}
/-! ### the deck -/
def spDeck (K : PySem.W.Frag) : Sp := fun vs H Q _ => ∃ (a : Addr) (ns : List Int), vs = [.ref a] ∧ SqL K H a (ns.map V.int) ∧ ns.length ≤ 63 ∧
  ∀ (d g c : Addr) (H' : Hp), Same H H' → H d = none → H g = none → H c = none → Dk d g c 0 H' → Q (.ref d) H'
theorem ok__law_deck (T : Tx K mg A) : FnOk P w K mg base CX0 1 A.f__law_deck A.d__law_deck ["_law_script"] (spDeck K) := by
  refine T.d__law_deck.F.ok sc__law_deck (fun vs H Q E h => ?_) (fun cdv A outer s H vs Q E hr h => ?_)
  · obtain ⟨a, ns, rfl, _⟩ := h
    rfl
  · obtain ⟨a, ns, rfl, hS, hlen, k⟩ := h
    refine ⟨_, (pss_cons (ps_setLc (i := 1) (own := [("_law_cell", 2)]) rfl sc__law_deck.nd rfl rfl (sw_true rfl rfl rfl (by decide +kernel)) (pi_list (pv 0)) (blkOk_by (N := N__law_deck) (sc := defScope s__law_deck) (by decide +kernel)) (fun _ _ _ _ _ => (pg_name (i := 2) sc__law_deck.nd rfl (.inl rfl))) (fun _ _ _ _ _ => pts_nil) (fun _ _ _ _ _ => (pe_callB call_abs (by rfl) T.b_abs PyProof.Rows.boot_abs (pa_cons (pv 2) pa_nil))))
        (pss_one (ps_ret (pe_lst (pa_cons (pe_lc (own := [("_law_cell", 2)]) rfl sc__law_deck.nd (pi_list (pv 1)) (blkOk_by (N := N__law_deck) (sc := defScope s__law_deck) (by decide +kernel)) (fun _ _ _ _ _ => (pg_name (i := 2) sc__law_deck.nd rfl (.inl rfl))) (fun _ _ _ _ _ => (pts_one (pt_cmpR op_ge (pv 2) (pe_op op_pow pe_int pe_int) (nomark _)))) (fun _ _ _ _ _ => (pv 2))) (pa_cons (pe_op op_cat (pv 1) (pe_lst (pa_cons (pe_op op_add (pe_callB call_len_seq (by rfl) T.b_len PySem.boot_len (pa_cons (pv 1) pa_nil)) pe_int) pa_nil))) (pa_cons pe_int pa_nil))))))), ?_⟩
    -- cells = [abs(cell) for cell in script]
    refine ⟨.ref a, rfl, a, rfl, ⟨_, hS⟩, fun D hD => lc_list (xs := ns.map V.int) (fun i H' => Same H H' ∧ ∃ cs : List Int, cs.length = i ∧ H' D = some (.lst (cs.map V.int))) ⟨same_upd hD, [], rfl, upd_same⟩ (fun i H' _ h => h.1.seq hS) ?_ ?_⟩
    · rintro i x H' hi ⟨s1, cs, hc, hDs⟩
      obtain ⟨u, rfl⟩ := int_of_map hi
      have hi63 : i < ns.length := by
        have q := (List.getElem?_eq_some_iff.mp hi).1
        rw [List.length_map] at q
        exact q
      refine ⟨rfl, .int u, rfl, u, rfl, cs.map V.int, hDs, by rw [List.length_map]; exact small1000 (by omega), ?_⟩
      refine ⟨fun b o e => ?_, cs ++ [if u < 0 then -u else u], by rw [List.length_append, hc]; rfl, by rw [upd_same, List.map_append]; rfl⟩
      rw [upd_ne (ne_of_none e hD)]
      exact s1 _ _ e
    · rintro H1 ⟨s1, cs, hc, hDs⟩
      rw [List.length_map] at hc
      -- the great ones
      refine ⟨.ref D, rfl, D, rfl, ⟨_, .inl (.inl hDs)⟩, fun G hG => lc_list (xs := cs.map V.int) (fun i H' => Same H1 H' ∧ ∃ gs : List Int, gs.length ≤ i ∧ H' G = some (.lst (gs.map V.int))) ⟨same_upd hG, [], Nat.le_refl _, upd_same⟩ (fun i H' _ h => h.1.seq (.inl (.inl hDs))) ?_ ?_⟩
      · rintro i x H' hi ⟨s2, gs, hg, hGs⟩
        obtain ⟨u, rfl⟩ := int_of_map hi
        have hi63 : i < cs.length := by
          have q := (List.getElem?_eq_some_iff.mp hi).1
          rw [List.length_map] at q
          exact q
        refine ⟨rfl, .int u, rfl, _, _, rfl, rfl, ⟨by decide, by decide, by decide⟩, u, _, rfl, rfl, _, rfl, ite2 (fun _ => ?_) (fun _ => ?_)⟩
        · refine ⟨.int u, rfl, gs.map V.int, hGs, by rw [List.length_map]; exact small1000 (by omega), fun b o e => ?_, gs ++ [u], ?_, by rw [upd_same, List.map_append]; rfl⟩
          · rw [upd_ne (ne_of_none e hG)]
            exact s2 _ _ e
          · rw [List.length_append, List.length_singleton]
            omega
        · exact ⟨s2, gs, by omega, hGs⟩
      · rintro H2 ⟨s2, gs, hg, hGs⟩
        rw [List.length_map] at hg
        have hD2 : H2 D = some (.lst (cs.map V.int)) := s2 _ _ hDs
        -- cells + [len(cells) + 3]
        refine ⟨.ref D, rfl, .ref D, rfl, D, _, rfl, .inl (.inl (.inl hD2)), _, _, rfl, rfl, (by show 1 ≤ sizeLine; decide), fun p hp => ?_⟩
        have npD : D ≠ p := ne_of_none hD2 hp
        have npG : G ≠ p := ne_of_none hGs hp
        refine ⟨D, p, cs.map V.int, _, rfl, rfl, by rw [upd_ne npD]; exact hD2, upd_same, ?_, fun c hc' => ?_⟩
        · rw [List.length_map]
          exact Nat.le_of_lt (small1000 (by show cs.length + 1 ≤ 1000; omega))
        · have ncp : c ≠ p := fun e => by
            rw [e, upd_same] at hc'
            cases hc'
          have hc2 : H2 c = none := by
            rw [upd_ne ncp] at hc'
            exact hc'
          have ncG : G ≠ c := ne_of_none hGs hc2
          refine ⟨(by show 3 ≤ sizeLine; decide), fun d hd => ?_⟩
          have ndc : d ≠ c := fun e => by
            rw [e, upd_same] at hd
            cases hd
          rw [upd_ne ndc] at hd
          have ndp : d ≠ p := fun e => by
            rw [e, upd_same] at hd
            cases hd
          rw [upd_ne ndp] at hd
          have ndG : G ≠ d := ne_of_none hGs hd
          have s3 : Same H H2 := s1.trans s2
          refine k d G c _ (fun b o e => ?_) (s3.free hd) (s1.free hG) (s3.free hc2) ⟨⟨gs, cs ++ [((cs.length : Nat) : Int) + 3], 0, upd_same, ?_, ?_, ?_, ?_, by decide, by decide⟩, ndG.symm, ndc, ncG⟩
          · have e2 := s3 _ _ e
            rw [upd_ne (ne_of_none e2 hd), upd_ne (ne_of_none e2 hc2), upd_ne (ne_of_none e2 hp)]
            exact e2
          · rw [upd_ne ndG, upd_ne ncG, upd_ne npG]
            exact hGs
          · rw [upd_ne ndc.symm, upd_same, List.map_append, List.length_map]
            rfl
          · rw [List.length_append]
            show 0 < cs.length + 1
            omega
          · rw [List.length_append]
            show cs.length + 1 ≤ 100
            omega
def spNext : Sp := fun vs H Q _ => ∃ (d g c : Addr) (k m : Int), vs = [.ref d, .int m] ∧ 0 < m ∧ m < 1208925819614629174706176 ∧ Dk d g c k H ∧ k ≤ 1000000000 ∧
  ∀ (r : Int) (H' : Hp), 0 ≤ r → r < m → Dk d g c (k + 1) H' → Fr d g H H' → Q (.int r) H'
def lenAt (g : Addr) (H : Hp) : Nat := match H g with
  | some (.lst xs) => xs.length
  | _ => 0
theorem lenAt_of {g : Addr} {H : Hp} {xs : List V} (h : H g = some (.lst xs)) : lenAt g H = xs.length := by
  unfold lenAt
  rw [h]
theorem ok__law_next (T : Tx K mg A) : FnOk P w K mg base CX0 1 A.f__law_next A.d__law_next ["_law_deck_here", "_law_many"] spNext := by
  refine T.d__law_next.F.ok sc__law_next (fun vs H Q E h => ?_) (fun cdv A outer s H vs Q E hr h => ?_)
  · obtain ⟨d, g, c, k, m, rfl, _⟩ := h
    rfl
  · obtain ⟨d, g, c, k, m, rfl, hm, hm2, D0, hk, q⟩ := h
    have hW : m.natAbs < 2 ^ 80 := by
      show m.natAbs < 1208925819614629174706176
      omega
    refine ⟨_, (pss_cons (ps_while PassesOwn.never (pt_cmpR (op_neD hr.units) (pe_ix ix_list (pv 0) pe_int (fun _ _ => rfl)) (pe_lst pa_nil) (nomark _))
        (pss_cons (ps_set (i := 4) sc__law_next.nd rfl (.inl rfl) (pe_ix ix_list (pe_ix ix_list (pv 0) pe_int (fun _ _ => rfl)) pe_int (fun _ _ => rfl)))
        (pss_cons (ps_if (pt_cmpR op_gt (pv 4) pe_int (nomark _))
        (pss_cons (ps_asg (pe_op op_fdivW (pv 4) (pv 1)) (pg_sub (pe_ix ix_list (pv 0) pe_int (fun _ _ => rfl)) pe_int set_list))
        (pss_one (ps_ret (pe_op op_mod (pv 4) (pv 1)))))
        pss_nil)
        (pss_one (ps_expr (pe_bm PySem.F.plainAttrs_list PySem.F.slot_list_pop PySem.F.type_list_pop mt_popAt (pe_ix ix_list (pv 0) pe_int (fun _ _ => rfl)) (pa_cons pe_int pa_nil)))))))
        (pss_cons (ps_asg (pe_op op_add (pe_ix ix_list (pv 0) pe_int (fun _ _ => rfl)) pe_int) (pg_sub (pv 0) pe_int set_list))
        (pss_cons (ps_set (i := 2) sc__law_next.nd rfl (.inl rfl) (pe_op op_mod (pe_ix ix_list (pe_ix ix_list (pv 0) pe_int (fun _ _ => rfl)) (pe_op op_mod (pe_ix ix_list (pv 0) pe_int (fun _ _ => rfl)) (pe_callB call_len_seq (by rfl) T.b_len PySem.boot_len (pa_cons (pe_ix ix_list (pv 0) pe_int (fun _ _ => rfl)) pa_nil))) (fun _ _ => rfl)) pe_int))
        (pss_cons (ps_set (i := 3) sc__law_next.nd rfl (.inl rfl) (pe_op op_add (pe_op op_add (pe_op op_mul (pv 2) (pe_op op_add pe_int (pe_op op_mul pe_int (pe_ix ix_list (pv 0) pe_int (fun _ _ => rfl))))) (pe_op op_mul (pe_op op_mul pe_int (pe_ix ix_list (pv 0) pe_int (fun _ _ => rfl))) (pe_ix ix_list (pv 0) pe_int (fun _ _ => rfl)))) pe_int))
        (pss_cons (ps_set (i := 3) sc__law_next.nd rfl (.inl rfl) (pe_op op_mod (pv 3) pe_int))
        (pss_one (ps_ret (pe_op op_mod (pe_op op_fdivW (pe_op op_mod (pe_op op_mul (pv 3) (pv 3)) pe_int) pe_int) (pv 1))))))))), ?_⟩
    refine while_by (fun σ H' => ∃ v2 v3 v4, σ = [some (.ref d), some (.int m), v2, v3, v4] ∧ Dk d g c k H' ∧ Fr d g H H') (fun _ H' => lenAt g H') ⟨none, none, none, rfl, D0, Fr.refl _ _ _⟩ ?_ ?_
    · rintro σ H1 ⟨v2, v3, v4, rfl, D1, f1⟩
      obtain ⟨gs, cs, n, h1, h2, h3, h4, h5, h6, h7⟩ := D1.ex
      refine ⟨.ref d, rfl, d, _, 0, .ref g, rfl, rfl, SqL.of h1, atI_zero, Nat.zero_le _, fun p hp => ?_⟩
      obtain ⟨npd, npg, npc⟩ := D1.nd hp
      have k1 : upd H1 p (.lst []) d = some (.lst [.ref g, .ref c, .int n]) := by
        rw [upd_ne npd.symm]
        exact h1
      have k2 : upd H1 p (.lst []) g = some (.lst (gs.map V.int)) := by
        rw [upd_ne npg.symm]
        exact h2
      have k3 : upd H1 p (.lst []) c = some (.lst (cs.map V.int)) := by
        rw [upd_ne npc.symm]
        exact h3
      have f2 : Fr d g H (upd H1 p (.lst [])) := f1.trans (.new hp)
      have eL : lenAt g H1 = gs.length := by rw [lenAt_of h2, List.length_map]
      have k4 : upd H1 p (.lst []) p = some (.lst []) := upd_same
      generalize upd H1 p (.lst []) = H2 at k1 k2 k3 k4 f2 ⊢
      refine ⟨.list (gs.map PyData.int), .list ([].map PyData.int), .lst (SqL.of k2) (dp_ints gs), .lst (SqL.of k4) .nil, sh_ints gs, sh_ints [], _, rfl, ?_⟩
      cases gs with
      | cons x r =>
        -- rest = deck[0][0]
        refine ⟨.ref d, rfl, d, _, 0, _, rfl, rfl, SqL.of k1, atI_zero, g, _, 0, _, rfl, rfl, SqL.of k2, atI_zero, ?_⟩
        refine ⟨.int x, rfl, x, 0, rfl, rfl, _, rfl, ite2 (fun _ => ?_) (fun _ => ?_)⟩
        · -- deck[0][0] = rest // many; return rest % many
          refine ⟨.int x, rfl, .int m, rfl, x, m, rfl, rfl, wide_div hm hW (by decide) (by decide), .ref d, rfl, d, _, 0, _, rfl, rfl, SqL.of k1, atI_zero, g, _, 0, 0, rfl, rfl, k2, ixN_zero (by simp), ?_⟩
          refine ⟨.int x, rfl, .int m, rfl, x, m, rfl, rfl, hm, ?_⟩
          refine q _ _ (Int.emod_nonneg _ (by omega)) (Int.emod_lt_of_pos _ hm) ⟨⟨(x / m) :: r, cs, n, ?_, ?_, ?_, h4, h5, h6, by omega⟩, D1.dg, D1.dc, D1.gc⟩ (f2.trans .atg)
          · rw [upd_ne D1.dg]
            exact k1
          · rw [upd_same]
            rfl
          · rw [upd_ne D1.gc.symm]
            exact k3
        · -- deck[0].pop(0)
          refine ⟨.ref d, rfl, d, _, 0, _, rfl, rfl, SqL.of k1, atI_zero, .inl ⟨rfl, _, SqL.of k2⟩, g, _, 0, 0, .int x, rfl, rfl, k2, by decide, by decide, ixN_seq0 (by simp), rfl, ?_⟩
          refine ⟨⟨_, _, _, rfl, ⟨⟨r, cs, n, ?_, ?_, ?_, h4, h5, h6, h7⟩, D1.dg, D1.dc, D1.gc⟩, f2.trans .atg⟩, ?_⟩
          · rw [upd_ne D1.dg]
            exact k1
          · rw [upd_same]
            rfl
          · rw [upd_ne D1.gc.symm]
            exact k3
          · show lenAt g (upd H2 g _) < lenAt g H1
            rw [eL, lenAt_of upd_same]
            show (r.map V.int).length < r.length + 1
            rw [List.length_map]
            omega
      | nil =>
        -- deck[2] = deck[2] + 1
        refine ⟨.ref d, rfl, d, _, 2, _, rfl, rfl, SqL.of k1, atI_nat (j := 2) rfl, n, 1, rfl, rfl, .ref d, rfl, d, _, 2, 2, rfl, rfl, k1, rfl, ?_⟩
        have j1 : upd H2 d (.lst ([V.ref g, V.ref c, V.int n].set 2 (V.int (n + 1)))) d = some (.lst [.ref g, .ref c, .int (n + 1)]) := upd_same
        have j2 : upd H2 d (.lst ([V.ref g, V.ref c, V.int n].set 2 (V.int (n + 1)))) g = some (.lst []) := by
          rw [upd_ne D1.dg.symm]
          exact k2
        have j3 : upd H2 d (.lst ([V.ref g, V.ref c, V.int n].set 2 (V.int (n + 1)))) c = some (.lst (cs.map V.int)) := by
          rw [upd_ne D1.dc.symm]
          exact k3
        have f3 : Fr d g H (upd H2 d (.lst ([V.ref g, V.ref c, V.int n].set 2 (V.int (n + 1))))) := f2.trans .atd
        generalize upd H2 d (.lst ([V.ref g, V.ref c, V.int n].set 2 (V.int (n + 1)))) = H3 at j1 j2 j3 f3 ⊢
        have hl : (0 : Int) < (cs.map V.int).length := by
          rw [List.length_map]
          omega
        obtain ⟨v, hv⟩ := ints_at (cs := cs) (i := (n + 1) % ((cs.map V.int).length : Int)) (Int.emod_nonneg _ (by omega)) (by
          have z := Int.emod_lt_of_pos (n + 1) hl
          rw [List.length_map] at z ⊢
          exact z)
        -- the cell
        refine ⟨.ref d, rfl, d, _, 1, _, rfl, rfl, SqL.of j1, atI_nat (j := 1) rfl, .ref d, rfl, d, _, 2, _, rfl, rfl, SqL.of j1, atI_nat (j := 2) rfl, .ref d, rfl, d, _, 1, _, rfl, rfl, SqL.of j1, atI_nat (j := 1) rfl, c, _, rfl, .inl (SqL.of j3), n + 1, _, rfl, rfl, hl, c, _, _, .int v, rfl, rfl, SqL.of j3, hv, v, 2147483647, rfl, rfl, (by show (0 : Int) < 2147483647; decide), ?_⟩
        have q0 : 0 ≤ v % 2147483647 := Int.emod_nonneg _ (by decide)
        have q1 : v % 2147483647 < 2147483647 := Int.emod_lt_of_pos _ (by decide)
        refine ⟨.int (v % 2147483647), rfl, .ref d, rfl, d, _, 2, _, rfl, rfl, SqL.of j1, atI_nat (j := 2) rfl, 69621, n + 1, rfl, rfl, .inl ⟨by decide, by decide⟩, 48271, _, rfl, rfl, v % 2147483647, _, rfl, rfl, .inl ⟨by omega, by omega⟩,
          .ref d, rfl, d, _, 2, _, rfl, rfl, SqL.of j1, atI_nat (j := 2) rfl, 40692, n + 1, rfl, rfl, .inl ⟨by decide, by decide⟩, .ref d, rfl, d, _, 2, _, rfl, rfl, SqL.of j1, atI_nat (j := 2) rfl, _, n + 1, rfl, rfl, .inr ⟨by omega, by omega⟩, _, _, rfl, rfl, _, 11, rfl, rfl, ?_⟩
        refine ⟨_, rfl, _, 2147483629, rfl, rfl, (by show (0 : Int) < 2147483629; decide), ?_⟩
        refine ⟨_, rfl, _, rfl, _, _, rfl, rfl, .inl (mod_in (by decide) (by decide)), _, 2147483587, rfl, rfl, (by show (0 : Int) < 2147483587; decide), _, 16, rfl, rfl, wide_div (b := 5) (by decide) (by decide) (by decide) (by decide), .int m, rfl, _, m, rfl, rfl, hm, ?_⟩
        exact q _ _ (Int.emod_nonneg _ (by omega)) (Int.emod_lt_of_pos _ hm) ⟨⟨[], cs, n + 1, j1, j2, j3, h4, h5, by omega, by omega⟩, D1.dg, D1.dc, D1.gc⟩ f3
    · rintro σ H1 Q1 Q2 hq ⟨v, e, p, xs, i, v', e1, e2, hs, ha, hz, f⟩
      refine ⟨v, e, p, xs, i, v', e1, e2, hs, ha, hz, fun r hr => ?_⟩
      obtain ⟨d1, d2, a1, a2, a3, a4, kk, ek, qk⟩ := f r hr
      exact ⟨d1, d2, a1, a2, a3, a4, kk, ek, hq _ _ qk⟩
/-! ### what is drawn -/
def prs : List Int := [2, 3, 5, 7, 11, 13]
theorem prs_bd : ∀ p ∈ prs, 2 ≤ p ∧ p ≤ 13 := by decide
theorem ints_mem {cs : List Int} {i : Int} (h0 : 0 ≤ i) (h1 : i < cs.length) : ∃ v : Int, v ∈ cs ∧ atI (cs.map V.int) i = some (V.int v) := by
  obtain ⟨j, rfl⟩ := Int.eq_ofNat_of_zero_le h0
  have hj : j < cs.length := by omega
  refine ⟨cs[j], List.getElem_mem hj, ?_⟩
  apply atI_nat
  rw [List.getElem?_map, List.getElem?_eq_getElem hj]
  rfl
def spPrm : Sp := fun vs H Q _ => ∃ (d g c : Addr) (k : Int), vs = [.ref d] ∧ Dk d g c k H ∧ k ≤ 1000000 ∧
  ∀ (p : Int) (H' : Hp), p ∈ prs → Dk d g c (k + 1) H' → Fr d g H H' → Q (.int p) H'
theorem ok__law_prime (T : Tx K mg A) : FnOk P w K mg base CX0 2 A.f__law_prime A.d__law_prime ["_law_deck_here"] spPrm := by
  have G__law_next : FnOk P w K mg base CX0 1 A.f__law_next A.d__law_next ["_law_deck_here", "_law_many"] spNext := ok__law_next T
  refine T.d__law_prime.F.ok sc__law_prime (fun vs H Q E h => ?_) (fun cdv A outer s H vs Q E hr h => ?_)
  · obtain ⟨d, g, c, k, rfl, _⟩ := h
    rfl
  · obtain ⟨d, g, c, k, rfl, D0, hk, q⟩ := h
    refine ⟨_, (pss_one (ps_ret (pe_ix ix_tup (pe_tup (pa_cons pe_int (pa_cons pe_int (pa_cons pe_int (pa_cons pe_int (pa_cons pe_int (pa_cons pe_int pa_nil))))))) (pe_call G__law_next hr (by rfl) T.d__law_next.g T.d__law_next.F.kp T.d__law_next.b .nil pass0 (pa_cons (pv 0) (pa_cons pe_int pa_nil))) (fun _ _ => rfl)))), ?_⟩
    refine ⟨(by show 6 ≤ sizeLine; decide), fun t ht => ?_⟩
    have nt := D0.nd ht
    refine ⟨.ref d, rfl, d, g, c, k, 6, rfl, by decide, by decide, D0.same (same_upd ht), by omega, fun r H1 r0 r1 D1 f1 => ?_⟩
    obtain ⟨v, hv, ev⟩ := ints_mem (cs := prs) r0 r1
    exact ⟨t, _, r, .int v, rfl, rfl, SqT.of (f1 t _ nt.1 nt.2.1 upd_same), ev, q v H1 hv D1 ((Fr.new ht).trans f1)⟩
def spNums : Sp := fun vs H Q _ => ∃ (d g c : Addr) (k p m : Int), vs = [.ref d, .int p, .int m] ∧ Dk d g c k H ∧ k ≤ 1000000 ∧ 2 ≤ p ∧ p ≤ 13 ∧ 0 ≤ m ∧ m ≤ 100 ∧
  ∀ (t : Addr) (ns : List Int) (H' : Hp), (∀ n ∈ ns, 0 ≤ n ∧ n < p) → ns.length = m.toNat → H' t = some (.tup (ns.map V.int)) → Dk d g c (k + 2 * m) H' → Fr d g H H' → Q (.ref t) H'
theorem ok__law_numbers (T : Tx K mg A) : FnOk P w K mg base CX0 2 A.f__law_numbers A.d__law_numbers ["_law_deck_here", "_law_p", "_law_many"] spNums := by
  have G__law_next : FnOk P w K mg base CX0 1 A.f__law_next A.d__law_next ["_law_deck_here", "_law_many"] spNext := ok__law_next T
  refine T.d__law_numbers.F.ok sc__law_numbers (fun vs H Q E h => ?_) (fun cdv A outer s H vs Q E hr h => ?_)
  · obtain ⟨d, g, c, k, p, m, rfl, _⟩ := h
    rfl
  · obtain ⟨d, g, c, k, p, m, rfl, D0, hk, p2, p13, m0, m1, q⟩ := h
    refine ⟨_, (pss_one (ps_ret (pe_callTy call_tuple_of (by rfl) T.b_tuple PyProof.Rows.boot_tuple (pa_cons (pe_lc (own := [("_law_k", 3)]) rfl sc__law_numbers.nd (pi_range1 (by rfl) T.b_range (pa_cons (pv 2) pa_nil)) (blkOk_by (N := N__law_numbers) (sc := defScope s__law_numbers) (by decide +kernel)) (fun _ _ _ _ _ => (pg_name (i := 3) sc__law_numbers.nd rfl (.inl rfl))) (fun _ _ _ _ _ => pts_nil) (fun _ _ _ _ _ => (pe_op op_mul (pe_call G__law_next hr (by rfl) T.d__law_next.g T.d__law_next.F.kp T.d__law_next.b .nil pass0 (pa_cons (pv 0) (pa_cons (pv 1) pa_nil))) (pe_callTy call_int1 (by rfl) T.b_int PyProof.Rows.boot_int (pa_cons (pe_cmpR op_gt (pe_call G__law_next hr (by rfl) T.d__law_next.g T.d__law_next.F.kp T.d__law_next.b .nil pass0 (pa_cons (pv 0) (pa_cons pe_int pa_nil))) pe_int (nomark _)) pa_nil))))) pa_nil)))), ?_⟩
    refine ⟨.int m, rfl, m, rfl, by omega, by omega, fun L hL => lc_range (fun i H' => Dk d g c (k + 2 * i) H' ∧ Fr d g H H' ∧ ∃ ns : List Int, (∀ n ∈ ns, 0 ≤ n ∧ n < p) ∧ ns.length = i ∧ H' L = some (.lst (ns.map V.int))) ⟨(D0.same (same_upd hL)).mono (by omega), .new hL, [], by simp, rfl, upd_same⟩ ?_ ?_⟩
    · rintro i H1 hi ⟨D1, f1, ns, hns, hlen, eL⟩
      have nL := D0.nd hL
      refine ⟨rfl, .ref d, rfl, .int p, rfl, d, g, c, _, p, rfl, by omega, by omega, D1, by omega, fun r H2 r0 r1 D2 f2 => ?_⟩
      refine ⟨.ref d, rfl, d, g, c, _, 4, rfl, by decide, by decide, D2, by omega, fun r2 H3 _ _ D3 f3 => ?_⟩
      have eL3 := f3 L _ nL.1 nL.2.1 (f2 L _ nL.1 nL.2.1 eL)
      refine ⟨r2, 0, rfl, rfl, .inr ⟨_, rfl, r, _, rfl, rfl, .inl ⟨by omega, by omega⟩, _, eL3, by rw [List.length_map]; exact small1000 (by omega), ?_⟩⟩
      have hz : ∀ b : Bool, 0 ≤ r * (if b = true then 1 else 0) ∧ r * (if b = true then 1 else 0) < p := by
        intro b
        cases b with
        | true => simp; omega
        | false => simp; omega
      have zL : Dk d g c (k + 2 * (i + 1 : Nat)) (upd H3 L (.lst (ns.map V.int ++ [V.int (r * (if decide (0 < r2) = true then 1 else 0))]))) := by
        obtain ⟨gs, cs, n, h1, h2, h3, h4, h5, h6, h7⟩ := D3.ex
        exact ⟨⟨gs, cs, n, by rw [upd_ne nL.1.symm]; exact h1, by rw [upd_ne nL.2.1.symm]; exact h2, by rw [upd_ne nL.2.2.symm]; exact h3, h4, h5, h6, by omega⟩, D3.dg, D3.dc, D3.gc⟩
      refine ⟨zL, fun b o e1 e2 e => ?_, ns ++ [r * (if decide (0 < r2) = true then 1 else 0)], ?_, by rw [List.length_append, hlen]; rfl, by rw [upd_same, List.map_append]; rfl⟩
      · rw [upd_ne (ne_of_none e hL)]
        exact f3 _ _ e1 e2 (f2 _ _ e1 e2 (f1 _ _ e1 e2 e))
      · intro n hn
        rcases List.mem_append.mp hn with hn | hn
        · exact hns n hn
        · rw [List.mem_singleton.mp hn]
          exact hz _
    · rintro H1 ⟨D1, f1, ns, hns, hlen, eL⟩
      refine ⟨L, _, rfl, .inl ⟨SqL.of eL, fun t ht => ?_⟩⟩
      exact q t ns _ hns hlen upd_same ((D1.same (same_upd ht)).mono (by omega)) (f1.trans (.new ht))
/-! ### rows that are drawn -/
def In (p : Int) (r : Row) : Prop := ∀ u ∈ r, (0 ≤ u.1 ∧ u.1 < p) ∧ 0 ≤ u.2 ∧ u.2 < p
theorem In.fit {p : Int} {r : Row} (h : In p r) (h2 : p ≤ 13) (h3 : r.length ≤ 20) : Fit r := ⟨h3, fun u hu => by have := h u hu; omega⟩
theorem Dk.nt {d g c a : Addr} {k : Int} {H : Hp} {xs : List V} (D : Dk d g c k H) (h : H a = some (.tup xs)) : a ≠ d ∧ a ≠ g := by
  obtain ⟨gs, cs, n, h1, h2, _⟩ := D.ex
  exact ⟨ne_of h h1 (by intro z; cases z), ne_of h h2 (by intro z; cases z)⟩
theorem Dk.ntb {d g c a : Addr} {k : Int} {H : Hp} (D : Dk d g c k H) (h : GxR.TabG H a) : a ≠ d ∧ a ≠ g := by
  obtain ⟨gs, cs, n, h1, h2, _⟩ := D.ex
  obtain ⟨ps, h, _⟩ := h
  exact ⟨ne_of h h1 (by intro z; cases z), ne_of h h2 (by intro z; cases z)⟩
theorem Dk.sm {d g c : Addr} {k : Int} {H H' : Hp} (D : Dk d g c k H) (s : Sm H H') : Dk d g c k H' := by
  obtain ⟨gs, cs, n, h1, h2, h3, h4, h5, h6, h7⟩ := D.ex
  exact ⟨⟨gs, cs, n, s.lst h1, s.lst h2, s.lst h3, h4, h5, h6, h7⟩, D.dg, D.dc, D.gc⟩
section
variable {d g c L : Addr} {k : Int} {H H' : Hp} {xs : List V} {r : Row} {t : Addr}
theorem Fr.tup (f : Fr d g H H') (D : Dk d g c k H) (h : H t = some (.tup xs)) : H' t = some (.tup xs) := f _ _ (D.nt h).1 (D.nt h).2 h
theorem Fr.tab (f : Fr d g H H') (D : Dk d g c k H) (h : GxR.TabG H t) : GxR.TabG H' t := let n := D.ntb h; let ⟨ps, e, z⟩ := h; ⟨ps, f _ _ n.1 n.2 e, z⟩
theorem Prs.fr (h : Prs H xs r) (D : Dk d g c k H) (f : Fr d g H H') : Prs H' xs r := ⟨h.len, fun e => let ⟨u, e2, a, ea, p⟩ := h.get e; ⟨u, e2, a, ea, f.tup D p⟩⟩
theorem Rw.fr (h : Rw H t r) (D : Dk d g c k H) (f : Fr d g H H') : Rw H' t r := let ⟨xs, e, p⟩ := h; ⟨xs, f.tup D e, p.fr D f⟩
theorem Prs.put {ys : List V} {o : HO} (h : Prs H xs r) (e : H L = some (.lst ys)) : Prs (upd H L o) xs r := ⟨h.len, fun e1 => let ⟨u, e2, a, ea, p⟩ := h.get e1; ⟨u, e2, a, ea, by rw [upd_ne (ne_of p e (by intro z; cases z))]; exact p⟩⟩
theorem Dk.put {o : HO} (D : Dk d g c k H) (h1 : L ≠ d) (h2 : L ≠ g) (h3 : L ≠ c) : Dk d g c k (upd H L o) := by
  obtain ⟨gs, cs, n, e1, e2, e3, h4, h5, h6, h7⟩ := D.ex
  exact ⟨⟨gs, cs, n, by rw [upd_ne h1.symm]; exact e1, by rw [upd_ne h2.symm]; exact e2, by rw [upd_ne h3.symm]; exact e3, h4, h5, h6, h7⟩, D.dg, D.dc, D.gc⟩
end
theorem two_ints {ns : List Int} (h : ns.length = (2 : Int).toNat) : ∃ x y, ns = [x, y] := by
  match ns, h with
  | [x, y], _ => exact ⟨x, y, rfl⟩
/-! rows of so many posts, tables -/
structure Rk (p : Int) (n : Nat) (H : Hp) (t : Addr) (r : Row) : Prop where
  rw : Rw H t r
  inp : In p r
  len : r.length = n
theorem Rk.sm {p : Int} {n : Nat} {H H' : Hp} {t : Addr} {r : Row} (h : Rk p n H t r) (s : Sm H H') : Rk p n H' t r := ⟨h.rw.sm s, h.inp, h.len⟩
theorem Rk.fit {p : Int} {n : Nat} {H : Hp} {t : Addr} {r : Row} (h : Rk p n H t r) (h2 : p ≤ 13) (h3 : n ≤ 20) : Fit r := h.inp.fit h2 (by rw [h.len]; exact h3)
theorem Rk.fr {p : Int} {n : Nat} {H H' : Hp} {t d g c : Addr} {k : Int} {r : Row} (h : Rk p n H t r) (D : Dk d g c k H) (f : Fr d g H H') : Rk p n H' t r := ⟨h.rw.fr D f, h.inp, h.len⟩
theorem Rk.put {p : Int} {n : Nat} {H : Hp} {t L : Addr} {r : Row} {ys : List V} {o : HO} (h : Rk p n H t r) (e : H L = some (.lst ys)) : Rk p n (upd H L o) t r := by
  obtain ⟨⟨xs, h1, h2⟩, h3, h4⟩ := h
  exact ⟨⟨xs, by rw [upd_ne (ne_of h1 e (by intro z; cases z))]; exact h1, h2.put e⟩, h3, h4⟩
theorem rep_one {α : Type} (x : α) : ∀ k : Nat, (List.replicate k [x]).flatten = List.replicate k x
  | 0 => rfl
  | k + 1 => by
    rw [List.replicate_succ, List.flatten_cons, rep_one x k]
    rfl
theorem prs_rep {H : Hp} {x : V} {u : Int × Int} (p : Pr H x u) (k : Nat) : Prs H (List.replicate k x) (List.replicate k u) := by
  refine ⟨by simp, fun {i y} e => ?_⟩
  have hi : i < k := by
    have := (List.getElem?_eq_some_iff.mp e).1
    simpa using this
  rw [List.getElem?_replicate, if_pos hi] at e
  cases e
  exact ⟨u, by rw [List.getElem?_replicate, if_pos hi], p⟩
/-! ### the program's clearing, of lists and of tuples -/
/-- a list or a tuple in the heap -/
def At (k : Zm.Kd) (H : Hp) (a : Addr) (xs : List V) : Prop := match k with
  | .l => H a = some (.lst xs)
  | .t => H a = some (.tup xs)
theorem At.sm {k : Zm.Kd} {H H' : Hp} {a : Addr} {xs : List V} (h : At k H a xs) (s : Sm H H') : At k H' a xs := by
  cases k with
  | l => exact s.lst h
  | t => exact s.tup h
theorem At.sq {k : Zm.Kd} {H : Hp} {a : Addr} {xs : List V} (h : At k H a xs) : Zm.Sq k K H a xs := by
  cases k with
  | l => exact SqL.of h
  | t => exact SqT.of h
theorem At.upd {k : Zm.Kd} {H : Hp} {a d : Addr} {xs : List V} {kvs : List (Key × V)} {o : HO} (h : At k H a xs) (e : H d = some (.dK kvs)) : At k (L2.upd H d o) a xs := by
  cases k with
  | l =>
    show L2.upd H d o a = _
    rw [upd_ne (ne_of (show H a = some (.lst xs) from h) e (by intro z; cases z))]
    exact h
  | t =>
    show L2.upd H d o a = _
    rw [upd_ne (ne_of (show H a = some (.tup xs) from h) e (by intro z; cases z))]
    exact h
theorem At.updF {k : Zm.Kd} {H : Hp} {a d : Addr} {xs : List V} {od : Obj} {o' o : HO} (h : At k H a xs) (e : H d = some (.frz od o')) : At k (L2.upd H d o) a xs := by
  cases k with
  | l =>
    show L2.upd H d o a = _
    rw [upd_ne (ne_of (show H a = some (.lst xs) from h) e (by intro z; cases z))]
    exact h
  | t =>
    show L2.upd H d o a = _
    rw [upd_ne (ne_of (show H a = some (.tup xs) from h) e (by intro z; cases z))]
    exact h
def Fl (H : Hp) (a : Addr) (us : List Int) : Prop := H a = some (.lst (us.map V.int))
def Fk (k : Zm.Kd) (H : Hp) (a : Addr) (us : List Int) : Prop := At k H a (us.map V.int)
open Lin (lessZ lessL clearL PL Rg Up vec scaled moreL)
def spLess : Sp := fun vs H Q _ => ∃ (p n : Int) (a b : Addr) (k : Zm.Kd) (us ws : List Int), vs = [.int p, .ref a, .int n, .ref b] ∧ 0 < p ∧ 0 ≤ n ∧ n < 13 ∧ Fk k H a us ∧ Fl H b ws ∧ us.length = ws.length ∧ us.length ≤ 100 ∧ ∀ t k' H', Sm H H' → (k = .l → k' = .l) → Fk k' H' t (lessL p us n ws) → Q (.ref t) H'
theorem ok_lessened (T : Tx K mg A) : FnOk P w K mg base CX0 1 A.f_lessened A.d_lessened ["p", "flat", "number", "other"] spLess := by
  refine T.d_lessened.F.ok sc_lessened (fun vs H Q E h => ?_) (fun cdv A outer s H vs Q E hr h => ?_)
  · obtain ⟨p, n, a, b, k, us, ws, rfl, _⟩ := h
    rfl
  · obtain ⟨p, n, a, b, k, us, ws, rfl, p0, n0, n1, ha, hb, hle, hl, q⟩ := h
    refine ⟨_, (pss_cons (ps_if (pt_cmpR op_eq (pv 2) pe_int (nomark _))
        (pss_one (ps_ret (pv 1)))
        pss_nil)
        (pss_one (ps_ret (pe_lc (own := [("mine", 4), ("its", 5)]) (g := (gTup K 2 (gCons (gName 4) (gCons (gName 5) gNil)))) rfl sc_lessened.nd (Zm.pi_zipK (by rfl) T.b_zip (pa_cons (pv 1) (pa_cons (pv 3) pa_nil))) (blkOk_by (N := N_lessened) (sc := defScope s_lessened) (by decide +kernel)) (fun _ _ _ _ _ => (pg_tup rfl (pgs_cons (pg_name (i := 4) sc_lessened.nd rfl (.inl rfl)) (pgs_cons (pg_name (i := 5) sc_lessened.nd rfl (.inl rfl)) pgs_nil)))) (fun _ _ _ _ _ => pts_nil) (fun _ _ _ _ _ => (pe_op op_mod (pe_op op_sub (pv 4) (pe_op op_mul (pv 2) (pv 5))) (pv 0))))))), ?_⟩
    refine ⟨.int n, rfl, rfl, _, rfl, ite2 (fun e => ?_) (fun e => ?_)⟩
    · have e0 : n = 0 := V.int.inj (of_decide_eq_true e)
      refine ⟨.ref a, rfl, q a k H (.refl _) (fun z => z) ?_⟩
      unfold lessL
      rw [if_pos e0]
      exact ha
    · have e0 : n ≠ 0 := fun z => e (decide_eq_true (congrArg V.int z))
      have hlm : (us.map V.int).length = (ws.map V.int).length := by rw [List.length_map, List.length_map, hle]
      refine ⟨.ref a, rfl, .ref b, rfl, k, .l, a, b, _, _, rfl, At.sq ha, SqL.of hb, fun L hL => ?_⟩
      refine lc_it (σ := [some (.int p), some (.ref a), some (.int n), some (.ref b), none, none]) (vs := [4, 5]) (Zm.walk2 hlm) (fun i H' => Sm H H' ∧ H' L = some (.lst (((lessZ p n us ws).take i).map V.int))) ⟨.new hL, upd_same⟩ (fun i H' _ h => ⟨(At.sm ha h.1).sq, SqL.of (h.1.lst hb)⟩) ?_ ?_
      · rintro i z H' H2 hi ⟨s3, hz⟩ ⟨T1, x, y, rfl, hT, rfl, hx, hy⟩
        dsimp only at hx hy
        rw [List.getElem?_map] at hx hy
        obtain ⟨u, eu, rfl⟩ := Option.map_eq_some_iff.mp hx
        obtain ⟨v, ev, rfl⟩ := Option.map_eq_some_iff.mp hy
        have s4 := s3.trans (.new (o := .tup [.int u, .int v]) hT)
        have e2 : (lessZ p n us ws)[i]? = some ((u - n * v) % p) := by
          unfold lessZ
          rw [List.getElem?_zipWith, eu, ev]
        have nT : L ≠ T1 := ne_of_none hz hT
        refine ⟨T1, [.int u, .int v], rfl, SqT.of upd_same, rfl, .int u, [.int v], rfl, .int v, [], rfl, rfl, ?_⟩
        dsimp only [wipe, List.set]
        refine ⟨rfl, .int u, rfl, .int n, rfl, .int v, rfl, n, v, rfl, rfl, cmul ⟨n0, n1⟩, _, _, rfl, rfl, .int p, rfl, _, p, rfl, rfl, p0, _, (by rw [upd_ne nT]; exact hz), ?_, s4.put hL, ?_⟩
        · rw [List.length_map, List.length_take]
          unfold lessZ
          rw [List.length_zipWith]
          exact small (by omega)
        · rw [upd_same, take_snoc e2, List.map_append]
          rfl
      · rintro H' ⟨s3, hz⟩
        have e2 : (lessZ p n us ws).take (us.map V.int).length = lessZ p n us ws := by
          rw [List.length_map]
          exact List.take_of_length_le (by unfold lessZ; rw [List.length_zipWith]; omega)
        rw [e2] at hz
        refine q L .l H' s3 (fun _ => rfl) ?_
        unfold lessL
        rw [if_neg e0]
        exact hz
def spFirst : Sp := fun vs H Q _ => ∃ (a : Addr) (k : Zm.Kd) (us : List Int), vs = [.ref a] ∧ Fk k H a us ∧ us.length ≤ 100 ∧ (∀ (i : Nat) (u : Int) (H' : Hp), us[i]? = some u → u ≠ 0 → (∀ j, j < i → us[j]? = some 0) → Sm H H' → Q (.int (i : Nat)) H') ∧ ∀ H', (∀ x ∈ us, x = 0) → Sm H H' → Q .non H'
theorem ok_first_place (T : Tx K mg A) : FnOk P w K mg base CX0 1 A.f_first_place A.d_first_place ["flat"] spFirst := by
  refine T.d_first_place.F.ok sc_first_place (fun vs H Q E h => ?_) (fun cdv A outer s H vs Q E hr h => ?_)
  · obtain ⟨a, k, us, rfl, _⟩ := h
    rfl
  · obtain ⟨a, k, us, rfl, ha, hl, q1, q2⟩ := h
    refine ⟨_, (pss_cons (ps_for PassesOwn.never rfl (En.pi_enumK (by rfl) T.b_enumerate (pa_cons (pv 0) pa_nil)) (pg_tup rfl (pgs_cons (pg_name (i := 1) sc_first_place.nd rfl (.inl rfl)) (pgs_cons (pg_name (i := 2) sc_first_place.nd rfl (.inl rfl)) pgs_nil)))
        (pss_one (ps_if (pt_cmpR op_ne (pv 2) pe_int (nomark _))
        (pss_one (ps_ret (pv 1)))
        pss_nil)))
        (pss_one (ps_ret pe_non))), ?_⟩
    refine ⟨.ref a, rfl, k, a, _, rfl, At.sq ha, for_it En.walkE (fun i σ H' => ∃ v1 v2, σ = [some (.ref a), v1, v2] ∧ Sm H H' ∧ ∀ j, j < i → us[j]? = some 0) ⟨_, _, rfl, .refl _, fun j hj => absurd hj (Nat.not_lt_zero _)⟩ (fun i σ H' _ h => by obtain ⟨_, _, _, s, _⟩ := h; exact (At.sm ha s).sq) ?_ ?_⟩
    · rintro i z σ H' H2 hi ⟨v1, v2, rfl, s1, hz⟩ ⟨T1, y, x, rfl, hT, rfl, hy, hx⟩
      cases hy
      dsimp only at hx
      rw [List.getElem?_map] at hx
      obtain ⟨u, eu, rfl⟩ := Option.map_eq_some_iff.mp hx
      have s2 := s1.trans (.new (o := .tup [.int (i : Nat), .int u]) hT)
      refine ⟨T1, [.int (i : Nat), .int u], rfl, SqT.of upd_same, rfl, .int (i : Nat), [.int u], rfl, .int u, [], rfl, rfl, ?_⟩
      refine ⟨.int u, rfl, rfl, _, rfl, ite2 (fun e => ?_) (fun e => ?_)⟩
      · have hu : u ≠ 0 := fun z => by
          subst z
          simp at e
        exact ⟨.int (i : Nat), rfl, q1 i u _ eu hu hz s2⟩
      · have hu : u = 0 := by
          by_cases z : u = 0
          · exact z
          · exact absurd (by simp [z]) e
        refine ⟨_, _, rfl, s2, fun j hj => ?_⟩
        by_cases h : j < i
        · exact hz j h
        · have ej : j = i := by omega
          rw [ej, eu, hu]
    · rintro σ H' ⟨v1, v2, rfl, s1, hz⟩
      refine q2 H' (fun x hx => ?_) s1
      obtain ⟨j, hj, rfl⟩ := List.mem_iff_getElem.mp hx
      have z := hz j (by rw [List.length_map]; exact hj)
      rw [List.getElem?_eq_getElem hj] at z
      exact Option.some.inj z
open Lin (flatR flat_len flat_snoc)
def spFlat : Sp := fun vs H Q _ => ∃ (a : Addr) (r : Row), vs = [.ref a] ∧ Rw H a r ∧ r.length ≤ 20 ∧ ∀ t H', Sm H H' → H t = none → Fl H' t (flatR r) → Q (.ref t) H'
theorem ok_flat_of (T : Tx K mg A) : FnOk P w K mg base CX0 1 A.f_flat_of A.d_flat_of ["row"] spFlat := by
  refine T.d_flat_of.F.ok sc_flat_of (fun vs H Q E h => ?_) (fun cdv A outer s H vs Q E hr h => ?_)
  · obtain ⟨a, r, rfl, _⟩ := h
    rfl
  · obtain ⟨a, r, rfl, ⟨xs, ha, hp⟩, hl, q⟩ := h
    refine ⟨_, (pss_one (ps_ret (pe_lc2 (own := [("pair", 1), ("number", 2)]) (vs1 := [2]) (wi1 := (iTup K (tVar 1))) rfl sc_flat_of.nd (pi_tup (pv 0)) (blkOk_by (N := N_flat_of) (sc := defScope s_flat_of) (by decide +kernel)) (by decide) (fun _ _ _ _ _ => (pg_name (i := 1) sc_flat_of.nd rfl (.inl rfl))) (fun _ _ _ _ _ => pts_nil) (fun _ _ _ _ _ => (pi_tup (pv 1))) (fun _ _ _ _ _ => (pg_name (i := 2) sc_flat_of.nd rfl (.inl rfl))) (fun _ _ _ _ _ => pts_nil) (fun _ _ _ _ _ => (pv 2))))), ?_⟩
    refine ⟨.ref a, rfl, a, rfl, ⟨_, SqT.of ha⟩, fun D hD => ⟨fun i m H' => m = xs.length - i ∧ i ≤ xs.length ∧ Sm H H' ∧ H' D = some (.lst ((flatR (r.take i)).map V.int)), ⟨xs.length, by simp, Nat.zero_le _, .new hD, upd_same⟩, ?_⟩⟩
    rintro i m H1 ⟨rfl, hi, s1, eD⟩
    by_cases hlt : i < xs.length
    · refine .inr ⟨⟨xs, xs[i], SqT.of (s1.tup ha), by simp [hlt]⟩, fun H' => Sm H H' ∧ H' D = some (.lst ((flatR (r.take (i + 1))).map V.int)), fun H' h => ⟨xs.length - (i + 1), by omega, rfl, hlt, h.1, h.2⟩, fun x H' y => ?_⟩
      obtain ⟨e, y⟩ := y
      subst e
      obtain ⟨u, eu, b, rfl, hb⟩ := hp.get (y xs (SqT.of (s1.tup ha)))
      have fl : (flatR (r.take i)).length ≤ 40 := by rw [flat_len, List.length_take]; omega
      refine ⟨rfl, .ref b, rfl, b, rfl, ⟨_, SqT.of (s1.tup hb)⟩, fun j k H' => k = 2 - j ∧ j ≤ 2 ∧ Sm H H' ∧ H' D = some (.lst ((flatR (r.take i) ++ [u.1, u.2].take j).map V.int)), ⟨2, rfl, by decide, s1, by simpa using eD⟩, ?_⟩
      rintro j k H2 ⟨rfl, hj, s2, eD2⟩
      by_cases hj2 : j < 2
      · refine .inr ⟨⟨_, (if j = 0 then V.int u.1 else V.int u.2), SqT.of (s2.tup hb), ?_⟩, fun H' => Sm H H' ∧ H' D = some (.lst ((flatR (r.take i) ++ [u.1, u.2].take (j + 1)).map V.int)), fun H' h => ⟨2 - (j + 1), by omega, rfl, by omega, h.1, h.2⟩, fun x H' y => ?_⟩
        · match j, hj2 with
          | 0, _ => rfl
          | 1, _ => rfl
        · obtain ⟨e, y⟩ := y
          subst e
          have y := y _ (SqT.of (s2.tup hb))
          have lz : ((flatR (r.take i) ++ [u.1, u.2].take j).map V.int).length < sizeLine := by
            rw [List.length_map, List.length_append, List.length_take]
            exact small (by simp; omega)
          match j, hj2, y with
          | 0, _, y =>
            cases (Option.some.inj y)
            refine ⟨rfl, .int u.1, rfl, _, eD2, lz, s2.put hD, ?_⟩
            rw [upd_same]
            simp
          | 1, _, y =>
            cases (Option.some.inj y)
            refine ⟨rfl, .int u.2, rfl, _, eD2, lz, s2.put hD, ?_⟩
            rw [upd_same]
            simp
      · have e : j = 2 := by omega
        subst e
        refine .inl ⟨⟨_, SqT.of (s2.tup hb), by simp⟩, s2, ?_⟩
        rw [take_snoc eu, flat_snoc]
        exact eD2
    · have e : i = xs.length := by omega
      subst e
      refine .inl ⟨⟨xs, SqT.of (s1.tup ha), Nat.le_refl _⟩, q D H1 s1 hD ?_⟩
      rw [hp.len, List.take_length] at eD
      exact eD
/-! ### the inverse -/
def pw (p n : Int) : Nat → Int
  | 0 => 1
  | i + 1 => pw p n i * n % p
theorem pw_all : ∀ p ∈ ([2, 3, 5, 7, 11, 13] : List Int), ∀ i ∈ List.range 12, (i : Int) + 1 < p → 0 < pw p (1 + (i : Nat)) (p - 2).toNat ∧ pw p (1 + (i : Nat)) (p - 2).toNat < p ∧ pw p (1 + (i : Nat)) (p - 2).toNat * (1 + (i : Nat)) % p = 1 := by decide +kernel
theorem pw_inv {p n : Int} (hp : p ∈ ([2, 3, 5, 7, 11, 13] : List Int)) (h0 : 0 < n) (h1 : n < p) : 0 < pw p n (p - 2).toNat ∧ pw p n (p - 2).toNat < p ∧ pw p n (p - 2).toNat * n % p = 1 := by
  have p13 : p ≤ 13 := by
    have all : ∀ p ∈ ([2, 3, 5, 7, 11, 13] : List Int), p ≤ 13 := by decide
    exact all p hp
  obtain ⟨j, hj⟩ := Int.eq_ofNat_of_zero_le (show 0 ≤ n - 1 by omega)
  have e : n = 1 + (j : Nat) := by omega
  rw [e]
  exact pw_all p hp j (List.mem_range.mpr (by omega)) (by omega)
def spInv : Sp := fun vs H Q _ => ∃ (p n : Int), vs = [.int p, .int n] ∧ 2 ≤ p ∧ p ≤ 13 ∧ 0 ≤ n ∧ n < p ∧ Q (.int (pw p n (p - 2).toNat)) H
theorem ok_inverse (T : Tx K mg A) : FnOk P w K mg base CX0 1 A.f_inverse A.d_inverse ["p", "number"] spInv := by
  refine T.d_inverse.F.ok sc_inverse (fun vs H Q E h => ?_) (fun cdv A outer s H vs Q E hr h => ?_)
  · obtain ⟨p, n, rfl, _⟩ := h
    rfl
  · obtain ⟨p, n, rfl, h2, h13, h0, hn, q⟩ := h
    refine ⟨_, (pss_cons (ps_set (i := 2) sc_inverse.nd rfl (.inl rfl) pe_int)
        (pss_cons (ps_for PassesOwn.never rfl (pi_range1 (by rfl) T.b_range (pa_cons (pe_op op_sub (pv 0) pe_int) pa_nil)) (pg_name (i := 3) sc_inverse.nd rfl (.inl rfl))
        (pss_one (ps_set (i := 2) sc_inverse.nd rfl (.inl rfl) (pe_op op_mod (pe_op op_mul (pv 2) (pv 1)) (pv 0)))))
        (pss_one (ps_ret (pv 2))))), ?_⟩
    refine ⟨.int p, rfl, p, 2, rfl, rfl, p - 2, rfl, by omega, by omega, for_range (fun i σ H' => ∃ v, σ = [some (.int p), some (.int n), some (.int (pw p n i)), v] ∧ H' = H) ⟨none, rfl, rfl⟩ ?_ ?_⟩
    · rintro i σ H' hi ⟨v, rfl, rfl⟩
      exact ⟨.int (pw p n i), rfl, .int n, rfl, _, n, rfl, rfl, .inr ⟨by omega, by omega⟩, .int p, rfl, _, p, rfl, rfl, (by show 0 < p; omega), _, rfl, rfl⟩
    · rintro σ H' ⟨v, rfl, rfl⟩
      exact ⟨_, rfl, q⟩
/-! ### dicts of leads -/
inductive KvL (H : Hp) : List (Key × V) → List (Nat × List Int) → Prop
  | nil : KvL H [] []
  | cons {q : Nat} {us : List Int} {a : Addr} {kvs : List (Key × V)} {L : List (Nat × List Int)} : Fl H a us → KvL H kvs L → KvL H ((Sum.inl (q : Int), .ref a) :: kvs) ((q, us) :: L)
theorem KvL.len {H : Hp} {kvs : List (Key × V)} {L : List (Nat × List Int)} (h : KvL H kvs L) : kvs.length = L.length := by
  induction h with
  | nil => rfl
  | cons _ _ ih => rw [List.length_cons, List.length_cons, ih]
theorem KvL.keys {H : Hp} {kvs : List (Key × V)} {L : List (Nat × List Int)} (h : KvL H kvs L) : kvs.map (·.1) = (L.map fun x => ((x.1 : Nat) : Int)).map Sum.inl := by
  induction h with
  | nil => rfl
  | cons _ _ ih => rw [List.map_cons, ih]; rfl
theorem KvL.mono {H H' : Hp} {kvs : List (Key × V)} {L : List (Nat × List Int)} (h : KvL H kvs L) (s : ∀ a us, Fl H a us → Fl H' a us) : KvL H' kvs L := by
  induction h with
  | nil => exact .nil
  | cons f _ ih => exact .cons (s _ _ f) ih
theorem KvL.sm {H H' : Hp} {kvs : List (Key × V)} {L : List (Nat × List Int)} (h : KvL H kvs L) (s : Sm H H') : KvL H' kvs L := h.mono fun _ _ f => s.lst f
theorem fl_upd {H : Hp} {a d : Addr} {us : List Int} {kvs : List (Key × V)} {o : HO} (f : Fl H a us) (e : H d = some (.dK kvs)) : Fl (upd H d o) a us := by
  unfold Fl
  rw [upd_ne (ne_of f e (by intro z; cases z))]
  exact f
theorem KvL.upd {H : Hp} {kvs kvs' : List (Key × V)} {L : List (Nat × List Int)} {d : Addr} {o : HO} (h : KvL H kvs L) (e : H d = some (.dK kvs')) : KvL (L2.upd H d o) kvs L := h.mono fun _ _ f => fl_upd f e
theorem KvL.get {H : Hp} {kvs : List (Key × V)} {L : List (Nat × List Int)} (h : KvL H kvs L) : ∀ {i : Nat} {q : Nat} {us : List Int}, L[i]? = some (q, us) → ∃ a, kvs[i]? = some (Sum.inl (q : Int), .ref a) ∧ Fl H a us := by
  induction h with
  | nil => intro i q us e; simp at e
  | cons f _ ih =>
    intro i q us e
    cases i with
    | zero => cases e; exact ⟨_, rfl, f⟩
    | succ i => exact ih (by simpa using e)
theorem KvL.none {H : Hp} {kvs : List (Key × V)} {L : List (Nat × List Int)} (h : KvL H kvs L) {q : Nat} (n : q ∉ L.map (·.1)) : valV kvs (Sum.inl (q : Int)) = none := by
  induction h with
  | nil => rfl
  | @cons q' us a kvs L f h ih =>
    have n1 : q ≠ q' := fun e => n (by simp [e])
    have n2 : q ∉ L.map (·.1) := fun m => n (by simp [m])
    rw [valV_neg (by intro z; cases z; exact n1 rfl)]
    exact ih n2
theorem KvL.val {H : Hp} {kvs : List (Key × V)} {L : List (Nat × List Int)} (h : KvL H kvs L) (nd : (L.map (·.1)).Nodup) {q : Nat} {us : List Int} (m : (q, us) ∈ L) : ∃ a, valV kvs (Sum.inl (q : Int)) = some (.ref a) ∧ Fl H a us := by
  induction h with
  | nil => cases m
  | @cons q' us' a kvs L f h ih =>
    have nd' := List.nodup_cons.mp (by simpa using nd : (q' :: L.map (·.1)).Nodup)
    rcases List.mem_cons.mp m with e | m
    · cases e
      exact ⟨a, valV_pos rfl, f⟩
    · have ne : q ≠ q' := fun e => nd'.1 (by rw [← e]; exact List.mem_map.mpr ⟨_, m, rfl⟩)
      rw [valV_neg (by intro z; cases z; exact ne rfl)]
      exact ih nd'.2 m
theorem KvL.app {H : Hp} {kvs : List (Key × V)} {L : List (Nat × List Int)} (h : KvL H kvs L) {q : Nat} {us : List Int} {a : Addr} (f : Fl H a us) : KvL H (kvs ++ [(Sum.inl (q : Int), .ref a)]) (L ++ [(q, us)]) := by
  induction h with
  | nil => exact .cons f .nil
  | cons g _ ih => exact .cons g ih
theorem KvL.putNew {H : Hp} {kvs : List (Key × V)} {L : List (Nat × List Int)} (h : KvL H kvs L) {q : Nat} {us : List Int} {a : Addr} (n : q ∉ L.map (·.1)) (f : Fl H a us) : KvL H (putK kvs (Sum.inl (q : Int)) (.ref a)) (L ++ [(q, us)]) := by
  unfold putK
  rw [if_neg]
  · exact h.app f
  · rw [valV_any, h.none n]
    simp
theorem mapK_id {kvs : List (Key × V)} {k : Key} {v : V} (h : ∀ x ∈ kvs, x.1 ≠ k) : kvs.map (fun kv => if kv.1 = k then (kv.1, v) else kv) = kvs := by
  conv => rhs; rw [← List.map_id kvs]
  apply List.map_congr_left
  intro x hx
  rw [if_neg (h x hx)]
  rfl
theorem KvL.putOld {H : Hp} {kvs : List (Key × V)} {L : List (Nat × List Int)} (h : KvL H kvs L) (nd : (L.map (·.1)).Nodup) {i q : Nat} {us ws : List Int} {b : Addr} (e : L[i]? = some (q, us)) (f : Fl H b ws) : KvL H (putK kvs (Sum.inl (q : Int)) (.ref b)) (L.set i (q, ws)) := by
  have m : (q, us) ∈ L := List.mem_of_getElem? e
  obtain ⟨a, hv, _⟩ := h.val nd m
  unfold putK
  rw [if_pos (by rw [valV_any, hv]; rfl)]
  clear hv m
  induction h generalizing i with
  | nil => simp at e
  | @cons q' us' a' kvs L f' h ih =>
    have nd' := List.nodup_cons.mp (by simpa using nd : (q' :: L.map (·.1)).Nodup)
    cases i with
    | zero =>
      cases e
      rw [List.map_cons, if_pos rfl, mapK_id]
      · exact .cons f h
      · intro x hx z
        have k : x.1 ∈ kvs.map (·.1) := List.mem_map.mpr ⟨x, hx, rfl⟩
        rw [h.keys, z] at k
        obtain ⟨y, hy, ey⟩ := List.mem_map.mp k
        obtain ⟨w, hw, ew⟩ := List.mem_map.mp hy
        cases ey
        have ew' : w.1 = q := by omega
        exact nd'.1 (by rw [← ew']; exact List.mem_map.mpr ⟨w, hw, rfl⟩)
    | succ i =>
      have e' : L[i]? = some (q, us) := by simpa using e
      have ne : q' ≠ q := fun z => nd'.1 (by rw [z]; exact List.mem_map.mpr ⟨_, List.mem_of_getElem? e', rfl⟩)
      rw [List.map_cons, if_neg (by intro z; cases z; exact ne rfl)]
      exact .cons f' (ih nd'.2 e')
/-! ### a dict that is walked -/
theorem Sm.unlock {H H' : Hp} {d : Addr} {kvs : List (Key × V)} {od : Obj} (e : H d = some (.dK kvs)) (s : Sm (L2.upd H d (.frz od (.dK kvs))) H') : Sm H (L2.upd H' d (.dK kvs)) := by
  refine ⟨fun a o n h => ?_, fun P ⟨ps, h, t⟩ => ?_⟩
  · by_cases z : a = d
    · rw [z] at h ⊢
      rw [e] at h
      cases h
      exact upd_same
    · rw [upd_ne z]
      exact s.kp a o n (by rw [upd_ne z]; exact h)
  · have z : P ≠ d := ne_of h e (by intro z; cases z)
    obtain ⟨qs, h2, t2⟩ := s.tb P ⟨ps, by rw [upd_ne z]; exact h, t⟩
    exact ⟨qs, by rw [upd_ne z]; exact h2, t2⟩
theorem KvL.lock {H : Hp} {kvs kvs' : List (Key × V)} {L : List (Nat × List Int)} {d : Addr} {o : HO} (h : KvL H kvs L) (e : H d = some (.dK kvs')) : KvL (L2.upd H d o) kvs L := h.upd e
def spClear : Sp := fun vs H Q _ => ∃ (p : Int) (n : Nat) (a d : Addr) (k0 : Zm.Kd) (us : List Int) (kvs : List (Key × V)) (L : List (Nat × List Int)), vs = [.int p, .ref a, .ref d] ∧ 0 < p ∧ p ≤ 13 ∧ n ≤ 100 ∧ Fk k0 H a us ∧ us.length = n ∧ Rg p us ∧ H d = some (.dK kvs) ∧ KvL H kvs L ∧
  (L.map (·.1)).Nodup ∧ (∀ x ∈ L, x.2.length = n ∧ x.1 < n) ∧ ∀ t k' H', Sm H H' → Fk k' H' t (clearL p us L) → Q (.ref t) H'
theorem ok_cleared (T : Tx K mg A) : FnOk P w K mg base CX0 2 A.f_cleared A.d_cleared ["p", "flat", "leads"] spClear := by
  have G_lessened : FnOk P w K mg base CX0 1 A.f_lessened A.d_lessened ["p", "flat", "number", "other"] spLess := ok_lessened T
  refine T.d_cleared.F.ok sc_cleared (fun vs H Q E h => ?_) (fun cdv A outer s H vs Q E hr h => ?_)
  · obtain ⟨p, n, a, d, k0, us, kvs, L, rfl, _⟩ := h
    rfl
  · obtain ⟨p, n, a, d, k0, us, kvs, L, rfl, p0, p13, n1, ha, hl, hrg, hd, hk, nd, hL, q⟩ := h
    refine ⟨_, (pss_cons (ps_lock (ps_for PassesOwn.never rfl (pi_keys (pv 2)) (pg_name (i := 3) sc_cleared.nd rfl (.inl rfl))
        (pss_one (ps_set (i := 1) sc_cleared.nd rfl (.inl rfl) (pe_call G_lessened hr (by rfl) T.d_lessened.g T.d_lessened.F.kp T.d_lessened.b .nil pass0 (pa_cons (pv 0) (pa_cons (pv 1) (pa_cons (pe_ix En.ix_kd (pv 1) (pv 3) (fun _ _ => rfl)) (pa_cons (pe_dget (hu_of hr) (pv 2) (pv 3) (fun _ _ => rfl)) pa_nil)))))))))
        (pss_one (ps_ret (pv 1)))), ?_⟩
    refine ⟨d, .dK kvs, hd, trivial, fun od => ?_⟩
    have hk0 := hk.lock (o := .frz od (.dK kvs)) hd
    have ha0 : Fk k0 (upd H d (.frz od (.dK kvs))) a us := At.upd ha hd
    have hn : kvs.length = L.length := hk.len
    refine ⟨.ref d, rfl, d, od, rfl, .inl ⟨kvs, upd_same, for_it walk_keys (fun i σ H' => ∃ t v k', σ = [some (.int p), some (.ref t), some (.ref d), v] ∧ H' d = some (.frz od (.dK kvs)) ∧ Sm (upd H d (.frz od (.dK kvs))) H' ∧ Fk k' H' t (clearL p us (L.take i))) ⟨a, _, k0, rfl, upd_same, .refl _, by simpa [clearL] using ha0⟩ (fun i σ H' _ h => by obtain ⟨_, _, _, _, e, _⟩ := h; exact e) ?_ ?_⟩⟩
    · rintro i x σ H1 H2 hi ⟨t, v, k1, rfl, e1, s1, f1⟩ ⟨rfl, k, u, ek, rfl⟩
      have hi2 : i < L.length := by omega
      obtain ⟨b, eb, fb⟩ := (hk0.sm s1).get (i := i) (q := (L[i]).1) (us := (L[i]).2) (List.getElem?_eq_getElem hi2)
      rw [ek] at eb
      cases eb
      have m := List.getElem_mem hi2
      obtain ⟨ml, mp⟩ := hL _ m
      have cl := Lin.clear_len (p := p) (L.take i) (n := n) (fun x hx => (hL x (List.mem_of_mem_take hx)).1) hl
      have cr := Lin.clear_rg p0 (L.take i) hrg
      have hq : (L[i]).1 < (clearL p us (L.take i)).length := by omega
      have ew : (clearL p us (L.take i))[(L[i]).1]? = some ((clearL p us (L.take i))[(L[i]).1]) := List.getElem?_eq_getElem hq
      have rw_ := cr _ (List.getElem_mem hq)
      obtain ⟨c, ec, fc⟩ := (hk0.sm s1).val nd (q := (L[i]).1) (us := (L[i]).2) m
      refine ⟨.int p, rfl, .ref t, rfl, .ref t, rfl, .int ((L[i]).1 : Nat), rfl, t, k1, _, ((L[i]).1 : Nat), .int ((clearL p us (L.take i))[(L[i]).1]), rfl, rfl, At.sq f1, atI_nat (by rw [List.getElem?_map, ew]; rfl), .ref d, rfl, .int ((L[i]).1 : Nat), rfl, d, .ref c, rfl, .inl ⟨kvs, _, .inr ⟨od, e1⟩, rfl, ec.symm⟩, ?_⟩
      refine ⟨p, _, t, c, k1, _, _, rfl, p0, rw_.1, by omega, f1, fc, by omega, by omega, fun t2 k2 H3 s3 _ f3 => ?_⟩
      refine ⟨t2, _, k2, rfl, s3.kp _ _ (by intro ps z; cases z) e1, s1.trans s3, ?_⟩
      have e2 : L.take (i + 1) = L.take i ++ [L[i]] := by rw [List.take_append_getElem]
      rw [e2, Lin.clear_snoc]
      have e3 : (clearL p us (L.take i)).getD (L[i]).1 0 = (clearL p us (L.take i))[(L[i]).1] := by
        rw [List.getD_eq_getElem?_getD, ew]
        rfl
      rw [e3]
      exact f3
    · rintro σ H1 ⟨t, v, k1, rfl, e1, s1, f1⟩
      have e2 : L.take kvs.length = L := List.take_of_length_le (by omega)
      rw [e2] at f1
      exact ⟨e1, .ref t, rfl, q t k1 _ (s1.unlock hd) (At.updF f1 e1)⟩
/-! ### leads of lists of numbers -/
structure Fls (k0 : Zm.Kd) (H : Hp) (xs : List V) (fs : List (List Int)) : Prop where
  len : xs.length = fs.length
  get : ∀ {i : Nat} {x : V}, xs[i]? = some x → ∃ a f, x = .ref a ∧ fs[i]? = some f ∧ Fk k0 H a f
theorem Fls.sm {k0 : Zm.Kd} {H H' : Hp} {xs : List V} {fs : List (List Int)} (h : Fls k0 H xs fs) (s : Sm H H') : Fls k0 H' xs fs := ⟨h.len, fun e => let ⟨a, f, h1, h2, h3⟩ := h.get e; ⟨a, f, h1, h2, At.sm h3 s⟩⟩
theorem Fls.nil {k0 : Zm.Kd} {H : Hp} : Fls k0 H [] [] := ⟨rfl, fun e => by simp at e⟩
theorem Fls.snoc {k0 : Zm.Kd} {H : Hp} {xs : List V} {fs : List (List Int)} {a : Addr} {f : List Int} (h : Fls k0 H xs fs) (k : Fk k0 H a f) : Fls k0 H (xs ++ [.ref a]) (fs ++ [f]) := by
  refine ⟨by simp [h.len], fun {i x} e => ?_⟩
  by_cases hi : i < xs.length
  · rw [List.getElem?_append_left hi] at e
    rw [List.getElem?_append_left (by rw [← h.len]; exact hi)]
    exact h.get e
  · rw [List.getElem?_append_right (by omega)] at e
    rw [List.getElem?_append_right (by rw [← h.len]; omega), ← h.len]
    cases hk : i - xs.length with
    | zero =>
      rw [hk] at e
      cases e
      exact ⟨a, f, rfl, rfl, k⟩
    | succ m =>
      rw [hk] at e
      simp at e
/-- leads of which the first j are lessened by a new one -/
def uptoL (p : Int) (q : Nat) (l : List Int) (L : List (Nat × List Int)) (j : Nat) : List (Nat × List Int) := moreL p q l (L.take j) ++ L.drop j
theorem upto_zero {p : Int} {q : Nat} {l : List Int} {L : List (Nat × List Int)} : uptoL p q l L 0 = L := by simp [uptoL, moreL]
theorem upto_all {p : Int} {q : Nat} {l : List Int} {L : List (Nat × List Int)} : uptoL p q l L L.length = moreL p q l L := by simp [uptoL]
theorem upto_len {p : Int} {q : Nat} {l : List Int} {L : List (Nat × List Int)} {j : Nat} : (uptoL p q l L j).length = L.length := by simp [uptoL, moreL]; omega
theorem upto_get {p : Int} {q : Nat} {l : List Int} {L : List (Nat × List Int)} {j : Nat} (h : j < L.length) : (uptoL p q l L j)[j]? = some L[j] := by
  unfold uptoL
  rw [List.getElem?_append_right (by simp [moreL]; omega)]
  have e : j - (moreL p q l (L.take j)).length = 0 := by simp [moreL]; omega
  rw [e, List.getElem?_drop]
  simp [h]
theorem upto_set {p : Int} {q : Nat} {l : List Int} {L : List (Nat × List Int)} {j : Nat} (h : j < L.length) : (uptoL p q l L j).set j ((L[j]).1, lessL p (L[j]).2 ((L[j]).2.getD q 0) l) = uptoL p q l L (j + 1) := by
  have lm : (moreL p q l (L.take j)).length = j := by simp [moreL]; omega
  unfold uptoL
  rw [List.set_append_right _ _ (by omega), lm, Nat.sub_self, List.drop_eq_getElem_cons h]
  have e2 : L.take (j + 1) = L.take j ++ [L[j]] := by rw [List.take_append_getElem]
  rw [e2]
  have e3 : moreL p q l (L.take j ++ [L[j]]) = moreL p q l (L.take j) ++ [((L[j]).1, lessL p (L[j]).2 ((L[j]).2.getD q 0) l)] := by
    unfold moreL
    rw [List.map_append]
    rfl
  rw [e3, List.append_assoc]
  rfl
theorem upto_places {p : Int} {q : Nat} {l : List Int} {L : List (Nat × List Int)} {j : Nat} : (uptoL p q l L j).map (·.1) = L.map (·.1) := by
  unfold uptoL
  rw [List.map_append]
  have e : (moreL p q l (L.take j)).map (·.1) = (L.take j).map (·.1) := by
    unfold moreL
    rw [List.map_map]
    rfl
  rw [e, ← List.map_append, List.take_append_drop]
theorem perm_map {α β : Type} {g : α → β} {ys zs : List β} (h : ys.Perm zs) : ∀ {L : List α}, zs = L.map g → ∃ M : List α, M.Perm L ∧ ys = M.map g := by
  induction h with
  | nil =>
    intro L e
    cases L with
    | nil => exact ⟨[], .refl _, rfl⟩
    | cons _ _ => cases e
  | cons x _ ih =>
    intro L e
    cases L with
    | nil => cases e
    | cons y L =>
      obtain ⟨e1, e2⟩ := List.cons.inj e
      obtain ⟨M, m1, m2⟩ := ih e2
      exact ⟨y :: M, m1.cons y, by rw [e1, m2]; rfl⟩
  | swap x y l =>
    intro L e
    match L, e with
    | u :: v :: L, e =>
      obtain ⟨e1, e2⟩ := List.cons.inj e
      obtain ⟨e3, e4⟩ := List.cons.inj e2
      exact ⟨v :: u :: L, .swap u v L, by rw [e1, e3, e4]; rfl⟩
  | trans _ _ ih1 ih2 =>
    intro L e
    obtain ⟨M, m1, m2⟩ := ih2 e
    obtain ⟨N, n1, n2⟩ := ih1 m2
    exact ⟨N, n1.trans m1, n2⟩
theorem up_of {L : List (Nat × List Int)} (s : (L.map fun x => ((x.1 : Nat) : Int)).Pairwise (· ≤ ·)) (nd : (L.map (·.1)).Nodup) : Up L := by
  unfold Up
  rw [List.pairwise_map] at s ⊢
  have n2 : L.Pairwise fun a b => a.1 ≠ b.1 := by
    have := nd
    unfold List.Nodup at this
    rw [List.pairwise_map] at this
    exact this
  exact (s.and n2).imp fun {a b} h => by omega
def spLeads : Sp := fun vs H Q _ => ∃ (p : Int) (n : Nat) (a : Addr) (k0 : Zm.Kd) (xs : List V) (fs : List (List Int)), vs = [.int p, .ref a] ∧ p ∈ ([2, 3, 5, 7, 11, 13] : List Int) ∧ n < 64 ∧ H a = some (.lst xs) ∧ Fls k0 H xs fs ∧ xs.length ≤ 1000 ∧ (∀ f ∈ fs, f.length = n ∧ Rg p f) ∧
  ∀ (d : Addr) (kvs : List (Key × V)) (L : List (Nat × List Int)) (H' : Hp), Sm H H' → H' d = some (.dK kvs) → KvL H' kvs L → PL p n fs L → Up L → Q (.ref d) H'
theorem below_len : ∀ (n : Nat) (xs : List Nat), xs.Nodup → (∀ x ∈ xs, x < n) → xs.length ≤ n
  | 0, [], _, _ => Nat.le_refl _
  | 0, x :: _, _, h => absurd (h x (by simp)) (Nat.not_lt_zero _)
  | n + 1, xs, nd, h => by
    have k := below_len n (xs.erase n) (nd.erase n) fun x hx => by
      have m := (nd.mem_erase_iff).mp hx
      have := h x m.2
      omega
    by_cases hn : n ∈ xs
    · rw [List.length_erase_of_mem hn] at k
      omega
    · rw [List.erase_of_not_mem hn] at k
      omega
theorem pl_le {p : Int} {n : Nat} {fs : List (List Int)} {L : List (Nat × List Int)} (h : PL p n fs L) : L.length ≤ n := by
  have k := below_len n (L.map (·.1)) h.nd fun x hx => by
    obtain ⟨y, hy, rfl⟩ := List.mem_map.mp hx
    exact h.plc y hy
  simpa using k
theorem ok_leads_of (T : Tx K mg A) : FnOk P w K mg base CX0 3 A.f_leads_of A.d_leads_of ["p", "flats"] spLeads := by
  have G_lessened : FnOk P w K mg base CX0 1 A.f_lessened A.d_lessened ["p", "flat", "number", "other"] spLess := ok_lessened T
  have G_cleared : FnOk P w K mg base CX0 2 A.f_cleared A.d_cleared ["p", "flat", "leads"] spClear := ok_cleared T
  have G_first_place : FnOk P w K mg base CX0 1 A.f_first_place A.d_first_place ["flat"] spFirst := ok_first_place T
  have G_inverse : FnOk P w K mg base CX0 1 A.f_inverse A.d_inverse ["p", "number"] spInv := ok_inverse T
  refine T.d_leads_of.F.ok sc_leads_of (fun vs H Q E h => ?_) (fun cdv A outer s H vs Q E hr h => ?_)
  · obtain ⟨p, n, a, k0, xs, fs, rfl, _⟩ := h
    rfl
  · obtain ⟨p, n, a, k0, xs, fs, rfl, hp, n64, ha, hfs, hxl, hf, q⟩ := h
    have pall : ∀ p ∈ ([2, 3, 5, 7, 11, 13] : List Int), 2 ≤ p ∧ p ≤ 13 := by decide
    obtain ⟨p2, p13⟩ := pall p hp
    have p0 : 0 < p := by omega
    refine ⟨_, (pss_cons (ps_set (i := 2) sc_leads_of.nd rfl (.inr rfl) pe_dnewK)
        (pss_cons (ps_for PassesOwn.never rfl (pi_list (pv 1)) (pg_name (i := 3) sc_leads_of.nd rfl (.inl rfl))
        (pss_cons (ps_set (i := 4) sc_leads_of.nd rfl (.inl rfl) (pe_call G_cleared hr (by rfl) T.d_cleared.g T.d_cleared.F.kp T.d_cleared.b .nil pass0 (pa_cons (pv 0) (pa_cons (pv 3) (pa_cons (pv 2) pa_nil)))))
        (pss_cons (ps_set (i := 5) sc_leads_of.nd rfl (.inl rfl) (pe_call G_first_place (hr.mono (by decide)) (by rfl) T.d_first_place.g T.d_first_place.F.kp T.d_first_place.b .nil pass0 (pa_cons (pv 4) pa_nil)))
        (pss_one (ps_if (pt_cmpR op_notN (pv 5) pe_non (nomark _))
        (pss_cons (ps_set (i := 6) sc_leads_of.nd rfl (.inr rfl) (pe_call G_inverse (hr.mono (by decide)) (by rfl) T.d_inverse.g T.d_inverse.F.kp T.d_inverse.b .nil pass0 (pa_cons (pv 0) (pa_cons (pe_ix En.ix_kd (pv 4) (pv 5) (fun _ _ => rfl)) pa_nil))))
        (pss_cons (ps_setLc (i := 7) (own := [("number", 9)]) rfl sc_leads_of.nd rfl rfl (sw_true rfl rfl rfl (by decide +kernel)) (Zm.pi_kd (pv 4)) (blkOk_by (N := N_leads_of) (sc := defScope s_leads_of) (by decide +kernel)) (fun _ _ _ _ _ => (pg_name (i := 9) sc_leads_of.nd rfl (.inl rfl))) (fun _ _ _ _ _ => pts_nil) (fun _ _ _ _ _ => (pe_op op_mod (pe_op op_mul (pv 6) (pv 9)) (pv 0))))
        (pss_cons (ps_for PassesOwn.never rfl (pi_list (pe_callTy (call_list_dK rfl) (by rfl) T.b_list PyProof.Rows.boot_list (pa_cons (pv 2) pa_nil))) (pg_name (i := 8) sc_leads_of.nd rfl (.inl rfl))
        (pss_one (ps_asg (pe_call G_lessened (hr.mono (by decide)) (by rfl) T.d_lessened.g T.d_lessened.F.kp T.d_lessened.b .nil pass0 (pa_cons (pv 0) (pa_cons (pe_dget (hu_of hr) (pv 2) (pv 8) (fun _ _ => rfl)) (pa_cons (pe_ix ix_list (pe_dget (hu_of hr) (pv 2) (pv 8) (fun _ _ => rfl)) (pv 5) (fun _ _ => rfl)) (pa_cons (pv 7) pa_nil))))) (pg_sub (pv 2) (pv 8) (set_dict (hu_of hr))))))
        (pss_one (ps_asg (pv 7) (pg_sub (pv 2) (pv 5) (set_dict (hu_of hr))))))))
        pss_nil)))))
        (pss_one (ps_ret (pe_dc (own := [("place", 8)]) rfl sc_leads_of.nd (pi_list (pe_callB (call_sortedDI rfl) (by rfl) T.b_sorted PyProof.Rows.boot_sorted (pa_cons (pv 2) pa_nil))) (blkOk_by (N := N_leads_of) (sc := defScope s_leads_of) (by decide +kernel)) (fun _ _ _ _ _ => (pg_name (i := 8) sc_leads_of.nd rfl (.inl rfl))) (fun _ _ _ _ _ => pts_nil) (fun _ _ _ _ _ => (pv 8)) (fun _ _ _ _ _ => (pe_dget (hu_of hr) (pv 2) (pv 8) (fun _ _ => rfl)))))))), ?_⟩
    refine fun d hd => ⟨.ref a, rfl, a, rfl, ⟨_, SqL.of ((Sm.new hd).lst ha)⟩, for_it walk_list (fun i σ H' => ∃ v3 v4 v5 v6 v7 v8 v9, σ = [some (.int p), some (.ref a), some (.ref d), v3, v4, v5, v6, v7, v8, v9] ∧ Sm H H' ∧ ∃ kvs L, H' d = some (.dK kvs) ∧ KvL H' kvs L ∧ PL p n (fs.take i) L)
      ⟨_, _, _, _, _, _, _, rfl, .new hd, [], [], upd_same, .nil, by simpa using PL.nil⟩ (fun i σ H' _ h => by obtain ⟨_, _, _, _, _, _, _, _, s, _⟩ := h; exact SqL.of (s.lst ha)) ?_ ?_⟩
    · rintro i x σ H1 H2 hi ⟨v3, v4, v5, v6, v7, v8, v9, rfl, s1, kvs, L, ed, kv, pl⟩ ⟨rfl, hx⟩
      obtain ⟨f, us, rfl, ef, ff⟩ := (hfs.sm s1).get hx
      obtain ⟨ul, ur⟩ := hf us (List.mem_of_getElem? ef)
      have et : fs.take (i + 1) = fs.take i ++ [us] := take_snoc ef
      have cl := Lin.clear_len (p := p) L pl.len ul
      have cr := Lin.clear_rg p0 L ur
      refine ⟨.int p, rfl, .ref f, rfl, .ref d, rfl, p, n, f, d, k0, us, kvs, L, rfl, p0, p13, by omega, ff, ul, ur, ed, kv, pl.nd, fun x hx => ⟨pl.len x hx, pl.plc x hx⟩, fun t k1 H3 s3 ft => ?_⟩
      have s13 := s1.trans s3
      have ed3 : H3 d = some (.dK kvs) := s3.kp _ _ (by intro ps z; cases z) ed
      refine ⟨.ref t, rfl, t, k1, _, rfl, ft, by omega, fun j u H4 eu u0 ah s4 => ?_, fun H4 z s4 => ?_⟩
      · have ur2 := cr u (List.mem_of_getElem? eu)
        have hj : j < n := by
          have := (List.getElem?_eq_some_iff.mp eu).1
          omega
        obtain ⟨c0, c1, ci⟩ := pw_inv (n := u) hp (by omega) ur2.2
        have ft4 : Fk k1 H4 t (clearL p us L) := At.sm ft s4
        have ed4 : H4 d = some (.dK kvs) := s4.kp _ _ (by intro ps z; cases z) ed3
        have kv4 : KvL H4 kvs L := (kv.sm s3).sm s4
        have s14 := s13.trans s4
        refine ⟨.int (j : Nat), rfl, rfl, _, rfl, ite2 (fun _ => ?_) (fun e => absurd (by simp) e)⟩
        -- the new lead
        refine ⟨.int p, rfl, .ref t, rfl, .int (j : Nat), rfl, t, k1, _, (j : Nat), .int u, rfl, rfl, At.sq ft4, atI_nat (by rw [List.getElem?_map, eu]; rfl), p, u, rfl, p2, p13, ur2.1, ur2.2, ?_⟩
        generalize hc : pw p u (p - 2).toNat = c at c0 c1 ci ⊢
        refine ⟨.ref t, rfl, t, k1, _, rfl, At.sq ft4, fun ld hld => lc_it Zm.walkq (fun k H' => Sm H4 H' ∧ Fl H' ld ((scaled p c (clearL p us L)).take k)) ⟨.new hld, by simpa [Fl] using upd_same⟩ (fun k H' _ h => (At.sm ft4 h.1).sq) ?_ ?_⟩
        · rintro k y H5 H6 hk ⟨s5, f5⟩ ⟨rfl, hy⟩
          rw [List.getElem?_map] at hy
          obtain ⟨w, ew, rfl⟩ := Option.map_eq_some_iff.mp hy
          have e2 : (scaled p c (clearL p us L))[k]? = some (c * w % p) := by
            unfold scaled
            rw [List.getElem?_map, ew]
            rfl
          refine ⟨rfl, .int c, rfl, .int w, rfl, c, w, rfl, rfl, cmul ⟨by omega, by omega⟩, .int p, rfl, _, p, rfl, rfl, p0, _, f5, ?_, s5.put hld, ?_⟩
          · rw [List.length_map, List.length_take]
            rw [List.length_map] at hk
            exact small (by omega)
          · unfold Fl
            rw [upd_same, take_snoc e2, List.map_append]
            rfl
        · rintro H5 ⟨s5, f5⟩
          rw [List.length_map, List.take_of_length_le (by unfold scaled; rw [List.length_map]; exact Nat.le_refl _)] at f5
          have ed5 : H5 d = some (.dK kvs) := s5.kp _ _ (by intro ps z; cases z) ed4
          have kv5 := kv4.sm s5
          have s15 := s14.trans s5
          have pls := pl.step (by omega) ul ur eu u0 ah ci
          have sl : (scaled p c (clearL p us L)).length = n := by
            unfold scaled
            rw [List.length_map]
            exact cl
          have lle := pl_le pl
          -- the others are lessened
          refine ⟨.ref d, rfl, d, kvs, rfl, ed5, fun KL hKL => ?_⟩
          have sK : Sm H5 (upd H5 KL (.lst (kvs.map fun kv => kV kv.1))) := .new hKL
          refine ⟨KL, rfl, ⟨_, SqL.of upd_same⟩, for_it walk_list (fun m σ H' => ∃ v8, σ = [some (.int p), some (.ref a), some (.ref d), some (.ref f), some (.ref t), some (.int (j : Nat)), some (.int c), some (.ref ld), v8, v9] ∧ Sm H H' ∧ Fl H' ld (scaled p c (clearL p us L)) ∧ H' KL = some (.lst (kvs.map fun kv => kV kv.1)) ∧ ∃ kvs', H' d = some (.dK kvs') ∧ KvL H' kvs' (uptoL p j (scaled p c (clearL p us L)) L m))
            ⟨_, rfl, s15.trans sK, sK.lst f5, upd_same, kvs, sK.kp _ _ (by intro ps z; cases z) ed5, by rw [upto_zero]; exact kv5.sm sK⟩ (fun m σ H' _ h => by obtain ⟨_, _, _, _, e, _⟩ := h; exact SqL.of e) ?_ ?_⟩
          · rintro m y σ H6 H7 hm ⟨v8, rfl, s6, f6, eK, kvs', ed6, kv6⟩ ⟨rfl, hy⟩
            rw [List.length_map] at hm
            have hm2 : m < L.length := by rw [← kv.len]; exact hm
            obtain ⟨b0, eb0, _⟩ := kv.get (i := m) (q := (L[m]).1) (us := (L[m]).2) (List.getElem?_eq_getElem hm2)
            rw [List.getElem?_map, eb0] at hy
            cases hy
            have nd6 : ((uptoL p j (scaled p c (clearL p us L)) L m).map (·.1)).Nodup := by
              rw [upto_places]
              exact pl.nd
            have eg := upto_get (p := p) (q := j) (l := scaled p c (clearL p us L)) hm2
            obtain ⟨b, eb, fb⟩ := kv6.val nd6 (q := (L[m]).1) (us := (L[m]).2) (List.mem_of_getElem? eg)
            have mm := List.getElem_mem hm2
            have bl := pl.len _ mm
            have bj : j < (L[m]).2.length := by omega
            have ew : (L[m]).2[j]? = some ((L[m]).2[j]) := List.getElem?_eq_getElem bj
            have rw_ := pl.rg _ mm _ (List.getElem_mem bj)
            refine ⟨.int p, rfl, .ref d, rfl, .int ((L[m]).1 : Nat), rfl, d, .ref b, rfl, .inl ⟨kvs', _, .inl ed6, rfl, eb.symm⟩, .ref d, rfl, .int ((L[m]).1 : Nat), rfl, d, .ref b, rfl, .inl ⟨kvs', _, .inl ed6, rfl, eb.symm⟩, .int (j : Nat), rfl, b, _, (j : Nat), .int ((L[m]).2[j]), rfl, rfl, SqL.of fb, atI_nat (by rw [List.getElem?_map, ew]; rfl), .ref ld, rfl, ?_⟩
            refine ⟨p, _, b, ld, .l, _, _, rfl, p0, rw_.1, by omega, fb, f6, by omega, by omega, fun t2 k8 H8 s8 hk8 f8 => ?_⟩
            have e8 : k8 = .l := hk8 rfl
            subst e8
            have ed8 : H8 d = some (.dK kvs') := s8.kp _ _ (by intro ps z; cases z) ed6
            have kv8 := kv6.sm s8
            have l8 := kv8.len
            rw [upto_len] at l8
            refine ⟨.ref d, rfl, .int ((L[m]).1 : Nat), rfl, d, _, rfl, DPut.k (k := Sum.inl ((L[m]).1 : Nat)) ed8 (small (by omega)), ?_⟩
            refine ⟨_, rfl, (s6.trans s8).put hd, fl_upd (s8.lst f6) ed8, ?_, _, upd_same, ?_⟩
            · rw [upd_ne (ne_of (s8.lst eK) ed8 (by intro z; cases z))]
              exact s8.lst eK
            · rw [← upto_set hm2]
              have e3 : (L[m]).2.getD j 0 = (L[m]).2[j] := by
                rw [List.getD_eq_getElem?_getD, ew]
                rfl
              rw [e3]
              exact (kv8.putOld nd6 eg f8).upd ed8
          · rintro σ H6 ⟨v8, rfl, s6, f6, eK, kvs', ed6, kv6⟩
            rw [List.length_map, kv.len, upto_all] at kv6
            have nq : j ∉ (moreL p j (scaled p c (clearL p us L)) L).map (·.1) := by
              have z := pls.nd
              rw [List.map_append] at z
              intro m
              exact (List.nodup_append.mp z).2.2 j m j (by simp) rfl
            have l6 := kv6.len
            have l7 : (moreL p j (scaled p c (clearL p us L)) L).length = L.length := by simp [moreL]
            refine ⟨.ref ld, rfl, .ref d, rfl, .int (j : Nat), rfl, d, _, rfl, DPut.k (k := Sum.inl (j : Nat)) ed6 (small (by omega)), ?_⟩
            refine ⟨_, _, _, _, _, _, _, rfl, s6.put hd, _, _, upd_same, (kv6.putNew nq f6).upd ed6, ?_⟩
            rw [et]
            exact pls
      · refine ⟨.non, rfl, rfl, _, rfl, ite2 (fun e => absurd e (by simp)) (fun _ => ?_)⟩
        refine ⟨_, _, _, _, _, _, _, rfl, s13.trans s4, kvs, L, s4.kp _ _ (by intro ps z; cases z) ed3, (kv.sm s3).sm s4, ?_⟩
        rw [et]
        exact pl.skip p0 ul ur z
    · rintro σ H1 ⟨v3, v4, v5, v6, v7, v8, v9, rfl, s1, kvs, L, ed, kv, pl⟩
      have ef : fs.take xs.length = fs := List.take_of_length_le (by rw [hfs.len]; exact Nat.le_refl _)
      rw [ef] at pl
      have lle := pl_le pl
      refine ⟨.ref d, rfl, d, kvs, _, rfl, .inl ed, kv.keys, by rw [List.length_map]; omega, fun ys KL pm srt hKL => ?_⟩
      obtain ⟨M, pM, rfl⟩ := perm_map pm rfl
      have plM := pl.perm pM.symm
      have upM := up_of srt plM.nd
      have sK : Sm H1 (upd H1 KL (.lst ((M.map fun x => ((x.1 : Nat) : Int)).map V.int))) := .new hKL
      have edK := sK.kp _ _ (by intro ps z; cases z) ed
      have kvK := kv.sm sK
      have eK : upd H1 KL (.lst ((M.map fun x => ((x.1 : Nat) : Int)).map V.int)) KL = some (.lst ((M.map fun x => ((x.1 : Nat) : Int)).map V.int)) := upd_same
      generalize upd H1 KL (.lst ((M.map fun x => ((x.1 : Nat) : Int)).map V.int)) = H2 at sK edK kvK eK ⊢
      have s2 := s1.trans sK
      refine ⟨KL, rfl, ⟨_, SqL.of eK⟩, fun D hD => Zm.dc_it walk_list (fun i H' => Sm H2 H' ∧ ∃ kvs', H' D = some (.dK kvs') ∧ KvL H' kvs' (M.take i)) ⟨.new hD, [], upd_same, by simpa using KvL.nil⟩ (fun i H' _ h => SqL.of (h.1.lst eK)) ?_ ?_⟩
      · rintro i x H3 H4 hi ⟨s3, kvs', eD, kvD⟩ ⟨rfl, hx⟩
        rw [List.length_map, List.length_map] at hi
        rw [List.getElem?_map, List.getElem?_map, List.getElem?_eq_getElem hi] at hx
        cases hx
        have m1 := List.getElem_mem hi
        obtain ⟨b, eb, fb⟩ := (kvK.sm s3).val pl.nd (q := (M[i]).1) (us := (M[i]).2) (pM.mem_iff.mp m1)
        have l3 := kvD.len
        rw [List.length_take] at l3
        have llm := pl_le plM
        refine ⟨rfl, .int ((M[i]).1 : Nat), rfl, .ref d, rfl, .int ((M[i]).1 : Nat), rfl, d, .ref b, rfl, .inl ⟨kvs, _, .inl (s3.kp _ _ (by intro ps z; cases z) edK), rfl, eb.symm⟩, kvs', Sum.inl ((M[i]).1 : Nat), rfl, eD, small (by omega), s3.put hD, _, upd_same, ?_⟩
        have e2 : M.take (i + 1) = M.take i ++ [M[i]] := by rw [List.take_append_getElem]
        rw [e2]
        refine (kvD.putNew ?_ fb).upd eD
        intro mm
        obtain ⟨y, hy, ey⟩ := List.mem_map.mp mm
        have z := upM
        unfold Up at z
        rw [← List.take_append_drop i M, List.map_append, List.pairwise_append] at z
        have z2 := z.2.2 y.1 (List.mem_map.mpr ⟨y, hy, rfl⟩) (M[i]).1 (List.mem_map.mpr ⟨M[i], List.mem_of_getElem? (i := 0) (by rw [List.getElem?_drop]; simp [hi]), rfl⟩)
        omega
      · rintro H3 ⟨s3, kvs', eD, kvD⟩
        rw [List.length_map, List.length_map, List.take_length] at kvD
        exact q D kvs' M H3 (s2.trans s3) eD kvD plM upM
/-! ### leads of rows -/
structure Rws (p : Int) (n : Nat) (H : Hp) (xs : List V) (rs : List Row) : Prop where
  len : xs.length = rs.length
  get : ∀ {i : Nat} {x : V}, xs[i]? = some x → ∃ a r, x = .ref a ∧ rs[i]? = some r ∧ Rw H a r
  fit : ∀ r ∈ rs, In p r ∧ r.length = n
theorem Rws.sm {p : Int} {n : Nat} {H H' : Hp} {xs : List V} {rs : List Row} (h : Rws p n H xs rs) (s : Sm H H') : Rws p n H' xs rs := ⟨h.len, fun e => let ⟨a, r, h1, h2, h3⟩ := h.get e; ⟨a, r, h1, h2, h3.sm s⟩, h.fit⟩
theorem flat_rg {p : Int} {r : Row} (h : In p r) : Rg p (flatR r) := by
  intro u hu
  obtain ⟨v, hv, hm⟩ := List.mem_flatMap.mp hu
  have := h v hv
  have m : u = v.1 ∨ u = v.2 := by simpa using hm
  rcases m with e | e
  · rw [e]; exact this.1
  · rw [e]; exact this.2
def spRowLeads : Sp := fun vs H Q _ => ∃ (p : Int) (n : Nat) (a : Addr) (k : Zm.Kd) (xs : List V) (rs : List Row), vs = [.int p, .ref a] ∧ p ∈ ([2, 3, 5, 7, 11, 13] : List Int) ∧ n ≤ 20 ∧ At k H a xs ∧ Rws p n H xs rs ∧ xs.length ≤ 200 ∧
  ∀ (d : Addr) (kvs : List (Key × V)) (L : List (Nat × List Int)) (H' : Hp), Sm H H' → H' d = some (.dK kvs) → KvL H' kvs L → PL p (2 * n) (rs.map flatR) L → Up L → Q (.ref d) H'
theorem ok_row_leads (T : Tx K mg A) : FnOk P w K mg base CX0 4 A.f_row_leads A.d_row_leads ["p", "rows"] spRowLeads := by
  have G_leads_of : FnOk P w K mg base CX0 3 A.f_leads_of A.d_leads_of ["p", "flats"] spLeads := ok_leads_of T
  have G_flat_of : FnOk P w K mg base CX0 1 A.f_flat_of A.d_flat_of ["row"] spFlat := ok_flat_of T
  refine T.d_row_leads.F.ok sc_row_leads (fun vs H Q E h => ?_) (fun cdv A outer s H vs Q E hr h => ?_)
  · obtain ⟨p, n, a, k, xs, rs, rfl, _⟩ := h
    rfl
  · obtain ⟨p, n, a, k, xs, rs, rfl, hp, n20, ha, hrs, hl, q⟩ := h
    refine ⟨_, (pss_one (ps_ret (pe_call G_leads_of hr (by rfl) T.d_leads_of.g T.d_leads_of.F.kp T.d_leads_of.b .nil pass0 (pa_cons (pv 0) (pa_cons (pe_lc (own := [("row", 2)]) rfl sc_row_leads.nd (Zm.pi_kd (pv 1)) (blkOk_by (N := N_row_leads) (sc := defScope s_row_leads) (by decide +kernel)) (fun _ _ _ _ _ => (pg_name (i := 2) sc_row_leads.nd rfl (.inl rfl))) (fun _ _ _ _ _ => pts_nil) (fun _ _ _ _ _ => (pe_call G_flat_of (hr.mono (by decide)) (by rfl) T.d_flat_of.g T.d_flat_of.F.kp T.d_flat_of.b .nil pass0 (pa_cons (pv 2) pa_nil)))) pa_nil))))), ?_⟩
    refine ⟨.int p, rfl, .ref a, rfl, a, k, xs, rfl, ha.sq, fun D hD => lc_it Zm.walkq (fun i H' => Sm H H' ∧ ∃ ys, H' D = some (.lst ys) ∧ V.ref D ∉ ys ∧ Fls .l H' ys ((rs.map flatR).take i)) ⟨.new hD, [], upd_same, by simp, by simpa using Fls.nil⟩ (fun i H' _ h => (ha.sm h.1).sq) ?_ ?_⟩
    · rintro i x H1 H2 hi ⟨s1, ys, eD, nD, fy⟩ ⟨rfl, hx⟩
      obtain ⟨b, r, rfl, er, wr⟩ := hrs.get hx
      obtain ⟨_, rl⟩ := hrs.fit r (List.mem_of_getElem? er)
      refine ⟨rfl, .ref b, rfl, b, r, rfl, wr.sm s1, by omega, fun t H3 s3 ht f3 => ?_⟩
      have neD : D ≠ t := ne_of_none eD ht
      have eD3 := s3.lst eD
      have ly := fy.len
      rw [List.length_take, List.length_map] at ly
      refine ⟨ys, eD3, small (by omega), (s1.trans s3).put hD, ys ++ [.ref t], upd_same, ?_, ?_⟩
      · intro m
        rcases List.mem_append.mp m with m | m
        · exact nD m
        · have e : V.ref D = V.ref t := List.mem_singleton.mp m
          cases e
          exact neD rfl
      have e2 : (rs.map flatR)[i]? = some (flatR r) := by rw [List.getElem?_map, er]; rfl
      rw [take_snoc e2]
      have z := (fy.sm s3).snoc f3
      refine ⟨z.len, fun e => ?_⟩
      obtain ⟨c, g, h1, h2, h3⟩ := z.get e
      refine ⟨c, g, h1, h2, ?_⟩
      show L2.upd H3 D _ c = _
      rw [upd_ne]
      · exact h3
      · intro z
        have m := List.mem_of_getElem? e
        rw [h1, z] at m
        rcases List.mem_append.mp m with m | m
        · exact nD m
        · have e : V.ref D = V.ref t := List.mem_singleton.mp m
          cases e
          exact neD rfl
    · rintro H1 ⟨s1, ys, eD, _, fy⟩
      have e2 : (rs.map flatR).take xs.length = rs.map flatR := List.take_of_length_le (by rw [List.length_map, hrs.len]; exact Nat.le_refl _)
      rw [e2] at fy
      refine ⟨p, 2 * n, D, .l, ys, _, rfl, hp, by omega, eD, fy, ?_, ?_, fun d kvs L H2 s2 ed kv pl up => q d kvs L H2 (s1.trans s2) ed kv pl up⟩
      · rw [fy.len, List.length_map, ← hrs.len]
        omega
      · intro f hf
        obtain ⟨r, hr2, rfl⟩ := List.mem_map.mp hf
        obtain ⟨h1, h2⟩ := hrs.fit r hr2
        exact ⟨by rw [flat_len, h2], flat_rg h1⟩
/-! ### the law's rows -/
theorem same_put {H H1 : Hp} {L : Addr} {o : HO} (s : Same H H1) (h : H L = none) : Same H (upd H1 L o) := fun b u e => by
  rw [upd_ne (ne_of_none e h)]
  exact s _ _ e
theorem Prs.same {H H1 : Hp} {xs : List V} {r : Row} (h : Prs H xs r) (s : Same H H1) : Prs H1 xs r := h.sm (.of_same s)
theorem in_addR {p : Int} (h : 0 < p) : ∀ r s : Row, In p (addR p r s)
  | [], _ => fun u hu => by simp [addR] at hu
  | _ :: _, [] => fun u hu => by simp [addR] at hu
  | v :: r, w :: s => fun u hu => by
    have e : addR p (v :: r) (w :: s) = ((v.1 + w.1) % p, (v.2 + w.2) % p) :: addR p r s := rfl
    rw [e] at hu
    rcases List.mem_cons.mp hu with rfl | hu
    · exact ⟨⟨Int.emod_nonneg _ (by omega), Int.emod_lt_of_pos _ h⟩, Int.emod_nonneg _ (by omega), Int.emod_lt_of_pos _ h⟩
    · exact in_addR h r s u hu
theorem in_timR {p n : Int} (h : 0 < p) (r : Row) : In p (timR p n r) := fun u hu => by
  obtain ⟨v, _, rfl⟩ := List.mem_map.mp hu
  exact ⟨⟨Int.emod_nonneg _ (by omega), Int.emod_lt_of_pos _ h⟩, Int.emod_nonneg _ (by omega), Int.emod_lt_of_pos _ h⟩
theorem in_noR {p : Int} (h : 0 < p) (m : Nat) : In p (noR m) := fun u hu => by
  rw [(List.mem_replicate.mp hu).2]
  exact ⟨⟨by decide, h⟩, by decide, h⟩
def spLTim : Sp := fun vs H Q _ => ∃ (p n : Int) (m : Nat) (a : Addr) (r : Row), vs = [.int p, .int n, .ref a] ∧ 0 < p ∧ p ≤ 13 ∧ 0 ≤ n ∧ n < 13 ∧ m ≤ 20 ∧ Rk p m H a r ∧ ∀ t H', Same H H' → Rk p m H' t (timR p n r) → Q (.ref t) H'
theorem ok__law_times (T : Tx K mg A) : FnOk P w K mg base CX0 1 A.f__law_times A.d__law_times ["_law_p", "_law_number", "_law_row_here"] spLTim := by
  refine T.d__law_times.F.ok sc__law_times (fun vs H Q E h => ?_) (fun cdv A outer s H vs Q E hr h => ?_)
  · obtain ⟨p, n, m, a, r, rfl, _⟩ := h
    rfl
  · obtain ⟨p, n, m, a, r, rfl, p0, p13, n0, n1, hm, hk, q⟩ := h
    obtain ⟨⟨xs, ha, hp⟩, _, hl⟩ := hk
    have hxl := hp.len
    refine ⟨_, (pss_one (ps_ret (pe_callTy call_tuple_of (by rfl) T.b_tuple PyProof.Rows.boot_tuple (pa_cons (pe_lc (own := [("_law_x", 3), ("_law_y", 4)]) (g := (gTup K 2 (gCons (gName 3) (gCons (gName 4) gNil)))) rfl sc__law_times.nd (pi_tup (pv 2)) (blkOk_by (N := N__law_times) (sc := defScope s__law_times) (by decide +kernel)) (fun _ _ _ _ _ => (pg_tup rfl (pgs_cons (pg_name (i := 3) sc__law_times.nd rfl (.inl rfl)) (pgs_cons (pg_name (i := 4) sc__law_times.nd rfl (.inl rfl)) pgs_nil)))) (fun _ _ _ _ _ => pts_nil) (fun _ _ _ _ _ => (pe_tup (pa_cons (pe_op op_mod (pe_op op_mul (pv 1) (pv 3)) (pv 0)) (pa_cons (pe_op op_mod (pe_op op_mul (pv 1) (pv 4)) (pv 0)) pa_nil))))) pa_nil)))), ?_⟩
    refine ⟨.ref a, rfl, a, rfl, ⟨_, SqT.of ha⟩, fun L hL => lc_it (σ := [some (.int p), some (.int n), some (.ref a), none, none]) (vs := [3, 4]) (walk_tup (xs := xs)) (fun i H' => Same H H' ∧ ∃ zs, H' L = some (.lst zs) ∧ Prs H' zs ((timR p n r).take i)) ⟨same_upd hL, [], upd_same, by simpa using Prs.nil⟩ (fun i H' _ h => SqT.of (h.1 _ _ ha)) ?_ ?_⟩
    · rintro i x H1 H2 hi ⟨s1, zs, eL, hz⟩ ⟨rfl, hx⟩
      obtain ⟨u, eu, b, rfl, hb⟩ := hp.get hx
      have e2 : (timR p n r)[i]? = some (n * u.1 % p, n * u.2 % p) := by
        unfold timR
        rw [List.getElem?_map, eu]
        rfl
      have hzl := hz.len
      rw [List.length_take] at hzl
      refine ⟨b, [.int u.1, .int u.2], rfl, SqT.of (s1 _ _ hb), rfl, .int u.1, [.int u.2], rfl, .int u.2, [], rfl, rfl, ?_⟩
      dsimp only [wipe, List.set]
      refine ⟨rfl, .int n, rfl, .int u.1, rfl, n, u.1, rfl, rfl, cmul ⟨n0, n1⟩, .int p, rfl, _, p, rfl, rfl, p0, .int n, rfl, .int u.2, rfl, n, u.2, rfl, rfl, cmul ⟨n0, n1⟩, .int p, rfl, _, p, rfl, rfl, p0, (by show 2 ≤ sizeLine; decide), fun t ht => ?_⟩
      have nL : L ≠ t := ne_of_none eL ht
      have eL2 : upd H2 t (.tup [.int (n * u.1 % p), .int (n * u.2 % p)]) L = some (.lst zs) := by
        rw [upd_ne nL]
        exact eL
      refine ⟨zs, eL2, small (by omega), same_put (s1.trans (same_upd ht)) hL, _, upd_same, ?_⟩
      rw [take_snoc e2]
      exact ((hz.sm (.new ht)).snoc (u := (n * u.1 % p, n * u.2 % p)) ⟨t, rfl, upd_same⟩).put eL2
    · rintro H1 ⟨s1, zs, eL, hz⟩
      have e : (timR p n r).take xs.length = timR p n r := List.take_of_length_le (by unfold timR; rw [List.length_map]; omega)
      rw [e] at hz
      refine ⟨L, _, rfl, .inl ⟨SqL.of eL, fun t ht => q t _ (s1.trans (same_upd ht)) ⟨⟨zs, upd_same, hz.sm (.new ht)⟩, in_timR p0 r, ?_⟩⟩⟩
      unfold timR
      rw [List.length_map]
      exact hl
def spLAdd : Sp := fun vs H Q _ => ∃ (p : Int) (m : Nat) (a b : Addr) (r s : Row), vs = [.int p, .ref a, .ref b] ∧ 0 < p ∧ p ≤ 13 ∧ m ≤ 20 ∧ Rk p m H a r ∧ Rk p m H b s ∧ ∀ t H', Same H H' → Rk p m H' t (addR p r s) → Q (.ref t) H'
theorem ok__law_added (T : Tx K mg A) : FnOk P w K mg base CX0 1 A.f__law_added A.d__law_added ["_law_p", "_law_one", "_law_other"] spLAdd := by
  refine T.d__law_added.F.ok sc__law_added (fun vs H Q E h => ?_) (fun cdv A outer s H vs Q E hr h => ?_)
  · obtain ⟨p, m, a, b, r, s, rfl, _⟩ := h
    rfl
  · obtain ⟨p, m, a, b, r, s', rfl, p0, p13, hm, hk, hk2, q⟩ := h
    obtain ⟨⟨xs, ha, hp⟩, _, hl⟩ := hk
    obtain ⟨⟨ys, hb, hp2⟩, _, hl2⟩ := hk2
    have hxl := hp.len
    have hyl := hp2.len
    refine ⟨_, (pss_one (ps_ret (pe_callTy call_tuple_of (by rfl) T.b_tuple PyProof.Rows.boot_tuple (pa_cons (pe_lc (own := [("_law_x", 3), ("_law_y", 4), ("_law_right", 5), ("_law_down", 6)]) (g := (gTup K 2 (gCons (gTup K 2 (gCons (gName 3) (gCons (gName 4) gNil))) (gCons (gTup K 2 (gCons (gName 5) (gCons (gName 6) gNil))) gNil)))) rfl sc__law_added.nd (Zm.pi_zip2 .t .t (by rfl) T.b_zip (pa_cons (pv 1) (pa_cons (pv 2) pa_nil))) (blkOk_by (N := N__law_added) (sc := defScope s__law_added) (by decide +kernel)) (fun _ _ _ _ _ => (pg_tup rfl (pgs_cons (pg_tup rfl (pgs_cons (pg_name (i := 3) sc__law_added.nd rfl (.inl rfl)) (pgs_cons (pg_name (i := 4) sc__law_added.nd rfl (.inl rfl)) pgs_nil))) (pgs_cons (pg_tup rfl (pgs_cons (pg_name (i := 5) sc__law_added.nd rfl (.inl rfl)) (pgs_cons (pg_name (i := 6) sc__law_added.nd rfl (.inl rfl)) pgs_nil))) pgs_nil)))) (fun _ _ _ _ _ => pts_nil) (fun _ _ _ _ _ => (pe_tup (pa_cons (pe_op op_mod (pe_op op_add (pv 3) (pv 5)) (pv 0)) (pa_cons (pe_op op_mod (pe_op op_add (pv 4) (pv 6)) (pv 0)) pa_nil))))) pa_nil)))), ?_⟩
    refine ⟨.ref a, rfl, .ref b, rfl, a, b, xs, ys, rfl, SqT.of ha, SqT.of hb, fun L hL => lc_it (σ := [some (.int p), some (.ref a), some (.ref b), none, none, none, none]) (vs := [3, 4, 5, 6]) (Zm.walk2 (xs := xs) (ys := ys) (by omega)) (fun i H' => Same H H' ∧ ∃ zs, H' L = some (.lst zs) ∧ Prs H' zs ((addR p r s').take i)) ⟨same_upd hL, [], upd_same, by simpa using Prs.nil⟩ (fun i H' _ h => ⟨SqT.of (h.1 _ _ ha), SqT.of (h.1 _ _ hb)⟩) ?_ ?_⟩
    · rintro i x H1 H2 hi ⟨s1, zs, eL, hz⟩ ⟨T1, x1, y1, rfl, hT, rfl, hx, hy⟩
      obtain ⟨u, eu, b1, rfl, hb1⟩ := hp.get hx
      obtain ⟨v, ev, b2, rfl, hb2⟩ := hp2.get hy
      have s2 : Same H (upd H1 T1 (.tup [.ref b1, .ref b2])) := s1.trans (same_upd hT)
      have z1 : upd H1 T1 (.tup [.ref b1, .ref b2]) b1 = some (.tup [.int u.1, .int u.2]) := s2 _ _ hb1
      have z2 : upd H1 T1 (.tup [.ref b1, .ref b2]) b2 = some (.tup [.int v.1, .int v.2]) := s2 _ _ hb2
      refine ⟨T1, [.ref b1, .ref b2], rfl, SqT.of upd_same, rfl, .ref b1, [.ref b2], rfl, ?_⟩
      refine ⟨b1, [.int u.1, .int u.2], rfl, SqT.of z1, rfl, .int u.1, [.int u.2], rfl, .int u.2, [], rfl, rfl, .ref b2, [], rfl, ?_⟩
      refine ⟨b2, [.int v.1, .int v.2], rfl, SqT.of z2, rfl, .int v.1, [.int v.2], rfl, .int v.2, [], rfl, rfl, rfl, ?_⟩
      dsimp only [wipe, List.set]
      have e2 : (addR p r s')[i]? = some ((u.1 + v.1) % p, (u.2 + v.2) % p) := by
        unfold addR
        rw [List.getElem?_zipWith, eu, ev]
      have hzl := hz.len
      rw [List.length_take] at hzl
      have eL1 : upd H1 T1 (.tup [.ref b1, .ref b2]) L = some (.lst zs) := by
        rw [upd_ne (ne_of_none eL hT)]
        exact eL
      refine ⟨rfl, .int u.1, rfl, .int v.1, rfl, u.1, v.1, rfl, rfl, .int p, rfl, _, p, rfl, rfl, p0, .int u.2, rfl, .int v.2, rfl, u.2, v.2, rfl, rfl, .int p, rfl, _, p, rfl, rfl, p0, (by show 2 ≤ sizeLine; decide), fun t ht => ?_⟩
      have eL2 : upd (upd H1 T1 (.tup [.ref b1, .ref b2])) t (.tup [.int ((u.1 + v.1) % p), .int ((u.2 + v.2) % p)]) L = some (.lst zs) := by
        rw [upd_ne (ne_of_none eL1 ht)]
        exact eL1
      refine ⟨zs, eL2, small (by omega), same_put (s2.trans (same_upd ht)) hL, _, upd_same, ?_⟩
      rw [take_snoc e2]
      exact (((hz.sm (.new hT)).sm (.new ht)).snoc (u := ((u.1 + v.1) % p, (u.2 + v.2) % p)) ⟨t, rfl, upd_same⟩).put eL2
    · rintro H1 ⟨s1, zs, eL, hz⟩
      have la : (addR p r s').length = m := by
        unfold addR
        rw [List.length_zipWith]
        omega
      have e : (addR p r s').take xs.length = addR p r s' := List.take_of_length_le (by omega)
      rw [e] at hz
      exact ⟨L, _, rfl, .inl ⟨SqL.of eL, fun t ht => q t _ (s1.trans (same_upd ht)) ⟨⟨zs, upd_same, hz.sm (.new ht)⟩, in_addR p0 r s', la⟩⟩⟩

/-! ### sums -/
theorem Rws.fr {p : Int} {n : Nat} {H H' : Hp} {xs : List V} {rs : List Row} {d g c : Addr} {k : Int} (h : Rws p n H xs rs) (D : Dk d g c k H) (f : Fr d g H H') : Rws p n H' xs rs := ⟨h.len, fun e => let ⟨a, r, h1, h2, h3⟩ := h.get e; ⟨a, r, h1, h2, h3.fr D f⟩, h.fit⟩
theorem Rw.put {H : Hp} {t L : Addr} {r : Row} {ys : List V} {o : HO} (h : Rw H t r) (e : H L = some (.lst ys)) : Rw (upd H L o) t r := by
  obtain ⟨xs, h1, h2⟩ := h
  exact ⟨xs, by rw [upd_ne (ne_of h1 e (by intro z; cases z))]; exact h1, h2.put e⟩
theorem Rws.put {p : Int} {n : Nat} {H : Hp} {xs ys : List V} {rs : List Row} {L : Addr} {o : HO} (h : Rws p n H xs rs) (e : H L = some (.lst ys)) : Rws p n (upd H L o) xs rs := ⟨h.len, fun e2 => let ⟨a, r, h1, h2, h3⟩ := h.get e2; ⟨a, r, h1, h2, h3.put e⟩, h.fit⟩
theorem Rws.rk {p : Int} {n : Nat} {H : Hp} {xs : List V} {rs : List Row} (h : Rws p n H xs rs) {i : Nat} {x : V} (e : xs[i]? = some x) : ∃ a r, x = .ref a ∧ rs[i]? = some r ∧ Rk p n H a r := by
  obtain ⟨a, r, h1, h2, h3⟩ := h.get e
  obtain ⟨h4, h5⟩ := h.fit r (List.mem_of_getElem? h2)
  exact ⟨a, r, h1, h2, h3, h4, h5⟩
theorem Rws.nil {p : Int} {n : Nat} {H : Hp} : Rws p n H [] [] := ⟨rfl, fun e => by simp at e, fun r hr => by simp at hr⟩
open Lin (sumP)
theorem sumP_snoc {p : Int} {m : Nat} {ns : List Int} {rs : List Row} {i : Nat} {n : Int} {r : Row} (h1 : ns[i]? = some n) (h2 : rs[i]? = some r) : sumP p (noR m) ((ns.zip rs).take (i + 1)) = addR p (sumP p (noR m) ((ns.zip rs).take i)) (timR p n r) := by
  have e : (ns.zip rs)[i]? = some (n, r) := by
    unfold List.zip
    rw [List.getElem?_zipWith, h1, h2]
  rw [take_snoc e, Lin.sum_snoc]
  rfl
theorem read_rep {H : Hp} {σ : L2.St} {i m : Nat} {Q : VK} (hs : σ[i]? = some (some (.int m))) (hm : m ≤ 20) (q : ∀ t H', Same H H' → Rw H' t (noR m) → Q (.ref t) H') :
    tOp (Gx.rRepA K) (tTup (tCons (tTup (tCons (tC (.int 0)) (tCons (tC (.int 0)) tNil))) tNil)) (tVar i) σ H Q := by
  refine ⟨(by show 2 ≤ sizeLine; decide), fun t ht => ⟨(by show 1 ≤ sizeLine; decide), fun t2 ht2 => ?_⟩⟩
  have e1 : upd (upd H t (.tup [.int 0, .int 0])) t2 (.tup [.ref t]) t = some (.tup [.int 0, .int 0]) := by
    rw [upd_ne (ne_of_none upd_same ht2)]
    exact upd_same
  have s2 : Same H (upd (upd H t (.tup [.int 0, .int 0])) t2 (.tup [.ref t])) := (same_upd ht).trans (same_upd ht2)
  refine ⟨.int m, hs, t2, m, _, rfl, rfl, SqT.of upd_same, by simp, by omega, by omega, (by show 1 ≤ 1000; decide), fun e => ?_, fun _ t3 ht3 => ?_⟩
  · have e' : m = 1 := by omega
    subst e'
    exact q t2 _ s2 ⟨_, upd_same, prs_rep (k := 1) ⟨t, rfl, e1⟩⟩
  · refine q t3 _ (s2.trans (same_upd ht3)) ⟨_, upd_same, ?_⟩
    rw [rep_one, Int.toNat_natCast]
    exact (prs_rep ⟨t, rfl, e1⟩ m).sm (.new ht3)
theorem At.same {k : Zm.Kd} {H H' : Hp} {a : Addr} {xs : List V} (h : At k H a xs) (s : Same H H') : At k H' a xs := h.sm (.of_same s)
def spLSum : Sp := fun vs H Q _ => ∃ (p : Int) (m : Nat) (a b : Addr) (j k : Zm.Kd) (ns : List Int) (xs : List V) (rs : List Row), vs = [.int p, .int m, .ref a, .ref b] ∧ 0 < p ∧ p ≤ 13 ∧ m ≤ 20 ∧ At j H a (ns.map V.int) ∧ At k H b xs ∧ Rws p m H xs rs ∧ ns.length = rs.length ∧ (∀ n ∈ ns, 0 ≤ n ∧ n < 13) ∧
  ∀ t H', Same H H' → Rk p m H' t (sumP p (noR m) (ns.zip rs)) → Q (.ref t) H'
theorem ok__law_sum (T : Tx K mg A) : FnOk P w K mg base CX0 2 A.f__law_sum A.d__law_sum ["_law_p", "_law_posts", "_law_numbers_here", "_law_rows"] spLSum := by
  have G__law_added : FnOk P w K mg base CX0 1 A.f__law_added A.d__law_added ["_law_p", "_law_one", "_law_other"] spLAdd := ok__law_added T
  have G__law_times : FnOk P w K mg base CX0 1 A.f__law_times A.d__law_times ["_law_p", "_law_number", "_law_row_here"] spLTim := ok__law_times T
  refine T.d__law_sum.F.ok sc__law_sum (fun vs H Q E h => ?_) (fun cdv A outer s H vs Q E hr h => ?_)
  · obtain ⟨p, m, a, b, j, k, ns, xs, rs, rfl, _⟩ := h
    rfl
  · obtain ⟨p, m, a, b, j, k, ns, xs, rs, rfl, p0, p13, hm, ha, hb, hrs, hle, hn, q⟩ := h
    refine ⟨_, (pss_cons (ps_set (i := 4) sc__law_sum.nd rfl (.inl rfl) (pe_op Gx.op_repA (pe_tup (pa_cons (pe_tup (pa_cons pe_int (pa_cons pe_int pa_nil))) pa_nil)) (pv 1)))
        (pss_cons (ps_for PassesOwn.never rfl (Zm.pi_zipK (by rfl) T.b_zip (pa_cons (pv 2) (pa_cons (pv 3) pa_nil))) (pg_tup rfl (pgs_cons (pg_name (i := 5) sc__law_sum.nd rfl (.inl rfl)) (pgs_cons (pg_name (i := 6) sc__law_sum.nd rfl (.inl rfl)) pgs_nil)))
        (pss_one (ps_set (i := 4) sc__law_sum.nd rfl (.inl rfl) (pe_call G__law_added hr (by rfl) T.d__law_added.g T.d__law_added.F.kp T.d__law_added.b .nil pass0 (pa_cons (pv 0) (pa_cons (pv 4) (pa_cons (pe_call G__law_times hr (by rfl) T.d__law_times.g T.d__law_times.F.kp T.d__law_times.b .nil pass0 (pa_cons (pv 0) (pa_cons (pv 5) (pa_cons (pv 6) pa_nil)))) pa_nil)))))))
        (pss_one (ps_ret (pv 4))))), ?_⟩
    refine read_rep (i := 1) (m := m) rfl hm fun t0 H0 s0 w0 => ?_
    have hxl := hrs.len
    refine ⟨.ref a, rfl, .ref b, rfl, j, k, a, b, _, _, rfl, (ha.same s0).sq, (hb.same s0).sq, for_it (Zm.walk2 (xs := ns.map V.int) (ys := xs) (by rw [List.length_map]; omega)) (fun i σ H' => ∃ t v5 v6, σ = [some (.int p), some (.int m), some (.ref a), some (.ref b), some (.ref t), v5, v6] ∧ Same H H' ∧ Rk p m H' t (sumP p (noR m) ((ns.zip rs).take i)))
      ⟨t0, _, _, rfl, s0, w0, in_noR p0 m, by simp [noR, sumP]⟩ (fun i σ H' _ h => by obtain ⟨_, _, _, _, s, _⟩ := h; exact ⟨(ha.same s).sq, (hb.same s).sq⟩) ?_ ?_⟩
    · rintro i x σ H1 H2 hi ⟨t, v5, v6, rfl, s1, k1⟩ ⟨T1, x1, y1, rfl, hT, rfl, hx, hy⟩
      dsimp only at hx hy
      rw [List.getElem?_map] at hx
      obtain ⟨n, en, rfl⟩ := Option.map_eq_some_iff.mp hx
      obtain ⟨c, r, rfl, er, kr⟩ := (hrs.sm (.of_same s1)).rk hy
      have sT : Same H1 (upd H1 T1 (.tup [.int n, .ref c])) := same_upd hT
      obtain ⟨n0, n1⟩ := hn n (List.mem_of_getElem? en)
      refine ⟨T1, [.int n, .ref c], rfl, SqT.of upd_same, rfl, .int n, [.ref c], rfl, .ref c, [], rfl, rfl, ?_⟩
      have k2 := k1.sm (.of_same sT)
      have kr2 := kr.sm (.of_same sT)
      have s2 : Same H (upd H1 T1 (.tup [.int n, .ref c])) := s1.trans sT
      generalize upd H1 T1 (.tup [.int n, .ref c]) = H3 at k2 kr2 s2 ⊢
      refine ⟨.int p, rfl, .ref t, rfl, .int p, rfl, .int n, rfl, .ref c, rfl, p, n, m, c, r, rfl, p0, p13, n0, n1, hm, kr2, fun t2 H4 s4 k4 => ?_⟩
      refine ⟨p, m, t, t2, _, _, rfl, p0, p13, hm, k2.sm (.of_same s4), k4, fun t3 H5 s5 k5 => ?_⟩
      refine ⟨t3, _, _, rfl, (s2.trans s4).trans s5, ?_⟩
      rw [sumP_snoc en er]
      exact k5
    · rintro σ H1 ⟨t, v5, v6, rfl, s1, k1⟩
      have e : (ns.zip rs).take (ns.map V.int).length = ns.zip rs := List.take_of_length_le (by rw [List.length_zip, List.length_map]; omega)
      rw [e] at k1
      exact ⟨.ref t, rfl, q t H1 s1 k1⟩
/-! ### stirred -/
theorem inv_of {p n : Int} (hp : p ∈ prs) (h0 : 0 < n) (h1 : n < p) : ∃ c, Lin.Cg p (c * n) 1 := by
  obtain ⟨_, _, e⟩ := pw_inv hp h0 h1
  refine ⟨pw p n (p - 2).toNat, ?_⟩
  have a := Lin.Cg.mod (p := p) (pw p n (p - 2).toNat * n)
  rw [e] at a
  exact a.symm
def Span (p : Int) (rs ss : List Row) : Prop := ∀ u, Lin.Lot p (Lin.spn (rs.map flatR)) u ↔ Lin.Lot p (Lin.spn (ss.map flatR)) u
theorem Span.refl {p : Int} {rs : List Row} : Span p rs rs := fun _ => Iff.rfl
theorem Span.trans {p : Int} {rs ss ts : List Row} (a : Span p rs ss) (b : Span p ss ts) : Span p rs ts := fun u => (a u).trans (b u)
theorem Span.symm {p : Int} {rs ss : List Row} (a : Span p rs ss) : Span p ss rs := fun u => (a u).symm
theorem map_set {α β : Type} (f : α → β) (l : List α) (i : Nat) (x : α) : (l.set i x).map f = (l.map f).set i (f x) := List.map_set
theorem span_add {p c : Int} {rs : List Row} {i j : Nat} {r s : Row} (ne : i ≠ j) (hi : rs[i]? = some r) (hj : rs[j]? = some s) (hl : r.length = s.length) : Span p (rs.set i (addR p r (timR p c s))) rs := by
  intro u
  rw [map_set]
  refine Lin.lot_set_add (c := c) ne (by rw [List.getElem?_map, hi]; rfl) (by rw [List.getElem?_map, hj]; rfl) (fun k => ?_) u
  exact (Lin.vec_addP (p := p) (r := r) (s := timR p c s) (by unfold timR; rw [List.length_map]; exact hl) k).trans (Lin.Cg.rfl'.add (Lin.vec_timP k))
theorem span_mul {p c : Int} {rs : List Row} {i : Nat} {r : Row} (hi : rs[i]? = some r) (hc : ∃ d, Lin.Cg p (d * c) 1) : Span p (rs.set i (timR p c r)) rs := by
  intro u
  obtain ⟨d, hd⟩ := hc
  rw [map_set]
  exact Lin.lot_set_mul (by rw [List.getElem?_map, hi]; rfl) (fun k => Lin.vec_timP k) hd u
theorem Rws.set {p : Int} {n : Nat} {H : Hp} {xs : List V} {rs : List Row} (h : Rws p n H xs rs) {i : Nat} {a : Addr} {r : Row} (k : Rk p n H a r) : Rws p n H (xs.set i (.ref a)) (rs.set i r) := by
  refine ⟨by rw [List.length_set, List.length_set, h.len], fun {j x} e => ?_, fun s hs => ?_⟩
  · by_cases hji : j = i
    · subst hji
      have hj : j < xs.length := by
        have := (List.getElem?_eq_some_iff.mp e).1
        rw [List.length_set] at this
        exact this
      rw [List.getElem?_set_self hj] at e
      cases e
      exact ⟨a, r, rfl, List.getElem?_set_self (by rw [← h.len]; exact hj), k.rw⟩
    · rw [List.getElem?_set_ne (fun z => hji z.symm)] at e
      rw [List.getElem?_set_ne (fun z => hji z.symm)]
      exact h.get e
  · rcases List.mem_or_eq_of_mem_set hs with m | m
    · exact h.fit s m
    · rw [m]
      exact ⟨k.inp, k.len⟩
theorem ixN_nat {n j : Nat} (h : j < n) : ixN n (j : Int) = some j := by
  unfold ixN
  rw [if_pos (by omega), if_pos (by omega), Int.toNat_natCast]
def spStir : Sp := fun vs H Q _ => ∃ (d g c : Addr) (k p : Int) (m : Nat) (b : Addr) (kd : Zm.Kd) (xs : List V) (rs : List Row), vs = [.ref d, .int p, .int m, .ref b] ∧ Dk d g c k H ∧ k ≤ 100000 ∧ p ∈ prs ∧ m ≤ 20 ∧ At kd H b xs ∧ Rws p m H xs rs ∧ xs.length ≤ 40 ∧
  ∀ t ys ss H', Fr d g H H' → Dk d g c (k + 8 * xs.length) H' → H' t = some (.tup ys) → Rws p m H' ys ss → ss.length = rs.length → Span p ss rs → Q (.ref t) H'
theorem ok__law_stirred (T : Tx K mg A) : FnOk P w K mg base CX0 2 A.f__law_stirred A.d__law_stirred ["_law_deck_here", "_law_p", "_law_posts", "_law_rows"] spStir := by
  have G__law_next : FnOk P w K mg base CX0 1 A.f__law_next A.d__law_next ["_law_deck_here", "_law_many"] spNext := ok__law_next T
  have G__law_added : FnOk P w K mg base CX0 1 A.f__law_added A.d__law_added ["_law_p", "_law_one", "_law_other"] spLAdd := ok__law_added T
  have G__law_times : FnOk P w K mg base CX0 1 A.f__law_times A.d__law_times ["_law_p", "_law_number", "_law_row_here"] spLTim := ok__law_times T
  refine T.d__law_stirred.F.ok sc__law_stirred (fun vs H Q E h => ?_) (fun cdv A outer s H vs Q E hr h => ?_)
  · obtain ⟨d, g, c, k, p, m, b, kd, xs, rs, rfl, _⟩ := h
    rfl
  · obtain ⟨d, g, c, k, p, m, b, kd, xs, rs, rfl, D0, hk, hp, hm, hb, hrs, hxl, q⟩ := h
    obtain ⟨p2, p13⟩ := prs_bd p hp
    have p0 : 0 < p := by omega
    refine ⟨_, (pss_cons (ps_set (i := 4) sc__law_stirred.nd rfl (.inl rfl) (pe_callTy call_list_of (by rfl) T.b_list PyProof.Rows.boot_list (pa_cons (pv 3) pa_nil)))
        (pss_cons (ps_for PassesOwn.never rfl (pi_range1 (by rfl) T.b_range (pa_cons (pe_op op_mul (pe_callB call_len_seq (by rfl) T.b_len PySem.boot_len (pa_cons (pv 4) pa_nil)) pe_int) pa_nil)) (pg_name (i := 5) sc__law_stirred.nd rfl (.inl rfl))
        (pss_cons (ps_set (i := 6) sc__law_stirred.nd rfl (.inl rfl) (pe_call G__law_next hr (by rfl) T.d__law_next.g T.d__law_next.F.kp T.d__law_next.b .nil pass0 (pa_cons (pv 0) (pa_cons (pe_callB call_len_seq (by rfl) T.b_len PySem.boot_len (pa_cons (pv 4) pa_nil)) pa_nil))))
        (pss_cons (ps_set (i := 7) sc__law_stirred.nd rfl (.inl rfl) (pe_call G__law_next hr (by rfl) T.d__law_next.g T.d__law_next.F.kp T.d__law_next.b .nil pass0 (pa_cons (pv 0) (pa_cons (pe_callB call_len_seq (by rfl) T.b_len PySem.boot_len (pa_cons (pv 4) pa_nil)) pa_nil))))
        (pss_cons (ps_if (pt_cmpR op_ne (pv 6) (pv 7) (nomark _))
        (pss_one (ps_asg (pe_call G__law_added hr (by rfl) T.d__law_added.g T.d__law_added.F.kp T.d__law_added.b .nil pass0 (pa_cons (pv 1) (pa_cons (pe_ix ix_list (pv 4) (pv 6) (fun _ _ => rfl)) (pa_cons (pe_call G__law_times hr (by rfl) T.d__law_times.g T.d__law_times.F.kp T.d__law_times.b .nil pass0 (pa_cons (pv 1) (pa_cons (pe_call G__law_next hr (by rfl) T.d__law_next.g T.d__law_next.F.kp T.d__law_next.b .nil pass0 (pa_cons (pv 0) (pa_cons (pv 1) pa_nil))) (pa_cons (pe_ix ix_list (pv 4) (pv 7) (fun _ _ => rfl)) pa_nil)))) pa_nil)))) (pg_sub (pv 4) (pv 6) set_list)))
        pss_nil)
        (pss_one (ps_asg (pe_call G__law_times hr (by rfl) T.d__law_times.g T.d__law_times.F.kp T.d__law_times.b .nil pass0 (pa_cons (pv 1) (pa_cons (pe_op op_add pe_int (pe_call G__law_next hr (by rfl) T.d__law_next.g T.d__law_next.F.kp T.d__law_next.b .nil pass0 (pa_cons (pv 0) (pa_cons (pe_op op_sub (pv 1) pe_int) pa_nil)))) (pa_cons (pe_ix ix_list (pv 4) (pv 7) (fun _ _ => rfl)) pa_nil)))) (pg_sub (pv 4) (pv 7) set_list)))))))
        (pss_one (ps_ret (pe_callTy call_tuple_of (by rfl) T.b_tuple PyProof.Rows.boot_tuple (pa_cons (pv 4) pa_nil)))))), ?_⟩
    have hb2 : SqL K H b xs ∨ SqT K H b xs := by
      cases kd with
      | l => exact .inl (SqL.of hb)
      | t => exact .inr (SqT.of hb)
    refine ⟨.ref b, rfl, b, xs, rfl, hb2, fun L hL => ?_⟩
    have nL := D0.nd hL
    refine ⟨.ref L, rfl, L, _, rfl, .inl (SqL.of upd_same), _, _, rfl, rfl, .inl ⟨by omega, by omega⟩, _, rfl, by omega, by omega, for_range (fun i σ H' => ∃ v5 v6 v7, σ = [some (.ref d), some (.int p), some (.int m), some (.ref b), some (.ref L), v5, v6, v7] ∧ Dk d g c (k + 4 * i) H' ∧ Fr d g H H' ∧ ∃ ys ss, H' L = some (.lst ys) ∧ Rws p m H' ys ss ∧ ss.length = rs.length ∧ Span p ss rs)
      ⟨_, _, _, rfl, (D0.same (same_upd hL)).mono (by omega), .new hL, xs, rs, upd_same, hrs.sm (.new hL), rfl, .refl⟩ ?_ ?_⟩
    · rintro i σ H1 hi ⟨v5, v6, v7, rfl, D1, f1, ys, ss, eL, hss, sl, sp⟩
      have yl := hss.len
      have hrl := hrs.len
      have hi2 : (i : Int) < xs.length * 2 := by omega
      have pos : 0 < ys.length := by omega
      -- two places
      refine ⟨.ref d, rfl, .ref L, rfl, L, _, rfl, .inl (SqL.of eL), d, g, c, _, _, rfl, by omega, by omega, D1, by omega, fun r1 H2 r10 r11 D2 f2 => ?_⟩
      obtain ⟨b1, rfl⟩ := Int.eq_ofNat_of_zero_le r10
      have eL2 := f2 L _ nL.1 nL.2.1 eL
      refine ⟨.ref d, rfl, .ref L, rfl, L, _, rfl, .inl (SqL.of eL2), d, g, c, _, _, rfl, by omega, by omega, D2, by omega, fun r2 H3 r20 r21 D3 f3 => ?_⟩
      obtain ⟨b2, rfl⟩ := Int.eq_ofNat_of_zero_le r20
      have eL3 := f3 L _ nL.1 nL.2.1 eL2
      have hss3 := (hss.fr D1 f2).fr D2 f3
      have fr3 := (f1.trans f2).trans f3
      refine ⟨.int (b1 : Nat), rfl, .int (b2 : Nat), rfl, rfl, _, rfl, ite2 (fun e => ?_) (fun e => ?_)⟩
      · have ne : b1 ≠ b2 := fun z => by
          subst z
          simp at e
        obtain ⟨xi, exi⟩ : ∃ x, ys[b1]? = some x := ⟨_, List.getElem?_eq_getElem (by omega)⟩
        obtain ⟨ci, ri, rfl, eri, ki⟩ := hss3.rk exi
        obtain ⟨xo, exo⟩ : ∃ x, ys[b2]? = some x := ⟨_, List.getElem?_eq_getElem (by omega)⟩
        obtain ⟨co, ro, rfl, ero, ko⟩ := hss3.rk exo
        refine ⟨.int p, rfl, .ref L, rfl, .int (b1 : Nat), rfl, L, _, (b1 : Nat), .ref ci, rfl, rfl, SqL.of eL3, atI_nat exi, .int p, rfl, .ref d, rfl, .int p, rfl, d, g, c, _, p, rfl, p0, by omega, D3, by omega, fun r4 H4 r40 r41 D4 f4 => ?_⟩
        have eL4 := f4 L _ nL.1 nL.2.1 eL3
        refine ⟨.ref L, rfl, .int (b2 : Nat), rfl, L, _, (b2 : Nat), .ref co, rfl, rfl, SqL.of eL4, atI_nat exo, p, r4, m, co, ro, rfl, p0, p13, r40, by omega, hm, ko.fr D3 f4, fun t5 H5 s5 k5 => ?_⟩
        refine ⟨p, m, ci, t5, ri, _, rfl, p0, p13, hm, (ki.fr D3 f4).sm (.of_same s5), k5, fun t6 H6 s6 k6 => ?_⟩
        have eL6 := s6 _ _ (s5 _ _ eL4)
        have hss6 := (((hss3.fr D3 f4).sm (.of_same s5)).sm (.of_same s6)).set (i := b1) k6
        refine ⟨.ref L, rfl, .int (b1 : Nat), rfl, L, _, (b1 : Nat), b1, rfl, rfl, eL6, ixN_nat (by omega), ?_⟩
        have D7 := ((D4.same s5).same s6).put (o := .lst (ys.set b1 (.ref t6))) nL.1 nL.2.1 nL.2.2
        have hss7 := hss6.put (o := .lst (ys.set b1 (.ref t6))) eL6
        have eL7 : upd H6 L (.lst (ys.set b1 (.ref t6))) L = some (.lst (ys.set b1 (.ref t6))) := upd_same
        have fr7 : Fr d g H (upd H6 L (.lst (ys.set b1 (.ref t6)))) := fun a o e1 e2 e => by
          rw [upd_ne (ne_of_none e hL)]
          exact s6 _ _ (s5 _ _ (f4 _ _ e1 e2 (fr3 _ _ e1 e2 e)))
        have sp7 : Span p (ss.set b1 (addR p ri (timR p r4 ro))) rs := (span_add ne eri ero (by rw [ki.len, ko.len])).trans sp
        have sl7 : (ss.set b1 (addR p ri (timR p r4 ro))).length = rs.length := by rw [List.length_set]; exact sl
        generalize upd H6 L (.lst (ys.set b1 (.ref t6))) = H7 at D7 hss7 eL7 fr7 ⊢
        have ysl : (ys.set b1 (.ref t6)).length = ys.length := List.length_set
        have yl7 := hss7.len
        obtain ⟨xj, exj⟩ : ∃ x, (ys.set b1 (.ref t6))[b2]? = some x := ⟨_, List.getElem?_eq_getElem (by omega)⟩
        obtain ⟨cj, rj, rfl, erj, kj⟩ := hss7.rk exj
        refine ⟨.int p, rfl, .ref d, rfl, .int p, rfl, p, 1, rfl, rfl, d, g, c, _, p - 1, rfl, by omega, by omega, D7, by omega, fun r3 H8 r30 r31 D8 f8 => ?_⟩
        have eL8 := f8 L _ nL.1 nL.2.1 eL7
        have kj8 := kj.fr D7 f8
        refine ⟨1, r3, rfl, rfl, .ref L, rfl, .int (b2 : Nat), rfl, L, _, (b2 : Nat), .ref cj, rfl, rfl, SqL.of eL8, atI_nat exj, p, 1 + r3, m, cj, rj, rfl, p0, p13, by omega, by omega, hm, kj8, fun t9 H9 s9 k9 => ?_⟩
        have eL9 := s9 _ _ eL8
        refine ⟨.ref L, rfl, .int (b2 : Nat), rfl, L, _, (b2 : Nat), b2, rfl, rfl, eL9, ixN_nat (by omega), ?_⟩
        refine ⟨_, _, _, rfl, ((D8.same s9).put nL.1 nL.2.1 nL.2.2).mono (by omega), fun a o e1 e2 e => ?_, _, _, upd_same, (((hss7.fr D7 f8).sm (.of_same s9)).set k9).put eL9, by rw [List.length_set]; exact sl7, (span_mul erj (inv_of hp (by omega) (by omega))).trans sp7⟩
        rw [upd_ne (ne_of_none e hL)]
        exact s9 _ _ (f8 _ _ e1 e2 (fr7 _ _ e1 e2 e))
      · have yl3 := hss3.len
        obtain ⟨xj, exj⟩ : ∃ x, ys[b2]? = some x := ⟨_, List.getElem?_eq_getElem (by omega)⟩
        obtain ⟨cj, rj, rfl, erj, kj⟩ := hss3.rk exj
        refine ⟨.int p, rfl, .ref d, rfl, .int p, rfl, p, 1, rfl, rfl, d, g, c, _, p - 1, rfl, by omega, by omega, D3, by omega, fun r3 H8 r30 r31 D8 f8 => ?_⟩
        have eL8 := f8 L _ nL.1 nL.2.1 eL3
        have kj8 := kj.fr D3 f8
        refine ⟨1, r3, rfl, rfl, .ref L, rfl, .int (b2 : Nat), rfl, L, _, (b2 : Nat), .ref cj, rfl, rfl, SqL.of eL8, atI_nat exj, p, 1 + r3, m, cj, rj, rfl, p0, p13, by omega, by omega, hm, kj8, fun t9 H9 s9 k9 => ?_⟩
        have eL9 := s9 _ _ eL8
        refine ⟨.ref L, rfl, .int (b2 : Nat), rfl, L, _, (b2 : Nat), b2, rfl, rfl, eL9, ixN_nat (by omega), ?_⟩
        refine ⟨_, _, _, rfl, ((D8.same s9).put nL.1 nL.2.1 nL.2.2).mono (by omega), fun a o e1 e2 e => ?_, _, _, upd_same, (((hss3.fr D3 f8).sm (.of_same s9)).set k9).put eL9, by rw [List.length_set]; exact sl, (span_mul erj (inv_of hp (by omega) (by omega))).trans sp⟩
        rw [upd_ne (ne_of_none e hL)]
        exact s9 _ _ (f8 _ _ e1 e2 (fr3 _ _ e1 e2 e))
    · rintro σ H1 ⟨v5, v6, v7, rfl, D1, f1, ys, ss, eL, hss, sl, sp⟩
      refine ⟨.ref L, rfl, L, _, rfl, .inl ⟨SqL.of eL, fun t ht => ?_⟩⟩
      exact q t ys ss _ (f1.trans (.new ht)) ((D1.same (same_upd ht)).mono (by omega)) upd_same (hss.sm (.new ht)) sl sp
-- CUT
/-! ### a plain set that is drawn -/
theorem flat_take {r : Row} {i : Nat} {u : Int × Int} (e : r[i]? = some u) : flatR (r.take (i + 1)) = flatR (r.take i) ++ [u.1, u.2] := by
  rw [take_snoc e, flat_snoc]
theorem ev2_same {α : Type} : ∀ xs : List α, Lz.ev2 xs = Lin.ev2 xs
  | [] => rfl
  | [_] => rfl
  | a :: b :: r => by
    show a :: Lz.ev2 r = a :: Lin.ev2 r
    rw [ev2_same r]
theorem zip_get? {α β : Type} {xs : List α} {ys : List β} {i : Nat} {x : α} {y : β} (h1 : xs[i]? = some x) (h2 : ys[i]? = some y) : (xs.zip ys)[i]? = some (x, y) := by
  unfold List.zip
  rw [List.getElem?_zipWith, h1, h2]
theorem pairwise_lt_of {l : List Nat} (s : (l.map fun x => ((x : Nat) : Int)).Pairwise (· ≤ ·)) (nd : l.Nodup) : l.Pairwise (· < ·) := by
  rw [List.pairwise_map] at s
  exact (s.and nd).imp fun {a b} h => by omega
open Lin (Pln rowL)
/-- what a row of a plain set is, as far as its zeros are put -/
structure Prow (p : Int) (n q : Nat) (os : List Nat) (us : List Int) : Prop where
  len : us.length = n
  rg : Rg p us
  ah : ∀ j, j < q → vec us j = 0
  one : vec us q = 1
  oth : ∀ o ∈ os, q < o → vec us o = 0
theorem Prow.start {p : Int} {n q : Nat} {ns : List Int} (p1 : 1 < p) (hq : q < n) (hl : ns.length = n - q - 1) (hn : ∀ x ∈ ns, 0 ≤ x ∧ x < p) : Prow p n q [] (List.replicate q 0 ++ [1] ++ ns) := by
  have lr : (List.replicate q (0 : Int)).length = q := List.length_replicate
  refine ⟨?_, ?_, ?_, ?_, fun o ho => by simp at ho⟩
  · rw [List.length_append, List.length_append, lr, List.length_singleton]
    omega
  · intro u hu
    rcases List.mem_append.mp hu with hu | hu
    · rcases List.mem_append.mp hu with hu | hu
      · rw [(List.mem_replicate.mp hu).2]
        omega
      · rw [List.mem_singleton.mp hu]
        omega
    · exact hn u hu
  · intro j hj
    apply Lin.vec_some
    rw [List.append_assoc, List.getElem?_append_left (by omega), List.getElem?_replicate, if_pos hj]
  · apply Lin.vec_some
    rw [List.append_assoc, List.getElem?_append_right (by omega), lr, Nat.sub_self]
    rfl
theorem vec_set {us : List Int} {o j : Nat} {x : Int} (h : o < us.length) : vec (us.set o x) j = if j = o then x else vec us j := by
  by_cases e : j = o
  · rw [if_pos e, e]
    exact Lin.vec_some (List.getElem?_set_self h)
  · rw [if_neg e]
    show (us.set o x).getD j 0 = us.getD j 0
    rw [List.getD_eq_getElem?_getD, List.getD_eq_getElem?_getD, List.getElem?_set_ne (fun z => e z.symm)]
theorem Prow.zero {p : Int} {n q o : Nat} {os : List Nat} {us : List Int} (p0 : 0 < p) (h : Prow p n q os us) (ho : q < o) (hn : o < n) : Prow p n q (os ++ [o]) (us.set o 0) := by
  have ol : o < us.length := by rw [h.len]; exact hn
  refine ⟨by rw [List.length_set]; exact h.len, fun u hu => ?_, fun j hj => ?_, ?_, fun w hw hqw => ?_⟩
  · rcases List.mem_or_eq_of_mem_set hu with m | m
    · exact h.rg u m
    · rw [m]
      omega
  · rw [vec_set ol, if_neg (by omega)]
    exact h.ah j hj
  · rw [vec_set ol, if_neg (by omega)]
    exact h.one
  · rw [vec_set ol]
    split
    · rfl
    · rename_i ne
      rcases List.mem_append.mp hw with m | m
      · exact h.oth w m hqw
      · exact absurd (List.mem_singleton.mp m) ne
theorem Prow.skip {p : Int} {n q o : Nat} {os : List Nat} {us : List Int} (h : Prow p n q os us) (ho : ¬ q < o) : Prow p n q (os ++ [o]) us := by
  refine ⟨h.len, h.rg, h.ah, h.one, fun w hw hqw => ?_⟩
  rcases List.mem_append.mp hw with m | m
  · exact h.oth w m hqw
  · rw [List.mem_singleton.mp m] at hqw
    exact absurd hqw ho
theorem Rws.snoc {p : Int} {n : Nat} {H : Hp} {xs : List V} {rs : List Row} {a : Addr} {r : Row} (h : Rws p n H xs rs) (k : Rk p n H a r) : Rws p n H (xs ++ [.ref a]) (rs ++ [r]) := by
  refine ⟨by rw [List.length_append, List.length_append, h.len]; rfl, fun {i x} e => ?_, fun s hs => ?_⟩
  · by_cases hi : i < xs.length
    · rw [List.getElem?_append_left hi] at e
      rw [List.getElem?_append_left (by rw [← h.len]; exact hi)]
      exact h.get e
    · rw [List.getElem?_append_right (by omega)] at e
      rw [List.getElem?_append_right (by rw [← h.len]; omega), ← h.len]
      cases hk : i - xs.length with
      | zero =>
        rw [hk] at e
        cases e
        exact ⟨a, r, rfl, rfl, k.rw⟩
      | succ m =>
        rw [hk] at e
        simp at e
  · rcases List.mem_append.mp hs with m | m
    · exact h.fit s m
    · rw [List.mem_singleton.mp m]
      exact ⟨k.inp, k.len⟩
def natV (l : List Nat) : List V := l.map fun j => V.int (j : Nat)
theorem natV_len {l : List Nat} : (natV l).length = l.length := List.length_map ..
theorem natV_int {l : List Nat} : natV l = (l.map fun x => ((x : Nat) : Int)).map V.int := by
  unfold natV
  rw [List.map_map]
  rfl
theorem natV_get {l : List Nat} {i : Nat} {x : Nat} (h : l[i]? = some x) : (natV l)[i]? = some (V.int (x : Nat)) := by
  unfold natV
  rw [List.getElem?_map, h]
  rfl
theorem natV_erase {l : List Nat} {i : Nat} : (natV l).eraseIdx i = natV (l.eraseIdx i) := by
  unfold natV
  rw [List.eraseIdx_eq_take_drop_succ, List.eraseIdx_eq_take_drop_succ, List.map_append, List.map_take, List.map_drop]
theorem rgV_nat {n : Nat} : rgV 0 (n : Int) = natV (List.range n) := by
  unfold rgV natV
  have e : ((n : Int) - 0).toNat = n := by omega
  rw [e]
  apply List.map_congr_left
  intro i _
  rw [Int.zero_add]
theorem ixN_seqN {n j : Nat} (h : j < n) : seqIndex? (j : Int) n = some j := (ixN_seq (ixN_nat h)).1
def spPlain : Sp := fun vs H Q _ => ∃ (d g c : Addr) (k p : Int) (m n : Nat), vs = [.ref d, .int p, .int m, .int n] ∧ Dk d g c k H ∧ k ≤ 80000 ∧ p ∈ prs ∧ m ≤ 20 ∧ n ≤ 40 ∧
  ∀ R Q1 L1 qs ys rs H', Fr d g H H' → Dk d g c (k + 4000) H' → H' R = some (.lst [.ref Q1, .ref L1]) → H' Q1 = some (.lst (qs.map fun q : Nat => V.int (q : Nat))) → H' L1 = some (.lst ys) → (Q1 ≠ d ∧ Q1 ≠ g) ∧ (L1 ≠ d ∧ L1 ≠ g) → Rws p m H' ys rs → rs.length ≤ n → Pln p (2 * m) qs (rs.map flatR) → Q (.ref R) H'
theorem ok__law_plain_set (T : Tx K mg A) : FnOk P w K mg base CX0 3 A.f__law_plain_set A.d__law_plain_set ["_law_deck_here", "_law_p", "_law_posts", "_law_most"] spPlain := by
  have G__law_next : FnOk P w K mg base CX0 1 A.f__law_next A.d__law_next ["_law_deck_here", "_law_many"] spNext := ok__law_next T
  have G__law_numbers : FnOk P w K mg base CX0 2 A.f__law_numbers A.d__law_numbers ["_law_deck_here", "_law_p", "_law_many"] spNums := ok__law_numbers T
  refine T.d__law_plain_set.F.ok sc__law_plain_set (fun vs H Q E h => ?_) (fun cdv A outer s H vs Q E hr h => ?_)
  · obtain ⟨d, g, c, k, p, m, n, rfl, _⟩ := h
    rfl
  · obtain ⟨d, g, c, k, p, m, n, rfl, D0, hk, hp, hm, hn, qq⟩ := h
    obtain ⟨p2, p13⟩ := prs_bd p hp
    have p0 : 0 < p := by omega
    refine ⟨_, (pss_cons (ps_set (i := 4) sc__law_plain_set.nd rfl (.inr rfl) (pe_listRg rfl (by rfl) T.b_list (prg_1 (by rfl) T.b_range (pe_op op_mul pe_int (pv 2)))))
        (pss_cons (ps_set (i := 5) sc__law_plain_set.nd rfl (.inl rfl) (pe_call G__law_next (hr.mono (by decide)) (by rfl) T.d__law_next.g T.d__law_next.F.kp T.d__law_next.b .nil pass0 (pa_cons (pv 0) (pa_cons (pe_op op_add (pe_callB (call_min2 rfl) (by rfl) T.b_min PyProof.Rows.boot_min (pa_cons (pv 3) (pa_cons (pe_op op_mul pe_int (pv 2)) pa_nil))) pe_int) pa_nil))))
        (pss_cons (ps_set (i := 6) sc__law_plain_set.nd rfl (.inl rfl) (pe_callB cr_sortedI (by rfl) T.b_sorted PyProof.Rows.boot_sorted (pa_cons (pe_lc (own := [("_law_k", 11)]) rfl sc__law_plain_set.nd (pi_range1 (by rfl) T.b_range (pa_cons (pv 5) pa_nil)) (blkOk_by (N := N__law_plain_set) (sc := defScope s__law_plain_set) (by decide +kernel)) (fun _ _ _ _ _ => (pg_name (i := 11) sc__law_plain_set.nd rfl (.inl rfl))) (fun _ _ _ _ _ => pts_nil) (fun _ _ _ _ _ => (show PE _ _ (tBM K "list" rPopAt _ _) from (pe_bm PySem.F.plainAttrs_list PySem.F.slot_list_pop PySem.F.type_list_pop mt_popAt (pv 4) (pa_cons (pe_call G__law_next (hr.mono (by decide)) (by rfl) T.d__law_next.g T.d__law_next.F.kp T.d__law_next.b .nil pass0 (pa_cons (pv 0) (pa_cons (pe_callB (show CallR _ _ (rLen K) from call_len_seq) (by rfl) T.b_len PySem.boot_len (pa_cons (pv 4) pa_nil)) pa_nil))) pa_nil))))) pa_nil)))
        (pss_cons (ps_set (i := 7) sc__law_plain_set.nd rfl (.inl rfl) (pe_lst pa_nil))
        (pss_cons (ps_for PassesOwn.never rfl (pi_list (pv 6)) (pg_name (i := 8) sc__law_plain_set.nd rfl (.inl rfl))
        (pss_cons (ps_set (i := 9) sc__law_plain_set.nd rfl (.inl rfl) (pe_op op_cat (pe_op op_cat (pe_op op_rep (pe_lst (pa_cons pe_int pa_nil)) (pv 8)) (pe_lst (pa_cons pe_int pa_nil))) (pe_callTy call_list_of (by rfl) T.b_list PyProof.Rows.boot_list (pa_cons (pe_call G__law_numbers hr (by rfl) T.d__law_numbers.g T.d__law_numbers.F.kp T.d__law_numbers.b .nil pass0 (pa_cons (pv 0) (pa_cons (pv 1) (pa_cons (pe_op op_sub (pe_op op_sub (pe_op op_mul pe_int (pv 2)) (pv 8)) pe_int) pa_nil)))) pa_nil))))
        (pss_cons (ps_for PassesOwn.never rfl (pi_list (pv 6)) (pg_name (i := 10) sc__law_plain_set.nd rfl (.inl rfl))
        (pss_one (ps_if (pt_cmpR op_gt (pv 10) (pv 8) (nomark _))
        (pss_one (ps_asg pe_int (pg_sub (pv 9) (pv 10) set_list)))
        pss_nil)))
        (pss_one (ps_expr (pe_bm PySem.F.plainAttrs_list PySem.F.slot_list_append PySem.F.type_list_append mt_append (pv 7) (pa_cons (pe_callTy call_tuple_of (by rfl) T.b_tuple PyProof.Rows.boot_tuple (pa_cons (Lz.pe_LZ rfl (by rfl) T.b_list (by rfl) T.b_zip (pa_cons (Lz.pe_ev0 (pv 9)) (pa_cons (Lz.pe_ev1 (pv 9)) pa_nil))) pa_nil)) pa_nil)))))))
        (pss_one (ps_ret (pe_lst (pa_cons (pv 6) (pa_cons (pv 7) pa_nil)))))))))), ?_⟩
    refine ⟨.int m, rfl, 2, m, rfl, rfl, .inl ⟨by decide, by decide⟩, _, rfl, RgOk.of_le (by decide) (by omega) (by decide) (by omega), fun Pl hPl => ?_⟩
    have e2m : (2 : Int) * (m : Nat) = ((2 * m : Nat) : Int) := by omega
    rw [e2m, rgV_nat]
    have nPl := D0.nd hPl
    have D1 := D0.same (same_upd (o := .lst (natV (List.range (2 * m)))) hPl)
    have eP1 : upd H Pl (.lst (natV (List.range (2 * m)))) Pl = some (.lst (natV (List.range (2 * m)))) := upd_same
    have f1 : Fr d g H (upd H Pl (.lst (natV (List.range (2 * m))))) := .new hPl
    generalize upd H Pl (.lst (natV (List.range (2 * m)))) = H1 at D1 eP1 f1 ⊢
    -- how many
    refine ⟨.ref d, rfl, .int n, rfl, .int m, rfl, 2, m, rfl, rfl, .inl ⟨by decide, by decide⟩, _, _, rfl, _, 1, rfl, rfl, d, g, c, _, _, rfl, ?_, ?_, D1, by omega, fun r H2 r0 r1 D2 f2 => ?_⟩
    · show 0 < (if (2 : Int) * (m : Nat) < n then (2 : Int) * (m : Nat) else n) + 1
      split <;> omega
    · show (if (2 : Int) * (m : Nat) < n then (2 : Int) * (m : Nat) else n) + 1 < _
      split <;> omega
    obtain ⟨M, rfl⟩ := Int.eq_ofNat_of_zero_le r0
    have r1' : (M : Int) < (if (2 : Int) * (m : Nat) < n then (2 : Int) * (m : Nat) else n) + 1 := r1
    have hM : M ≤ 2 * m ∧ M ≤ n := by
      split at r1' <;> omega
    have eP2 := f2 Pl _ nPl.1 nPl.2.1 eP1
    have f12 := f1.trans f2
    -- the places
    refine ⟨.int (M : Nat), rfl, M, rfl, by omega, by omega, fun L hL => lc_range (fun i H' => Dk d g c (k + 1 + i) H' ∧ Fr d g H H' ∧ ∃ ps qs : List Nat, H' Pl = some (.lst (natV ps)) ∧ H' L = some (.lst (natV qs)) ∧ (ps ++ qs).Nodup ∧ (∀ x ∈ ps ++ qs, x < 2 * m) ∧ ps.length + i = 2 * m ∧ qs.length = i) ?_ ?_ ?_⟩
    · refine ⟨(D2.same (same_upd hL)).mono (by omega), f12.trans (.new hL), List.range (2 * m), [], ?_, upd_same, ?_, fun x hx => ?_, by simp, rfl⟩
      · rw [upd_ne (ne_of_none eP2 hL)]
        exact eP2
      · rw [List.append_nil]
        exact List.nodup_range
      · rw [List.append_nil] at hx
        exact List.mem_range.mp hx
    · rintro i H3 hi ⟨D3, f3, ps, qs, eP3, eL3, nd, lt, pl, ql⟩
      have nL := D2.nd hL
      have nPL : Pl ≠ L := ne_of_none eP2 hL
      rw [Int.toNat_natCast] at hi
      refine ⟨rfl, .ref Pl, rfl, .inl ⟨rfl, _, SqL.of eP3⟩, .ref d, rfl, .ref Pl, rfl, Pl, _, rfl, .inl (SqL.of eP3), d, g, c, _, _, rfl, by rw [natV_len]; omega, by rw [natV_len]; omega, D3, by omega, fun b H4 b0 b1 D4 f4 => ?_⟩
      obtain ⟨b, rfl⟩ := Int.eq_ofNat_of_zero_le b0
      rw [natV_len] at b1
      have hb : b < ps.length := by omega
      have eb : ps[b]? = some ps[b] := List.getElem?_eq_getElem hb
      have eP4 := f4 Pl _ nPl.1 nPl.2.1 eP3
      have eL4 := f4 L _ nL.1 nL.2.1 eL3
      have pm := Lin.erase_perm eb qs
      refine ⟨Pl, _, (b : Nat), b, .int (ps[b] : Nat), rfl, rfl, eP4, by omega, by omega, ixN_seqN (by rw [natV_len]; exact hb), natV_get eb, natV qs, by rw [upd_ne nPL.symm]; exact eL4, by rw [natV_len]; exact small (by omega), ((D4.put nPl.1 nPl.2.1 nPl.2.2).put nL.1 nL.2.1 nL.2.2).mono (by omega), fun a o e1 e2 e => ?_, ps.eraseIdx b, qs ++ [ps[b]], ?_, ?_, pm.nodup_iff.mpr nd, fun x hx => lt x (pm.mem_iff.mp hx), ?_, by rw [List.length_append, ql]; rfl⟩
      · rw [upd_ne (ne_of_none (f12 _ _ e1 e2 e) hL), upd_ne (ne_of_none e hPl)]
        exact f4 _ _ e1 e2 (f3 _ _ e1 e2 e)
      · rw [upd_ne nPL, upd_same, natV_erase]
      · rw [upd_same]
        unfold natV
        rw [List.map_append]
        rfl
      · rw [List.length_eraseIdx_of_lt hb]
        omega
    · rintro H3 ⟨D3, f3, ps, qs, eP3, eL3, nd, lt, pl, ql⟩
      rw [Int.toNat_natCast] at D3 ql pl
      rw [natV_int] at eL3
      refine ⟨L, _, rfl, SqL.of eL3, fun ns Q1 pmn srt hQ1 => ?_⟩
      obtain ⟨qs', pmq, rfl⟩ := perm_map pmn rfl
      rw [← natV_int]
      have ndq : qs'.Nodup := pmq.nodup_iff.mpr (List.nodup_append.mp nd).2.1
      have upq := pairwise_lt_of srt ndq
      have ltq : ∀ x ∈ qs', x < 2 * m := fun x hx => lt x (List.mem_append.mpr (.inr (pmq.mem_iff.mp hx)))
      have qlq : qs'.length = M := by rw [pmq.length_eq, ql]
      have nQ := D3.nd hQ1
      have eQ4 : upd H3 Q1 (.lst (natV qs')) Q1 = some (.lst (natV qs')) := upd_same
      have D4 := D3.same (same_upd (o := .lst (natV qs')) hQ1)
      have f4 : Fr d g H (upd H3 Q1 (.lst (natV qs'))) := f3.trans (.new hQ1)
      generalize upd H3 Q1 (.lst (natV qs')) = H4 at eQ4 D4 f4 ⊢
      -- the rows
      refine ⟨Nat.zero_le _, fun F hF => ?_⟩
      have nF := D4.nd hF
      have nFQ : Q1 ≠ F := ne_of_none eQ4 hF
      refine ⟨.ref Q1, rfl, Q1, rfl, ⟨_, SqL.of (same_upd hF _ _ eQ4)⟩, for_it (walk_list (xs := natV qs')) (fun i σ H' => ∃ v8 v9 v10 v11, σ = [some (.ref d), some (.int p), some (.int m), some (.int n), some (.ref Pl), some (.int (M : Nat)), some (.ref Q1), some (.ref F), v8, v9, v10, v11] ∧ Dk d g c (k + 50 + 80 * i) H' ∧ Fr d g H H' ∧ H' Q1 = some (.lst (natV qs')) ∧ ∃ ys rs, H' F = some (.lst ys) ∧ Rws p m H' ys rs ∧ rs.length = i ∧ ∀ (j q : Nat) (r : Row), qs'[j]? = some q → rs[j]? = some r → Prow p (2 * m) q qs' (flatR r))
        ⟨_, _, _, _, rfl, (D4.same (same_upd hF)).mono (by omega), f4.trans (.new hF), same_upd hF _ _ eQ4, [], [], upd_same, .nil, rfl, fun j q r _ e => by simp at e⟩ (fun i σ H' _ h => by obtain ⟨_, _, _, _, _, _, _, e, _⟩ := h; exact SqL.of e) ?_ ?_⟩
      · rintro i x σ H5 H6 hi ⟨v8, v9, v10, v11, rfl, D5, f5, eQ5, ys, rs, eF5, hrs, rl, hpr⟩ ⟨rfl, hx⟩
        rw [natV_len] at hi
        have eqi : qs'[i]? = some qs'[i] := List.getElem?_eq_getElem hi
        rw [natV_get eqi] at hx
        cases hx
        have hq := ltq _ (List.getElem_mem hi)
        generalize qs'[i] = q at eqi hq ⊢
        -- noughts, a 1, numbers
        refine ⟨(by show 1 ≤ sizeLine; decide), fun a1 h1 => ⟨.int (q : Nat), rfl, a1, (q : Nat), _, rfl, rfl, upd_same, by omega, by omega, by rw [Int.toNat_natCast]; exact Nat.le_of_lt (small (by show 1 * q ≤ 1000; omega)), fun a2 h2 => ?_⟩⟩
        rw [rep_one, Int.toNat_natCast]
        have S2 : Same H6 (upd (upd H6 a1 (.lst [.int 0])) a2 (.lst (List.replicate q (V.int 0)))) := (same_upd h1).trans (same_upd h2)
        have e2 : upd (upd H6 a1 (.lst [.int 0])) a2 (.lst (List.replicate q (V.int 0))) a2 = some (.lst (List.replicate q (V.int 0))) := upd_same
        generalize upd (upd H6 a1 (.lst [.int 0])) a2 (.lst (List.replicate q (V.int 0))) = G2 at S2 e2 ⊢
        refine ⟨(by show 1 ≤ sizeLine; decide), fun a3 h3 => ⟨a2, a3, _, _, rfl, rfl, by rw [upd_ne (ne_of_none e2 h3)]; exact e2, upd_same, ?_, fun a4 h4 => ?_⟩⟩
        · rw [List.length_replicate]
          exact Nat.le_of_lt (small (by show q + 1 ≤ 1000; omega))
        have S4 : Same H6 (upd (upd G2 a3 (.lst [.int 1])) a4 (.lst (List.replicate q (V.int 0) ++ [V.int 1]))) := (S2.trans (same_upd h3)).trans (same_upd h4)
        have e4 : upd (upd G2 a3 (.lst [.int 1])) a4 (.lst (List.replicate q (V.int 0) ++ [V.int 1])) a4 = some (.lst (List.replicate q (V.int 0) ++ [V.int 1])) := upd_same
        have n4 : a4 ≠ d ∧ a4 ≠ g ∧ a4 ≠ c := (D5.same (S2.trans (same_upd h3))).nd h4
        generalize upd (upd G2 a3 (.lst [.int 1])) a4 (.lst (List.replicate q (V.int 0) ++ [V.int 1])) = G4 at S4 e4 ⊢
        have DG4 := D5.same S4
        refine ⟨.ref d, rfl, .int p, rfl, .int m, rfl, 2, m, rfl, rfl, .inl ⟨by decide, by decide⟩, .int (q : Nat), rfl, _, _, rfl, rfl, _, 1, rfl, rfl, d, g, c, _, p, _, rfl, DG4, by omega, p2, p13, by omega, by omega, fun t5 ns G5 hns nsl e5 DG5 fG5 => ?_⟩
        have nsl' : ns.length = 2 * m - q - 1 := by
          rw [nsl]
          omega
        refine ⟨t5, _, rfl, .inr (SqT.of e5), fun a6 h6 => ?_⟩
        have e4' : upd G5 a6 (.lst (ns.map V.int)) a4 = some (.lst (List.replicate q (V.int 0) ++ [V.int 1])) := by
          have z := fG5 a4 _ n4.1 n4.2.1 e4
          rw [upd_ne (ne_of_none z h6)]
          exact z
        refine ⟨a4, a6, _, _, rfl, rfl, e4', upd_same, ?_, fun a7 h7 => ?_⟩
        · rw [List.length_append, List.length_replicate, List.length_map, List.length_singleton]
          exact Nat.le_of_lt (small (by omega))
        have us0 : List.replicate q (V.int 0) ++ [V.int 1] ++ ns.map V.int = (List.replicate q (0 : Int) ++ [1] ++ ns).map V.int := by
          rw [List.map_append, List.map_append, List.map_replicate]
          rfl
        rw [us0]
        have pr0 := Prow.start (p := p) (n := 2 * m) (q := q) (ns := ns) (by omega) hq nsl' hns
        have F7 : Fr d g H6 (upd (upd G5 a6 (.lst (ns.map V.int))) a7 (.lst ((List.replicate q (0 : Int) ++ [1] ++ ns).map V.int))) := ((Fr.of_same S4).trans fG5).trans ((Fr.new h6).trans (.new h7))
        have D7 : Dk d g c (k + 50 + 80 * i + 2 * (2 * (m : Nat) - (q : Nat) - 1)) (upd (upd G5 a6 (.lst (ns.map V.int))) a7 (.lst ((List.replicate q (0 : Int) ++ [1] ++ ns).map V.int))) := (DG5.same (same_upd h6)).same (same_upd h7)
        have e7 : upd (upd G5 a6 (.lst (ns.map V.int))) a7 (.lst ((List.replicate q (0 : Int) ++ [1] ++ ns).map V.int)) a7 = some (.lst ((List.replicate q (0 : Int) ++ [1] ++ ns).map V.int)) := upd_same
        have n7 : a7 ≠ d ∧ a7 ≠ g ∧ a7 ≠ c := (DG5.same (same_upd h6)).nd h7
        have h7' : H6 a7 = none := by
          have z := (same_upd h6).free h7
          cases hz : H6 a7 with
          | none => rfl
          | some o =>
            have z2 := fG5 a7 o n7.1 n7.2.1 (S4 _ _ hz)
            rw [z] at z2
            cases z2
        have nQ7 : Q1 ≠ a7 := ne_of_none eQ5 h7'
        have nF7 : F ≠ a7 := ne_of_none eF5 h7'
        have eQ7 := F7 Q1 _ nQ.1 nQ.2.1 eQ5
        have eF7 := F7 F _ nF.1 nF.2.1 eF5
        have hrs7 := hrs.fr D5 F7
        generalize upd (upd G5 a6 (.lst (ns.map V.int))) a7 (.lst ((List.replicate q (0 : Int) ++ [1] ++ ns).map V.int)) = H7 at F7 D7 e7 eQ7 eF7 hrs7 ⊢
        generalize List.replicate q (0 : Int) ++ [1] ++ ns = us at e7 pr0
        have f7 := f5.trans F7
        -- 0 where others begin
        refine ⟨.ref Q1, rfl, Q1, rfl, ⟨_, SqL.of eQ7⟩, for_it (walk_list (xs := natV qs')) (fun j σ H' => ∃ v10, σ = [some (.ref d), some (.int p), some (.int m), some (.int n), some (.ref Pl), some (.int (M : Nat)), some (.ref Q1), some (.ref F), some (.int (q : Nat)), some (.ref a7), v10, v11] ∧ Dk d g c (k + 50 + 80 * i + 2 * (2 * (m : Nat) - (q : Nat) - 1)) H' ∧ Fr d g H H' ∧ H' Q1 = some (.lst (natV qs')) ∧ H' F = some (.lst ys) ∧ Rws p m H' ys rs ∧ ∃ us, Fl H' a7 us ∧ Prow p (2 * m) q (qs'.take j) us)
          ⟨_, rfl, D7, f7, eQ7, eF7, hrs7, us, e7, by simpa using pr0⟩ (fun j σ H' _ h => by obtain ⟨_, _, _, _, e, _⟩ := h; exact SqL.of e) ?_ ?_⟩
        · rintro j x σ H8 H9 hj ⟨v10, rfl, D8, f8, eQ8, eF8, hrs8, us, e8, pr⟩ ⟨rfl, hx⟩
          rw [natV_len] at hj
          have eqj : qs'[j]? = some qs'[j] := List.getElem?_eq_getElem hj
          rw [natV_get eqj] at hx
          cases hx
          have ho := ltq _ (List.getElem_mem hj)
          rw [take_snoc eqj]
          generalize qs'[j] = o at ho ⊢
          have e8' : H9 a7 = some (.lst (us.map V.int)) := e8
          refine ⟨.int (o : Nat), rfl, .int (q : Nat), rfl, (o : Nat), (q : Nat), rfl, rfl, _, rfl, ite2 (fun e => ?_) (fun e => ?_)⟩
          · have lt : q < o := by
              have := of_decide_eq_true e
              omega
            have ul : o < us.length := by rw [pr.len]; exact ho
            refine ⟨.ref a7, rfl, .int (o : Nat), rfl, a7, _, (o : Nat), o, rfl, rfl, e8', ixN_nat (by rw [List.length_map]; exact ul), ?_⟩
            have nes : ∀ {b : Addr} {w : HO}, H6 b = some w → b ≠ a7 := fun z => ne_of_none z h7'
            refine ⟨_, rfl, D8.put n7.1 n7.2.1 n7.2.2, fun a w e1 e2 e => ?_, ?_, ?_, hrs8.put e8', us.set o 0, ?_, pr.zero p0 lt ho⟩
            · rw [upd_ne (nes (f5 _ _ e1 e2 e))]
              exact f8 _ _ e1 e2 e
            · rw [upd_ne nQ7]
              exact eQ8
            · rw [upd_ne nF7]
              exact eF8
            · unfold Fl
              rw [upd_same, List.map_set]
          · have lt : ¬ q < o := fun z => e (decide_eq_true (by omega))
            exact ⟨_, rfl, D8, f8, eQ8, eF8, hrs8, us, e8, pr.skip lt⟩
        · rintro σ H8 ⟨v10, rfl, D8, f8, eQ8, eF8, hrs8, us, e8, pr⟩
          rw [natV_len, List.take_length] at pr
          have e8' : H8 a7 = some (.lst (us.map V.int)) := e8
          -- the row
          refine ⟨.ref F, rfl, .inl ⟨rfl, _, SqL.of eF8⟩, .ref a7, rfl, a7, _, rfl, SqL.of e8', fun b1 hb1 => ?_⟩
          have e8b : upd H8 b1 (.lst (Lz.ev2 ((us.map V.int).drop 0))) a7 = some (.lst (us.map V.int)) := by
            rw [upd_ne (ne_of_none e8' hb1)]
            exact e8'
          refine ⟨.ref a7, rfl, a7, _, rfl, SqL.of e8b, fun b2 hb2 => ?_⟩
          have S9 : Same H8 (upd (upd H8 b1 (.lst (Lz.ev2 ((us.map V.int).drop 0)))) b2 (.lst (Lz.ev2 ((us.map V.int).drop 1)))) := (same_upd hb1).trans (same_upd hb2)
          have eb1 : upd (upd H8 b1 (.lst (Lz.ev2 ((us.map V.int).drop 0)))) b2 (.lst (Lz.ev2 ((us.map V.int).drop 1))) b1 = some (.lst (Lz.ev2 ((us.map V.int).drop 0))) := by
            rw [upd_ne (ne_of_none upd_same hb2)]
            exact upd_same
          have eb2 : upd (upd H8 b1 (.lst (Lz.ev2 ((us.map V.int).drop 0)))) b2 (.lst (Lz.ev2 ((us.map V.int).drop 1))) b2 = some (.lst (Lz.ev2 ((us.map V.int).drop 1))) := upd_same
          generalize upd (upd H8 b1 (.lst (Lz.ev2 ((us.map V.int).drop 0)))) b2 (.lst (Lz.ev2 ((us.map V.int).drop 1))) = H9 at S9 eb1 eb2 ⊢
          have ul := pr.len
          obtain ⟨rf, rrl⟩ := Lin.rowL_flat m us ul
          refine ⟨b1, b2, _, _, rfl, SqL.of eb1, SqL.of eb2, ?_, ?_, fun S ts H10 Z => ?_⟩
          · rw [Lz.ev2_len, Lz.ev2_len, List.length_drop, List.length_drop, List.length_map]
            omega
          · rw [Lz.ev2_len, List.length_drop, List.length_map]
            exact small (by omega)
          refine ⟨S, _, rfl, .inl ⟨SqL.of Z.lst, fun t ht => ?_⟩⟩
          have S11 : Same H8 (upd H10 t (.tup (ts.map V.ref))) := (S9.trans Z.same).trans (same_upd ht)
          have wt : Rw (upd H10 t (.tup (ts.map V.ref))) t (rowL us) := by
            refine ⟨_, upd_same, ?_, fun {j x} e => ?_⟩
            · rw [List.length_map, Z.len, rrl, Lz.ev2_len, List.length_drop, List.length_map]
              omega
            · rw [List.getElem?_map] at e
              obtain ⟨tj, etj, rfl⟩ := Option.map_eq_some_iff.mp e
              have hj : j < (rowL us).length := by
                have := (List.getElem?_eq_some_iff.mp etj).1
                rw [Z.len, Lz.ev2_len, List.length_drop, List.length_map] at this
                rw [rrl]
                omega
              refine ⟨(rowL us)[j], List.getElem?_eq_getElem hj, tj, rfl, ?_⟩
              have hz : (rowL us)[j]? = some ((rowL us)[j]) := List.getElem?_eq_getElem hj
              unfold rowL at hz
              obtain ⟨z1, z2⟩ := List.getElem?_zip_eq_some.mp hz
              have w1 : (Lz.ev2 ((us.map V.int).drop 0))[j]? = some (V.int ((rowL us)[j]).1) := by
                rw [List.drop_zero, Lz.ev2_map, List.getElem?_map, ev2_same, z1]
                rfl
              have w2 : (Lz.ev2 ((us.map V.int).drop 1))[j]? = some (V.int ((rowL us)[j]).2) := by
                rw [← List.map_drop, Lz.ev2_map, List.getElem?_map, ev2_same, z2]
                rfl
              have w3 := Z.get j tj _ _ etj w1 w2
              rw [upd_ne (ne_of_none w3 ht)]
              exact w3
          have eF11 : upd H10 t (.tup (ts.map V.ref)) F = some (.lst ys) := S11 _ _ eF8
          have eQ11 : upd H10 t (.tup (ts.map V.ref)) Q1 = some (.lst (natV qs')) := S11 _ _ eQ8
          have D11 := D8.same S11
          have f11 := f8.trans (.of_same S11)
          have hrs11 := hrs8.sm (.of_same S11)
          generalize upd H10 t (.tup (ts.map V.ref)) = H11 at S11 wt eF11 eQ11 D11 f11 hrs11 ⊢
          have yl := hrs11.len
          refine ⟨F, ys, .ref t, rfl, rfl, eF11, small (by omega), ?_⟩
          have inr : In p (rowL us) := fun u hu => by
            have m1 : u.1 ∈ flatR (rowL us) := List.mem_flatMap.mpr ⟨u, hu, by simp⟩
            have m2 : u.2 ∈ flatR (rowL us) := List.mem_flatMap.mpr ⟨u, hu, by simp⟩
            rw [rf] at m1 m2
            exact ⟨pr.rg _ m1, pr.rg _ m2⟩
          have kt : Rk p m H11 t (rowL us) := ⟨wt, inr, rrl⟩
          refine ⟨_, _, _, _, rfl, (D11.put nF.1 nF.2.1 nF.2.2).mono (by omega), fun a w e1 e2 e => ?_, ?_, ys ++ [.ref t], rs ++ [rowL us], upd_same, (hrs11.snoc kt).put eF11, by rw [List.length_append, rl]; rfl, fun j q' r' hj hr' => ?_⟩
          · rw [upd_ne (ne_of_none (f4 _ _ e1 e2 e) hF)]
            exact f11 _ _ e1 e2 e
          · rw [upd_ne nFQ]
            exact eQ11
          · by_cases hji : j < rs.length
            · rw [List.getElem?_append_left hji] at hr'
              exact hpr j q' r' hj hr'
            · have ej : j = i := by
                have := (List.getElem?_eq_some_iff.mp hr').1
                rw [List.length_append, List.length_singleton] at this
                omega
              subst ej
              rw [eqi] at hj
              cases hj
              rw [List.getElem?_append_right (by omega), rl, Nat.sub_self] at hr'
              cases hr'
              rw [rf]
              exact pr
      · rintro σ H5 ⟨v8, v9, v10, v11, rfl, D5, f5, eQ5, ys, rs, eF5, hrs, rl, hpr⟩
        rw [natV_len] at rl D5
        refine ⟨.ref Q1, rfl, .ref F, rfl, (by show 2 ≤ sizeLine; decide), fun R hR => ?_⟩
        refine qq R Q1 F qs' ys rs _ (f5.trans (.new hR)) ((D5.same (same_upd hR)).mono (by omega)) upd_same (same_upd hR _ _ eQ5) (same_upd hR _ _ eF5) ⟨⟨nQ.1, nQ.2.1⟩, nF.1, nF.2.1⟩ (hrs.sm (.new hR)) (by omega) ⟨by rw [List.length_map, rl], upq, ltq, fun i q f hi hf => ?_⟩
        rw [List.getElem?_map] at hf
        obtain ⟨r, er, rfl⟩ := Option.map_eq_some_iff.mp hf
        have pr := hpr i q r hi er
        exact ⟨pr.len, pr.rg, pr.ah, pr.one, pr.oth⟩
/-! ### rows that span a lot -/
theorem insert_get {xs : List V} {rs : List Row} {p : Int} {n : Nat} {H : Hp} (h : Rws p n H xs rs) {i : Nat} (hi : i ≤ xs.length) {a : Addr} {r : Row} (k : Rk p n H a r) : Rws p n H (xs.take i ++ [.ref a] ++ xs.drop i) (rs.take i ++ [r] ++ rs.drop i) := by
  have ht : Rws p n H (xs.take i) (rs.take i) := by
    refine ⟨by rw [List.length_take, List.length_take, h.len], fun {j x} e => ?_, fun s hs => h.fit s (List.mem_of_mem_take hs)⟩
    have hj : j < i := by
      have := (List.getElem?_eq_some_iff.mp e).1
      rw [List.length_take] at this
      omega
    rw [List.getElem?_take, if_pos hj] at e
    rw [List.getElem?_take, if_pos hj]
    exact h.get e
  have hd : Rws p n H (xs.drop i) (rs.drop i) := by
    refine ⟨by rw [List.length_drop, List.length_drop, h.len], fun {j x} e => ?_, fun s hs => h.fit s (List.mem_of_mem_drop hs)⟩
    rw [List.getElem?_drop] at e ⊢
    exact h.get e
  have h1 := ht.snoc k
  refine ⟨by have a := h1.len; have b := hd.len; simp only [List.length_append] at *; omega, fun {j x} e => ?_, fun s hs => ?_⟩
  · by_cases hj : j < (xs.take i ++ [V.ref a]).length
    · rw [List.getElem?_append_left hj] at e
      rw [List.getElem?_append_left (by rw [← h1.len]; exact hj)]
      exact h1.get e
    · rw [List.getElem?_append_right (by omega)] at e
      rw [List.getElem?_append_right (by rw [← h1.len]; omega), ← h1.len]
      exact hd.get e
  · rcases List.mem_append.mp hs with m | m
    · exact h1.fit s m
    · exact hd.fit s m
theorem span_insert {p : Int} {rs ss : List Row} {i : Nat} {r : Row} (h : Span p ss rs) (hr : Lin.Lot p (Lin.spn (rs.map flatR)) (vec (flatR r))) : Span p (ss.take i ++ [r] ++ ss.drop i) rs := by
  refine Span.trans (fun u => ?_) h
  refine Lin.lot_more_rows (f := flatR r) ((h _).mpr hr) (fun g => ?_) u
  constructor
  · intro hg
    obtain ⟨s, hs, rfl⟩ := List.mem_map.mp hg
    rcases List.mem_append.mp hs with m | m
    · rcases List.mem_append.mp m with m | m
      · exact .inl (List.mem_map.mpr ⟨s, List.mem_of_mem_take m, rfl⟩)
      · rw [List.mem_singleton.mp m]
        exact .inr rfl
    · exact .inl (List.mem_map.mpr ⟨s, List.mem_of_mem_drop m, rfl⟩)
  · rintro (hg | rfl)
    · obtain ⟨s, hs, rfl⟩ := List.mem_map.mp hg
      refine List.mem_map.mpr ⟨s, ?_, rfl⟩
      rw [← List.take_append_drop i ss] at hs
      rcases List.mem_append.mp hs with m | m
      · exact List.mem_append.mpr (.inl (List.mem_append.mpr (.inl m)))
      · exact List.mem_append.mpr (.inr m)
    · exact List.mem_map.mpr ⟨r, by simp, rfl⟩
theorem sum_in {p : Int} {m : Nat} {ns : List Int} {rs : List Row} (hl : ∀ r ∈ rs, r.length = m) : Lin.Lot p (Lin.spn (rs.map flatR)) (vec (flatR (sumP p (noR m) (ns.zip rs)))) :=
  Lin.sum_lot (l := ns.zip rs) (fun x hx => hl _ (List.of_mem_zip hx).2) fun x hx => (List.of_mem_zip hx).2
def spSpan : Sp := fun vs H Q _ => ∃ (d g c : Addr) (k p : Int) (m : Nat) (b : Addr) (xs : List V) (rs : List Row), vs = [.ref d, .int p, .int m, .ref b] ∧ Dk d g c k H ∧ k ≤ 90000 ∧ p ∈ prs ∧ m ≤ 20 ∧ H b = some (.lst xs) ∧ b ≠ d ∧ b ≠ g ∧ Rws p m H xs rs ∧ xs.length ≤ 40 ∧
  ∀ L ys ss H', Fr d g H H' → Dk d g c (k + 700) H' → H' L = some (.lst ys) → L ≠ d ∧ L ≠ g ∧ L ≠ c → Rws p m H' ys ss → ss.length ≤ rs.length + 3 → Span p ss rs → Q (.ref L) H'
theorem ok__law_spanning (T : Tx K mg A) : FnOk P w K mg base CX0 3 A.f__law_spanning A.d__law_spanning ["_law_deck_here", "_law_p", "_law_posts", "_law_rows"] spSpan := by
  have G__law_next : FnOk P w K mg base CX0 1 A.f__law_next A.d__law_next ["_law_deck_here", "_law_many"] spNext := ok__law_next T
  have G__law_stirred : FnOk P w K mg base CX0 2 A.f__law_stirred A.d__law_stirred ["_law_deck_here", "_law_p", "_law_posts", "_law_rows"] spStir := ok__law_stirred T
  have G__law_sum : FnOk P w K mg base CX0 2 A.f__law_sum A.d__law_sum ["_law_p", "_law_posts", "_law_numbers_here", "_law_rows"] spLSum := ok__law_sum T
  have G__law_numbers : FnOk P w K mg base CX0 2 A.f__law_numbers A.d__law_numbers ["_law_deck_here", "_law_p", "_law_many"] spNums := ok__law_numbers T
  refine T.d__law_spanning.F.ok sc__law_spanning (fun vs H Q E h => ?_) (fun cdv A outer s H vs Q E hr h => ?_)
  · obtain ⟨d, g, c, k, p, m, b, xs, rs, rfl, _⟩ := h
    rfl
  · obtain ⟨d, g, c, k, p, m, b, xs, rs, rfl, D0, hk, hp, hm, hb, bd, bg, hrs, hxl, q⟩ := h
    obtain ⟨p2, p13⟩ := prs_bd p hp
    have p0 : 0 < p := by omega
    have hrl := hrs.len
    refine ⟨_, (pss_cons (ps_set (i := 4) sc__law_spanning.nd rfl (.inl rfl) (pe_callTy call_list_of (by rfl) T.b_list PyProof.Rows.boot_list (pa_cons (pe_call G__law_stirred hr (by rfl) T.d__law_stirred.g T.d__law_stirred.F.kp T.d__law_stirred.b .nil pass0 (pa_cons (pv 0) (pa_cons (pv 1) (pa_cons (pv 2) (pa_cons (pv 3) pa_nil))))) pa_nil)))
        (pss_cons (ps_for PassesOwn.never rfl (pi_range1 (by rfl) T.b_range (pa_cons (pe_call G__law_next (hr.mono (by decide)) (by rfl) T.d__law_next.g T.d__law_next.F.kp T.d__law_next.b .nil pass0 (pa_cons (pv 0) (pa_cons pe_int pa_nil))) pa_nil)) (pg_name (i := 5) sc__law_spanning.nd rfl (.inl rfl))
        (pss_cons (ps_set (i := 6) sc__law_spanning.nd rfl (.inl rfl) (pe_call G__law_sum hr (by rfl) T.d__law_sum.g T.d__law_sum.F.kp T.d__law_sum.b .nil pass0 (pa_cons (pv 1) (pa_cons (pv 2) (pa_cons (pe_call G__law_numbers hr (by rfl) T.d__law_numbers.g T.d__law_numbers.F.kp T.d__law_numbers.b .nil pass0 (pa_cons (pv 0) (pa_cons (pv 1) (pa_cons (pe_callB call_len_seq (by rfl) T.b_len PySem.boot_len (pa_cons (pv 3) pa_nil)) pa_nil)))) (pa_cons (pv 3) pa_nil))))))
        (pss_one (ps_expr (pe_bm PySem.F.plainAttrs_list PySem.F.slot_list_insert PySem.F.type_list_insert mt_insert (pv 4) (pa_cons (pe_call G__law_next (hr.mono (by decide)) (by rfl) T.d__law_next.g T.d__law_next.F.kp T.d__law_next.b .nil pass0 (pa_cons (pv 0) (pa_cons (pe_op op_add (pe_callB call_len_seq (by rfl) T.b_len PySem.boot_len (pa_cons (pv 4) pa_nil)) pe_int) pa_nil))) (pa_cons (pv 6) pa_nil)))))))
        (pss_one (ps_ret (pv 4))))), ?_⟩
    refine ⟨.ref d, rfl, .int p, rfl, .int m, rfl, .ref b, rfl, d, g, c, k, p, m, b, .l, xs, rs, rfl, D0, by omega, hp, hm, hb, hrs, hxl, fun t ys ss H1 f1 D1 et hss sl sp => ?_⟩
    refine ⟨t, _, rfl, .inr (SqT.of et), fun L hL => ?_⟩
    have nL := D1.nd hL
    have yl := hss.len
    refine ⟨.ref d, rfl, d, g, c, _, 4, rfl, by decide, by decide, D1.same (same_upd hL), by omega, fun r H2 r0 r1 D2 f2 => ?_⟩
    have eL2 : H2 L = some (.lst ys) := f2 L _ nL.1 nL.2.1 upd_same
    have f12 : Fr d g H H2 := (f1.trans (.new hL)).trans f2
    have hss2 := (hss.sm (.new hL)).fr (D1.same (same_upd hL)) f2
    refine ⟨r, rfl, by omega, by omega, for_range (fun i σ H' => ∃ v5 v6, σ = [some (.ref d), some (.int p), some (.int m), some (.ref b), some (.ref L), v5, v6] ∧ Dk d g c (k + 8 * xs.length + 1 + 100 * i) H' ∧ Fr d g H H' ∧ ∃ ys ss, H' L = some (.lst ys) ∧ Rws p m H' ys ss ∧ ss.length = rs.length + i ∧ Span p ss rs)
      ⟨_, _, rfl, D2.mono (by omega), f12, ys, ss, eL2, hss2, by omega, sp⟩ ?_ ?_⟩
    · rintro i σ H3 hi ⟨v5, v6, rfl, D3, f3, ys, ss, eL3, hss3, sl3, sp3⟩
      have hb3 := f3 b _ bd bg hb
      have hrs3 := hrs.fr D0 f3
      refine ⟨.int p, rfl, .int m, rfl, .ref d, rfl, .int p, rfl, .ref b, rfl, b, _, rfl, .inl (SqL.of hb3), d, g, c, _, p, _, rfl, D3, by omega, p2, p13, by omega, by omega, fun tn ns H4 hns nsl en D4 f4 => ?_⟩
      rw [Int.toNat_natCast] at nsl
      have hb4 := f4 b _ bd bg hb3
      have hrs4 := hrs3.fr D3 f4
      refine ⟨.ref b, rfl, p, m, tn, b, .t, .l, ns, xs, rs, rfl, p0, p13, hm, en, hb4, hrs4, by omega, fun n hn => by have := hns n hn; omega, fun ts H5 s5 k5 => ?_⟩
      have D5 := D4.same s5
      have eL5 := s5 _ _ (f4 L _ nL.1 nL.2.1 eL3)
      refine ⟨.ref L, rfl, .inl ⟨rfl, _, SqL.of eL5⟩, .ref d, rfl, .ref L, rfl, L, _, rfl, .inl (SqL.of eL5), _, 1, rfl, rfl, d, g, c, _, _, rfl, by omega, by have := hss3.len; omega, D5, by omega, fun at_ H6 a0 a1 D6 f6 => ?_⟩
      obtain ⟨w, rfl⟩ := Int.eq_ofNat_of_zero_le a0
      have yl3 := hss3.len
      have eL6 := f6 L _ nL.1 nL.2.1 eL5
      have hss6 := ((hss3.fr D3 f4).sm (.of_same s5)).fr D5 f6
      have k6 := k5.fr D5 f6
      refine ⟨.ref ts, rfl, L, ys, (w : Nat), .ref ts, rfl, rfl, eL6, small (by omega), by omega, by omega, ?_⟩
      rw [Int.toNat_natCast]
      have inl := insert_get hss6 (i := w) (by omega) k6
      refine ⟨_, _, rfl, (D6.put nL.1 nL.2.1 nL.2.2).mono (by omega), fun a o e1 e2 e => ?_, _, _, upd_same, inl.put eL6, ?_, span_insert sp3 (sum_in fun r hr => (hrs.fit r hr).2)⟩
      · rw [upd_ne (ne_of_none (f1 _ _ e1 e2 e) hL)]
        exact f6 _ _ e1 e2 (s5 _ _ (f4 _ _ e1 e2 (f3 _ _ e1 e2 e)))
      · rw [List.length_append, List.length_append, List.length_take, List.length_drop, List.length_singleton]
        omega
    · rintro σ H3 ⟨v5, v6, rfl, D3, f3, ys, ss, eL3, hss3, sl3, sp3⟩
      exact ⟨.ref L, rfl, q L ys ss H3 f3 (D3.mono (by omega)) eL3 nL hss3 (by omega) sp3⟩
/-! ### rows told -/
def pairD (u : Int × Int) : PyData := .tuple [.int u.1, .int u.2]
def rowD (r : Row) : PyData := .tuple (r.map pairD)
theorem dq_prs {H : Hp} : ∀ {xs : List V} {r : Row}, Prs H xs r → DqAll H xs (r.map pairD)
  | [], [], _ => .nil
  | [], _ :: _, h => by have := h.len; simp at this
  | _ :: _, [], h => by have := h.len; simp at this
  | x :: xs, u :: r, h => by
    obtain ⟨v, e, a, rfl, ha⟩ := h.get (i := 0) (x := x) rfl
    cases e
    refine .cons (.tup ha (.cons (.int _) (.cons (.int _) .nil))) (dq_prs (xs := xs) (r := r) ⟨by have := h.len; simpa using this, fun {i y} e => h.get (i := i + 1) e⟩)
theorem dq_row {H : Hp} {t : Addr} {r : Row} (h : Rw H t r) : Dq H (.ref t) (rowD r) := let ⟨_, e, p⟩ := h; .tup e (dq_prs p)
theorem gd_num {i : Int} (h : 0 ≤ i ∧ i < 13) : Gd 5 0 (.int i) := Gd.int (k := 4) (by decide) (by decide) (by show i.natAbs < 16; omega)
theorem gd_pairs : ∀ {r : Row}, In 13 r → GdAll (13 * r.length) 1 (r.map pairD)
  | [], _ => .nil
  | u :: r, h => by
    have hu := h u (by simp)
    have g : Gd 12 1 (pairD u) := Gd.tup ((GdAll.cons (gd_num hu.1) (GdAll.cons (gd_num hu.2) (GdAll.nil (n := 0)))).mono (by decide) (by decide))
    have k := gd_pairs (r := r) fun v hv => h v (List.mem_cons_of_mem _ hv)
    exact (GdAll.cons g k).mono (by rw [List.length_cons]; omega) (by decide)
theorem gd_row {r : Row} (h : In 13 r) (hl : r.length ≤ 100) : Gd 1300 2 (rowD r) := (Gd.tup (gd_pairs h)).mono (by omega) (by decide)
theorem in13 {p : Int} {r : Row} (h : In p r) (hp : p ≤ 13) : In 13 r := fun u hu => by have := h u hu; omega
theorem md {p : Int} (h : 0 < p) (a : Int) : 0 ≤ a % p ∧ a % p < p := ⟨Int.emod_nonneg a (by omega), Int.emod_lt_of_pos a h⟩
/-! lists and tuples of rows told; rows compared -/
theorem gd_row20 {r : Row} (h : In 13 r) (hl : r.length ≤ 20) : Gd 300 2 (rowD r) := (Gd.tup (gd_pairs h)).mono (by omega) (by decide)
theorem gd_rows : ∀ {rs : List Row}, (∀ r ∈ rs, In 13 r ∧ r.length ≤ 20) → GdAll (301 * rs.length) 2 (rs.map rowD)
  | [], _ => .nil
  | r :: rs, h => by
    have hr := h r (by simp)
    have k := gd_rows (rs := rs) fun s hs => h s (List.mem_cons_of_mem _ hs)
    exact (GdAll.cons (gd_row20 hr.1 hr.2) k).mono (by rw [List.length_cons]; omega) (by decide)
theorem Rws.dq {p : Int} {n : Nat} {H : Hp} : ∀ {xs : List V} {rs : List Row}, Rws p n H xs rs → DqAll H xs (rs.map rowD)
  | [], [], _ => .nil
  | [], _ :: _, h => by have := h.len; simp at this
  | _ :: _, [], h => by have := h.len; simp at this
  | x :: xs, r :: rs, h => by
    obtain ⟨a, s, rfl, e, w⟩ := h.get (i := 0) (x := x) rfl
    cases e
    exact .cons (dq_row w) (Rws.dq (p := p) (n := n) (xs := xs) (rs := rs) ⟨by have := h.len; simpa using this, fun {i y} e => h.get (i := i + 1) e, fun s hs => h.fit s (List.mem_cons_of_mem _ hs)⟩)
def manyD (k : Zm.Kd) (ds : List PyData) : PyData := match k with
  | .l => .list ds
  | .t => .tuple ds
theorem dq_many {k : Zm.Kd} {p : Int} {n : Nat} {H : Hp} {a : Addr} {xs : List V} {rs : List Row} (e : At k H a xs) (h : Rws p n H xs rs) : Dq H (.ref a) (manyD k (rs.map rowD)) := match k, e with
  | .l, e => .lst e h.dq
  | .t, e => .tup e h.dq
theorem gd_many {k : Zm.Kd} {rs : List Row} (h : ∀ r ∈ rs, In 13 r ∧ r.length ≤ 20) (hl : rs.length ≤ 100) : Gd 40000 3 (manyD k (rs.map rowD)) := match k with
  | .l => (Gd.lst (gd_rows h)).mono (by omega) (by decide)
  | .t => (Gd.tup (gd_rows h)).mono (by omega) (by decide)
theorem dp_prs {H : Hp} : ∀ {xs : List V} {r : Row}, Prs H xs r → DpAll K H xs (r.map pairD)
  | [], [], _ => .nil
  | [], _ :: _, h => by have := h.len; simp at this
  | _ :: _, [], h => by have := h.len; simp at this
  | x :: xs, u :: r, h => by
    obtain ⟨v, e, a, rfl, ha⟩ := h.get (i := 0) (x := x) rfl
    cases e
    exact .cons (.tup (SqT.of ha) (.cons (.int _) (.cons (.int _) .nil))) (dp_prs (xs := xs) (r := r) ⟨by have := h.len; simpa using this, fun {i y} e => h.get (i := i + 1) e⟩)
theorem dp_row {H : Hp} {t : Addr} {r : Row} (h : Rw H t r) : Dp K H (.ref t) (rowD r) := let ⟨_, e, p⟩ := h; .tup (SqT.of e) (dp_prs p)
theorem lay_pairs : ∀ r : Row, PyData.canLayAll0 (r.map pairD) = true
  | [] => by simp [PyData.canLayAll0]
  | u :: r => by simp [PyData.canLayAll0, PyData.canLay0, pairD, lay_pairs r]
theorem dep_pairs : ∀ r : Row, PyData.depthAll (r.map pairD) ≤ 1
  | [] => by simp [PyData.depthAll]
  | u :: r => by
    have := dep_pairs r
    simp [PyData.depthAll, PyData.depth, pairD]
    omega
theorem sh_row (r : Row) : SeqAt.shaped (rowD r) = true := by
  have h1 := dep_pairs r
  have h2 : PyData.depth (rowD r) ≤ 64 := by
    unfold rowD
    simp only [PyData.depth]
    omega
  show (PyData.canLay0 (rowD r) && decide (PyData.depth (rowD r) ≤ 64)) = true
  rw [Bool.and_eq_true]
  exact ⟨by unfold rowD; simp only [PyData.canLay0]; exact lay_pairs r, decide_eq_true h2⟩
theorem eqv_pairs : ∀ r s : Row, PyData.eqvAll (r.map pairD) (s.map pairD) = decide (r = s)
  | [], [] => by simp [PyData.eqvAll]
  | [], _ :: _ => by simp [PyData.eqvAll]
  | _ :: _, [] => by simp [PyData.eqvAll]
  | u :: r, v :: s => by
    have ih := eqv_pairs r s
    have e : PyData.eqv (pairD u) (pairD v) = decide (u = v) := by
      obtain ⟨a, b⟩ := u
      obtain ⟨c, d⟩ := v
      rw [Bool.eq_iff_iff]
      simp [pairD, PyData.eqv, PyData.eqvAll]
    simp only [List.map_cons, PyData.eqvAll, e, ih]
    simp
theorem eqv_row (r s : Row) : PyData.eqv (rowD r) (rowD s) = decide (r = s) := by
  unfold rowD
  simp only [PyData.eqv]
  exact eqv_pairs r s
/-! ### rows of flats, plain -/
theorem rgc_all : ∀ m ∈ List.range 21, PySem.Builtin.Range.small 0 ((2 * m : Nat) : Int) 2 = true ∧ PySem.Builtin.Range.rangeSize 0 ((2 * m : Nat) : Int) 2 = (m : Nat) := by decide +kernel
theorem rgc {m : Nat} (h : m ≤ 20) : RgC 0 ((2 * m : Nat) : Int) 2 m := ⟨by decide, by decide, (rgc_all m (List.mem_range.mpr (by omega))).1, (rgc_all m (List.mem_range.mpr (by omega))).2⟩
def spRowOf (P : Addr) : Sp := fun vs H Q _ => ∃ (a : Addr) (us : List Int) (m : Nat), vs = [.ref a] ∧ Fl H a us ∧ us.length = 2 * m ∧ m ≤ 20 ∧ GxR.TabG H P ∧ ∀ t H', Sm H H' → Rw H' t (Lin.rowL us) → Q (.ref t) H'
theorem rowL_get {us : List Int} {m i : Nat} (h : us.length = 2 * m) (hi : i < m) : (Lin.rowL us)[i]? = some (us[2 * i]'(by omega), us[2 * i + 1]'(by omega)) := by
  have e1 : (Lin.ev2 us)[i]? = some (us[2 * i]'(by omega)) := by
    rw [← ev2_same, Lz.ev2_get, List.getElem?_eq_getElem]
  have e2 : (Lin.ev2 (us.drop 1))[i]? = some (us[2 * i + 1]'(by omega)) := by
    rw [← ev2_same, Lz.ev2_get, List.getElem?_drop, Nat.add_comm, List.getElem?_eq_getElem]
  unfold Lin.rowL
  exact zip_get? e1 e2
theorem ok_row_of (T : Tx K mg A) (B : Tb K mg base A C) : FnOk P w K mg base CX0 6 A.f_row_of A.d_row_of ["flat"] (spRowOf C.p_row_of) := by
  refine B.k_row_of.ok sc_row_of (fun vs H Q E h => ?_) (fun A outer s H vs Q E hr h => ?_)
  · obtain ⟨a, us, m, rfl, _⟩ := h
    rfl
  · obtain ⟨a, us, m, rfl, ha, hl, hm, tg, q⟩ := h
    refine ⟨_, (pss_one (ps_ret (Gx.pe_tupGx (k := 0) (own := [("place", 1)]) (g := (gName 1)) rfl hr sc_row_of.nd (by rfl) T.b_tuple B.t_row_of rfl (pi_range3 (by rfl) T.b_range (pa_cons pe_int (pa_cons (pe_callB call_len_seq (by rfl) T.b_len PySem.boot_len (pa_cons (pv 0) pa_nil)) (pa_cons pe_int pa_nil)))) (blkOk_by (N := N_row_of) (sc := defScope s_row_of) (by decide +kernel)) rfl rfl (fun _ _ _ _ _ _ => (pg_name (i := 1) sc_row_of.nd rfl (.inl rfl) (.inr rfl))) (fun _ _ _ _ _ _ hq => (pe_tup (pa_cons (pe_ix (show IxR _ (rIxL K) from ix_list) (pv 0) (pv 1) (fun _ _ => rfl)) (pa_cons (pe_ix (show IxR _ (rIxL K) from ix_list) (pv 0) (pe_op op_add (pv 1) pe_int) (fun _ _ => rfl)) pa_nil)))) (fun _ => rfl)))), ?_⟩
    have ha' : H a = some (.lst (us.map V.int)) := ha
    refine ⟨.ref a, rfl, a, _, rfl, .inl (SqL.of ha'), ?_⟩
    rw [List.length_map, hl]
    refine ⟨0, ((2 * m : Nat) : Int), 2, m, rfl, rgc hm, tg, fun H2 tb => ?_⟩
    have s2 := Sm.tabbed tg tb
    have rl := Lin.rowL_flat m us hl
    refine gx_it walk_rangeC (fun i zs H' => Sm H H' ∧ Prs H' zs ((Lin.rowL us).take i)) ⟨s2, by simpa using Prs.nil⟩ (fun i zs H' _ h => trivial) ?_ ?_
    · rintro i x zs H3 H4 hi ⟨s3, hz⟩ ⟨rfl, rfl⟩
      have ha3 := s3.lst ha'
      have e1 : atI (us.map V.int) (0 + (i : Nat) * 2) = some (V.int (us[2 * i]'(by omega))) := by
        have e : (0 + (i : Nat) * 2 : Int) = ((2 * i : Nat) : Int) := by omega
        rw [e]
        apply atI_nat
        rw [List.getElem?_map, List.getElem?_eq_getElem (by omega)]
        rfl
      have e2 : atI (us.map V.int) (0 + (i : Nat) * 2 + 1) = some (V.int (us[2 * i + 1]'(by omega))) := by
        have e : (0 + (i : Nat) * 2 + 1 : Int) = ((2 * i + 1 : Nat) : Int) := by omega
        rw [e]
        apply atI_nat
        rw [List.getElem?_map, List.getElem?_eq_getElem (by omega)]
        rfl
      have hzl := hz.len
      rw [List.length_take] at hzl
      refine ⟨rfl, .ref a, rfl, _, rfl, a, _, _, _, rfl, rfl, SqL.of ha3, e1, .ref a, rfl, _, rfl, _, 1, rfl, rfl, a, _, _, _, rfl, rfl, SqL.of ha3, e2, (by show 2 ≤ sizeLine; decide), fun t ht => ⟨small (by omega), s3.trans (.new ht), ?_⟩⟩
      rw [take_snoc (rowL_get hl hi)]
      exact (hz.sm (.new ht)).snoc ⟨t, rfl, upd_same⟩
    · rintro zs H3 ⟨s3, hz⟩ t ht
      rw [List.take_of_length_le (by omega)] at hz
      exact q t _ (s3.trans (.new ht)) ⟨zs, upd_same, hz.sm (.new ht)⟩
/-- what stands nowhere yet, but as a table -/
def Nw (H : Hp) (t : Addr) : Prop := ∀ o, H t = some o → ∃ ps, o = .tbl ps
theorem Nw.of {H : Hp} {t : Addr} (h : H t = none) : Nw H t := fun o e => by rw [h] at e; cases e
theorem Nw.sm {H H' : Hp} {t : Addr} (s : Sm H H') (h : Nw H' t) : Nw H t := fun o e => by
  cases o with
  | tbl ps => exact ⟨ps, rfl⟩
  | _ =>
    obtain ⟨ps, e2⟩ := h _ (s.kp t _ (by intro ps z; cases z) e)
    cases e2
theorem Nw.ne {H : Hp} {t a : Addr} {xs : List V} (h : Nw H t) (e : H a = some (.lst xs)) : a ≠ t := fun z => by
  rw [z] at e
  obtain ⟨ps, e2⟩ := h _ e
  cases e2
theorem Nw.neT {H : Hp} {t a : Addr} {xs : List V} (h : Nw H t) (e : H a = some (.tup xs)) : a ≠ t := fun z => by
  rw [z] at e
  obtain ⟨ps, e2⟩ := h _ e
  cases e2
def spPlainP (P : Addr) : Sp := fun vs H Q _ => ∃ (p : Int) (n : Nat) (a : Addr) (k : Zm.Kd) (xs : List V) (rs : List Row), vs = [.int p, .int n, .ref a] ∧ p ∈ ([2, 3, 5, 7, 11, 13] : List Int) ∧ n ≤ 20 ∧ At k H a xs ∧ Rws p n H xs rs ∧ xs.length ≤ 200 ∧ GxR.TabG H P ∧
  ∀ (t : Addr) (ys : List V) (ss : List Row) (L : List (Nat × List Int)) (H' : Hp), Sm H H' → Nw H t → H' t = some (.lst ys) → Rws p n H' ys ss → ss.map flatR = L.map (·.2) → PL p (2 * n) (rs.map flatR) L → Up L → Q (.ref t) H'
theorem ok_plain (T : Tx K mg A) (B : Tb K mg base A C) : FnOk P w K mg base CX0 7 A.f_plain A.d_plain ["p", "posts", "rows"] (spPlainP C.p_row_of) := by
  have G_row_leads : FnOk P w K mg base CX0 4 A.f_row_leads A.d_row_leads ["p", "rows"] spRowLeads := ok_row_leads T
  have G_row_of : FnOk P w K mg base CX0 6 A.f_row_of A.d_row_of ["flat"] (spRowOf C.p_row_of) := ok_row_of T B
  refine T.d_plain.F.ok sc_plain (fun vs H Q E h => ?_) (fun cdv A outer s H vs Q E hr h => ?_)
  · obtain ⟨p, n, a, k, xs, rs, rfl, _⟩ := h
    rfl
  · obtain ⟨p, n, a, k, xs, rs, rfl, hp, n20, ha, hrs, hl, tg, q⟩ := h
    refine ⟨_, (pss_cons (ps_set (i := 3) sc_plain.nd rfl (.inr rfl) (pe_call G_row_leads (hr.mono (by decide)) (by rfl) T.d_row_leads.g T.d_row_leads.F.kp T.d_row_leads.b .nil pass0 (pa_cons (pv 0) (pa_cons (pv 2) pa_nil))))
        (pss_one (ps_ret (pe_lock (pe_lc (own := [("place", 4)]) rfl sc_plain.nd (pi_keys (pv 3)) (blkOk_by (N := N_plain) (sc := defScope s_plain) (by decide +kernel)) (fun _ _ _ _ _ => (pg_name (i := 4) sc_plain.nd rfl (.inl rfl))) (fun _ _ _ _ _ => pts_nil) (fun _ _ _ _ _ => (pe_call G_row_of hr (by rfl) T.d_row_of.g T.d_row_of.F.kp T.d_row_of.b .nil pass0 (pa_cons (pe_dget (hu_of hr) (pv 3) (pv 4) (fun _ _ => rfl)) pa_nil)))))))), ?_⟩
    refine ⟨.int p, rfl, .ref a, rfl, p, n, a, k, xs, rs, rfl, hp, n20, ha, hrs, hl, fun d kvs L H1 s1 ed kv pl up => ?_⟩
    refine ⟨d, .dK kvs, ed, trivial, fun od => ?_⟩
    have kv0 := kv.lock (o := .frz od (.dK kvs)) ed
    have tg1 := s1.tb _ tg
    have tg0 : GxR.TabG (upd H1 d (.frz od (.dK kvs))) C.p_row_of := by
      obtain ⟨ps, e, z⟩ := tg1
      exact ⟨ps, by rw [upd_ne (ne_of e ed (by intro z; cases z))]; exact e, z⟩
    have hn := kv.len
    have lle := pl_le pl
    refine ⟨.ref d, rfl, d, od, rfl, .inl ⟨kvs, upd_same, fun D hD => ?_⟩⟩
    have nD : D ≠ d := fun z => by
      rw [z, upd_same] at hD
      cases hD
    have hD1 : H1 D = none := by
      rw [upd_ne nD] at hD
      exact hD
    refine lc_it walk_keys (fun i H' => Sm (upd H1 d (.frz od (.dK kvs))) H' ∧ H' d = some (.frz od (.dK kvs)) ∧ ∃ ys ss, H' D = some (.lst ys) ∧ Rws p n H' ys ss ∧ ss.map flatR = (L.take i).map (·.2)) ⟨.new hD, by rw [upd_ne nD.symm]; exact upd_same, [], [], upd_same, .nil, by simp⟩ (fun i H' _ h => h.2.1) ?_ ?_
    · rintro i x H2 H3 hi ⟨s2, e2, ys, ss, eD, hss, hf⟩ ⟨rfl, key, v, ek, rfl⟩
      have hi2 : i < L.length := by omega
      obtain ⟨b, eb, fb⟩ := (kv0.sm s2).get (i := i) (q := (L[i]).1) (us := (L[i]).2) (List.getElem?_eq_getElem hi2)
      rw [ek] at eb
      cases eb
      have m1 := List.getElem_mem hi2
      obtain ⟨c, ec, fc⟩ := (kv0.sm s2).val pl.nd (q := (L[i]).1) (us := (L[i]).2) m1
      have ul := pl.len _ m1
      obtain ⟨rf, rrl⟩ := Lin.rowL_flat n (L[i]).2 ul
      refine ⟨rfl, .ref d, rfl, .int ((L[i]).1 : Nat), rfl, d, .ref c, rfl, .inl ⟨kvs, _, .inr ⟨od, e2⟩, rfl, ec.symm⟩, c, (L[i]).2, n, rfl, fc, ul, n20, s2.tb _ tg0, fun t H4 s4 w4 => ?_⟩
      have eD4 := s4.lst eD
      have inr : In p (Lin.rowL (L[i]).2) := fun u hu => by
        have k1 : u.1 ∈ flatR (Lin.rowL (L[i]).2) := List.mem_flatMap.mpr ⟨u, hu, by simp⟩
        have k2 : u.2 ∈ flatR (Lin.rowL (L[i]).2) := List.mem_flatMap.mpr ⟨u, hu, by simp⟩
        rw [rf] at k1 k2
        exact ⟨pl.rg _ m1 _ k1, pl.rg _ m1 _ k2⟩
      have hyl := hss.len
      have sl : ss.length = (L.take i).length := by
        have := congrArg List.length hf
        simpa using this
      rw [List.length_take] at sl
      refine ⟨ys, eD4, small (by omega), (s2.trans s4).put hD, ?_, ys ++ [.ref t], ss ++ [Lin.rowL (L[i]).2], upd_same, ((hss.sm s4).snoc ⟨w4, inr, rrl⟩).put eD4, ?_⟩
      · rw [upd_ne nD.symm]
        exact s4.kp _ _ (by intro ps z; cases z) e2
      · have e3 : L.take (i + 1) = L.take i ++ [L[i]] := by rw [List.take_append_getElem]
        rw [e3, List.map_append, List.map_append, hf]
        show _ ++ [flatR (Lin.rowL (L[i]).2)] = _
        rw [rf]
        rfl
    · rintro H2 ⟨s2, e2, ys, ss, eD, hss, hf⟩
      rw [hn, List.take_length] at hf
      refine ⟨e2, q D ys ss L _ (s1.trans (s2.unlock ed)) ((Nw.of hD1).sm s1) ?_ ?_ hf pl up⟩
      · rw [upd_ne nD]
        exact eD
      · refine ⟨hss.len, fun e => ?_, hss.fit⟩
        obtain ⟨b, r, h1, h2, ws, h3, h4⟩ := hss.get e
        refine ⟨b, r, h1, h2, ws, by rw [upd_ne (ne_of h3 e2 (by intro z; cases z))]; exact h3, h4.len, fun e3 => ?_⟩
        obtain ⟨u, h5, c, h6, h7⟩ := h4.get e3
        exact ⟨u, h5, c, h6, by rw [upd_ne (ne_of h7 e2 (by intro z; cases z))]; exact h7⟩
-- CUT
/-! ### crossed, mirror -/
def crsR (p : Int) (r : Row) : Row := r.map fun u => (-u.2 % p, u.1)
def spCrs (P : Addr) : Sp := fun vs H Q _ => ∃ (p : Int) (m : Nat) (a : Addr) (r : Row), vs = [.int p, .ref a] ∧ 0 < p ∧ m ≤ 20 ∧ Rk p m H a r ∧ GxR.TabG H P ∧ ∀ t H', Sm H H' → Rk p m H' t (crsR p r) → Q (.ref t) H'
theorem ok_crossed (T : Tx K mg A) (B : Tb K mg base A C) : FnOk P w K mg base CX0 6 A.f_crossed A.d_crossed ["p", "row"] (spCrs C.p_crossed) := by
  refine B.k_crossed.ok sc_crossed (fun vs H Q E h => ?_) (fun A outer s H vs Q E hr h => ?_)
  · obtain ⟨p, m, a, r, rfl, _⟩ := h
    rfl
  · obtain ⟨p, m, a, r, rfl, p0, hm, hk, tg, q⟩ := h
    obtain ⟨⟨xs, ha, hp⟩, hin, hl⟩ := hk
    have hxl := hp.len
    refine ⟨_, (pss_one (ps_ret (Gx.pe_tupGx (k := 0) (own := [("push", 2), ("answer", 3)]) (g := (gTup K 2 (gCons (gName 2) (gCons (gName 3) gNil)))) rfl hr sc_crossed.nd (by rfl) T.b_tuple B.t_crossed rfl (pi_tup (pv 1)) (blkOk_by (N := N_crossed) (sc := defScope s_crossed) (by decide +kernel)) rfl rfl (fun _ _ _ _ _ _ => (pg_tup rfl (pgs_cons (pg_name (i := 2) sc_crossed.nd rfl (.inl rfl) (.inr rfl)) (pgs_cons (pg_name (i := 3) sc_crossed.nd rfl (.inl rfl) (.inr rfl)) pgs_nil)))) (fun _ _ _ _ _ _ hq => (pe_tup (pa_cons (pe_op op_mod (pe_un un_neg (pv 3)) (pv 0)) (pa_cons (pv 2) pa_nil)))) (fun _ => rfl)))), ?_⟩
    refine ⟨.ref a, rfl, a, rfl, ⟨xs, SqT.of ha⟩, tg, fun H2 tb => ?_⟩
    have s2 := Sm.tabbed tg tb
    refine gx_it (walk_tup (xs := xs)) (fun i zs H' => Sm H H' ∧ Prs H' zs ((crsR p r).take i)) ⟨s2, by simpa using Prs.nil⟩ (fun i zs H' _ h => SqT.of (h.1.tup ha)) ?_ ?_
    · rintro i x zs H3 H4 hi ⟨s3, hz⟩ ⟨rfl, hx⟩
      obtain ⟨u, eu, b, rfl, hb⟩ := hp.get hx
      have e2 : (crsR p r)[i]? = some (-u.2 % p, u.1) := by
        unfold crsR
        rw [List.getElem?_map, eu]
        rfl
      have hzl := hz.len
      rw [List.length_take] at hzl
      refine ⟨b, _, rfl, SqT.of (s3.tup hb), rfl, _, _, rfl, _, _, rfl, rfl, rfl, ?_⟩
      refine ⟨.int u.2, rfl, u.2, rfl, .int p, rfl, _, p, rfl, rfl, p0, .int u.1, rfl, (by show 2 ≤ sizeLine; decide), fun t ht => ⟨small (by omega), s3.trans (.new ht), ?_⟩⟩
      rw [take_snoc e2]
      exact (hz.sm (.new ht)).snoc ⟨t, rfl, upd_same⟩
    · rintro zs H3 ⟨s3, hz⟩ t ht
      rw [List.take_of_length_le (by unfold crsR; rw [List.length_map]; omega)] at hz
      refine q t _ (s3.trans (.new ht)) ⟨⟨zs, upd_same, hz.sm (.new ht)⟩, fun v hv => ?_, by unfold crsR; rw [List.length_map]; exact hl⟩
      obtain ⟨u, hu, rfl⟩ := List.mem_map.mp hv
      exact ⟨⟨Int.emod_nonneg _ (by omega), Int.emod_lt_of_pos _ p0⟩, (hin u hu).1⟩
open Lin (frV vecs Mir)
theorem cu_snoc {a : Nat × Lin.Vc → Int} {x : Nat × Lin.Vc} {i : Nat} : ∀ M : List (Nat × Lin.Vc), Lin.cu a (M ++ [x]) i = Lin.cu a M i + a x * Lin.un x.1 i
  | [] => by
    show a x * Lin.un x.1 i + 0 = 0 + a x * Lin.un x.1 i
    omega
  | y :: M => by
    show a y * Lin.un y.1 i + Lin.cu a (M ++ [x]) i = a y * Lin.un y.1 i + Lin.cu a M i + a x * Lin.un x.1 i
    rw [cu_snoc M]
    omega
theorem vecs_take {L : List (Nat × List Int)} {j : Nat} (h : j < L.length) : vecs (L.take (j + 1)) = vecs (L.take j) ++ [((L[j]).1, vec (L[j]).2)] := by
  have e : L.take (j + 1) = L.take j ++ [L[j]] := by rw [List.take_append_getElem]
  unfold vecs
  rw [e, List.map_append]
  rfl
theorem fr_step {p : Int} {n f : Nat} {L : List (Nat × List Int)} {us : List Int} {j : Nat} (pl : (L.map (·.1)).Nodup) (hj : j < L.length) (ul : us.length = n) (qn : (L[j]).1 < n) (ne : f ≠ (L[j]).1) (h : Lin.Eqv p (vec us) (frV f (vecs (L.take j)))) :
    Lin.Eqv p (vec (us.set (L[j]).1 (-(vec (L[j]).2 f) % p))) (frV f (vecs (L.take (j + 1)))) := by
  intro i
  rw [vec_set (by omega), vecs_take hj]
  have e0 : frV f (vecs (L.take j) ++ [((L[j]).1, vec (L[j]).2)]) i = frV f (vecs (L.take j)) i + -1 * (vec (L[j]).2 f * Lin.un (L[j]).1 i) := by
    show Lin.un f i + -1 * Lin.cu (fun x => x.2 f) (vecs (L.take j) ++ [((L[j]).1, vec (L[j]).2)]) i = Lin.un f i + -1 * Lin.cu (fun x => x.2 f) (vecs (L.take j)) i + -1 * (vec (L[j]).2 f * Lin.un (L[j]).1 i)
    rw [cu_snoc]
    show Lin.un f i + -1 * (Lin.cu (fun x => x.2 f) (vecs (L.take j)) i + vec (L[j]).2 f * Lin.un (L[j]).1 i) = _
    omega
  rw [e0]
  by_cases e : i = (L[j]).1
  · rw [if_pos e, e]
    have z : frV f (vecs (L.take j)) (L[j]).1 = 0 := Lin.fr_other (fun x hx e2 => by
      obtain ⟨y, hy, rfl⟩ := Lin.mem_vecs.mp hx
      rw [← List.take_append_drop j L, List.map_append] at pl
      exact (List.nodup_append.mp pl).2.2 y.1 (List.mem_map.mpr ⟨y, hy, rfl⟩) (L[j]).1 (List.mem_map.mpr ⟨L[j], List.mem_of_getElem? (i := 0) (by rw [List.getElem?_drop]; simp [hj]), rfl⟩) e2) ne
    have u1 : Lin.un (L[j]).1 (L[j]).1 = 1 := if_pos rfl
    rw [z, u1]
    have a := Lin.Cg.mod (p := p) (-(vec (L[j]).2 f))
    have e3 : (0 : Int) + -1 * (vec (L[j]).2 f * 1) = -(vec (L[j]).2 f) := by omega
    rw [e3]
    exact a
  · rw [if_neg e]
    have u0 : Lin.un (L[j]).1 i = 0 := if_neg e
    rw [u0]
    have e3 : frV f (vecs (L.take j)) i + -1 * (vec (L[j]).2 f * 0) = frV f (vecs (L.take j)) i := by simp
    rw [e3]
    exact h i
theorem fr_start {p : Int} {n f : Nat} (h : f < n) : Lin.Eqv p (vec ((List.replicate n (0 : Int)).set f 1)) (frV f (vecs ([] : List (Nat × List Int)))) := by
  intro i
  rw [vec_set (by rw [List.length_replicate]; exact h)]
  show Lin.Cg p _ (Lin.un f i + -1 * 0)
  have z : vec (List.replicate n (0 : Int)) i = 0 := by
    show (List.replicate n (0 : Int)).getD i 0 = 0
    rw [List.getD_eq_getElem?_getD, List.getElem?_replicate]
    split <;> rfl
  by_cases e : i = f
  · rw [if_pos e]
    have u : Lin.un f i = 1 := if_pos e
    rw [u]
    exact ⟨0, by omega⟩
  · rw [if_neg e, z]
    have u : Lin.un f i = 0 := if_neg e
    rw [u]
    exact ⟨0, by omega⟩
def freeL (L : List (Nat × List Int)) (i : Nat) : List Nat := (List.range i).filter fun f => decide (f ∉ L.map (·.1))
theorem free_succ {L : List (Nat × List Int)} {i : Nat} : freeL L (i + 1) = freeL L i ++ if i ∉ L.map (·.1) then [i] else [] := by
  unfold freeL
  rw [List.range_succ, List.filter_append]
  congr 1
  by_cases h : i ∉ L.map (·.1)
  · rw [if_pos h, List.filter_cons_of_pos (by simpa using h)]
    rfl
  · rw [if_neg h, List.filter_cons_of_neg (by simpa using h)]
    rfl
theorem mem_free {L : List (Nat × List Int)} {i f : Nat} : f ∈ freeL L i ↔ f < i ∧ f ∉ L.map (·.1) := by
  unfold freeL
  rw [List.mem_filter, List.mem_range, decide_eq_true_iff]
theorem KvL.valO {H : Hp} {kvs : List (Key × V)} {L : List (Nat × List Int)} (h : KvL H kvs L) (nd : (L.map (·.1)).Nodup) (q : Nat) : (valV kvs (Sum.inl (q : Int))).isSome = decide (q ∈ L.map (·.1)) := by
  by_cases m : q ∈ L.map (·.1)
  · obtain ⟨x, hx, rfl⟩ := List.mem_map.mp m
    obtain ⟨a, e, _⟩ := h.val nd (q := x.1) (us := x.2) hx
    rw [e, decide_eq_true m]
    rfl
  · rw [h.none m, decide_eq_false m]
    rfl
def spMir (P1 P2 : Addr) : Sp := fun vs H Q _ => ∃ (p : Int) (n : Nat) (a : Addr) (k : Zm.Kd) (xs : List V) (rs : List Row), vs = [.int p, .int n, .ref a] ∧ p ∈ ([2, 3, 5, 7, 11, 13] : List Int) ∧ n ≤ 20 ∧ At k H a xs ∧ Rws p n H xs rs ∧ xs.length ≤ 200 ∧ GxR.TabG H P1 ∧ GxR.TabG H P2 ∧
  ∀ (t : Addr) (ys : List V) (ss : List Row) (L : List (Nat × List Int)) (vs : List (List Int)) (H' : Hp), Sm H H' → Nw H t → H' t = some (.lst ys) → Rws p n H' ys ss → ss.map flatR = L.map (·.2) → PL p (2 * n) vs L → Up L → Mir p n rs vs → (∀ v ∈ vs, v.length = 2 * n) → Q (.ref t) H'
theorem inv_all {p : Int} (hp : p ∈ ([2, 3, 5, 7, 11, 13] : List Int)) : ∀ u, 0 < u → u < p → ∃ c, c * u % p = 1 := fun u h0 h1 => ⟨_, (pw_inv hp h0 h1).2.2⟩
theorem ok_mirror (T : Tx K mg A) (B : Tb K mg base A C) : FnOk P w K mg base CX0 8 A.f_mirror A.d_mirror ["p", "posts", "rows"] (spMir C.p_crossed C.p_row_of) := by
  have G_crossed : FnOk P w K mg base CX0 6 A.f_crossed A.d_crossed ["p", "row"] (spCrs C.p_crossed) := ok_crossed T B
  have G_row_leads : FnOk P w K mg base CX0 4 A.f_row_leads A.d_row_leads ["p", "rows"] spRowLeads := ok_row_leads T
  have G_row_of : FnOk P w K mg base CX0 6 A.f_row_of A.d_row_of ["flat"] (spRowOf C.p_row_of) := ok_row_of T B
  have G_plain : FnOk P w K mg base CX0 7 A.f_plain A.d_plain ["p", "posts", "rows"] (spPlainP C.p_row_of) := ok_plain T B
  refine T.d_mirror.F.ok sc_mirror (fun vs H Q E h => ?_) (fun cdv A outer s H vs Q E hr h => ?_)
  · obtain ⟨p, n, a, k, xs, rs, rfl, _⟩ := h
    rfl
  · obtain ⟨p, n, a, k, xs, rs, rfl, hp, n20, ha, hrs, hl, tg1, tg2, q⟩ := h
    have pall : ∀ p ∈ ([2, 3, 5, 7, 11, 13] : List Int), 2 ≤ p ∧ p ≤ 13 := by decide
    obtain ⟨p2, p13⟩ := pall p hp
    have p0 : 0 < p := by omega
    have hxl := hrs.len
    refine ⟨_, (pss_cons (ps_set (i := 3) sc_mirror.nd rfl (.inl rfl) (pe_call G_row_leads (hr.mono (by decide)) (by rfl) T.d_row_leads.g T.d_row_leads.F.kp T.d_row_leads.b .nil pass0 (pa_cons (pv 0) (pa_cons (pe_lc (own := [("row", 8)]) rfl sc_mirror.nd (Zm.pi_kd (pv 2)) (blkOk_by (N := N_mirror) (sc := defScope s_mirror) (by decide +kernel)) (fun _ _ _ _ _ => (pg_name (i := 8) sc_mirror.nd rfl (.inl rfl))) (fun _ _ _ _ _ => pts_nil) (fun _ _ _ _ _ => (pe_call G_crossed (hr.mono (by decide)) (by rfl) T.d_crossed.g T.d_crossed.F.kp T.d_crossed.b .nil pass0 (pa_cons (pv 0) (pa_cons (pv 8) pa_nil))))) pa_nil))))
        (pss_cons (ps_set (i := 4) sc_mirror.nd rfl (.inl rfl) (pe_lst pa_nil))
        (pss_cons (ps_for PassesOwn.never rfl (pi_range1 (by rfl) T.b_range (pa_cons (pe_op op_mul pe_int (pv 1)) pa_nil)) (pg_name (i := 5) sc_mirror.nd rfl (.inl rfl))
        (pss_one (ps_if (pt_cmp (pc_dnotin (hu_of hr) (pv 5) (pv 3)))
        (pss_cons (ps_set (i := 6) sc_mirror.nd rfl (.inl rfl) (pe_op op_rep (pe_lst (pa_cons pe_int pa_nil)) (pe_op op_mul pe_int (pv 1))))
        (pss_cons (ps_asg pe_int (pg_sub (pv 6) (pv 5) set_list))
        (pss_cons (ps_lock (ps_for PassesOwn.never rfl (pi_keys (pv 3)) (pg_name (i := 7) sc_mirror.nd rfl (.inl rfl))
        (pss_one (ps_asg (pe_op op_mod (pe_un un_neg (pe_ix ix_list (pe_dget (hu_of hr) (pv 3) (pv 7) (fun _ _ => rfl)) (pv 5) (fun _ _ => rfl))) (pv 0)) (pg_sub (pv 6) (pv 7) set_list)))))
        (pss_one (ps_expr (pe_bm PySem.F.plainAttrs_list PySem.F.slot_list_append PySem.F.type_list_append mt_append (pv 4) (pa_cons (pe_call G_row_of (hr.mono (by decide)) (by rfl) T.d_row_of.g T.d_row_of.F.kp T.d_row_of.b .nil pass0 (pa_cons (pv 6) pa_nil)) pa_nil)))))))
        pss_nil)))
        (pss_one (ps_ret (pe_call G_plain hr (by rfl) T.d_plain.g T.d_plain.F.kp T.d_plain.b .nil pass0 (pa_cons (pv 0) (pa_cons (pv 1) (pa_cons (pv 4) pa_nil))))))))), ?_⟩
    -- crossed rows
    refine ⟨.int p, rfl, .ref a, rfl, a, k, xs, rfl, ha.sq, fun D hD => lc_it Zm.walkq (fun i H' => Sm H H' ∧ ∃ ys, H' D = some (.lst ys) ∧ Rws p n H' ys ((rs.map (crsR p)).take i)) ⟨.new hD, [], upd_same, by simpa using Rws.nil⟩ (fun i H' _ h => (ha.sm h.1).sq) ?_ ?_⟩
    · rintro i x H1 H2 hi ⟨s1, ys, eD, hy⟩ ⟨rfl, hx⟩
      obtain ⟨b, r, rfl, er, kr⟩ := (hrs.sm s1).rk hx
      refine ⟨rfl, .int p, rfl, .ref b, rfl, p, n, b, r, rfl, p0, n20, kr, s1.tb _ tg1, fun t H3 s3 k3 => ?_⟩
      have eD3 := s3.lst eD
      have ly := hy.len
      rw [List.length_take, List.length_map] at ly
      refine ⟨ys, eD3, small (by omega), (s1.trans s3).put hD, ys ++ [.ref t], upd_same, ?_⟩
      have e2 : (rs.map (crsR p))[i]? = some (crsR p r) := by rw [List.getElem?_map, er]; rfl
      rw [take_snoc e2]
      exact ((hy.sm s3).snoc k3).put eD3
    · rintro H1 ⟨s1, ys, eD, hy⟩
      rw [List.take_of_length_le (by rw [List.length_map]; omega)] at hy
      have ly := hy.len
      rw [List.length_map] at ly
      refine ⟨p, n, D, .l, ys, _, rfl, hp, n20, eD, hy, by omega, fun d kvs L H2 s2 ed kv pl up => ?_⟩
      have ecs : (rs.map (crsR p)).map flatR = Lin.crsF p rs := by
        unfold Lin.crsF
        rw [List.map_map]
        rfl
      rw [ecs] at pl
      have s02 := s1.trans s2
      have lle := pl_le pl
      have kl := kv.len
      -- the free rows
      refine ⟨Nat.zero_le _, fun F hF => ?_⟩
      have nFd : d ≠ F := ne_of_none ed hF
      refine ⟨.int n, rfl, 2, n, rfl, rfl, .inl ⟨by decide, by decide⟩, _, rfl, by omega, by omega, for_range (fun i σ H' => ∃ v5 v6 v7 v8, σ = [some (.int p), some (.int n), some (.ref a), some (.ref d), some (.ref F), v5, v6, v7, v8] ∧ Sm H2 H' ∧ ∃ ys ss, H' F = some (.lst ys) ∧ Rws p n H' ys ss ∧ ss.length = (freeL L i).length ∧ ∀ (j f : Nat) (r : Row), (freeL L i)[j]? = some f → ss[j]? = some r → Lin.Eqv p (vec (flatR r)) (frV f (vecs L)))
        ⟨_, _, _, _, rfl, .new hF, [], [], upd_same, .nil, rfl, fun j f r _ e => by simp at e⟩ ?_ ?_⟩
      · rintro i σ H3 hi ⟨v5, v6, v7, v8, rfl, s3, ys2, ss, eF, hss, sl, hv⟩
        have hi2 : i < 2 * n := by omega
        have ed3 : H3 d = some (.dK kvs) := s3.kp _ _ (by intro ps z; cases z) ed
        have kv3 := kv.sm s3
        have hsl := hss.len
        have fl20 : (freeL L i).length ≤ i := by
          unfold freeL
          exact Nat.le_trans (List.length_filter_le _ _) (by rw [List.length_range]; exact Nat.le_refl _)
        simp only [Int.zero_add]
        refine ⟨.int (i : Nat), rfl, .ref d, rfl, d, _, rfl, DGet.k (k := Sum.inl (i : Nat)) ed3, _, rfl, ?_⟩
        rw [kv3.valO pl.nd]
        refine ite2 (fun e => ?_) (fun e => ?_)
        · have ni : i ∉ L.map (·.1) := by simpa using e
          refine ⟨(by show 1 ≤ sizeLine; decide), fun a1 h1 => ⟨.int n, rfl, 2, n, rfl, rfl, .inl ⟨by decide, by decide⟩, a1, _, _, rfl, rfl, upd_same, by omega, by omega, ?_, fun a2 h2 => ?_⟩⟩
          · exact Nat.le_of_lt (small (by show 1 * (2 * (n : Nat) : Int).toNat ≤ 1000; omega))
          have e2n : (2 * (n : Nat) : Int).toNat = 2 * n := by omega
          rw [rep_one, e2n]
          have h2' : H3 a2 = none := (same_upd h1).free h2
          have S4 : Sm H3 (upd (upd H3 a1 (.lst [.int 0])) a2 (.lst (List.replicate (2 * n) (V.int 0)))) := (Sm.new h1).trans (.new h2)
          have na2 : d ≠ a2 := ne_of_none ed3 h2'
          have nF2 : F ≠ a2 := ne_of_none eF h2'
          refine ⟨.ref a2, rfl, .int (i : Nat), rfl, a2, _, (i : Nat), i, rfl, rfl, upd_same, ixN_nat (by rw [List.length_replicate]; exact hi2), ?_⟩
          have us0 : (List.replicate (2 * n) (V.int 0)).set i (V.int 1) = ((List.replicate (2 * n) (0 : Int)).set i 1).map V.int := by
            rw [List.map_set, List.map_replicate]
          rw [us0]
          have S5 : Sm H3 (upd (upd (upd H3 a1 (.lst [.int 0])) a2 (.lst (List.replicate (2 * n) (V.int 0)))) a2 (.lst (((List.replicate (2 * n) (0 : Int)).set i 1).map V.int))) := S4.put h2'
          have ea5 : upd (upd (upd H3 a1 (.lst [.int 0])) a2 (.lst (List.replicate (2 * n) (V.int 0)))) a2 (.lst (((List.replicate (2 * n) (0 : Int)).set i 1).map V.int)) a2 = some (.lst (((List.replicate (2 * n) (0 : Int)).set i 1).map V.int)) := upd_same
          have st := fr_start (p := p) (n := 2 * n) (f := i) hi2
          have rg0 : Rg p ((List.replicate (2 * n) (0 : Int)).set i 1) := fun u hu => by
            rcases List.mem_or_eq_of_mem_set hu with m | m
            · rw [(List.mem_replicate.mp m).2]
              omega
            · rw [m]
              omega
          have len0 : ((List.replicate (2 * n) (0 : Int)).set i 1).length = 2 * n := by rw [List.length_set, List.length_replicate]
          generalize upd (upd (upd H3 a1 (.lst [.int 0])) a2 (.lst (List.replicate (2 * n) (V.int 0)))) a2 (.lst (((List.replicate (2 * n) (0 : Int)).set i 1).map V.int)) = H5 at S5 ea5 ⊢
          generalize (List.replicate (2 * n) (0 : Int)).set i 1 = us at ea5 st rg0 len0
          have ed5 : H5 d = some (.dK kvs) := S5.kp _ _ (by intro ps z; cases z) ed3
          have kv5 := kv3.sm S5
          -- what the leads say
          refine ⟨d, .dK kvs, ed5, trivial, fun od => ?_⟩
          have kv6 := kv5.lock (o := .frz od (.dK kvs)) ed5
          refine ⟨.ref d, rfl, d, od, rfl, .inl ⟨kvs, upd_same, for_it walk_keys (fun j σ H' => ∃ v7, σ = [some (.int p), some (.int n), some (.ref a), some (.ref d), some (.ref F), some (.int (i : Nat)), some (.ref a2), v7, v8] ∧ ∃ us, H' = upd (upd H5 d (.frz od (.dK kvs))) a2 (.lst (us.map V.int)) ∧ us.length = 2 * n ∧ Rg p us ∧ Lin.Eqv p (vec us) (frV i (vecs (L.take j))))
            ⟨_, rfl, us, ?_, len0, rg0, st⟩ (fun j σ H' _ h => by obtain ⟨_, _, _, rfl, _⟩ := h; rw [upd_ne na2]; exact upd_same) ?_ ?_⟩⟩
          · funext b
            by_cases eb : b = a2
            · rw [eb, upd_ne na2.symm, upd_same]
              exact ea5
            · rw [upd_ne eb]
          · rintro j x σ H6 H7 hj ⟨v7, rfl, us, rfl, ul, rg, ev⟩ ⟨rfl, key, w, ek, rfl⟩
            have hj2 : j < L.length := by omega
            have ed7 : upd (upd H5 d (.frz od (.dK kvs))) a2 (.lst (us.map V.int)) d = some (.frz od (.dK kvs)) := by
              rw [upd_ne na2]
              exact upd_same
            obtain ⟨b, eb, fb⟩ := kv6.get (i := j) (q := (L[j]).1) (us := (L[j]).2) (List.getElem?_eq_getElem hj2)
            rw [ek] at eb
            cases eb
            have m1 := List.getElem_mem hj2
            obtain ⟨c, ec, fc5⟩ := kv5.val pl.nd (q := (L[j]).1) (us := (L[j]).2) m1
            have nc2 : c ≠ a2 := by
              obtain ⟨c', ec', fc3⟩ := kv3.val pl.nd (q := (L[j]).1) (us := (L[j]).2) m1
              rw [ec] at ec'
              cases ec'
              exact ne_of_none fc3 h2'
            have fc7 : upd (upd H5 d (.frz od (.dK kvs))) a2 (.lst (us.map V.int)) c = some (.lst ((L[j]).2.map V.int)) := by
              rw [upd_ne nc2]
              exact fl_upd fc5 ed5
            have qn := pl.plc _ m1
            have ul2 := pl.len _ m1
            have ew : (L[j]).2[i]? = some ((L[j]).2[i]'(by omega)) := List.getElem?_eq_getElem (by omega)
            refine ⟨.ref d, rfl, .int ((L[j]).1 : Nat), rfl, d, .ref c, rfl, .inl ⟨kvs, _, .inr ⟨od, ed7⟩, rfl, ec.symm⟩, .int (i : Nat), rfl, c, _, (i : Nat), .int ((L[j]).2[i]'(by omega)), rfl, rfl, SqL.of fc7, atI_nat (by rw [List.getElem?_map, ew]; rfl), _, rfl, .int p, rfl, _, p, rfl, rfl, p0, ?_⟩
            refine ⟨.ref a2, rfl, .int ((L[j]).1 : Nat), rfl, a2, _, ((L[j]).1 : Nat), (L[j]).1, rfl, rfl, upd_same, ixN_nat (by rw [List.length_map]; omega), ?_⟩
            have ne : i ≠ (L[j]).1 := fun z => ni (by rw [z]; exact List.mem_map.mpr ⟨_, m1, rfl⟩)
            have vi : vec (L[j]).2 i = (L[j]).2[i]'(by omega) := Lin.vec_some ew
            have stp := fr_step (p := p) (n := 2 * n) (f := i) pl.nd hj2 ul qn ne ev
            rw [vi] at stp
            refine ⟨_, rfl, us.set (L[j]).1 (-((L[j]).2[i]'(by omega)) % p), ?_, by rw [List.length_set]; exact ul, fun u hu => ?_, stp⟩
            · rw [upd_upd, List.map_set]
            · rcases List.mem_or_eq_of_mem_set hu with m | m
              · exact rg u m
              · rw [m]
                exact ⟨Int.emod_nonneg _ (by omega), Int.emod_lt_of_pos _ p0⟩
          · rintro σ H6 ⟨v7, rfl, us, rfl, ul, rg, ev⟩
            rw [kl, List.take_length] at ev
            refine ⟨by rw [upd_ne na2]; exact upd_same, ?_⟩
            have e7a : upd (upd (upd H5 d (.frz od (.dK kvs))) a2 (.lst (us.map V.int))) d (.dK kvs) a2 = some (.lst (us.map V.int)) := by
              rw [upd_ne na2.symm]
              exact upd_same
            have S7 : Sm H3 (upd (upd (upd H5 d (.frz od (.dK kvs))) a2 (.lst (us.map V.int))) d (.dK kvs)) := by
              refine ⟨fun b o no h => ?_, fun R ⟨ps, h, t⟩ => ?_⟩
              · by_cases eb : b = d
                · rw [eb] at h ⊢
                  rw [ed3] at h
                  cases h
                  exact upd_same
                · rw [upd_ne eb, upd_ne (ne_of_none h h2'), upd_ne eb]
                  exact S5.kp b o no h
              · have nRd : R ≠ d := ne_of h ed3 (by intro z; cases z)
                obtain ⟨qs, h5, t5⟩ := S5.tb R ⟨ps, h, t⟩
                exact ⟨qs, by rw [upd_ne nRd, upd_ne (ne_of_none h h2'), upd_ne nRd]; exact h5, t5⟩
            generalize upd (upd (upd H5 d (.frz od (.dK kvs))) a2 (.lst (us.map V.int))) d (.dK kvs) = H7 at e7a S7 ⊢
            have s37 := s3.trans S7
            obtain ⟨rf, rrl⟩ := Lin.rowL_flat n us ul
            refine ⟨.ref F, rfl, .inl ⟨rfl, _, SqL.of (S7.lst eF)⟩, .ref a2, rfl, a2, us, n, rfl, e7a, ul, n20, (s02.trans s37).tb _ tg2, fun t H8 s8 w8 => ?_⟩
            have eF8 := s8.lst (S7.lst eF)
            have inr : In p (Lin.rowL us) := fun u hu => by
              have k1 : u.1 ∈ flatR (Lin.rowL us) := List.mem_flatMap.mpr ⟨u, hu, by simp⟩
              have k2 : u.2 ∈ flatR (Lin.rowL us) := List.mem_flatMap.mpr ⟨u, hu, by simp⟩
              rw [rf] at k1 k2
              exact ⟨rg _ k1, rg _ k2⟩
            refine ⟨F, ys2, .ref t, rfl, rfl, eF8, small (by omega), ?_⟩
            have fs1 : freeL L (i + 1) = freeL L i ++ [i] := by rw [free_succ, if_pos ni]
            refine ⟨_, _, _, _, rfl, (s37.trans s8).put hF, ys2 ++ [.ref t], ss ++ [Lin.rowL us], upd_same, (((hss.sm S7).sm s8).snoc ⟨w8, inr, rrl⟩).put eF8, by rw [fs1, List.length_append, List.length_append, sl]; rfl, fun j f r hj hr' => ?_⟩
            rw [fs1] at hj
            by_cases hji : j < (freeL L i).length
            · rw [List.getElem?_append_left hji] at hj
              rw [List.getElem?_append_left (by omega)] at hr'
              exact hv j f r hj hr'
            · have ej : j = (freeL L i).length := by
                have := (List.getElem?_eq_some_iff.mp hj).1
                rw [List.length_append, List.length_singleton] at this
                omega
              rw [List.getElem?_append_right (by omega), ej, Nat.sub_self] at hj
              rw [List.getElem?_append_right (by omega), ej, sl, Nat.sub_self] at hr'
              cases hj
              cases hr'
              rw [rf]
              exact ev
        · have ni : ¬ i ∉ L.map (·.1) := fun z => e (by simpa using z)
          have fs1 : freeL L (i + 1) = freeL L i := by rw [free_succ, if_neg ni, List.append_nil]
          refine ⟨_, _, _, _, rfl, s3, ys2, ss, eF, hss, ?_⟩
          rw [fs1]
          exact ⟨sl, hv⟩
      · rintro σ H3 ⟨v5, v6, v7, v8, rfl, s3, ys2, ss, eF, hss, sl, hv⟩
        have e2n : (2 * (n : Nat) : Int).toNat = 2 * n := by omega
        rw [e2n] at sl hv
        have hsl := hss.len
        have fl20 : (freeL L (2 * n)).length ≤ 2 * n := by
          unfold freeL
          exact Nat.le_trans (List.length_filter_le _ _) (by rw [List.length_range]; exact Nat.le_refl _)
        have s03 := s02.trans s3
        refine ⟨.int p, rfl, .int n, rfl, .ref F, rfl, p, n, F, .l, ys2, ss, rfl, hp, n20, eF, hss, by omega, s03.tb _ tg2, fun t zs us M H4 s4 nw e4 hus em plm upm => ?_⟩
        refine q t zs us M (ss.map flatR) H4 (s03.trans s4) (nw.sm s03) e4 hus em plm upm ?_ ?_
        · refine Lin.mir_of (fs := freeL L (2 * n)) (by omega) (inv_all hp) pl (fun f => mem_free) ?_ (by rw [List.length_map]; exact sl) fun j f v hj hv' => ?_
          · unfold freeL
            exact List.nodup_range.filter _
          · rw [List.getElem?_map] at hv'
            obtain ⟨r, er, rfl⟩ := Option.map_eq_some_iff.mp hv'
            obtain ⟨h1, h2⟩ := hss.fit r (List.mem_of_getElem? er)
            exact ⟨hv j f r hj er, by rw [flat_len, h2], flat_rg h1⟩
        · intro v hv'
          obtain ⟨r, hr', rfl⟩ := List.mem_map.mp hv'
          rw [flat_len, (hss.fit r hr').2]
theorem cg_mod0 {p a : Int} (h : Lin.Cg p a 0) : a % p = 0 := by
  obtain ⟨c, hc⟩ := h
  rw [hc, Int.zero_add]
  exact Int.mul_emod_right ..
/-! ### rows that meet all of a lot with 0 -/
theorem bl_cg {p a : Int} (h : a % p = 0) : Lin.Cg p a 0 := ⟨a / p, by have := Int.emod_def a p; rw [Int.zero_add]; omega⟩
theorem bar_lot0 {p : Int} {m : Nat} {rs : List Row} {r u : Row} (lu : u.length = m) (lr : r.length = m) (lrs : ∀ s ∈ rs, s.length = m) (h : Lin.Lot p (Lin.spn (rs.map flatR)) (vec (flatR r))) (z : ∀ s ∈ rs, metR p u s = 0) : metR p u r = 0 := by
  have key : Lin.Cg p (Lin.dot (Lin.crs (vec (flatR u))) (vec (flatR r)) (2 * m)) 0 := by
    refine Lin.dot_lotR h fun v hv => ?_
    obtain ⟨f, hf, rfl⟩ := hv
    obtain ⟨s, hs, rfl⟩ := List.mem_map.mp hf
    have e := z s hs
    have s1 := Lin.meet_dot (r := u) (s := s) (by rw [lu, lrs s hs])
    rw [lu] at s1
    unfold metR mets at e
    rw [s1] at e
    exact bl_cg e
  have s1 := Lin.meet_dot (r := u) (s := r) (by rw [lu, lr])
  rw [lu] at s1
  unfold metR mets
  rw [s1]
  exact cg_mod0 key
theorem met_flip {p : Int} {r s : Row} (h : metR p r s = 0) : metR p s r = 0 := by
  have anti : ∀ r s : Row, (mets r s).sum = - (mets s r).sum := fun r => by
    induction r with
    | nil => intro s; cases s <;> rfl
    | cons u r ih =>
      intro s
      cases s with
      | nil => rfl
      | cons v s =>
        show (u.1 * v.2 - v.1 * u.2) + (mets r s).sum = -((v.1 * u.2 - u.1 * v.2) + (mets s r).sum)
        rw [ih s]
        omega
  unfold metR at h ⊢
  rw [anti s r]
  exact cg_mod0 (by
    obtain ⟨x, hx⟩ := bl_cg h
    exact ⟨-x, by rw [hx]; grind⟩)
theorem lot_row {p : Int} {rs : List Row} {r : Row} (h : r ∈ rs) : Lin.Lot p (Lin.spn (rs.map flatR)) (vec (flatR r)) := .of ⟨flatR r, List.mem_map.mpr ⟨r, h, rfl⟩, rfl⟩
/-- what meets the rows of a lot with 0 meets any rows that span it so -/
theorem has_due {p : Int} {m : Nat} {ss rs : List Row} {r : Row} (lr : r.length = m) (lss : ∀ s ∈ ss, s.length = m) (lrs : ∀ s ∈ rs, s.length = m) (sp : Span p ss rs) : (ss.all fun s => decide (metR p r s = 0)) = true ↔ ∀ s ∈ rs, metR p s r = 0 := by
  rw [List.all_eq_true]
  constructor
  · intro h s hs
    exact met_flip (bar_lot0 lr (lrs s hs) lss ((sp _).mpr (lot_row hs)) fun u hu => of_decide_eq_true (h u hu))
  · intro h s hs
    exact decide_eq_true (bar_lot0 lr (lss s hs) lrs ((sp _).mp (lot_row hs)) fun u hu => met_flip (h u hu))
theorem th_span {p : Int} {n : Nat} {vs : List (List Int)} {L : List (Nat × List Int)} {us : List Row} (pl : PL p n vs L) (e : us.map flatR = L.map (·.2)) (u : Lin.Vc) : Lin.Lot p (Lin.spn (us.map flatR)) u ↔ Lin.Lot p (Lin.spn vs) u := by
  rw [← pl.lot u, e]
  refine Lin.Lot.iff (fun v hv => ?_) (fun v hv => ?_) u
  · obtain ⟨f, hf, rfl⟩ := hv
    obtain ⟨x, hx, rfl⟩ := List.mem_map.mp hf
    exact .of ⟨(x.1, vec x.2), Lin.mem_vecs.mpr ⟨x, hx, rfl⟩, rfl⟩
  · obtain ⟨y, hy, rfl⟩ := hv
    obtain ⟨x, hx, rfl⟩ := Lin.mem_vecs.mp hy
    exact .of ⟨x.2, List.mem_map.mpr ⟨x, hx, rfl⟩, rfl⟩
/-! ### mirrors and plain rows -/
theorem rows_eq {rs ss : List Row} (h : rs.map flatR = ss.map flatR) : rs = ss := by
  have inj : ∀ {rs ss : List Row}, rs.map flatR = ss.map flatR → rs = ss := by
    intro rs
    induction rs with
    | nil =>
      intro ss h
      cases ss with
      | nil => rfl
      | cons _ _ => cases h
    | cons r rs ih =>
      intro ss h
      cases ss with
      | nil => cases h
      | cons s ss =>
        obtain ⟨h1, h2⟩ := List.cons.inj h
        rw [Lin.flat_inj h1, ih h2]
  exact inj h
theorem zip_snd {qs : List Nat} {fs : List (List Int)} (h : fs.length = qs.length) : (qs.zip fs).map (·.2) = fs := by
  rw [List.map_snd_zip]
  omega
theorem tab_put {H : Hp} {P L : Addr} {ys : List V} {o : HO} (h : GxR.TabG H P) (e : H L = some (.lst ys)) : GxR.TabG (upd H L o) P := by
  obtain ⟨ps, z, t⟩ := h
  exact ⟨ps, by rw [upd_ne (ne_of z e (by intro w; cases w))]; exact z, t⟩
theorem plain_is2 {p : Int} {m : Nat} {qs : List Nat} {rs us : List Row} {vs : List (List Int)} {L : List (Nat × List Int)} (p1 : 1 < p) (pln : Pln p (2 * m) qs (rs.map flatR)) (sp : ∀ u, Lin.Lot p (Lin.spn vs) u ↔ Lin.Lot p (Lin.spn (rs.map flatR)) u) (pl : PL p (2 * m) vs L) (up : Up L) (e : us.map flatR = L.map (·.2)) : us = rs := by
  obtain ⟨h1, h2⟩ := pln.pl
  have k := pl.one p1 h1 up h2 sp
  apply rows_eq
  rw [e, k]
  exact zip_snd pln.len
theorem rows_span {p : Int} {n : Nat} {vs : List (List Int)} {L : List (Nat × List Int)} {us : List Row} (pl : PL p n vs L) (e : us.map flatR = L.map (·.2)) (u : Lin.Vc) : Lin.Lot p (Lin.spn (us.map flatR)) u ↔ Lin.Lot p (Lin.spn vs) u := by
  rw [← pl.lot u, e]
  refine Lin.Lot.iff (fun v hv => ?_) (fun v hv => ?_) u
  · obtain ⟨f, hf, rfl⟩ := hv
    obtain ⟨x, hx, rfl⟩ := List.mem_map.mp hf
    exact .of ⟨(x.1, vec x.2), Lin.mem_vecs.mpr ⟨x, hx, rfl⟩, rfl⟩
  · obtain ⟨y, hy, rfl⟩ := hv
    obtain ⟨x, hx, rfl⟩ := Lin.mem_vecs.mp hy
    exact .of ⟨x.2, List.mem_map.mpr ⟨x, hx, rfl⟩, rfl⟩
theorem mir_same {p : Int} {n : Nat} {rs : List Row} {vs ws : List (List Int)} (h1 : Mir p n rs vs) (h2 : Mir p n rs ws) (hv : ∀ v ∈ vs, v.length = 2 * n) (hw : ∀ v ∈ ws, v.length = 2 * n) (u : Lin.Vc) : Lin.Lot p (Lin.spn vs) u ↔ Lin.Lot p (Lin.spn ws) u := by
  refine Lin.Lot.iff (fun v hv' => ?_) (fun v hv' => ?_) u
  · obtain ⟨f, hf, rfl⟩ := hv'
    have sf := Lin.sup_vec (hv f hf)
    exact (h2.ker _ sf).mpr ((h1.ker _ sf).mp (.of ⟨f, hf, rfl⟩))
  · obtain ⟨f, hf, rfl⟩ := hv'
    have sf := Lin.sup_vec (hw f hf)
    exact (h1.ker _ sf).mpr ((h2.ker _ sf).mp (.of ⟨f, hf, rfl⟩))
theorem met_none {p : Int} {n : Nat} {rs us : List Row} {vs : List (List Int)} {L : List (Nat × List Int)} (p0 : 0 < p) (h : Mir p n rs vs) (pl : PL p (2 * n) vs L) (e : us.map flatR = L.map (·.2)) {r u : Row} (hr : r ∈ rs) (hu : u ∈ us) (lr : r.length = n) (lu : u.length = n) : metR p u r = 0 := by
  have lt := (rows_span pl e (vec (flatR u))).mp (.of ⟨flatR u, List.mem_map.mpr ⟨u, hu, rfl⟩, rfl⟩)
  have k := (h.ker (vec (flatR u)) (Lin.sup_vec (by rw [flat_len, lu]))).mp lt r hr
  have s1 := Lin.meet_dot (r := u) (s := r) (by omega)
  rw [lu, Lin.dot_crs] at s1
  unfold metR mets
  rw [s1]
  obtain ⟨c, hc⟩ := k
  rw [hc]
  have e2 : -(0 + p * c) = p * (-c) := by grind
  rw [e2]
  exact Int.mul_emod_right ..
theorem PL.to {p : Int} {n : Nat} {fs gs : List (List Int)} {L : List (Nat × List Int)} (h : PL p n fs L) (e : ∀ u, Lin.Lot p (Lin.spn gs) u ↔ Lin.Lot p (Lin.spn fs) u) : PL p n gs L := ⟨h.len, h.rg, h.plc, h.nd, h.leads, h.ahead, fun u => (h.lot u).trans (e u).symm⟩
/-! ### is_in -/
def spIsIn : Sp := fun vs H Q _ => ∃ (p : Int) (n : Nat) (a b : Addr) (k : Zm.Kd) (xs : List V) (rs : List Row) (r : Row), vs = [.int p, .int n, .ref a, .ref b] ∧ p ∈ ([2, 3, 5, 7, 11, 13] : List Int) ∧ n ≤ 20 ∧ At k H a xs ∧ Rws p n H xs rs ∧ xs.length ≤ 200 ∧ Rw H b r ∧ In p r ∧ r.length = n ∧
  ∀ (t : Bool) (H' : Hp), Sm H H' → (t = true ↔ Lin.Lot p (Lin.spn (rs.map flatR)) (vec (flatR r))) → Q (.bl t) H'
theorem ok_is_in (T : Tx K mg A) : FnOk P w K mg base CX0 5 A.f_is_in A.d_is_in ["p", "posts", "rows", "row"] spIsIn := by
  have G_first_place : FnOk P w K mg base CX0 1 A.f_first_place A.d_first_place ["flat"] spFirst := ok_first_place T
  have G_cleared : FnOk P w K mg base CX0 2 A.f_cleared A.d_cleared ["p", "flat", "leads"] spClear := ok_cleared T
  have G_flat_of : FnOk P w K mg base CX0 1 A.f_flat_of A.d_flat_of ["row"] spFlat := ok_flat_of T
  have G_row_leads : FnOk P w K mg base CX0 4 A.f_row_leads A.d_row_leads ["p", "rows"] spRowLeads := ok_row_leads T
  refine T.d_is_in.F.ok sc_is_in (fun vs H Q E h => ?_) (fun cdv A outer s H vs Q E hr h => ?_)
  · obtain ⟨p, n, a, b, k, xs, rs, r, rfl, _⟩ := h
    rfl
  · obtain ⟨p, n, a, b, k, xs, rs, r, rfl, hp, n20, ha, hrs, hl, hb, hin, hrl, q⟩ := h
    have pall : ∀ p ∈ ([2, 3, 5, 7, 11, 13] : List Int), 2 ≤ p ∧ p ≤ 13 := by decide
    obtain ⟨p2, p13⟩ := pall p hp
    have p0 : 0 < p := by omega
    refine ⟨_, (pss_one (ps_ret (pe_cmpR op_isN (pe_call G_first_place (hr.mono (by decide)) (by rfl) T.d_first_place.g T.d_first_place.F.kp T.d_first_place.b .nil pass0 (pa_cons (pe_call G_cleared (hr.mono (by decide)) (by rfl) T.d_cleared.g T.d_cleared.F.kp T.d_cleared.b .nil pass0 (pa_cons (pv 0) (pa_cons (pe_call G_flat_of (hr.mono (by decide)) (by rfl) T.d_flat_of.g T.d_flat_of.F.kp T.d_flat_of.b .nil pass0 (pa_cons (pv 3) pa_nil)) (pa_cons (pe_call G_row_leads hr (by rfl) T.d_row_leads.g T.d_row_leads.F.kp T.d_row_leads.b .nil pass0 (pa_cons (pv 0) (pa_cons (pv 2) pa_nil))) pa_nil)))) pa_nil)) pe_non (nomark _)))), ?_⟩
    refine ⟨.int p, rfl, .ref b, rfl, b, r, rfl, hb, by omega, fun t H1 s1 _ f1 => ?_⟩
    refine ⟨.int p, rfl, .ref a, rfl, p, n, a, k, xs, rs, rfl, hp, n20, ha.sm s1, hrs.sm s1, hl, fun d kvs L H2 s2 ed kv pl up => ?_⟩
    have fl : (flatR r).length = 2 * n := by rw [flat_len, hrl]
    have rg := flat_rg hin
    have cl := Lin.clear_len (p := p) L pl.len fl
    have z := pl.zero p0 fl rg
    refine ⟨p, 2 * n, t, d, .l, _, kvs, L, rfl, p0, p13, by omega, s2.lst f1, fl, rg, ed, kv, pl.nd, fun x hx => ⟨pl.len x hx, pl.plc x hx⟩, fun t2 k2 H3 s3 f3 => ?_⟩
    have s := (s1.trans s2).trans s3
    refine ⟨t2, k2, _, rfl, f3, by omega, fun i u H4 eu u0 _ s4 => ?_, fun H4 zz s4 => ?_⟩
    · refine ⟨rfl, q false H4 (s.trans s4) ⟨fun e => (by cases e), fun lt => ?_⟩⟩
      exact absurd (z.mpr lt u (List.mem_of_getElem? eu)) u0
    · exact ⟨rfl, q true H4 (s.trans s4) ⟨fun _ => z.mp zz, fun _ => rfl⟩⟩
def spPower : Sp := fun vs H Q _ => ∃ b m : Nat, vs = [.int b, .int m] ∧ b ≤ 13 ∧ m ≤ 20 ∧ Q (.int ((b ^ m : Nat))) H
theorem ok__law_power (T : Tx K mg A) : FnOk P w K mg base CX0 1 A.f__law_power A.d__law_power ["_law_number", "_law_many"] spPower := by
  refine T.d__law_power.F.ok sc__law_power (fun vs H Q E h => ?_) (fun cdv A outer s H vs Q E hr h => ?_)
  · obtain ⟨b, m, rfl, _⟩ := h
    rfl
  · obtain ⟨b, m, rfl, b13, m20, q⟩ := h
    refine ⟨_, (pss_cons (ps_set (i := 2) sc__law_power.nd rfl (.inl rfl) pe_int)
        (pss_cons (ps_for PassesOwn.never rfl (pi_range1 (by rfl) T.b_range (pa_cons (pv 1) pa_nil)) (pg_name (i := 3) sc__law_power.nd rfl (.inl rfl))
        (pss_one (ps_set (i := 2) sc__law_power.nd rfl (.inl rfl) (pe_op op_mul (pv 2) (pv 0)))))
        (pss_one (ps_ret (pv 2))))), ?_⟩
    refine ⟨.int (m : Nat), rfl, m, rfl, by omega, by omega, for_range (fun i σ H' => ∃ v3, σ = [some (.int (b : Nat)), some (.int (m : Nat)), some (.int ((b ^ i : Nat))), v3] ∧ H' = H) ⟨_, rfl, rfl⟩ ?_ ?_⟩
    · rintro i σ H1 hi ⟨v3, rfl, rfl⟩
      refine ⟨.int ((b ^ i : Nat)), rfl, .int (b : Nat), rfl, _, _, rfl, rfl, .inr ⟨by omega, by omega⟩, ?_⟩
      refine ⟨some (.int (0 + (i : Nat))), ?_, rfl⟩
      dsimp only
      rw [Nat.pow_succ, Int.natCast_mul]
      rfl
    · rintro σ H1 ⟨v3, rfl, rfl⟩
      rw [Int.toNat_natCast]
      exact ⟨.int ((b ^ m : Nat)), rfl, q⟩
def spTruth : Sp := fun vs H Q _ => ∃ b : Bool, vs = [.bl b, .bl b] ∧ Q (.bl true) H
theorem ok__law_truth (T : Tx K mg A) : FnOk P w K mg base CX0 1 A.f__law_truth A.d__law_truth ["_law_found", "_law_due"] spTruth := by
  refine T.d__law_truth.F.ok sc__law_truth (fun vs H Q E h => ?_) (fun cdv A outer s H vs Q E hr h => ?_)
  · obtain ⟨b, rfl, _⟩ := h
    rfl
  · obtain ⟨b, rfl, q⟩ := h
    refine ⟨_, (pss_one (ps_ret (pe_and (pe_callB call_isi (by rfl) T.b_isinstance PyProof.Rows.boot_isinstance (pa_cons (pv 0) (pa_cons (pe_bltn (v := .ty "bool") (by rfl) T.b_bool PyProof.Rows.boot_bool rfl) pa_nil))) (pe_one (pe_cmpR op_eq (pv 0) (pv 1) (nomark _)))))), ?_⟩
    refine ⟨.bl b, rfl, .bl b, _, _, _, true, rfl, .ty "bool", .base (.bl b), kit_ty (by decide +kernel), _, rfl, ?_⟩
    refine ⟨.bl b, rfl, .bl b, rfl, rfl, ?_⟩
    rw [decide_eq_true rfl]
    exact q
-- CUT
theorem Rws.app {p : Int} {n : Nat} {H : Hp} {xs ys : List V} {rs ss : List Row} (h1 : Rws p n H xs rs) (h2 : Rws p n H ys ss) : Rws p n H (xs ++ ys) (rs ++ ss) := by
  refine ⟨by rw [List.length_append, List.length_append, h1.len, h2.len], fun {j x} e => ?_, fun s hs => ?_⟩
  · by_cases hj : j < xs.length
    · rw [List.getElem?_append_left hj] at e
      rw [List.getElem?_append_left (by rw [← h1.len]; exact hj)]
      exact h1.get e
    · rw [List.getElem?_append_right (by omega)] at e
      rw [List.getElem?_append_right (by rw [← h1.len]; omega), ← h1.len]
      exact h2.get e
  · rcases List.mem_append.mp hs with m | m
    · exact h1.fit s m
    · exact h2.fit s m
/-! ### all sums of multiples of rows -/
theorem all_lenP {p : Int} : ∀ (rs acc : List Row), (Lin.allP p acc rs).length = acc.length * p.toNat ^ rs.length
  | [], acc => by simp [Lin.allP]
  | r :: rs, acc => by
    have ll : ∀ ys : List Row, (Lin.allS p ys r).length = ys.length * p.toNat := fun ys => by
      unfold Lin.allS
      induction ys with
      | nil => simp
      | cons y ys ih =>
        rw [List.flatMap_cons, List.length_append, ih, List.length_map, List.length_range, List.length_cons, Nat.succ_mul]
        omega
    show (Lin.allP p (Lin.allS p acc r) rs).length = _
    rw [all_lenP rs, ll, List.length_cons, Nat.pow_succ, Nat.mul_assoc, Nat.mul_comm p.toNat]
theorem pow_le {a i n : Nat} (h : i ≤ n) (a1 : 1 ≤ a) : a ^ i ≤ a ^ n := Nat.pow_le_pow_right a1 h
def spAll : Sp := fun vs H Q _ => ∃ (p : Int) (m : Nat) (b : Addr) (kd : Zm.Kd) (xs : List V) (rs : List Row), vs = [.int p, .int m, .ref b] ∧ 2 ≤ p ∧ p ≤ 13 ∧ m ≤ 20 ∧ At kd H b xs ∧ Rws p m H xs rs ∧ p.toNat ^ rs.length ≤ 1000 ∧
  ∀ (t : Addr) (ys : List V) (H' : Hp), Same H H' → H t = none → H' t = some (.lst ys) → Rws p m H' ys (Lin.allP p [noR m] rs) → Q (.ref t) H'
set_option maxHeartbeats 4000000 in
theorem ok__law_all (T : Tx K mg A) : FnOk P w K mg base CX0 2 A.f__law_all A.d__law_all ["_law_p", "_law_posts", "_law_rows"] spAll := by
  have G__law_added : FnOk P w K mg base CX0 1 A.f__law_added A.d__law_added ["_law_p", "_law_one", "_law_other"] spLAdd := ok__law_added T
  have G__law_times : FnOk P w K mg base CX0 1 A.f__law_times A.d__law_times ["_law_p", "_law_number", "_law_row_here"] spLTim := ok__law_times T
  refine T.d__law_all.F.ok sc__law_all (fun vs H Q E h => ?_) (fun cdv A' outer s H vs Q E hr h => ?_)
  · obtain ⟨p, m, b, kd, xs, rs, rfl, _⟩ := h
    rfl
  · obtain ⟨p, m, b, kd, xs, rs, rfl, p2, p13, m20, hb, hrs, few, q⟩ := h
    have p0 : 0 < p := by omega
    have xl := hrs.len
    refine ⟨_, (pss_cons (ps_set (i := 3) sc__law_all.nd rfl (.inl rfl) (pe_lst (pa_cons (pe_op Gx.op_repA (pe_tup (pa_cons (pe_tup (pa_cons pe_int (pa_cons pe_int pa_nil))) pa_nil)) (pv 1)) pa_nil)))
        (pss_cons (ps_for PassesOwn.never rfl (Zm.pi_kd (pv 2)) (pg_name (i := 4) sc__law_all.nd rfl (.inr rfl))
        (pss_cons (ps_setLc (i := 5) (own := [("_law_k", 8)]) rfl sc__law_all.nd rfl rfl (sw_true rfl rfl rfl (by decide +kernel)) (pi_range1 (by rfl) T.b_range (pa_cons (pv 0) pa_nil)) (blkOk_by (N := N__law_all) (sc := defScope s__law_all) (by decide +kernel)) (fun _ _ _ _ _ => (pg_name (i := 8) sc__law_all.nd rfl (.inl rfl))) (fun _ _ _ _ _ => pts_nil) (fun _ _ _ _ _ => (pe_call G__law_times hr (by rfl) T.d__law_times.g T.d__law_times.F.kp T.d__law_times.b .nil pass0 (pa_cons (pv 0) (pa_cons (pv 8) (pa_cons (pv 4) pa_nil))))))
        (pss_cons (ps_set (i := 6) sc__law_all.nd rfl (.inl rfl) (pe_lst pa_nil))
        (pss_cons (ps_for PassesOwn.never rfl (pi_list (pv 3)) (pg_name (i := 7) sc__law_all.nd rfl (.inr rfl))
        (pss_one (ps_set (i := 6) sc__law_all.nd rfl (.inl rfl) (pe_op op_cat (pv 6) (pe_lc (own := [("_law_other", 9)]) rfl sc__law_all.nd (pi_list (pv 5)) (blkOk_by (N := N__law_all) (sc := defScope s__law_all) (by decide +kernel)) (fun _ _ _ _ _ => (pg_name (i := 9) sc__law_all.nd rfl (.inl rfl))) (fun _ _ _ _ _ => pts_nil) (fun _ _ _ _ _ => (pe_call G__law_added hr (by rfl) T.d__law_added.g T.d__law_added.F.kp T.d__law_added.b .nil pass0 (pa_cons (pv 0) (pa_cons (pv 7) (pa_cons (pv 9) pa_nil))))))))))
        (pss_one (ps_set (i := 3) sc__law_all.nd rfl (.inl rfl) (pv 6)))))))
        (pss_one (ps_ret (pv 3))))), ?_⟩
    refine read_rep (i := 1) (m := m) rfl m20 fun t0 H0 s0 w0 => ⟨(by show 1 ≤ sizeLine; decide), fun l0 hl0 => ?_⟩
    have k0 : Rk p m (upd H0 l0 (.lst [.ref t0])) t0 (noR m) := Rk.sm ⟨w0, in_noR p0 _, by simp [noR]⟩ (.new hl0)
    have s1 : Same H (upd H0 l0 (.lst [.ref t0])) := s0.trans (same_upd hl0)
    have hn0 : H l0 = none := by
      cases e : H l0 with
      | none => rfl
      | some o =>
        rw [s0 _ _ e] at hl0
        cases hl0
    have el0 : upd H0 l0 (.lst [.ref t0]) l0 = some (.lst [.ref t0]) := upd_same
    generalize upd H0 l0 (.lst [.ref t0]) = H1 at s1 k0 el0 ⊢
    refine ⟨.ref b, rfl, b, kd, xs, rfl, (hb.same s1).sq, for_it Zm.walkq (fun i σ H' => ∃ F v4 v5 v6 v7, σ = [some (.int p), some (.int (m : Nat)), some (.ref b), some (.ref F), v4, v5, v6, v7, none, none] ∧ Same H H' ∧ H F = none ∧ ∃ ys, H' F = some (.lst ys) ∧ Rws p m H' ys (Lin.allP p [noR m] (rs.take i)))
      ⟨l0, _, _, _, _, rfl, s1, hn0, _, el0, ?_⟩ (fun i σ H' _ h => by obtain ⟨_, _, _, _, _, _, s, _⟩ := h; exact (hb.same s).sq) ?_ ?_⟩
    · have := (Rws.nil (p := p) (n := m) (H := H1)).snoc k0
      exact this
    · rintro i x σ H2 H2' hi ⟨F, v4, v5, v6, v7, rfl, s2, nF, ys, eF, hys⟩ hx
      have hx' : H2' = H2 ∧ xs[i]? = some x := by
        cases kd with
        | l => exact ⟨hx.1, hx.2⟩
        | t => exact ⟨hx.1, hx.2⟩
      obtain ⟨rfl, hx'⟩ := hx'
      obtain ⟨tr, r, rfl, er, kr⟩ := (hrs.sm (.of_same s2)).rk hx'
      have hil : i < rs.length := by rw [← xl]; exact (List.getElem?_eq_some_iff.mp hx').1
      have p1 : 1 ≤ p.toNat := by omega
      have big : (Lin.allP p [noR m] (rs.take i)).length * p.toNat ≤ 1000 := by
        rw [all_lenP, List.length_singleton, Nat.one_mul, List.length_take, Nat.min_eq_left (by omega), ← Nat.pow_succ]
        exact Nat.le_trans (pow_le hil p1) few
      -- the multiples
      refine ⟨.int p, rfl, p, rfl, by omega, by omega, fun S hS => lc_range (fun j H' => Same H2' H' ∧ ∃ zs, H' S = some (.lst zs) ∧ Rws p m H' zs ((List.range j).map fun k => timR p (k : Nat) r)) ⟨same_upd hS, [], upd_same, .nil⟩ ?_ ?_⟩
      · rintro j H3 hj ⟨s3, zs, eS, hzs⟩
        have zl := hzs.len
        rw [List.length_map, List.length_range] at zl
        have e0 : (0 + (j : Nat) : Int) = (j : Nat) := by omega
        rw [e0]
        refine ⟨rfl, .int p, rfl, .int (j : Nat), rfl, .ref tr, rfl, p, (j : Nat), m, tr, r, rfl, p0, p13, by omega, by omega, m20, kr.sm (.of_same s3), fun t4 H4 s4 k4 => ?_⟩
        refine ⟨zs, s4 _ _ eS, small (by omega), same_put (s3.trans s4) hS, zs ++ [.ref t4], upd_same, ?_⟩
        rw [List.range_succ, List.map_append]
        exact ((hzs.sm (.of_same s4)).snoc k4).put (s4 _ _ eS)
      · rintro H3 ⟨s3, zs, eS, hzs⟩
        have zl := hzs.len
        rw [List.length_map, List.length_range] at zl
        refine ⟨Nat.zero_le _, fun M hM => ?_⟩
        have s34 : Same H2' (upd H3 M (.lst [])) := s3.trans (same_upd hM)
        have hM0 : H M = none := by
          cases e : H M with
          | none => rfl
          | some o =>
            rw [s3 _ _ (s2 _ _ e)] at hM
            cases hM
        have eM0 : upd H3 M (.lst []) M = some (.lst []) := upd_same
        have eS4 := same_upd (o := .lst []) hM _ _ eS
        have hzs4 := hzs.sm (.new (o := .lst []) hM)
        generalize upd H3 M (.lst []) = H4 at s34 eM0 eS4 hzs4 ⊢
        have eF4 := s34 _ _ eF
        have hys4 := hys.sm (.of_same s34)
        have yl := hys.len
        refine ⟨.ref F, rfl, F, rfl, ⟨_, SqL.of eF4⟩, for_it walk_list (fun j σ H' => ∃ M v7, σ = [some (.int p), some (.int (m : Nat)), some (.ref b), some (.ref F), some (.ref tr), some (.ref S), some (.ref M), v7, none, none] ∧ Same H4 H' ∧ H M = none ∧ ∃ ms, H' M = some (.lst ms) ∧ Rws p m H' ms (((Lin.allP p [noR m] (rs.take i)).take j).flatMap fun a => (List.range p.toNat).map fun k => addR p a (timR p (k : Nat) r)))
          ⟨M, _, rfl, Same.refl _, hM0, [], eM0, by rw [List.take_zero]; exact .nil⟩ (fun j σ H' _ h => by obtain ⟨_, _, _, s, _⟩ := h; exact SqL.of (s _ _ eF4)) ?_ ?_⟩
        · rintro j y σ H5 H5' hj ⟨M', v7', rfl, s5, nM, ms, eM, hms⟩ ⟨rfl, hy⟩
          obtain ⟨ty, u, rfl, eu, ku⟩ := (hys4.sm (.of_same s5)).rk hy
          have hj2 : j < ys.length := (List.getElem?_eq_some_iff.mp hy).1
          have ml := hms.len
          have fl : ∀ l : List Row, (l.flatMap fun a => (List.range p.toNat).map fun k => addR p a (timR p (k : Nat) r)).length = l.length * p.toNat := fun l => by
            induction l with
            | nil => simp
            | cons a l ih =>
              rw [List.flatMap_cons, List.length_append, ih, List.length_map, List.length_range, List.length_cons, Nat.succ_mul]
              omega
          rw [fl, List.length_take, Nat.min_eq_left (by omega)] at ml
          have jb : (j + 1) * p.toNat ≤ 1000 := Nat.le_trans (Nat.mul_le_mul_right _ (by omega)) big
          rw [Nat.succ_mul] at jb
          refine ⟨.ref M', rfl, .ref S, rfl, S, rfl, ⟨_, SqL.of (s5 _ _ eS4)⟩, fun O hO => lc_it walk_list (fun n H' => Same H5' H' ∧ ∃ os, H' O = some (.lst os) ∧ Rws p m H' os ((List.range n).map fun k => addR p u (timR p (k : Nat) r))) ⟨same_upd hO, [], upd_same, .nil⟩ (fun n H' _ h => SqL.of (h.1 _ _ (s5 _ _ eS4))) ?_ ?_⟩
          · rintro n z H6 H6' hn ⟨s6, os, eO, hos⟩ ⟨rfl, hz⟩
            obtain ⟨tz, v, rfl, ev, kv⟩ := (((hzs4.sm (.of_same s5)).sm (.of_same s6))).rk hz
            have hn2 := (List.getElem?_eq_some_iff.mp hz).1
            rw [List.getElem?_map, List.getElem?_range (by omega)] at ev
            cases ev
            have ol := hos.len
            rw [List.length_map, List.length_range] at ol
            refine ⟨rfl, .int p, rfl, .ref ty, rfl, .ref tz, rfl, p, m, ty, tz, u, _, rfl, p0, p13, m20, ku.sm (.of_same s6), kv, fun t7 H7 s7 k7 => ?_⟩
            refine ⟨os, s7 _ _ eO, small (by omega), same_put (s6.trans s7) hO, os ++ [.ref t7], upd_same, ?_⟩
            rw [List.range_succ, List.map_append]
            exact ((hos.sm (.of_same s7)).snoc k7).put (s7 _ _ eO)
          · rintro H6 ⟨s6, os, eO, hos⟩
            rw [zl] at hos
            have ol := hos.len
            rw [List.length_map, List.length_range] at ol
            refine ⟨M', O, ms, os, rfl, rfl, s6 _ _ eM, eO, Nat.le_of_lt (small (by omega)), fun M2 hM2 => ?_⟩
            have nM2 : H M2 = none := by
              cases e : H M2 with
              | none => rfl
              | some o =>
                rw [s6 _ _ (s5 _ _ (s34 _ _ (s2 _ _ e)))] at hM2
                cases hM2
            refine ⟨M2, _, rfl, (s5.trans s6).trans (same_upd hM2), nM2, _, upd_same, ?_⟩
            rw [take_snoc eu, List.flatMap_append, List.flatMap_singleton]
            exact (((hms.sm (.of_same s6)).app hos)).sm (.new hM2)
        · rintro σ H5 ⟨M', v7', rfl, s5, nM, ms, eM, hms⟩
          rw [yl, List.take_length] at hms
          refine ⟨.ref M', rfl, M', _, _, _, _, rfl, (s2.trans s34).trans s5, nM, ms, eM, ?_⟩
          rw [take_snoc er, Lin.all_snoc]
          exact hms
    · rintro σ H2 ⟨F, v4, v5, v6, v7, rfl, s2, nF, ys, eF, hys⟩
      rw [xl, List.take_length] at hys
      exact ⟨.ref F, rfl, q F ys H2 s2 nF eF hys⟩
/-! ### the law's own meet, rows and plain rows looked at -/
def spLMeet : Sp := fun vs H Q _ => ∃ (p : Int) (m : Nat) (a b : Addr) (r s : Row), vs = [.int p, .ref a, .ref b] ∧ 0 < p ∧ p ≤ 13 ∧ m ≤ 20 ∧ Rk p m H a r ∧ Rk p m H b s ∧ ∀ H', Same H H' → Q (.int (metR p r s)) H'
theorem ok__law_meet (T : Tx K mg A) : FnOk P w K mg base CX0 1 A.f__law_meet A.d__law_meet ["_law_p", "_law_one", "_law_other"] spLMeet := by
  refine T.d__law_meet.F.ok sc__law_meet (fun vs H Q E h => ?_) (fun cdv A outer s H vs Q E hr h => ?_)
  · obtain ⟨p, m, a, b, r, s, rfl, _⟩ := h
    rfl
  · obtain ⟨p, m, a, b, r, s', rfl, p0, p13, hm, hk, hk2, q⟩ := h
    have hf := hk.fit p13 hm
    have hf' := hk2.fit p13 hm
    obtain ⟨⟨xs, ha, hp⟩, _, hl⟩ := hk
    obtain ⟨⟨ys, hb, hp2⟩, _, hl2⟩ := hk2
    have hxl := hp.len
    have hyl := hp2.len
    refine ⟨_, (pss_one (ps_ret (pe_op op_mod (pe_callB (cr_sum rfl) (by rfl) T.b_sum PyProof.Rows.boot_sum (pa_cons (pe_lc (own := [("_law_x", 3), ("_law_y", 4), ("_law_right", 5), ("_law_down", 6)]) (g := (gTup K 2 (gCons (gTup K 2 (gCons (gName 3) (gCons (gName 4) gNil))) (gCons (gTup K 2 (gCons (gName 5) (gCons (gName 6) gNil))) gNil)))) rfl sc__law_meet.nd ((Zm.pi_zip2 .t .t) (by rfl) T.b_zip (pa_cons (pv 1) (pa_cons (pv 2) pa_nil))) (blkOk_by (N := N__law_meet) (sc := defScope s__law_meet) (by decide +kernel)) (fun _ _ _ _ _ => (pg_tup rfl (pgs_cons (pg_tup rfl (pgs_cons (pg_name (i := 3) sc__law_meet.nd rfl (.inl rfl)) (pgs_cons (pg_name (i := 4) sc__law_meet.nd rfl (.inl rfl)) pgs_nil))) (pgs_cons (pg_tup rfl (pgs_cons (pg_name (i := 5) sc__law_meet.nd rfl (.inl rfl)) (pgs_cons (pg_name (i := 6) sc__law_meet.nd rfl (.inl rfl)) pgs_nil))) pgs_nil)))) (fun _ _ _ _ _ => pts_nil) (fun _ _ _ _ _ => (pe_op op_sub (pe_op op_mul (pv 3) (pv 6)) (pe_op op_mul (pv 5) (pv 4))))) pa_nil)) (pv 0)))), ?_⟩
    refine ⟨.ref a, rfl, .ref b, rfl, a, b, xs, ys, rfl, SqT.of ha, SqT.of hb, fun L hL => lc_it (σ := [some (.int p), some (.ref a), some (.ref b), none, none, none, none]) (vs := [3, 4, 5, 6]) (Zm.walk2 (xs := xs) (ys := ys) (by omega)) (fun i H' => Same H H' ∧ H' L = some (.lst (((mets r s').take i).map V.int))) ⟨same_upd hL, upd_same⟩ (fun i H' _ h => ⟨SqT.of (h.1 _ _ ha), SqT.of (h.1 _ _ hb)⟩) ?_ ?_⟩
    · rintro i x H1 H2 hi ⟨s1, eL⟩ ⟨T1, x1, y1, rfl, hT, rfl, hx, hy⟩
      obtain ⟨u, eu, b1, rfl, hb1⟩ := hp.get hx
      obtain ⟨v, ev, b2, rfl, hb2⟩ := hp2.get hy
      have hu := hf.get eu
      have hv := hf'.get ev
      have s2 : Same H (upd H1 T1 (.tup [.ref b1, .ref b2])) := s1.trans (same_upd hT)
      have z1 : upd H1 T1 (.tup [.ref b1, .ref b2]) b1 = some (.tup [.int u.1, .int u.2]) := s2 _ _ hb1
      have z2 : upd H1 T1 (.tup [.ref b1, .ref b2]) b2 = some (.tup [.int v.1, .int v.2]) := s2 _ _ hb2
      refine ⟨T1, [.ref b1, .ref b2], rfl, SqT.of upd_same, rfl, .ref b1, [.ref b2], rfl, ?_⟩
      refine ⟨b1, [.int u.1, .int u.2], rfl, SqT.of z1, rfl, .int u.1, [.int u.2], rfl, .int u.2, [], rfl, rfl, .ref b2, [], rfl, ?_⟩
      refine ⟨b2, [.int v.1, .int v.2], rfl, SqT.of z2, rfl, .int v.1, [.int v.2], rfl, .int v.2, [], rfl, rfl, rfl, ?_⟩
      dsimp only [wipe, List.set]
      have e2 : (mets r s')[i]? = some (u.1 * v.2 - v.1 * u.2) := by
        unfold mets
        rw [List.getElem?_zipWith, eu, ev]
      have eL1 : upd H1 T1 (.tup [.ref b1, .ref b2]) L = some (.lst (((mets r s').take i).map V.int)) := by
        rw [upd_ne (ne_of_none eL hT)]
        exact eL
      refine ⟨rfl, .int u.1, rfl, .int v.2, rfl, u.1, v.2, rfl, rfl, cmul hu.1, .int v.1, rfl, .int u.2, rfl, v.1, u.2, rfl, rfl, cmul hv.1, _, _, rfl, rfl, _, eL1, ?_, same_put s2 hL, ?_⟩
      · rw [List.length_map, List.length_take]
        unfold mets
        rw [List.length_zipWith]
        exact small (by omega)
      · rw [upd_same, take_snoc e2, List.map_append]
        rfl
    · rintro H1 ⟨s1, eL⟩
      have e : (mets r s').take xs.length = mets r s' := List.take_of_length_le (by unfold mets; rw [List.length_zipWith]; omega)
      rw [e] at eL
      exact ⟨L, _, rfl, SqL.of eL, .int p, rfl, _, p, rfl, rfl, p0, q H1 s1⟩
theorem pl_at {p : Int} {n : Nat} {fs : List (List Int)} {L : List (Nat × List Int)} (p1 : 1 < p) (h : PL p n fs L) {x : Nat × List Int} (hx : x ∈ L) : (∀ j, j < x.1 → vec x.2 j = 0) ∧ vec x.2 x.1 = 1 ∧ ∀ y ∈ L, y.1 ≠ x.1 → vec x.2 y.1 = 0 := by
  have p0 : 0 < p := by omega
  have mx : (x.1, vec x.2) ∈ Lin.vecs L := Lin.mem_vecs.mpr ⟨x, hx, rfl⟩
  have rg := fun j => (h.rg x hx).vec p0 j
  refine ⟨fun j hj => Lin.cg_eq (rg j) ⟨by omega, by omega⟩ (h.ahead _ mx j hj), Lin.cg_eq (rg _) ⟨by omega, by omega⟩ (h.leads.self _ mx), fun y hy ne => ?_⟩
  have my : (y.1, vec y.2) ∈ Lin.vecs L := Lin.mem_vecs.mpr ⟨y, hy, rfl⟩
  exact Lin.cg_eq (rg _) ⟨by omega, by omega⟩ (h.leads.other _ mx _ my (fun z => ne z.symm))
/-- the places whose numbers aren't 0, ahead of place i -/
def nzs (us : List Int) (i : Nat) : List Nat := (List.range i).filter fun j => decide (vec us j ≠ 0)
theorem nzs_succ {us : List Int} {i : Nat} : nzs us (i + 1) = nzs us i ++ if vec us i ≠ 0 then [i] else [] := by
  unfold nzs
  rw [List.range_succ, List.filter_append]
  by_cases h : vec us i = 0 <;> simp [h]
theorem nzs_first {us : List Int} {q n : Nat} (hq : q < n) (z : ∀ j, j < q → vec us j = 0) (o : vec us q = 1) : ∃ r, nzs us n = q :: r := by
  obtain ⟨k, rfl⟩ : ∃ k, n = q + (k + 1) := ⟨n - q - 1, by omega⟩
  unfold nzs
  rw [List.range_add, List.filter_append]
  have e : (List.range q).filter (fun j => decide (vec us j ≠ 0)) = [] := by
    rw [List.filter_eq_nil_iff]
    intro j hj
    simp [z j (List.mem_range.mp hj)]
  rw [e, List.range_succ_eq_map, List.map_cons, List.nil_append, List.filter_cons]
  simp [o]
theorem nzs_len {us : List Int} {n : Nat} : (nzs us n).length ≤ n := by
  unfold nzs
  exact Nat.le_trans (List.length_filter_le _ _) (by rw [List.length_range]; exact Nat.le_refl _)
theorem natV_ints (l : List Nat) : natV l = (l.map fun x => ((x : Nat) : Int)).map V.int := by
  unfold natV
  rw [List.map_map]
  rfl
theorem eqv_ints : ∀ l : List Int, PyData.eqvAll (l.map PyData.int) (l.map PyData.int) = true
  | [] => by simp [PyData.eqvAll]
  | i :: r => by simp [PyData.eqvAll, PyData.eqv, eqv_ints r]
theorem ints_ext {ns : List Int} {ks : List Nat} (h1 : ns.Pairwise (· < ·)) (h2 : ks.Pairwise (· < ·)) (h : ∀ k, k ∈ ns ↔ k ∈ ks.map fun x => ((x : Nat) : Int)) : ns = ks.map fun x => ((x : Nat) : Int) := by
  have nn : ∀ k ∈ ns, 0 ≤ k := fun k hk => by
    obtain ⟨x, _, rfl⟩ := List.mem_map.mp ((h k).mp hk)
    omega
  have back : (ns.map Int.toNat).map (fun x => ((x : Nat) : Int)) = ns := by
    rw [List.map_map]
    conv => rhs; rw [← List.map_id ns]
    apply List.map_congr_left
    intro k hk
    show ((k.toNat : Nat) : Int) = k
    have := nn k hk
    omega
  have e : ns.map Int.toNat = ks := by
    refine Lin.up_ext ?_ h2 fun a => ?_
    · rw [List.pairwise_map]
      exact h1.imp_of_mem fun {a b} ha hb hab => by
        have := nn a ha
        have := nn b hb
        omega
    · constructor
      · intro ha
        obtain ⟨k, hk, rfl⟩ := List.mem_map.mp ha
        obtain ⟨x, hx, rfl⟩ := List.mem_map.mp ((h k).mp hk)
        rw [Int.toNat_natCast]
        exact hx
      · intro ha
        exact List.mem_map.mpr ⟨(a : Int), (h _).mpr (List.mem_map.mpr ⟨a, ha, rfl⟩), by omega⟩
  rw [← e, back]
def spAPl : Sp := fun vs H Q _ => ∃ (p : Int) (m : Nat) (a : Addr) (ys : List V) (ss : List Row) (fs : List (List Int)) (L : List (Nat × List Int)), vs = [.int p, .int m, .ref a] ∧ 1 < p ∧ p ≤ 13 ∧ m ≤ 20 ∧ H a = some (.lst ys) ∧ Rws p m H ys ss ∧ ss.map flatR = L.map (·.2) ∧ PL p (2 * m) fs L ∧ Up L ∧ ∀ H', Same H H' → Q (.bl true) H'
-- CUT
/-! ### rows as keys of a dict -/
def keyR (r : Row) : NestedKey := .tup (r.map fun u => .tup [.num u.1, .num u.2])
theorem keyR_inj {r s : Row} (h : keyR r = keyR s) : r = s := by
  unfold keyR at h
  injection h with h
  refine List.map_inj_right (f := fun u : Int × Int => NestedKey.tup [.num u.1, .num u.2]) (fun x y e => ?_) |>.mp h
  injection e with e
  injection e with e1 e2
  injection e1 with e1
  injection e2 with e2
  injection e2 with e2
  exact Prod.ext e1 e2
theorem keyR_depth (r : Row) : (keyR r).depth ≤ 8 := by
  have one : ∀ r : Row, NestedKey.depthAll (r.map fun u => NestedKey.tup [.num u.1, .num u.2]) ≤ 1 := fun r => by
    induction r with
    | nil => simp [NestedKey.depthAll]
    | cons u r ih =>
      simp only [List.map_cons, NestedKey.depthAll, NestedKey.depth]
      omega
  have := one r
  unfold keyR
  simp only [NestedKey.depth]
  omega
theorem Prs.keys {H : Hp} : ∀ {xs : List V} {r : Row}, Prs H xs r → Kx.NkAll H xs (r.map fun u => NestedKey.tup [.num u.1, .num u.2])
  | [], [], _ => .nil
  | [], _ :: _, h => by have := h.len; simp at this
  | _ :: _, [], h => by have := h.len; simp at this
  | x :: xs, u :: r, h => by
    obtain ⟨v, e, a, rfl, ha⟩ := h.get (i := 0) (x := x) rfl
    cases e
    exact .cons (.tup ha (.cons (.num _) (.cons (.num _) .nil))) (Prs.keys ⟨by have := h.len; simpa using this, fun {i y} ey => h.get (i := i + 1) ey⟩)
theorem Rw.key {H : Hp} {t : Addr} {r : Row} (h : Rw H t r) : Kx.NkV H (.ref t) (keyR r) := let ⟨_, e, q⟩ := h; .tup e q.keys
theorem _root_.Kx.KdAt.sm {P : Program} {w : World} {H H' : Hp} {D : Addr} {ks : List Kx.E3} (h : Kx.KdAt P w H D ks) (s : Sm H H') : Kx.KdAt P w H' D ks := h.mono (fun o e => s.kp _ _ (fun ps z => by cases z) e) fun b xs e => s.tup e
/-- a list written beside it -/
theorem _root_.Kx.KdAt.put {P : Program} {w : World} {H : Hp} {D L : Addr} {ys : List V} {ks : List Kx.E3} {o : HO} (h : Kx.KdAt P w H D ks) (e : H L = some (.lst ys)) : Kx.KdAt P w (upd H L o) D ks := h.mono (fun o' e' => by rw [upd_ne (ne_of e' e (fun z => nomatch z))]; exact e') fun b xs e' => by rw [upd_ne (ne_of e' e (fun z => nomatch z))]; exact e'
/-- the rows at its keys -/
def keyRows (ks : List Kx.E3) (rs : List Row) : Prop := ks.map (·.1) = rs.map keyR
theorem put_rows {ks : List Kx.E3} {rs : List Row} {r : Row} {b : Addr} {v : V} (h : keyRows ks rs) : keyRows (Kx.putX ks (keyR r) b v) (if r ∈ rs then rs else rs ++ [r]) := by
  unfold keyRows at h ⊢
  unfold Kx.putX
  have e : keyR r ∈ ks.map (·.1) ↔ r ∈ rs := by
    rw [h, List.mem_map]
    constructor
    · rintro ⟨s, hs, e⟩
      rw [← keyR_inj e]
      exact hs
    · exact fun z => ⟨r, z, rfl⟩
  by_cases z : r ∈ rs
  · rw [if_pos (e.mpr z), if_pos z, ← h, List.map_map]
    refine List.map_congr_left fun p _ => ?_
    show (if p.1 = keyR r then (p.1, p.2.1, v) else p).1 = p.1
    split <;> rfl
  · rw [if_neg (fun w => z (e.mp w)), if_neg z, List.map_append, List.map_append, h]
    rfl
theorem Rw.putX {H : Hp} {t D : Addr} {r : Row} {o : Obj} {o' : HO} (h : Rw H t r) (e : H D = some (Kx.xo D o)) : Rw (upd H D o') t r := let ⟨xs, h1, h2⟩ := h; ⟨xs, by rw [upd_ne (ne_of h1 e (fun z => nomatch z))]; exact h1, ⟨h2.len, fun e' => let ⟨u, h3, a, h4, h5⟩ := h2.get e'; ⟨u, h3, a, h4, by rw [upd_ne (ne_of h5 e (fun z => nomatch z))]; exact h5⟩⟩⟩
theorem Rws.putX {p : Int} {n : Nat} {H : Hp} {D : Addr} {xs : List V} {rs : List Row} {o : Obj} {o' : HO} (h : Rws p n H xs rs) (e : H D = some (Kx.xo D o)) : Rws p n (upd H D o') xs rs := ⟨h.len, fun e2 => let ⟨a, r, h1, h2, h3⟩ := h.get e2; ⟨a, r, h1, h2, h3.putX e⟩, h.fit⟩
theorem prs_of_keys {H : Hp} : ∀ {vs : List V} {r : Row}, Kx.NkAll H vs (r.map fun u => NestedKey.tup [.num u.1, .num u.2]) → Prs H vs r
  | _, [], h => by
    cases h
    exact Prs.nil
  | _, u :: r, h => by
    cases h with
    | @cons v _ vs _ a b =>
      have ih := prs_of_keys b
      cases a with
      | @tup c ws _ e al =>
        cases al with
        | cons a1 a2 =>
          cases a2 with
          | cons a3 a4 =>
            cases a4
            cases a1
            cases a3
            refine ⟨by rw [List.length_cons, List.length_cons, ih.len], fun {i x} ex => ?_⟩
            match i with
            | 0 =>
              cases ex
              exact ⟨u, rfl, c, rfl, e⟩
            | i + 1 => exact ih.get (i := i) ex
theorem row_of_key {H : Hp} {b : Addr} {r : Row} (h : Kx.NkV H (.ref b) (keyR r)) : Rw H b r := by
  unfold keyR at h
  cases h with
  | tup e al => exact ⟨_, e, prs_of_keys al⟩
/-- what stands at a key -/
theorem keyed_at {P : Program} {w : World} {H : Hp} {D : Addr} {ks : List Kx.E3} {rs : List Row} {i : Nat} {e : Kx.E3} (kd : Kx.KdAt P w H D ks) (kr : keyRows ks rs) (h : ks[i]? = some e) : ∃ r, rs[i]? = some r ∧ Rw H e.2.1 r := by
  have h1 : (ks.map (·.1))[i]? = some e.1 := by rw [List.getElem?_map, h]; rfl
  rw [kr, List.getElem?_map] at h1
  obtain ⟨r, er, ek⟩ := Option.map_eq_some_iff.mp h1
  have k := (kd.key e (List.mem_of_getElem? h)).1
  rw [← ek] at k
  exact ⟨r, er, row_of_key k⟩
/-! ### all rows of a small space -/
set_option linter.unusedSimpArgs false
def spFig18 : Sp := fun vs H Q _ => ∃ (p : Int) (m n : Nat), vs = [.int p, .int (m : Nat), .int (n : Nat)] ∧ 0 < p ∧ p ≤ 13 ∧ m ≤ 20 ∧ n ≤ 100000 ∧ ∀ t us H', Same H H' → H' t = some (.lst (us.map V.int)) → us.length = m → Rg p us → Q (.ref t) H'
theorem ok__law_figures18 (T : Tx K mg A) : FnOk P w K mg base CX0 1 A.f__law_figures A.d__law_figures ["_law_p", "_law_many", "_law_number"] spFig18 := by
  refine T.d__law_figures.F.ok sc__law_figures (fun vs H Q E h => ?_) (fun cdv A' outer s H vs Q E hr h => ?_)
  · obtain ⟨p, m, n, rfl, _⟩ := h
    rfl
  · obtain ⟨p, m, n, rfl, p0, p13, m20, n5, q⟩ := h
    refine ⟨_, (pss_cons (ps_set (i := 3) sc__law_figures.nd rfl (.inl rfl) (pe_lst pa_nil))
        (pss_cons (ps_for PassesOwn.never rfl (pi_range1 (by rfl) T.b_range (pa_cons (pv 1) pa_nil)) (pg_name (i := 4) sc__law_figures.nd rfl (.inl rfl))
        (pss_cons (ps_expr (pe_bm PySem.F.plainAttrs_list PySem.F.slot_list_append PySem.F.type_list_append mt_append (pv 3) (pa_cons (pe_op op_mod (pv 2) (pv 0)) pa_nil)))
        (pss_one (ps_set (i := 2) sc__law_figures.nd rfl (.inl rfl) (pe_op op_fdivW (pv 2) (pv 0))))))
        (pss_one (ps_ret (pv 3))))), ?_⟩
    refine ⟨Nat.zero_le _, fun L hL => ?_⟩
    refine ⟨.int (m : Nat), rfl, m, rfl, by omega, by omega, for_range (n := m) (fun i σ H' => ∃ v4, ∃ z : Int, ∃ us : List Int, σ = [some (.int p), some (.int (m : Nat)), some (.int z), some (.ref L), v4] ∧ 0 ≤ z ∧ z ≤ 100000 ∧ Same H H' ∧ H' L = some (.lst (us.map V.int)) ∧ us.length = i ∧ Rg p us) ⟨_, n, [], rfl, by omega, by omega, same_upd hL, upd_same, rfl, fun u hu => by cases hu⟩ ?_ ?_⟩
    · rintro i σ H1 hi ⟨v4, z, us, rfl, z0, z1, s1, eL, ul, rg⟩
      simp only [gName, List.set_cons_succ, List.set_cons_zero]
      refine ⟨.ref L, rfl, .inl ⟨rfl, _, SqL.of eL⟩, .int z, rfl, .int p, rfl, z, p, rfl, rfl, p0, L, _, .int (z % p), rfl, rfl, eL, small (by rw [List.length_map]; omega), ?_⟩
      have e2 : upd H1 L (.lst (us.map V.int ++ [.int (z % p)])) L = some (.lst ((us ++ [z % p]).map V.int)) := by rw [upd_same, List.map_append]; rfl
      refine ⟨.int z, rfl, .int p, rfl, z, p, rfl, rfl, wide_div (b := 4) p0 (by show p.natAbs < 16; omega) (by decide) (by decide), ?_⟩
      refine ⟨_, z / p, us ++ [z % p], rfl, Int.ediv_nonneg z0 (by omega), ?_, same_put s1 hL, e2, by rw [List.length_append, ul]; rfl, fun u hu => ?_⟩
      · exact Int.le_trans (Int.ediv_le_self p z0) z1
      · rcases List.mem_append.mp hu with m | m
        · exact rg u m
        · rw [List.mem_singleton.mp m]
          exact ⟨Int.emod_nonneg _ (by omega), Int.emod_lt_of_pos _ p0⟩
    · rintro σ H1 ⟨v4, z, us, rfl, z0, z1, s1, eL, ul, rg⟩
      exact ⟨.ref L, rfl, q L us H1 s1 eL ul rg⟩
def spEvery : Sp := fun vs H Q _ => ∃ (p : Int) (m : Nat), vs = [.int p, .int (m : Nat)] ∧ p ∈ prs ∧ m ≤ 10 ∧ p.toNat ^ (2 * m) ≤ 1000 ∧ ∀ t zs rs H', Same H H' → H' t = some (.lst zs) → Rws p m H' zs rs → zs.length = p.toNat ^ (2 * m) → Q (.ref t) H'
theorem ok__law_every_row (T : Tx K mg A) : FnOk P w K mg base CX0 2 A.f__law_every_row A.d__law_every_row ["_law_p", "_law_posts"] spEvery := by
  have G__law_power : FnOk P w K mg base CX0 1 A.f__law_power A.d__law_power ["_law_number", "_law_many"] spPower := ok__law_power T
  have G__law_figures : FnOk P w K mg base CX0 1 A.f__law_figures A.d__law_figures ["_law_p", "_law_many", "_law_number"] spFig18 := ok__law_figures18 T
  refine T.d__law_every_row.F.ok sc__law_every_row (fun vs H Q E h => ?_) (fun cdv A' outer s H vs Q E hr h => ?_)
  · obtain ⟨p, m, rfl, _⟩ := h
    rfl
  · obtain ⟨p, m, rfl, hp, m10, few, q⟩ := h
    obtain ⟨p2, p13⟩ := prs_bd p hp
    have p0 : 0 < p := by omega
    refine ⟨_, (pss_cons (ps_set (i := 2) sc__law_every_row.nd rfl (.inl rfl) (pe_lst pa_nil))
        (pss_cons (ps_for PassesOwn.never rfl (pi_range1 (by rfl) T.b_range (pa_cons (pe_call G__law_power hr (by rfl) T.d__law_power.g T.d__law_power.F.kp T.d__law_power.b .nil pass0 (pa_cons (pv 0) (pa_cons (pe_op op_mul pe_int (pv 1)) pa_nil))) pa_nil)) (pg_name (i := 3) sc__law_every_row.nd rfl (.inl rfl))
        (pss_cons (ps_set (i := 4) sc__law_every_row.nd rfl (.inl rfl) (pe_call G__law_figures hr (by rfl) T.d__law_figures.g T.d__law_figures.F.kp T.d__law_figures.b .nil pass0 (pa_cons (pv 0) (pa_cons (pe_op op_mul pe_int (pv 1)) (pa_cons (pv 3) pa_nil)))))
        (pss_one (ps_expr (pe_bm PySem.F.plainAttrs_list PySem.F.slot_list_append PySem.F.type_list_append mt_append (pv 2) (pa_cons (pe_callTy call_tuple_of (by rfl) T.b_tuple PyProof.Rows.boot_tuple (pa_cons (Lz.pe_LZ rfl (by rfl) T.b_list (by rfl) T.b_zip (pa_cons (Lz.pe_ev0 (pv 4)) (pa_cons (Lz.pe_ev1 (pv 4)) pa_nil))) pa_nil)) pa_nil))))))
        (pss_one (ps_ret (pv 2))))), ?_⟩
    refine ⟨Nat.zero_le _, fun R hR => ?_⟩
    have ep : ((p.toNat : Nat) : Int) = p := by omega
    have em : (2 : Int) * (m : Nat) = ((2 * m : Nat) : Int) := by omega
    refine ⟨.int p, rfl, .int (m : Nat), rfl, 2, (m : Nat), rfl, rfl, .inl ⟨by decide, by decide⟩, p.toNat, 2 * m, (by rw [ep, ← em]; rfl), by omega, by omega, ?_⟩
    refine ⟨((p.toNat ^ (2 * m) : Nat) : Int), rfl, by omega, by omega, for_range (n := p.toNat ^ (2 * m)) (fun i σ H' => ∃ v3 v4 zs rs, σ = [some (.int p), some (.int (m : Nat)), some (.ref R), v3, v4] ∧ Same H H' ∧ H' R = some (.lst zs) ∧ Rws p m H' zs rs ∧ zs.length = i) ⟨_, _, [], [], rfl, same_upd hR, upd_same, Rws.nil, rfl⟩ ?_ ?_⟩
    · rintro i σ H1 hi ⟨v3, v4, zs, rs, rfl, s1, eR, hz, zl⟩
      simp only [gName, List.set_cons_succ, List.set_cons_zero]
      have e0 : (0 + (i : Nat) : Int) = (i : Nat) := by omega
      rw [e0]
      refine ⟨.int p, rfl, .int (m : Nat), rfl, 2, (m : Nat), rfl, rfl, .inl ⟨by decide, by decide⟩, .int (i : Nat), rfl, p, 2 * m, i, (by rw [← em]; rfl), p0, p13, by omega, by omega, fun a us H2 s2 ea ul rg => ?_⟩
      simp only [gName, List.set_cons_succ, List.set_cons_zero]
      have s02 := s1.trans s2
      have eR2 := s2 _ _ eR
      refine ⟨.ref R, rfl, .inl ⟨rfl, _, SqL.of eR2⟩, .ref a, rfl, a, _, rfl, SqL.of ea, fun b1 hb1 => ?_⟩
      have ea1 := same_upd (o := .lst (Lz.ev2 ((us.map V.int).drop 0))) hb1 _ _ ea
      refine ⟨.ref a, rfl, a, _, rfl, SqL.of ea1, fun b2 hb2 => ?_⟩
      have S9 : Same H2 (upd (upd H2 b1 (.lst (Lz.ev2 ((us.map V.int).drop 0)))) b2 (.lst (Lz.ev2 ((us.map V.int).drop 1)))) := (same_upd hb1).trans (same_upd hb2)
      have eb1 : upd (upd H2 b1 (.lst (Lz.ev2 ((us.map V.int).drop 0)))) b2 (.lst (Lz.ev2 ((us.map V.int).drop 1))) b1 = some (.lst (Lz.ev2 ((us.map V.int).drop 0))) := same_upd hb2 _ _ upd_same
      have eb2 : upd (upd H2 b1 (.lst (Lz.ev2 ((us.map V.int).drop 0)))) b2 (.lst (Lz.ev2 ((us.map V.int).drop 1))) b2 = some (.lst (Lz.ev2 ((us.map V.int).drop 1))) := upd_same
      generalize upd (upd H2 b1 (.lst (Lz.ev2 ((us.map V.int).drop 0)))) b2 (.lst (Lz.ev2 ((us.map V.int).drop 1))) = H9 at S9 eb1 eb2 ⊢
      obtain ⟨rf, rrl⟩ := Lin.rowL_flat m us ul
      refine ⟨b1, b2, _, _, rfl, SqL.of eb1, SqL.of eb2, ?_, ?_, fun S ts H10 Z => ?_⟩
      · rw [Lz.ev2_len, Lz.ev2_len, List.length_drop, List.length_drop, List.length_map]
        omega
      · rw [Lz.ev2_len, List.length_drop, List.length_map]
        exact small (by omega)
      refine ⟨S, _, rfl, .inl ⟨SqL.of Z.lst, fun t ht => ?_⟩⟩
      have S11 : Same H2 (upd H10 t (.tup (ts.map V.ref))) := (S9.trans Z.same).trans (same_upd ht)
      have wt : Rw (upd H10 t (.tup (ts.map V.ref))) t (rowL us) := by
        refine ⟨_, upd_same, ?_, fun {j x} e => ?_⟩
        · rw [List.length_map, Z.len, rrl, Lz.ev2_len, List.length_drop, List.length_map]
          omega
        · rw [List.getElem?_map] at e
          obtain ⟨tj, etj, rfl⟩ := Option.map_eq_some_iff.mp e
          have hj : j < (rowL us).length := by
            have := (List.getElem?_eq_some_iff.mp etj).1
            rw [Z.len, Lz.ev2_len, List.length_drop, List.length_map] at this
            rw [rrl]
            omega
          refine ⟨(rowL us)[j], List.getElem?_eq_getElem hj, tj, rfl, ?_⟩
          have hz : (rowL us)[j]? = some ((rowL us)[j]) := List.getElem?_eq_getElem hj
          unfold rowL at hz
          obtain ⟨z1, z2⟩ := List.getElem?_zip_eq_some.mp hz
          have w1 : (Lz.ev2 ((us.map V.int).drop 0))[j]? = some (V.int ((rowL us)[j]).1) := by
            rw [List.drop_zero, Lz.ev2_map, List.getElem?_map, ev2_same, z1]
            rfl
          have w2 : (Lz.ev2 ((us.map V.int).drop 1))[j]? = some (V.int ((rowL us)[j]).2) := by
            rw [← List.map_drop, Lz.ev2_map, List.getElem?_map, ev2_same, z2]
            rfl
          have w3 := Z.get j tj _ _ etj w1 w2
          rw [upd_ne (ne_of_none w3 ht)]
          exact w3
      have eR11 := S11 _ _ eR2
      have hz11 := hz.sm (.of_same (s2.trans S11))
      generalize upd H10 t (.tup (ts.map V.ref)) = H11 at S11 wt eR11 hz11 ⊢
      refine ⟨R, zs, .ref t, rfl, rfl, eR11, small (by omega), ?_⟩
      have inr : In p (rowL us) := fun u hu => by
        have m1 : u.1 ∈ flatR (rowL us) := List.mem_flatMap.mpr ⟨u, hu, by simp⟩
        have m2 : u.2 ∈ flatR (rowL us) := List.mem_flatMap.mpr ⟨u, hu, by simp⟩
        rw [rf] at m1 m2
        exact ⟨rg _ m1, rg _ m2⟩
      have kt : Rk p m H11 t (rowL us) := ⟨wt, inr, rrl⟩
      exact ⟨_, _, zs ++ [.ref t], rs ++ [rowL us], rfl, same_put (s02.trans S11) hR, upd_same, (hz11.snoc kt).put eR11, by rw [List.length_append, zl]; rfl⟩
    · rintro σ H1 ⟨v3, v4, zs, rs, rfl, s1, eR, hz, zl⟩
      exact ⟨.ref R, rfl, q R zs rs H1 s1 eR hz zl⟩
-- CUT
/-! ### a dict of rows, each with True -/
theorem allX_nd : ∀ (ks acc : List Kx.E3), ((acc ++ ks).map (·.1)).Nodup → ks.foldl (fun acc e => Kx.putX acc e.1 e.2.1 e.2.2) acc = acc ++ ks
  | [], acc, _ => by rw [List.append_nil]; rfl
  | e :: ks, acc, h => by
    have h2 : ((acc ++ [e] ++ ks).map (·.1)).Nodup := by rw [List.append_assoc]; exact h
    have ne : e.1 ∉ acc.map (·.1) := fun z => by
      rw [List.map_append, List.map_cons] at h
      exact (List.nodup_append.mp h).2.2 _ z _ (List.mem_cons_self ..) rfl
    have ep : Kx.putX acc e.1 e.2.1 e.2.2 = acc ++ [e] := by
      unfold Kx.putX
      rw [if_neg ne]
    rw [List.foldl_cons, ep, allX_nd ks _ h2, List.append_assoc]
    rfl
theorem keys_nd {ks : List Kx.E3} {rs : List Row} (h : keyRows ks rs) (nd : rs.Nodup) : (ks.map (·.1)).Nodup := by
  rw [h]
  exact List.pairwise_map.mpr (nd.imp fun ne e => ne (keyR_inj e))
theorem keys_in {ks : List Kx.E3} {rs : List Row} {r : Row} (h : keyRows ks rs) : keyR r ∈ ks.map (·.1) ↔ r ∈ rs := by
  rw [h, List.mem_map]
  exact ⟨fun ⟨s, hs, e⟩ => keyR_inj e ▸ hs, fun z => ⟨r, z, rfl⟩⟩
/-- pairs of a row and True -/
structure Pk (H : Hp) (ts : List Addr) (ks : List Kx.E3) (rs : List Row) : Prop where
  len : ts.length = ks.length
  rows : keyRows ks rs
  get : ∀ (i : Nat) (t : Addr) (e : Kx.E3), ts[i]? = some t → ks[i]? = some e → H t = some (.tup [.ref e.2.1, e.2.2]) ∧ Kx.NkV H (.ref e.2.1) e.1 ∧ e.1.depth ≤ 8 ∧ RelV e.2.2 (Kx.vOf e.2.2) ∧ ∀ u, RelV e.2.2 u → u = Kx.vOf e.2.2
theorem Pk.all {H : Hp} {ts : List Addr} {ks : List Kx.E3} {rs : List Row} (h : Pk H ts ks rs) : ts.length = rs.length := by
  have e := congrArg List.length h.rows
  rw [List.length_map, List.length_map] at e
  rw [h.len, e]
theorem Pk.nil {H : Hp} : Pk H [] [] [] := ⟨rfl, rfl, fun i t e h => by cases h⟩
theorem Pk.sm {H H' : Hp} {ts : List Addr} {ks : List Kx.E3} {rs : List Row} (h : Pk H ts ks rs) (s : Sm H H') : Pk H' ts ks rs := ⟨h.len, h.rows, fun i t e h1 h2 => let ⟨a, b, c⟩ := h.get i t e h1 h2; ⟨s.tup a, Kx.NkV.mono (fun _ _ => s.tup) _ b, c⟩⟩
theorem Pk.put {H : Hp} {L : Addr} {ys : List V} {o : HO} {ts : List Addr} {ks : List Kx.E3} {rs : List Row} (h : Pk H ts ks rs) (e : H L = some (.lst ys)) : Pk (upd H L o) ts ks rs := ⟨h.len, h.rows, fun i t e' h1 h2 => by
  have k : ∀ c xs, H c = some (.tup xs) → upd H L o c = some (.tup xs) := fun c xs z => by rw [upd_ne (ne_of z e (fun z => nomatch z))]; exact z
  obtain ⟨a, b, c⟩ := h.get i t e' h1 h2
  exact ⟨k _ _ a, Kx.NkV.mono k _ b, c⟩⟩
theorem Pk.snoc {H : Hp} {ts : List Addr} {ks : List Kx.E3} {rs : List Row} {t b : Addr} {r : Row} (h : Pk H ts ks rs) (et : H t = some (.tup [.ref b, .bl true])) (w : Rw H b r) : Pk H (ts ++ [t]) (ks ++ [(keyR r, b, .bl true)]) (rs ++ [r]) := by
  refine ⟨by rw [List.length_append, List.length_append, h.len]; rfl, ?_, fun i t' e h1 h2 => ?_⟩
  · have := h.rows
    unfold keyRows at this ⊢
    rw [List.map_append, List.map_append, this]
    rfl
  · by_cases hi : i < ts.length
    · rw [List.getElem?_append_left hi] at h1
      rw [List.getElem?_append_left (by rw [← h.len]; exact hi)] at h2
      exact h.get i t' e h1 h2
    · have hl := h.len
      have i0 := (List.getElem?_eq_some_iff.mp h1).1
      rw [List.length_append, List.length_singleton] at i0
      have ei : i = ts.length := by omega
      subst ei
      rw [List.getElem?_concat_length] at h1
      rw [h.len, List.getElem?_concat_length] at h2
      cases h1
      cases h2
      exact ⟨et, w.key, keyR_depth r, rfl, fun u h => h⟩
/-- what the mirror's lots meet with 0 -/
theorem mir_row {p : Int} {m : Nat} {ss : List Row} {vs : List (List Int)} {r : Row} (h : Mir p m ss vs) (lss : ∀ s ∈ ss, s.length = m) (lr : r.length = m) : Lin.Lot p (Lin.spn vs) (vec (flatR r)) ↔ ∀ s ∈ ss, metR p s r = 0 := by
  rw [h.ker _ (Lin.sup_vec (by rw [Lin.flat_len, lr]))]
  have one : ∀ s ∈ ss, (Lin.Cg p (Lin.dot (Lin.crs (vec (flatR s))) (vec (flatR r)) (2 * m)) 0 ↔ metR p s r = 0) := fun s hs => by
    have s1 := Lin.meet_dot (r := s) (s := r) (by rw [lr, lss s hs])
    rw [lss s hs] at s1
    unfold metR mets
    rw [s1]
    exact ⟨cg_mod0, bl_cg⟩
  exact ⟨fun k s hs => (one s hs).mp (k s hs), fun k s hs => (one s hs).mpr (k s hs)⟩
set_option maxHeartbeats 2000000 in
theorem ok_law (T : Tx K mg A) (FB : ∀ base : Heap, (∀ p ∈ [(C.c_row_of, C.p_row_of), (C.c_crossed, C.p_crossed)], GxR.TabB base mg p.1 p.2) → Tb K mg base A C) : LawOkT P w K mg A.f_law [(C.c_row_of, C.p_row_of), (C.c_crossed, C.p_crossed)] := by
  refine law_atT (k := 8) T.d_law sc_law ⟨rfl, by decide, by decide⟩ fun base t H a ns cdv hlen hm TB hH hS hr => ?_
  have B := FB base TB
  have tg : GxR.TabG H C.p_row_of := tab0 (hH (C.c_row_of, C.p_row_of) (by simp))
  have tc : GxR.TabG H C.p_crossed := tab0 (hH (C.c_crossed, C.p_crossed) (by simp))
  have G__law_deck : FnOk P w K mg base CX0 1 A.f__law_deck A.d__law_deck ["_law_script"] (spDeck K) := ok__law_deck T
  have G__law_next : FnOk P w K mg base CX0 1 A.f__law_next A.d__law_next ["_law_deck_here", "_law_many"] spNext := ok__law_next T
  have G__law_prime : FnOk P w K mg base CX0 2 A.f__law_prime A.d__law_prime ["_law_deck_here"] spPrm := ok__law_prime T
  have G__law_plain_set : FnOk P w K mg base CX0 3 A.f__law_plain_set A.d__law_plain_set ["_law_deck_here", "_law_p", "_law_posts", "_law_most"] spPlain := ok__law_plain_set T
  have G__law_spanning : FnOk P w K mg base CX0 3 A.f__law_spanning A.d__law_spanning ["_law_deck_here", "_law_p", "_law_posts", "_law_rows"] spSpan := ok__law_spanning T
  have G_plain : FnOk P w K mg base CX0 7 A.f_plain A.d_plain ["p", "posts", "rows"] (spPlainP C.p_row_of) := ok_plain T B
  have G_mirror : FnOk P w K mg base CX0 8 A.f_mirror A.d_mirror ["p", "posts", "rows"] (spMir C.p_crossed C.p_row_of) := ok_mirror T B
  have G_is_in : FnOk P w K mg base CX0 5 A.f_is_in A.d_is_in ["p", "posts", "rows", "row"] spIsIn := ok_is_in T
  have G__law_all : FnOk P w K mg base CX0 2 A.f__law_all A.d__law_all ["_law_p", "_law_posts", "_law_rows"] spAll := ok__law_all T
  have G__law_power : FnOk P w K mg base CX0 1 A.f__law_power A.d__law_power ["_law_number", "_law_many"] spPower := ok__law_power T
  have G__law_every_row : FnOk P w K mg base CX0 2 A.f__law_every_row A.d__law_every_row ["_law_p", "_law_posts"] spEvery := ok__law_every_row T
  have G__law_truth : FnOk P w K mg base CX0 1 A.f__law_truth A.d__law_truth ["_law_found", "_law_due"] spTruth := ok__law_truth T
  have G__law_meet : FnOk P w K mg base CX0 1 A.f__law_meet A.d__law_meet ["_law_p", "_law_one", "_law_other"] spLMeet := ok__law_meet T
  refine ⟨_, (pss_cons (ps_set (i := 1) sc_law.nd rfl (.inl rfl) (pe_call G__law_deck (hr.mono (by decide)) (by rfl) T.d__law_deck.g T.d__law_deck.F.kp T.d__law_deck.b .nil pass0 (pa_cons (pv 0) pa_nil)))
        (pss_cons (ps_for PassesOwn.never rfl (pi_range1 (by rfl) T.b_range (pa_cons pe_int pa_nil)) (pg_name (i := 2) sc_law.nd rfl (.inl rfl))
        (pss_cons (ps_set (i := 3) sc_law.nd rfl (.inr rfl) (pe_call G__law_prime (hr.mono (by decide)) (by rfl) T.d__law_prime.g T.d__law_prime.F.kp T.d__law_prime.b .nil pass0 (pa_cons (pv 1) pa_nil)))
        (pss_cons (ps_set (i := 4) sc_law.nd rfl (.inl rfl) (pe_call G__law_next (hr.mono (by decide)) (by rfl) T.d__law_next.g T.d__law_next.F.kp T.d__law_next.b .nil pass0 (pa_cons (pv 1) (pa_cons (pe_dget2 (hu_of hr) (pe_disp (pps_cons pe_int pe_int (pps_cons pe_int pe_int pps_nil)) rfl rfl (by simp) (by decide)) (pv 3) pe_int ⟨by rfl, by rfl, by rfl, by rfl⟩) pa_nil))))
        (pss_cons (ps_asg (pe_call G__law_plain_set (hr.mono (by decide)) (by rfl) T.d__law_plain_set.g T.d__law_plain_set.F.kp T.d__law_plain_set.b .nil pass0 (pa_cons (pv 1) (pa_cons (pv 3) (pa_cons (pv 4) (pa_cons pe_int pa_nil))))) (pg_lst rfl (pgs_cons (pg_name (i := 9) sc_law.nd rfl (.inl rfl)) (pgs_cons (pg_name (i := 10) sc_law.nd rfl (.inl rfl)) pgs_nil))))
        (pss_cons (ps_set (i := 5) sc_law.nd rfl (.inl rfl) (pe_call G__law_spanning (hr.mono (by decide)) (by rfl) T.d__law_spanning.g T.d__law_spanning.F.kp T.d__law_spanning.b .nil pass0 (pa_cons (pv 1) (pa_cons (pv 3) (pa_cons (pv 4) (pa_cons (pv 10) pa_nil))))))
        (pss_cons (ps_set (i := 6) sc_law.nd rfl (.inl rfl) (pe_callTy (Kx.call_xdict rfl hr.units) (by rfl) T.b_dict PyProof.Rows.boot_dict (pa_cons (pe_lc (own := [("_law_row_here", 8)]) rfl sc_law.nd (pi_list (pe_call G__law_all (hr.mono (by decide)) (by rfl) T.d__law_all.g T.d__law_all.F.kp T.d__law_all.b .nil pass0 (pa_cons (pv 3) (pa_cons (pv 4) (pa_cons (pv 10) pa_nil))))) (blkOk_by (N := N_law) (sc := defScope s_law) (by decide +kernel)) (fun _ _ _ _ _ => (pg_name (i := 8) sc_law.nd rfl (.inl rfl))) (fun _ _ _ _ _ => pts_nil) (fun _ _ _ _ _ => (pe_tup (pa_cons (pv 8) (pa_cons pe_bl pa_nil))))) pa_nil)))
        (pss_cons (ps_set (i := 7) sc_law.nd rfl (.inl rfl) (pe_callTy (Kx.call_xdict rfl hr.units) (by rfl) T.b_dict PyProof.Rows.boot_dict (pa_cons (pe_lc (own := [("_law_row_here", 8)]) rfl sc_law.nd (pi_list (pe_call G__law_all (hr.mono (by decide)) (by rfl) T.d__law_all.g T.d__law_all.F.kp T.d__law_all.b .nil pass0 (pa_cons (pv 3) (pa_cons (pv 4) (pa_cons (pe_call G_mirror hr (by rfl) T.d_mirror.g T.d_mirror.F.kp T.d_mirror.b .nil pass0 (pa_cons (pv 3) (pa_cons (pv 4) (pa_cons (pv 5) pa_nil)))) pa_nil))))) (blkOk_by (N := N_law) (sc := defScope s_law) (by decide +kernel)) (fun _ _ _ _ _ => (pg_name (i := 8) sc_law.nd rfl (.inl rfl))) (fun _ _ _ _ _ => pts_nil) (fun _ _ _ _ _ => (pe_tup (pa_cons (pv 8) (pa_cons pe_bl pa_nil))))) pa_nil)))
        (pss_cons (ps_if (pt_cmpR op_ne (pe_callB Kx.call_xlen (by rfl) T.b_len PySem.boot_len (pa_cons (pv 6) pa_nil)) (pe_call G__law_power (hr.mono (by decide)) (by rfl) T.d__law_power.g T.d__law_power.F.kp T.d__law_power.b .nil pass0 (pa_cons (pv 3) (pa_cons (pe_callB call_len_seq (by rfl) T.b_len PySem.boot_len (pa_cons (pe_call G_plain (hr.mono (by decide)) (by rfl) T.d_plain.g T.d_plain.F.kp T.d_plain.b .nil pass0 (pa_cons (pv 3) (pa_cons (pv 4) (pa_cons (pv 5) pa_nil)))) pa_nil)) pa_nil))) (nomark _))
        (pss_one (ps_ret pe_bl))
        pss_nil)
        (pss_one (ps_for PassesOwn.never rfl (pi_list (pe_call G__law_every_row (hr.mono (by decide)) (by rfl) T.d__law_every_row.g T.d__law_every_row.F.kp T.d__law_every_row.b .nil pass0 (pa_cons (pv 3) (pa_cons (pv 4) pa_nil)))) (pg_name (i := 8) sc_law.nd rfl (.inr rfl))
        (pss_cons (ps_if (pt_not (pt_val (pe_call G__law_truth (hr.mono (by decide)) (by rfl) T.d__law_truth.g T.d__law_truth.F.kp T.d__law_truth.b .nil pass0 (pa_cons (pe_call G_is_in (hr.mono (by decide)) (by rfl) T.d_is_in.g T.d_is_in.F.kp T.d_is_in.b .nil pass0 (pa_cons (pv 3) (pa_cons (pv 4) (pa_cons (pv 5) (pa_cons (pv 8) pa_nil))))) (pa_cons (pe_cmpR (show OpR _ _ (Kx.rXIn P w) from Kx.op_xin hr.units) (pv 8) (pv 6) (by rfl)) pa_nil)))))
        (pss_one (ps_ret pe_bl))
        pss_nil)
        (pss_cons (ps_setLc (i := 11) (own := [("_law_one", 12)]) rfl sc_law.nd rfl rfl (sw_true rfl rfl rfl (by decide +kernel)) (pi_list (pv 10)) (blkOk_by (N := N_law) (sc := defScope s_law) (by decide +kernel)) (fun _ _ _ _ _ => (pg_name (i := 12) sc_law.nd rfl (.inl rfl))) (fun _ _ _ _ _ => (pts_one (pt_cmpR op_ne (pe_call G__law_meet (hr.mono (by decide)) (by rfl) T.d__law_meet.g T.d__law_meet.F.kp T.d__law_meet.b .nil pass0 (pa_cons (pv 3) (pa_cons (pv 12) (pa_cons (pv 8) pa_nil)))) pe_int (nomark _)))) (fun _ _ _ _ _ => pe_int))
        (pss_one (ps_if (pt_cmpR op_ne (pe_cmpR (show OpR _ _ (Kx.rXIn P w) from Kx.op_xin hr.units) (pv 8) (pv 7) (by rfl)) (pe_cmpR (op_eqL0 (ru80 hr)) (pv 11) (pe_lst pa_nil) (nomark _)) (nomark _))
        (pss_one (ps_ret pe_bl))
        pss_nil))))))))))))))
        (pss_one (ps_ret pe_bl)))), ?_⟩
  refine ⟨.ref a, rfl, a, ns, rfl, hS, hlen, fun d g c H0 s0 nd ng nc D0 => ?_⟩
  have tg0 : GxR.TabG H0 C.p_row_of := (Sm.of_same s0).tb _ tg
  have tc0 : GxR.TabG H0 C.p_crossed := (Sm.of_same s0).tb _ tc
  refine ⟨2, rfl, by decide, by decide, for_range (n := 2) (fun j σ H' => ∃ v2 v3 v4 v5 v6 v7 v8 v9 v10 v11 v12, σ = [some (.ref a), some (.ref d), v2, v3, v4, v5, v6, v7, v8, v9, v10, v11, v12] ∧ Dk d g c (11000 * j) H' ∧ GxR.TabG H' C.p_row_of ∧ GxR.TabG H' C.p_crossed) ⟨_, _, _, _, _, _, _, _, _, _, _, rfl, D0.mono (by omega), tg0, tc0⟩ ?_ ?_⟩
  · rintro j σ H1 hj ⟨v2, v3, v4, v5, v6, v7, v8, v9, v10, v11, v12, rfl, D1, tg1, tc1⟩
    refine ⟨.ref d, rfl, d, g, c, _, rfl, D1, by omega, fun p H2 hp D2 f2 => ?_⟩
    obtain ⟨p2, p13⟩ := prs_bd p hp
    have p0 : 0 < p := by omega
    have p1 : 1 < p := by omega
    refine ⟨.ref d, rfl, fun e he => ⟨upd_same, [(Sum.inl 2, .int 4), (Sum.inl 3, .int 3)], rfl, by decide, ?_⟩⟩
    have s3 : Same H2 (upd (upd H2 e (.dK [])) e (.dK (mergeK [] [(Sum.inl 2, V.int 4), (Sum.inl 3, V.int 3)]))) := same_put (same_upd he) he
    have ed : upd (upd H2 e (.dK [])) e (.dK (mergeK [] [(Sum.inl 2, V.int 4), (Sum.inl 3, V.int 3)])) e = some (.dK (mergeK [] [(Sum.inl 2, V.int 4), (Sum.inl 3, V.int 3)])) := upd_same
    obtain ⟨mx, em, mx2, mx4, mfew⟩ : ∃ mx : Nat, (valV (mergeK [] [((Sum.inl 2 : Key), V.int 4), (Sum.inl 3, V.int 3)]) (Sum.inl p)).getD (V.int 2) = V.int (mx : Nat) ∧ 2 ≤ mx ∧ mx ≤ 4 ∧ ∀ m, m < mx → p.toNat ^ (2 * m) ≤ 1000 := by
      unfold prs at hp
      simp only [List.mem_cons, List.not_mem_nil, or_false] at hp
      rcases hp with rfl | rfl | rfl | rfl | rfl | rfl
      · exact ⟨4, rfl, by decide, by decide, by decide⟩
      · exact ⟨3, rfl, by decide, by decide, by decide⟩
      · exact ⟨2, rfl, by decide, by decide, by decide⟩
      · exact ⟨2, rfl, by decide, by decide, by decide⟩
      · exact ⟨2, rfl, by decide, by decide, by decide⟩
      · exact ⟨2, rfl, by decide, by decide, by decide⟩
    generalize upd (upd H2 e (.dK [])) e (.dK (mergeK [] [(Sum.inl 2, V.int 4), (Sum.inl 3, V.int 3)])) = H3 at s3 ed ⊢
    refine ⟨e, rfl, .inl ⟨_, .inl ed⟩, .int p, rfl, _, DGet.k (k := Sum.inl p) ed, ?_⟩
    rw [em]
    have D3 := D2.same s3
    refine ⟨d, g, c, _, (mx : Nat), rfl, by omega, by omega, D3, by omega, fun m' H4 m0 m1 D4 f4 => ?_⟩
    obtain ⟨m, rfl⟩ := Int.eq_ofNat_of_zero_le m0
    have mlt : m < mx := by omega
    have few := mfew m mlt
    refine ⟨.ref d, rfl, .int p, rfl, .int m, rfl, d, g, c, _, p, m, 6, rfl, D4, by omega, hp, by omega, by omega, fun R Q1 L1 qs ys rs H5 f5 D5 eR eQ eL ⟨nQ, nL⟩ hrs rl pln => ?_⟩
    have hyl := hrs.len
    refine ⟨R, _, rfl, SqL.of eR, rfl, .ref Q1, [.ref L1], rfl, .ref L1, [], rfl, rfl, ?_⟩
    refine ⟨.ref d, rfl, .int p, rfl, .int m, rfl, .ref L1, rfl, d, g, c, _, p, m, L1, ys, rs, rfl, D5, by omega, hp, by omega, eL, nL.1, nL.2, hrs, by omega, fun La as ss H6 f6 D6 eA nA hss sl sp => ?_⟩
    have eL6 := f6 _ _ nL.1 nL.2 eL
    have hrs6 := hrs.fr D5 f6
    have tg6 := f6.tab D5 (f5.tab D4 (f4.tab D3 ((Sm.of_same s3).tb _ (f2.tab D1 tg1))))
    have tc6 := f6.tab D5 (f5.tab D4 (f4.tab D3 ((Sm.of_same s3).tb _ (f2.tab D1 tc1))))
    have hal := hss.len
    have qlen := below_len (2 * m) qs (pln.up.imp fun h => Nat.ne_of_lt h) pln.lt
    have rsq : rs.length = qs.length := by
      have := pln.len
      rwa [List.length_map] at this
    have p1n : 1 ≤ p.toNat := by omega
    have fewr : p.toNat ^ rs.length ≤ 1000 := Nat.le_trans (pow_le (by omega) p1n) few
    clear eR eQ eL hrs s3 ed D1 D2 D3 D4 D5 f2 f4 f5 f6
    refine ⟨.int p, rfl, .int m, rfl, .ref L1, rfl, p, m, L1, .l, ys, rs, rfl, p2, p13, by omega, eL6, hrs6, fewr, fun t1 zs H7 s7 nt1 et1 hzs => ?_⟩
    have zl : zs.length = p.toNat ^ rs.length := by rw [hzs.len, all_lenP, List.length_singleton, Nat.one_mul]
    refine ⟨t1, rfl, ⟨_, SqL.of et1⟩, fun S hS => lc_it (walk_list (xs := zs)) (fun i H' => Same H7 H' ∧ ∃ ts ks, H' S = some (.lst (ts.map V.ref)) ∧ Pk H' ts ks ((Lin.allP p [noR m] rs).take i)) ⟨same_upd hS, [], [], upd_same, .nil⟩ (fun i H' _ h => SqL.of (h.1 _ _ et1)) ?_ ?_⟩
    · rintro i x H8 H9 hi ⟨s8, ts, ks, eS, pk⟩ ⟨rfl, hx⟩
      obtain ⟨tr, r, rfl, er, kr⟩ := (hzs.sm (.of_same s8)).rk hx
      simp only [gName, List.set_cons_succ, List.set_cons_zero]
      have il : i < (Lin.allP p [noR m] rs).length := (List.getElem?_eq_some_iff.mp er).1
      refine ⟨rfl, .ref tr, rfl, (by show 2 ≤ sizeLine; decide), fun t2 ht2 => ?_⟩
      have z1 := same_upd (o := .tup [.ref tr, .bl true]) ht2
      have pk1 := (pk.sm (.of_same z1)).snoc upd_same (kr.rw.sm (.of_same z1))
      have eS1 := z1 _ _ eS
      have s9 := s8.trans z1
      generalize upd H9 t2 (.tup [.ref tr, .bl true]) = H10 at pk1 eS1 s9 ⊢
      refine ⟨_, eS1, small (by rw [List.length_map, pk.all, List.length_take]; omega), same_put s9 hS, ts ++ [t2], ks ++ [(keyR r, tr, .bl true)], ?_, ?_⟩
      · rw [upd_same, List.map_append]
        rfl
      · rw [take_snoc er]
        exact pk1.put eS1
    · rintro H8 ⟨s8, ts, ks, eS, pk⟩
      rw [hzs.len, List.take_length] at pk
      refine ⟨S, ts, ks, rfl, SqL.of eS, pk.len, pk.get, fun D o hD kd => ?_⟩
      have inv := inv_all hp
      have lrs : ∀ s ∈ rs, s.length = m := fun s hs => (hrs6.fit s hs).2
      have free := Lin.plain_free p1 pln.pl.1 (by rw [List.map_snd_zip]; rw [pln.len]; exact Nat.le_refl _)
      have allR := Lin.all_of p1 inv lrs free rs.length (Nat.le_refl _)
      rw [List.take_length] at allR
      have nk : ks.length = p.toNat ^ rs.length := by
        have e := congrArg List.length pk.rows
        rw [List.length_map, List.length_map] at e
        rw [e, ← hzs.len, zl]
      have eall : Kx.allX ks = ks := allX_nd ks [] (keys_nd pk.rows allR.nd)
      rw [eall] at kd
      have kr : keyRows ks (Lin.allP p [noR m] rs) := pk.rows
      have z9 : Sm H6 (upd H8 D (Kx.xo D o)) := (Sm.of_same (s7.trans s8)).trans (.new hD)
      generalize upd H8 D (Kx.xo D o) = H9 at kd z9 ⊢
      -- the others
      refine ⟨.int p, rfl, .int m, rfl, .int p, rfl, .int m, rfl, .ref La, rfl, p, m, La, .l, as, ss, rfl, hp, by omega, z9.lst eA, hss.sm z9, by omega, z9.tb _ tc6, z9.tb _ tg6, fun t3 us os M vs H10 s10 nw3 e10 hos em pl up mir hv => ?_⟩
      have ol : os.length = M.length := by
        have e := congrArg List.length em
        rwa [List.length_map, List.length_map] at e
      have m1' := pl_le pl
      have ul := hos.len
      refine ⟨p, m, t3, .l, us, os, rfl, p2, p13, by omega, e10, hos, Nat.le_trans (pow_le (by omega) p1n) few, fun t4 zs2 H11 s11 nt4 et4 hzs2 => ?_⟩
      have zl2 : zs2.length = p.toNat ^ os.length := by rw [hzs2.len, all_lenP, List.length_singleton, Nat.one_mul]
      have fewo : p.toNat ^ os.length ≤ 1000 := Nat.le_trans (pow_le (by omega) p1n) few
      refine ⟨t4, rfl, ⟨_, SqL.of et4⟩, fun S2 hS2 => lc_it (walk_list (xs := zs2)) (fun i H' => Same H11 H' ∧ ∃ ts ks, H' S2 = some (.lst (ts.map V.ref)) ∧ Pk H' ts ks ((Lin.allP p [noR m] os).take i)) ⟨same_upd hS2, [], [], upd_same, .nil⟩ (fun i H' _ h => SqL.of (h.1 _ _ et4)) ?_ ?_⟩
      · rintro i x H12 H13 hi ⟨s12, ts2, ks2, eS2, pk2⟩ ⟨rfl, hx⟩
        obtain ⟨tr, r, rfl, er, kr⟩ := (hzs2.sm (.of_same s12)).rk hx
        simp only [gName, List.set_cons_succ, List.set_cons_zero]
        have il : i < (Lin.allP p [noR m] os).length := (List.getElem?_eq_some_iff.mp er).1
        refine ⟨rfl, .ref tr, rfl, (by show 2 ≤ sizeLine; decide), fun t2 ht2 => ?_⟩
        have z1 := same_upd (o := .tup [.ref tr, .bl true]) ht2
        have pk1 := (pk2.sm (.of_same z1)).snoc upd_same (kr.rw.sm (.of_same z1))
        have eS1 := z1 _ _ eS2
        have s9 := s12.trans z1
        generalize upd H13 t2 (.tup [.ref tr, .bl true]) = H14 at pk1 eS1 s9 ⊢
        refine ⟨_, eS1, small (by rw [List.length_map, pk2.all, List.length_take]; omega), same_put s9 hS2, ts2 ++ [t2], ks2 ++ [(keyR r, tr, .bl true)], ?_, ?_⟩
        · rw [upd_same, List.map_append]
          rfl
        · rw [take_snoc er]
          exact pk1.put eS1
      · rintro H12 ⟨s12, ts2, ks2, eS2, pk2⟩
        rw [hzs2.len, List.take_length] at pk2
        refine ⟨S2, ts2, ks2, rfl, SqL.of eS2, pk2.len, pk2.get, fun D2 o2 hD2 kd2 => ?_⟩
        have free2 := Lin.plain_free p1 pl em
        have allO := Lin.all_of p1 inv (fun s hs => (hos.fit s hs).2) free2 os.length (Nat.le_refl _)
        rw [List.take_length] at allO
        have eall2 : Kx.allX ks2 = ks2 := allX_nd ks2 [] (keys_nd pk2.rows allO.nd)
        rw [eall2] at kd2
        have kr2 : keyRows ks2 (Lin.allP p [noR m] os) := pk2.rows
        have z13 : Sm H9 (upd H12 D2 (Kx.xo D2 o2)) := s10.trans ((Sm.of_same (s11.trans s12)).trans (.new hD2))
        have kd' := kd.sm z13
        have z14 := z9.trans z13
        generalize upd H12 D2 (Kx.xo D2 o2) = H13 at kd2 kd' z14 ⊢
        -- how many
        refine ⟨.ref D, rfl, D, ks, rfl, kd', ?_⟩
        refine ⟨.int p, rfl, .int p, rfl, .int m, rfl, .ref La, rfl, p, m, La, .l, as, ss, rfl, hp, by omega, z14.lst eA, hss.sm z14, by omega, z14.tb _ tg6, fun t5 us5 rs5 L5 H14 s14 nw5 e5 hus5 em5 pl5 up5 => ?_⟩
        have l5 : rs5.length = rs.length := by
          have e := congrArg List.length em5
          rw [List.length_map, List.length_map] at e
          have k := pl5.len_eq p1 pln.pl.1 sp
          rw [List.length_zip, List.length_map] at k
          omega
        refine ⟨t5, us5, rfl, .inl (SqL.of e5), ?_⟩
        refine ⟨p.toNat, rs5.length, by rw [← hus5.len, Int.toNat_of_nonneg (by omega)]; rfl, by omega, by omega, ?_⟩
        refine ⟨rfl, false, nb_f (by rw [nk, l5]), ?_⟩
        have z15 := z14.trans s14
        have kd3 := kd'.sm s14
        have kd4 := kd2.sm s14
        -- every row
        refine ⟨.int p, rfl, .int m, rfl, p, m, rfl, hp, by omega, few, fun tE es rE H15 s15 eE hzE zlE => ?_⟩
        have z16 := z15.trans (.of_same s15)
        have kd5 := kd3.sm (.of_same s15)
        have kd6 := kd4.sm (.of_same s15)
        have lss : ∀ s ∈ ss, s.length = m := fun s hs => (hss.fit s hs).2
        refine ⟨tE, rfl, ⟨_, SqL.of eE⟩, for_it (walk_list (xs := es)) (fun i σ H' => ∃ w8 w11 w12, σ = [some (.ref a), some (.ref d), some (.int (0 + (j : Nat))), some (.int p), some (.int (m : Nat)), some (.ref La), some (.ref D), some (.ref D2), w8, some (.ref Q1), some (.ref L1), w11, w12] ∧ Sm H15 H') ⟨_, _, _, rfl, .refl _⟩ (fun i σ H' _ h => by obtain ⟨_, _, _, _, s⟩ := h; exact SqL.of (s.lst eE)) ?_ ?_⟩
        · rintro i x σ H16 H17 hi ⟨w8, w11, w12, rfl, s17⟩ ⟨rfl, hx⟩
          obtain ⟨tr, r, rfl, er, krk⟩ := (hzE.sm s17).rk hx
          simp only [gName, List.set_cons_succ, List.set_cons_zero]
          have z17 := z16.trans s17
          refine ⟨.int p, rfl, .int m, rfl, .ref La, rfl, .ref tr, rfl, p, m, La, tr, .l, as, ss, r, rfl, hp, by omega, z17.lst eA, hss.sm z17, by omega, krk.rw, krk.inp, krk.len, fun b H18 s18 hb => ?_⟩
          have z18 := z17.trans s18
          have in1 : decide (keyR r ∈ ks.map (·.1)) = b := by
            rw [Bool.eq_iff_iff, decide_eq_true_iff, keys_in kr, (show r ∈ Lin.allP p [noR m] rs ↔ _ from allR.mem r), hb]
            exact ⟨fun h => (sp _).mpr h.2.2, fun h => ⟨krk.inp, krk.len, (sp _).mp h⟩⟩
          have kr18 := krk.sm s18
          refine ⟨.ref tr, rfl, .ref D, rfl, tr, keyR r, D, ks, rfl, rfl, kr18.rw.key, keyR_depth _, (kd5.sm s17).sm s18, ?_⟩
          rw [in1]
          refine ⟨b, rfl, true, rfl, ?_⟩
          refine ⟨.ref L1, rfl, L1, rfl, ⟨_, SqL.of (z18.lst eL6)⟩, fun Z hZ => lc_it (walk_list (xs := ys)) (fun i H' => Same H18 H' ∧ ∃ k : Nat, H' Z = some (.lst (List.replicate k (.int 1))) ∧ k ≤ i ∧ (k = 0 ↔ ∀ s ∈ rs.take i, metR p s r = 0)) ⟨same_upd hZ, 0, upd_same, Nat.le_refl _, by simp⟩ (fun i H' _ h => SqL.of (h.1 _ _ (z18.lst eL6))) ?_ ?_⟩
          · rintro i' x H19 H20 hi' ⟨s19, k, eZ, kl, kz⟩ ⟨rfl, hx'⟩
            have z20 := z18.trans (.of_same s19)
            obtain ⟨ts, s, rfl, es', krs⟩ := (hrs6.sm z20).rk hx'
            simp only [gName, List.set_cons_succ, List.set_cons_zero]
            refine ⟨rfl, .int p, rfl, .ref ts, rfl, .ref tr, rfl, p, m, ts, tr, s, r, rfl, p0, p13, by omega, krs, kr18.sm (.of_same s19), fun H21 s21 => ?_⟩
            have s21' := s19.trans s21
            have eZ1 := s21 _ _ eZ
            by_cases e : metR p s r = 0
            · refine ⟨rfl, false, nb_f (by rw [e]), ?_⟩
              refine ⟨s21', k, eZ1, Nat.le_succ_of_le kl, ?_⟩
              rw [take_snoc es', kz]
              exact ⟨fun h u hu => (List.mem_append.mp hu).elim (h u) fun hu => List.mem_singleton.mp hu ▸ e, fun h u hu => h u (List.mem_append.mpr (.inl hu))⟩
            · refine ⟨rfl, true, nb_t (fun z => e (V.int.inj z)), ?_⟩
              refine ⟨_, eZ1, small (by rw [List.length_replicate]; omega), same_put s21' hZ, k + 1, by rw [upd_same, List.replicate_succ'], by omega, ?_⟩
              rw [take_snoc es']
              exact ⟨fun h => absurd h (Nat.succ_ne_zero k), fun h => absurd (h s (List.mem_append.mpr (.inr (List.mem_singleton.mpr rfl)))) e⟩
          · rintro H19 ⟨s19, k, eZ, kl, kz⟩
            rw [hyl, List.take_length] at kz
            have z20 := z18.trans (.of_same s19)
            have in2 : decide (keyR r ∈ ks2.map (·.1)) = decide (k = 0) := by
              rw [Bool.eq_iff_iff, decide_eq_true_iff, decide_eq_true_iff, keys_in kr2, (show r ∈ Lin.allP p [noR m] os ↔ _ from allO.mem r), kz, rows_span pl em, mir_row mir lss krk.len, ← has_due krk.len lss lrs sp, List.all_eq_true]
              exact ⟨fun h s hs => decide_eq_true (met_flip (h.2.2 s hs)), fun h => ⟨krk.inp, krk.len, fun s hs => met_flip (of_decide_eq_true (h s hs))⟩⟩
            simp only [gName, List.set_cons_succ, List.set_cons_zero]
            have sE := s18.trans (.of_same s19)
            refine ⟨.ref tr, rfl, .ref D2, rfl, tr, keyR r, D2, ks2, rfl, rfl, (kr18.sm (.of_same s19)).rw.key, keyR_depth _, ((kd6.sm s17).sm sE), ?_⟩
            rw [in2]
            refine ⟨.ref Z, rfl, Nat.zero_le _, fun e he => ?_⟩
            have sF := sE.trans (.new (o := .lst []) he)
            refine ⟨Z, e, _, rfl, rfl, SqL.of (same_upd he _ _ eZ), SqL.of upd_same, ?_⟩
            have em : (List.replicate k (V.int 1)).isEmpty = decide (k = 0) := by
              cases k <;> rfl
            rw [em]
            refine ⟨rfl, false, nb_f rfl, ?_⟩
            exact ⟨_, _, _, rfl, s17.trans sF⟩
        · rintro σ H16 ⟨w8, w11, w12, rfl, s17⟩
          have zz := z16.trans s17
          exact ⟨_, _, _, _, _, _, _, _, _, _, _, rfl, (D6.sm zz).mono (by omega), zz.tb _ tg6, zz.tb _ tc6⟩
  · rintro σ H1 ⟨v2, v3, v4, v5, v6, v7, v8, v9, v10, v11, v12, rfl, D1, tg1, tc1⟩
    rfl
end
-- CUT
/-! what the top has written -/
set_option maxHeartbeats 4000000 in
theorem all_mk {l : PySem.W.OpenLaw} {w : World} {K : PySem.W.Frag} {h : Heap} {mg : Str → Option Value} {fa : Addr} (X : K.In h) (G : h.Ns mainGlobals mg) (hfa : mg "law" = some (.ref fa)) (own : OwnTabs ["row_of", "crossed"] mg h)
    {f_inverse : Addr} {od_inverse an_inverse : Option Addr} {sl_inverse : Array (Option Value)} {oc_inverse kV_inverse dc_inverse pm_inverse cd_inverse ct_inverse : Value}
    {f_flat_of : Addr} {od_flat_of an_flat_of : Option Addr} {sl_flat_of : Array (Option Value)} {oc_flat_of kV_flat_of dc_flat_of pm_flat_of cd_flat_of ct_flat_of : Value}
    {f_row_of : Addr} {od_row_of an_row_of : Option Addr} {sl_row_of : Array (Option Value)} {oc_row_of kV_row_of dc_row_of pm_row_of ct_row_of : Value}
    {q_row_of p_row_of : Addr} {e_row_of : Value} {dd_row_of : Option Addr} {vs_row_of : Array Value} {us_row_of : Array (Option Value)}
    {f_first_place : Addr} {od_first_place an_first_place : Option Addr} {sl_first_place : Array (Option Value)} {oc_first_place kV_first_place dc_first_place pm_first_place cd_first_place ct_first_place : Value}
    {f_lessened : Addr} {od_lessened an_lessened : Option Addr} {sl_lessened : Array (Option Value)} {oc_lessened kV_lessened dc_lessened pm_lessened cd_lessened ct_lessened : Value}
    {f_cleared : Addr} {od_cleared an_cleared : Option Addr} {sl_cleared : Array (Option Value)} {oc_cleared kV_cleared dc_cleared pm_cleared cd_cleared ct_cleared : Value}
    {f_leads_of : Addr} {od_leads_of an_leads_of : Option Addr} {sl_leads_of : Array (Option Value)} {oc_leads_of kV_leads_of dc_leads_of pm_leads_of cd_leads_of ct_leads_of : Value}
    {f_row_leads : Addr} {od_row_leads an_row_leads : Option Addr} {sl_row_leads : Array (Option Value)} {oc_row_leads kV_row_leads dc_row_leads pm_row_leads cd_row_leads ct_row_leads : Value}
    {f_plain : Addr} {od_plain an_plain : Option Addr} {sl_plain : Array (Option Value)} {oc_plain kV_plain dc_plain pm_plain cd_plain ct_plain : Value}
    {f_crossed : Addr} {od_crossed an_crossed : Option Addr} {sl_crossed : Array (Option Value)} {oc_crossed kV_crossed dc_crossed pm_crossed ct_crossed : Value}
    {q_crossed p_crossed : Addr} {e_crossed : Value} {dd_crossed : Option Addr} {vs_crossed : Array Value} {us_crossed : Array (Option Value)}
    {f_mirror : Addr} {od_mirror an_mirror : Option Addr} {sl_mirror : Array (Option Value)} {oc_mirror kV_mirror dc_mirror pm_mirror cd_mirror ct_mirror : Value}
    {f_is_in : Addr} {od_is_in an_is_in : Option Addr} {sl_is_in : Array (Option Value)} {oc_is_in kV_is_in dc_is_in pm_is_in cd_is_in ct_is_in : Value}
    {f__law_deck : Addr} {od__law_deck an__law_deck : Option Addr} {sl__law_deck : Array (Option Value)} {oc__law_deck kV__law_deck dc__law_deck pm__law_deck cd__law_deck ct__law_deck : Value}
    {f__law_next : Addr} {od__law_next an__law_next : Option Addr} {sl__law_next : Array (Option Value)} {oc__law_next kV__law_next dc__law_next pm__law_next cd__law_next ct__law_next : Value}
    {f__law_prime : Addr} {od__law_prime an__law_prime : Option Addr} {sl__law_prime : Array (Option Value)} {oc__law_prime kV__law_prime dc__law_prime pm__law_prime cd__law_prime ct__law_prime : Value}
    {f__law_numbers : Addr} {od__law_numbers an__law_numbers : Option Addr} {sl__law_numbers : Array (Option Value)} {oc__law_numbers kV__law_numbers dc__law_numbers pm__law_numbers cd__law_numbers ct__law_numbers : Value}
    {f__law_added : Addr} {od__law_added an__law_added : Option Addr} {sl__law_added : Array (Option Value)} {oc__law_added kV__law_added dc__law_added pm__law_added cd__law_added ct__law_added : Value}
    {f__law_times : Addr} {od__law_times an__law_times : Option Addr} {sl__law_times : Array (Option Value)} {oc__law_times kV__law_times dc__law_times pm__law_times cd__law_times ct__law_times : Value}
    {f__law_sum : Addr} {od__law_sum an__law_sum : Option Addr} {sl__law_sum : Array (Option Value)} {oc__law_sum kV__law_sum dc__law_sum pm__law_sum cd__law_sum ct__law_sum : Value}
    {f__law_stirred : Addr} {od__law_stirred an__law_stirred : Option Addr} {sl__law_stirred : Array (Option Value)} {oc__law_stirred kV__law_stirred dc__law_stirred pm__law_stirred cd__law_stirred ct__law_stirred : Value}
    {f__law_plain_set : Addr} {od__law_plain_set an__law_plain_set : Option Addr} {sl__law_plain_set : Array (Option Value)} {oc__law_plain_set kV__law_plain_set dc__law_plain_set pm__law_plain_set cd__law_plain_set ct__law_plain_set : Value}
    {f__law_spanning : Addr} {od__law_spanning an__law_spanning : Option Addr} {sl__law_spanning : Array (Option Value)} {oc__law_spanning kV__law_spanning dc__law_spanning pm__law_spanning cd__law_spanning ct__law_spanning : Value}
    {f__law_meet : Addr} {od__law_meet an__law_meet : Option Addr} {sl__law_meet : Array (Option Value)} {oc__law_meet kV__law_meet dc__law_meet pm__law_meet cd__law_meet ct__law_meet : Value}
    {f__law_all : Addr} {od__law_all an__law_all : Option Addr} {sl__law_all : Array (Option Value)} {oc__law_all kV__law_all dc__law_all pm__law_all cd__law_all ct__law_all : Value}
    {f__law_power : Addr} {od__law_power an__law_power : Option Addr} {sl__law_power : Array (Option Value)} {oc__law_power kV__law_power dc__law_power pm__law_power cd__law_power ct__law_power : Value}
    {f__law_figures : Addr} {od__law_figures an__law_figures : Option Addr} {sl__law_figures : Array (Option Value)} {oc__law_figures kV__law_figures dc__law_figures pm__law_figures cd__law_figures ct__law_figures : Value}
    {f__law_truth : Addr} {od__law_truth an__law_truth : Option Addr} {sl__law_truth : Array (Option Value)} {oc__law_truth kV__law_truth dc__law_truth pm__law_truth cd__law_truth ct__law_truth : Value}
    {f__law_every_row : Addr} {od__law_every_row an__law_every_row : Option Addr} {sl__law_every_row : Array (Option Value)} {oc__law_every_row kV__law_every_row dc__law_every_row pm__law_every_row cd__law_every_row ct__law_every_row : Value}
    {f_law : Addr} {od_law an_law : Option Addr} {sl_law : Array (Option Value)} {oc_law kV_law dc_law pm_law cd_law ct_law : Value}
    (a_inverse : PySem.W.nsIn K mainGlobals "inverse" = some (some (.ref f_inverse))) (l_inverse : K.lookup f_inverse = some ⟨oc_inverse, od_inverse, .func (PySem.W.fnOf "inverse" "inverse" (defArgs s_inverse) (defBody s_inverse) (defScope s_inverse) .none kV_inverse dc_inverse pm_inverse an_inverse cd_inverse ct_inverse), sl_inverse⟩) (c_inverse : PySem.W.codeIn K cd_inverse "inverse" = true) (k_inverse : PySem.W.keepIn K (.ref f_inverse) = true)
    (a_flat_of : PySem.W.nsIn K mainGlobals "flat_of" = some (some (.ref f_flat_of))) (l_flat_of : K.lookup f_flat_of = some ⟨oc_flat_of, od_flat_of, .func (PySem.W.fnOf "flat_of" "flat_of" (defArgs s_flat_of) (defBody s_flat_of) (defScope s_flat_of) .none kV_flat_of dc_flat_of pm_flat_of an_flat_of cd_flat_of ct_flat_of), sl_flat_of⟩) (c_flat_of : PySem.W.codeIn K cd_flat_of "flat_of" = true) (k_flat_of : PySem.W.keepIn K (.ref f_flat_of) = true)
    (a_row_of : PySem.W.nsIn K mainGlobals "row_of" = some (some (.ref f_row_of))) (l_row_of : K.lookup f_row_of = some ⟨oc_row_of, od_row_of, .func (PySem.W.fnOf "row_of" "row_of" (defArgs s_row_of) (defBody s_row_of) (defScope s_row_of) .none kV_row_of dc_row_of pm_row_of an_row_of (.ref q_row_of) ct_row_of), sl_row_of⟩) (c_row_of : PySem.W.codeIn K (.ref q_row_of) "row_of" = true) (k_row_of : PySem.W.keepIn K (.ref f_row_of) = true)
    (u_row_of : K.lookup q_row_of = some ⟨e_row_of, dd_row_of, .fields vs_row_of, us_row_of⟩) (g_row_of : vs_row_of[11]? = some (.ref p_row_of)) (n_row_of : K.lookup p_row_of = none)
    (a_first_place : PySem.W.nsIn K mainGlobals "first_place" = some (some (.ref f_first_place))) (l_first_place : K.lookup f_first_place = some ⟨oc_first_place, od_first_place, .func (PySem.W.fnOf "first_place" "first_place" (defArgs s_first_place) (defBody s_first_place) (defScope s_first_place) .none kV_first_place dc_first_place pm_first_place an_first_place cd_first_place ct_first_place), sl_first_place⟩) (c_first_place : PySem.W.codeIn K cd_first_place "first_place" = true) (k_first_place : PySem.W.keepIn K (.ref f_first_place) = true)
    (a_lessened : PySem.W.nsIn K mainGlobals "lessened" = some (some (.ref f_lessened))) (l_lessened : K.lookup f_lessened = some ⟨oc_lessened, od_lessened, .func (PySem.W.fnOf "lessened" "lessened" (defArgs s_lessened) (defBody s_lessened) (defScope s_lessened) .none kV_lessened dc_lessened pm_lessened an_lessened cd_lessened ct_lessened), sl_lessened⟩) (c_lessened : PySem.W.codeIn K cd_lessened "lessened" = true) (k_lessened : PySem.W.keepIn K (.ref f_lessened) = true)
    (a_cleared : PySem.W.nsIn K mainGlobals "cleared" = some (some (.ref f_cleared))) (l_cleared : K.lookup f_cleared = some ⟨oc_cleared, od_cleared, .func (PySem.W.fnOf "cleared" "cleared" (defArgs s_cleared) (defBody s_cleared) (defScope s_cleared) .none kV_cleared dc_cleared pm_cleared an_cleared cd_cleared ct_cleared), sl_cleared⟩) (c_cleared : PySem.W.codeIn K cd_cleared "cleared" = true) (k_cleared : PySem.W.keepIn K (.ref f_cleared) = true)
    (a_leads_of : PySem.W.nsIn K mainGlobals "leads_of" = some (some (.ref f_leads_of))) (l_leads_of : K.lookup f_leads_of = some ⟨oc_leads_of, od_leads_of, .func (PySem.W.fnOf "leads_of" "leads_of" (defArgs s_leads_of) (defBody s_leads_of) (defScope s_leads_of) .none kV_leads_of dc_leads_of pm_leads_of an_leads_of cd_leads_of ct_leads_of), sl_leads_of⟩) (c_leads_of : PySem.W.codeIn K cd_leads_of "leads_of" = true) (k_leads_of : PySem.W.keepIn K (.ref f_leads_of) = true)
    (a_row_leads : PySem.W.nsIn K mainGlobals "row_leads" = some (some (.ref f_row_leads))) (l_row_leads : K.lookup f_row_leads = some ⟨oc_row_leads, od_row_leads, .func (PySem.W.fnOf "row_leads" "row_leads" (defArgs s_row_leads) (defBody s_row_leads) (defScope s_row_leads) .none kV_row_leads dc_row_leads pm_row_leads an_row_leads cd_row_leads ct_row_leads), sl_row_leads⟩) (c_row_leads : PySem.W.codeIn K cd_row_leads "row_leads" = true) (k_row_leads : PySem.W.keepIn K (.ref f_row_leads) = true)
    (a_plain : PySem.W.nsIn K mainGlobals "plain" = some (some (.ref f_plain))) (l_plain : K.lookup f_plain = some ⟨oc_plain, od_plain, .func (PySem.W.fnOf "plain" "plain" (defArgs s_plain) (defBody s_plain) (defScope s_plain) .none kV_plain dc_plain pm_plain an_plain cd_plain ct_plain), sl_plain⟩) (c_plain : PySem.W.codeIn K cd_plain "plain" = true) (k_plain : PySem.W.keepIn K (.ref f_plain) = true)
    (a_crossed : PySem.W.nsIn K mainGlobals "crossed" = some (some (.ref f_crossed))) (l_crossed : K.lookup f_crossed = some ⟨oc_crossed, od_crossed, .func (PySem.W.fnOf "crossed" "crossed" (defArgs s_crossed) (defBody s_crossed) (defScope s_crossed) .none kV_crossed dc_crossed pm_crossed an_crossed (.ref q_crossed) ct_crossed), sl_crossed⟩) (c_crossed : PySem.W.codeIn K (.ref q_crossed) "crossed" = true) (k_crossed : PySem.W.keepIn K (.ref f_crossed) = true)
    (u_crossed : K.lookup q_crossed = some ⟨e_crossed, dd_crossed, .fields vs_crossed, us_crossed⟩) (g_crossed : vs_crossed[11]? = some (.ref p_crossed)) (n_crossed : K.lookup p_crossed = none)
    (a_mirror : PySem.W.nsIn K mainGlobals "mirror" = some (some (.ref f_mirror))) (l_mirror : K.lookup f_mirror = some ⟨oc_mirror, od_mirror, .func (PySem.W.fnOf "mirror" "mirror" (defArgs s_mirror) (defBody s_mirror) (defScope s_mirror) .none kV_mirror dc_mirror pm_mirror an_mirror cd_mirror ct_mirror), sl_mirror⟩) (c_mirror : PySem.W.codeIn K cd_mirror "mirror" = true) (k_mirror : PySem.W.keepIn K (.ref f_mirror) = true)
    (a_is_in : PySem.W.nsIn K mainGlobals "is_in" = some (some (.ref f_is_in))) (l_is_in : K.lookup f_is_in = some ⟨oc_is_in, od_is_in, .func (PySem.W.fnOf "is_in" "is_in" (defArgs s_is_in) (defBody s_is_in) (defScope s_is_in) .none kV_is_in dc_is_in pm_is_in an_is_in cd_is_in ct_is_in), sl_is_in⟩) (c_is_in : PySem.W.codeIn K cd_is_in "is_in" = true) (k_is_in : PySem.W.keepIn K (.ref f_is_in) = true)
    (a__law_deck : PySem.W.nsIn K mainGlobals "_law_deck" = some (some (.ref f__law_deck))) (l__law_deck : K.lookup f__law_deck = some ⟨oc__law_deck, od__law_deck, .func (PySem.W.fnOf "_law_deck" "_law_deck" (defArgs s__law_deck) (defBody s__law_deck) (defScope s__law_deck) .none kV__law_deck dc__law_deck pm__law_deck an__law_deck cd__law_deck ct__law_deck), sl__law_deck⟩) (c__law_deck : PySem.W.codeIn K cd__law_deck "_law_deck" = true) (k__law_deck : PySem.W.keepIn K (.ref f__law_deck) = true)
    (a__law_next : PySem.W.nsIn K mainGlobals "_law_next" = some (some (.ref f__law_next))) (l__law_next : K.lookup f__law_next = some ⟨oc__law_next, od__law_next, .func (PySem.W.fnOf "_law_next" "_law_next" (defArgs s__law_next) (defBody s__law_next) (defScope s__law_next) .none kV__law_next dc__law_next pm__law_next an__law_next cd__law_next ct__law_next), sl__law_next⟩) (c__law_next : PySem.W.codeIn K cd__law_next "_law_next" = true) (k__law_next : PySem.W.keepIn K (.ref f__law_next) = true)
    (a__law_prime : PySem.W.nsIn K mainGlobals "_law_prime" = some (some (.ref f__law_prime))) (l__law_prime : K.lookup f__law_prime = some ⟨oc__law_prime, od__law_prime, .func (PySem.W.fnOf "_law_prime" "_law_prime" (defArgs s__law_prime) (defBody s__law_prime) (defScope s__law_prime) .none kV__law_prime dc__law_prime pm__law_prime an__law_prime cd__law_prime ct__law_prime), sl__law_prime⟩) (c__law_prime : PySem.W.codeIn K cd__law_prime "_law_prime" = true) (k__law_prime : PySem.W.keepIn K (.ref f__law_prime) = true)
    (a__law_numbers : PySem.W.nsIn K mainGlobals "_law_numbers" = some (some (.ref f__law_numbers))) (l__law_numbers : K.lookup f__law_numbers = some ⟨oc__law_numbers, od__law_numbers, .func (PySem.W.fnOf "_law_numbers" "_law_numbers" (defArgs s__law_numbers) (defBody s__law_numbers) (defScope s__law_numbers) .none kV__law_numbers dc__law_numbers pm__law_numbers an__law_numbers cd__law_numbers ct__law_numbers), sl__law_numbers⟩) (c__law_numbers : PySem.W.codeIn K cd__law_numbers "_law_numbers" = true) (k__law_numbers : PySem.W.keepIn K (.ref f__law_numbers) = true)
    (a__law_added : PySem.W.nsIn K mainGlobals "_law_added" = some (some (.ref f__law_added))) (l__law_added : K.lookup f__law_added = some ⟨oc__law_added, od__law_added, .func (PySem.W.fnOf "_law_added" "_law_added" (defArgs s__law_added) (defBody s__law_added) (defScope s__law_added) .none kV__law_added dc__law_added pm__law_added an__law_added cd__law_added ct__law_added), sl__law_added⟩) (c__law_added : PySem.W.codeIn K cd__law_added "_law_added" = true) (k__law_added : PySem.W.keepIn K (.ref f__law_added) = true)
    (a__law_times : PySem.W.nsIn K mainGlobals "_law_times" = some (some (.ref f__law_times))) (l__law_times : K.lookup f__law_times = some ⟨oc__law_times, od__law_times, .func (PySem.W.fnOf "_law_times" "_law_times" (defArgs s__law_times) (defBody s__law_times) (defScope s__law_times) .none kV__law_times dc__law_times pm__law_times an__law_times cd__law_times ct__law_times), sl__law_times⟩) (c__law_times : PySem.W.codeIn K cd__law_times "_law_times" = true) (k__law_times : PySem.W.keepIn K (.ref f__law_times) = true)
    (a__law_sum : PySem.W.nsIn K mainGlobals "_law_sum" = some (some (.ref f__law_sum))) (l__law_sum : K.lookup f__law_sum = some ⟨oc__law_sum, od__law_sum, .func (PySem.W.fnOf "_law_sum" "_law_sum" (defArgs s__law_sum) (defBody s__law_sum) (defScope s__law_sum) .none kV__law_sum dc__law_sum pm__law_sum an__law_sum cd__law_sum ct__law_sum), sl__law_sum⟩) (c__law_sum : PySem.W.codeIn K cd__law_sum "_law_sum" = true) (k__law_sum : PySem.W.keepIn K (.ref f__law_sum) = true)
    (a__law_stirred : PySem.W.nsIn K mainGlobals "_law_stirred" = some (some (.ref f__law_stirred))) (l__law_stirred : K.lookup f__law_stirred = some ⟨oc__law_stirred, od__law_stirred, .func (PySem.W.fnOf "_law_stirred" "_law_stirred" (defArgs s__law_stirred) (defBody s__law_stirred) (defScope s__law_stirred) .none kV__law_stirred dc__law_stirred pm__law_stirred an__law_stirred cd__law_stirred ct__law_stirred), sl__law_stirred⟩) (c__law_stirred : PySem.W.codeIn K cd__law_stirred "_law_stirred" = true) (k__law_stirred : PySem.W.keepIn K (.ref f__law_stirred) = true)
    (a__law_plain_set : PySem.W.nsIn K mainGlobals "_law_plain_set" = some (some (.ref f__law_plain_set))) (l__law_plain_set : K.lookup f__law_plain_set = some ⟨oc__law_plain_set, od__law_plain_set, .func (PySem.W.fnOf "_law_plain_set" "_law_plain_set" (defArgs s__law_plain_set) (defBody s__law_plain_set) (defScope s__law_plain_set) .none kV__law_plain_set dc__law_plain_set pm__law_plain_set an__law_plain_set cd__law_plain_set ct__law_plain_set), sl__law_plain_set⟩) (c__law_plain_set : PySem.W.codeIn K cd__law_plain_set "_law_plain_set" = true) (k__law_plain_set : PySem.W.keepIn K (.ref f__law_plain_set) = true)
    (a__law_spanning : PySem.W.nsIn K mainGlobals "_law_spanning" = some (some (.ref f__law_spanning))) (l__law_spanning : K.lookup f__law_spanning = some ⟨oc__law_spanning, od__law_spanning, .func (PySem.W.fnOf "_law_spanning" "_law_spanning" (defArgs s__law_spanning) (defBody s__law_spanning) (defScope s__law_spanning) .none kV__law_spanning dc__law_spanning pm__law_spanning an__law_spanning cd__law_spanning ct__law_spanning), sl__law_spanning⟩) (c__law_spanning : PySem.W.codeIn K cd__law_spanning "_law_spanning" = true) (k__law_spanning : PySem.W.keepIn K (.ref f__law_spanning) = true)
    (a__law_meet : PySem.W.nsIn K mainGlobals "_law_meet" = some (some (.ref f__law_meet))) (l__law_meet : K.lookup f__law_meet = some ⟨oc__law_meet, od__law_meet, .func (PySem.W.fnOf "_law_meet" "_law_meet" (defArgs s__law_meet) (defBody s__law_meet) (defScope s__law_meet) .none kV__law_meet dc__law_meet pm__law_meet an__law_meet cd__law_meet ct__law_meet), sl__law_meet⟩) (c__law_meet : PySem.W.codeIn K cd__law_meet "_law_meet" = true) (k__law_meet : PySem.W.keepIn K (.ref f__law_meet) = true)
    (a__law_all : PySem.W.nsIn K mainGlobals "_law_all" = some (some (.ref f__law_all))) (l__law_all : K.lookup f__law_all = some ⟨oc__law_all, od__law_all, .func (PySem.W.fnOf "_law_all" "_law_all" (defArgs s__law_all) (defBody s__law_all) (defScope s__law_all) .none kV__law_all dc__law_all pm__law_all an__law_all cd__law_all ct__law_all), sl__law_all⟩) (c__law_all : PySem.W.codeIn K cd__law_all "_law_all" = true) (k__law_all : PySem.W.keepIn K (.ref f__law_all) = true)
    (a__law_power : PySem.W.nsIn K mainGlobals "_law_power" = some (some (.ref f__law_power))) (l__law_power : K.lookup f__law_power = some ⟨oc__law_power, od__law_power, .func (PySem.W.fnOf "_law_power" "_law_power" (defArgs s__law_power) (defBody s__law_power) (defScope s__law_power) .none kV__law_power dc__law_power pm__law_power an__law_power cd__law_power ct__law_power), sl__law_power⟩) (c__law_power : PySem.W.codeIn K cd__law_power "_law_power" = true) (k__law_power : PySem.W.keepIn K (.ref f__law_power) = true)
    (a__law_figures : PySem.W.nsIn K mainGlobals "_law_figures" = some (some (.ref f__law_figures))) (l__law_figures : K.lookup f__law_figures = some ⟨oc__law_figures, od__law_figures, .func (PySem.W.fnOf "_law_figures" "_law_figures" (defArgs s__law_figures) (defBody s__law_figures) (defScope s__law_figures) .none kV__law_figures dc__law_figures pm__law_figures an__law_figures cd__law_figures ct__law_figures), sl__law_figures⟩) (c__law_figures : PySem.W.codeIn K cd__law_figures "_law_figures" = true) (k__law_figures : PySem.W.keepIn K (.ref f__law_figures) = true)
    (a__law_truth : PySem.W.nsIn K mainGlobals "_law_truth" = some (some (.ref f__law_truth))) (l__law_truth : K.lookup f__law_truth = some ⟨oc__law_truth, od__law_truth, .func (PySem.W.fnOf "_law_truth" "_law_truth" (defArgs s__law_truth) (defBody s__law_truth) (defScope s__law_truth) .none kV__law_truth dc__law_truth pm__law_truth an__law_truth cd__law_truth ct__law_truth), sl__law_truth⟩) (c__law_truth : PySem.W.codeIn K cd__law_truth "_law_truth" = true) (k__law_truth : PySem.W.keepIn K (.ref f__law_truth) = true)
    (a__law_every_row : PySem.W.nsIn K mainGlobals "_law_every_row" = some (some (.ref f__law_every_row))) (l__law_every_row : K.lookup f__law_every_row = some ⟨oc__law_every_row, od__law_every_row, .func (PySem.W.fnOf "_law_every_row" "_law_every_row" (defArgs s__law_every_row) (defBody s__law_every_row) (defScope s__law_every_row) .none kV__law_every_row dc__law_every_row pm__law_every_row an__law_every_row cd__law_every_row ct__law_every_row), sl__law_every_row⟩) (c__law_every_row : PySem.W.codeIn K cd__law_every_row "_law_every_row" = true) (k__law_every_row : PySem.W.keepIn K (.ref f__law_every_row) = true)
    (a_law : PySem.W.nsIn K mainGlobals "law" = some (some (.ref f_law))) (l_law : K.lookup f_law = some ⟨oc_law, od_law, .func (PySem.W.fnOf "law" "law" (defArgs s_law) (defBody s_law) (defScope s_law) .none kV_law dc_law pm_law an_law cd_law ct_law), sl_law⟩) (c_law : PySem.W.codeIn K cd_law "law" = true) (k_law : PySem.W.keepIn K (.ref f_law) = true)
    (z_abs : PySem.W.nsIn K mainGlobals "abs" = some none)
    (z_bool : PySem.W.nsIn K mainGlobals "bool" = some none)
    (z_dict : PySem.W.nsIn K mainGlobals "dict" = some none)
    (z_enumerate : PySem.W.nsIn K mainGlobals "enumerate" = some none)
    (z_int : PySem.W.nsIn K mainGlobals "int" = some none)
    (z_isinstance : PySem.W.nsIn K mainGlobals "isinstance" = some none)
    (z_len : PySem.W.nsIn K mainGlobals "len" = some none)
    (z_list : PySem.W.nsIn K mainGlobals "list" = some none)
    (z_min : PySem.W.nsIn K mainGlobals "min" = some none)
    (z_range : PySem.W.nsIn K mainGlobals "range" = some none)
    (z_sorted : PySem.W.nsIn K mainGlobals "sorted" = some none)
    (z_sum : PySem.W.nsIn K mainGlobals "sum" = some none)
    (z_tuple : PySem.W.nsIn K mainGlobals "tuple" = some none)
    (z_zip : PySem.W.nsIn K mainGlobals "zip" = some none) :
    ∃ cs : List (Addr × Addr), (∀ p ∈ cs, h.get? p.2 = some { cls := .none, data := .fields #[] }) ∧ (∀ p ∈ cs, K.lookup p.2 = none) ∧ (∀ p ∈ cs, PySem.W.CodeHd h p.1 p.2) ∧ LawOkT l.prog w K mg fa cs := by
  have e := hfa.symm.trans (PySem.W.mg_of X G a_law)
  cases e
  have F_inverse := fun_mk (st := s_inverse) l_inverse c_inverse k_inverse
  have b_inverse := F_inverse.binds (ps := ["p", "number"]) fun _ _ _ _ _ _ us hl => match us, hl with | [_, _], _ => rfl
  have F_flat_of := fun_mk (st := s_flat_of) l_flat_of c_flat_of k_flat_of
  have b_flat_of := F_flat_of.binds (ps := ["row"]) fun _ _ _ _ _ _ us hl => match us, hl with | [_], _ => rfl
  have F_row_of := fun_mk (st := s_row_of) l_row_of c_row_of k_row_of
  have b_row_of := F_row_of.binds (ps := ["flat"]) fun _ _ _ _ _ _ us hl => match us, hl with | [_], _ => rfl
  have F_first_place := fun_mk (st := s_first_place) l_first_place c_first_place k_first_place
  have b_first_place := F_first_place.binds (ps := ["flat"]) fun _ _ _ _ _ _ us hl => match us, hl with | [_], _ => rfl
  have F_lessened := fun_mk (st := s_lessened) l_lessened c_lessened k_lessened
  have b_lessened := F_lessened.binds (ps := ["p", "flat", "number", "other"]) fun _ _ _ _ _ _ us hl => match us, hl with | [_, _, _, _], _ => rfl
  have F_cleared := fun_mk (st := s_cleared) l_cleared c_cleared k_cleared
  have b_cleared := F_cleared.binds (ps := ["p", "flat", "leads"]) fun _ _ _ _ _ _ us hl => match us, hl with | [_, _, _], _ => rfl
  have F_leads_of := fun_mk (st := s_leads_of) l_leads_of c_leads_of k_leads_of
  have b_leads_of := F_leads_of.binds (ps := ["p", "flats"]) fun _ _ _ _ _ _ us hl => match us, hl with | [_, _], _ => rfl
  have F_row_leads := fun_mk (st := s_row_leads) l_row_leads c_row_leads k_row_leads
  have b_row_leads := F_row_leads.binds (ps := ["p", "rows"]) fun _ _ _ _ _ _ us hl => match us, hl with | [_, _], _ => rfl
  have F_plain := fun_mk (st := s_plain) l_plain c_plain k_plain
  have b_plain := F_plain.binds (ps := ["p", "posts", "rows"]) fun _ _ _ _ _ _ us hl => match us, hl with | [_, _, _], _ => rfl
  have F_crossed := fun_mk (st := s_crossed) l_crossed c_crossed k_crossed
  have b_crossed := F_crossed.binds (ps := ["p", "row"]) fun _ _ _ _ _ _ us hl => match us, hl with | [_, _], _ => rfl
  have F_mirror := fun_mk (st := s_mirror) l_mirror c_mirror k_mirror
  have b_mirror := F_mirror.binds (ps := ["p", "posts", "rows"]) fun _ _ _ _ _ _ us hl => match us, hl with | [_, _, _], _ => rfl
  have F_is_in := fun_mk (st := s_is_in) l_is_in c_is_in k_is_in
  have b_is_in := F_is_in.binds (ps := ["p", "posts", "rows", "row"]) fun _ _ _ _ _ _ us hl => match us, hl with | [_, _, _, _], _ => rfl
  have F__law_deck := fun_mk (st := s__law_deck) l__law_deck c__law_deck k__law_deck
  have b__law_deck := F__law_deck.binds (ps := ["_law_script"]) fun _ _ _ _ _ _ us hl => match us, hl with | [_], _ => rfl
  have F__law_next := fun_mk (st := s__law_next) l__law_next c__law_next k__law_next
  have b__law_next := F__law_next.binds (ps := ["_law_deck_here", "_law_many"]) fun _ _ _ _ _ _ us hl => match us, hl with | [_, _], _ => rfl
  have F__law_prime := fun_mk (st := s__law_prime) l__law_prime c__law_prime k__law_prime
  have b__law_prime := F__law_prime.binds (ps := ["_law_deck_here"]) fun _ _ _ _ _ _ us hl => match us, hl with | [_], _ => rfl
  have F__law_numbers := fun_mk (st := s__law_numbers) l__law_numbers c__law_numbers k__law_numbers
  have b__law_numbers := F__law_numbers.binds (ps := ["_law_deck_here", "_law_p", "_law_many"]) fun _ _ _ _ _ _ us hl => match us, hl with | [_, _, _], _ => rfl
  have F__law_added := fun_mk (st := s__law_added) l__law_added c__law_added k__law_added
  have b__law_added := F__law_added.binds (ps := ["_law_p", "_law_one", "_law_other"]) fun _ _ _ _ _ _ us hl => match us, hl with | [_, _, _], _ => rfl
  have F__law_times := fun_mk (st := s__law_times) l__law_times c__law_times k__law_times
  have b__law_times := F__law_times.binds (ps := ["_law_p", "_law_number", "_law_row_here"]) fun _ _ _ _ _ _ us hl => match us, hl with | [_, _, _], _ => rfl
  have F__law_sum := fun_mk (st := s__law_sum) l__law_sum c__law_sum k__law_sum
  have b__law_sum := F__law_sum.binds (ps := ["_law_p", "_law_posts", "_law_numbers_here", "_law_rows"]) fun _ _ _ _ _ _ us hl => match us, hl with | [_, _, _, _], _ => rfl
  have F__law_stirred := fun_mk (st := s__law_stirred) l__law_stirred c__law_stirred k__law_stirred
  have b__law_stirred := F__law_stirred.binds (ps := ["_law_deck_here", "_law_p", "_law_posts", "_law_rows"]) fun _ _ _ _ _ _ us hl => match us, hl with | [_, _, _, _], _ => rfl
  have F__law_plain_set := fun_mk (st := s__law_plain_set) l__law_plain_set c__law_plain_set k__law_plain_set
  have b__law_plain_set := F__law_plain_set.binds (ps := ["_law_deck_here", "_law_p", "_law_posts", "_law_most"]) fun _ _ _ _ _ _ us hl => match us, hl with | [_, _, _, _], _ => rfl
  have F__law_spanning := fun_mk (st := s__law_spanning) l__law_spanning c__law_spanning k__law_spanning
  have b__law_spanning := F__law_spanning.binds (ps := ["_law_deck_here", "_law_p", "_law_posts", "_law_rows"]) fun _ _ _ _ _ _ us hl => match us, hl with | [_, _, _, _], _ => rfl
  have F__law_meet := fun_mk (st := s__law_meet) l__law_meet c__law_meet k__law_meet
  have b__law_meet := F__law_meet.binds (ps := ["_law_p", "_law_one", "_law_other"]) fun _ _ _ _ _ _ us hl => match us, hl with | [_, _, _], _ => rfl
  have F__law_all := fun_mk (st := s__law_all) l__law_all c__law_all k__law_all
  have b__law_all := F__law_all.binds (ps := ["_law_p", "_law_posts", "_law_rows"]) fun _ _ _ _ _ _ us hl => match us, hl with | [_, _, _], _ => rfl
  have F__law_power := fun_mk (st := s__law_power) l__law_power c__law_power k__law_power
  have b__law_power := F__law_power.binds (ps := ["_law_number", "_law_many"]) fun _ _ _ _ _ _ us hl => match us, hl with | [_, _], _ => rfl
  have F__law_figures := fun_mk (st := s__law_figures) l__law_figures c__law_figures k__law_figures
  have b__law_figures := F__law_figures.binds (ps := ["_law_p", "_law_many", "_law_number"]) fun _ _ _ _ _ _ us hl => match us, hl with | [_, _, _], _ => rfl
  have F__law_truth := fun_mk (st := s__law_truth) l__law_truth c__law_truth k__law_truth
  have b__law_truth := F__law_truth.binds (ps := ["_law_found", "_law_due"]) fun _ _ _ _ _ _ us hl => match us, hl with | [_, _], _ => rfl
  have F__law_every_row := fun_mk (st := s__law_every_row) l__law_every_row c__law_every_row k__law_every_row
  have b__law_every_row := F__law_every_row.binds (ps := ["_law_p", "_law_posts"]) fun _ _ _ _ _ _ us hl => match us, hl with | [_, _], _ => rfl
  have F_law := fun_mk (st := s_law) l_law c_law k_law
  have b_law := F_law.binds (ps := ["_law_script"]) fun _ _ _ _ _ _ us hl => match us, hl with | [_], _ => rfl
  let A : Ad := ⟨f_inverse, PySem.W.fnOf "inverse" "inverse" (defArgs s_inverse) (defBody s_inverse) (defScope s_inverse) .none kV_inverse dc_inverse pm_inverse an_inverse cd_inverse ct_inverse, f_flat_of, PySem.W.fnOf "flat_of" "flat_of" (defArgs s_flat_of) (defBody s_flat_of) (defScope s_flat_of) .none kV_flat_of dc_flat_of pm_flat_of an_flat_of cd_flat_of ct_flat_of, f_row_of, PySem.W.fnOf "row_of" "row_of" (defArgs s_row_of) (defBody s_row_of) (defScope s_row_of) .none kV_row_of dc_row_of pm_row_of an_row_of (.ref q_row_of) ct_row_of, f_first_place, PySem.W.fnOf "first_place" "first_place" (defArgs s_first_place) (defBody s_first_place) (defScope s_first_place) .none kV_first_place dc_first_place pm_first_place an_first_place cd_first_place ct_first_place, f_lessened, PySem.W.fnOf "lessened" "lessened" (defArgs s_lessened) (defBody s_lessened) (defScope s_lessened) .none kV_lessened dc_lessened pm_lessened an_lessened cd_lessened ct_lessened, f_cleared, PySem.W.fnOf "cleared" "cleared" (defArgs s_cleared) (defBody s_cleared) (defScope s_cleared) .none kV_cleared dc_cleared pm_cleared an_cleared cd_cleared ct_cleared, f_leads_of, PySem.W.fnOf "leads_of" "leads_of" (defArgs s_leads_of) (defBody s_leads_of) (defScope s_leads_of) .none kV_leads_of dc_leads_of pm_leads_of an_leads_of cd_leads_of ct_leads_of, f_row_leads, PySem.W.fnOf "row_leads" "row_leads" (defArgs s_row_leads) (defBody s_row_leads) (defScope s_row_leads) .none kV_row_leads dc_row_leads pm_row_leads an_row_leads cd_row_leads ct_row_leads, f_plain, PySem.W.fnOf "plain" "plain" (defArgs s_plain) (defBody s_plain) (defScope s_plain) .none kV_plain dc_plain pm_plain an_plain cd_plain ct_plain, f_crossed, PySem.W.fnOf "crossed" "crossed" (defArgs s_crossed) (defBody s_crossed) (defScope s_crossed) .none kV_crossed dc_crossed pm_crossed an_crossed (.ref q_crossed) ct_crossed, f_mirror, PySem.W.fnOf "mirror" "mirror" (defArgs s_mirror) (defBody s_mirror) (defScope s_mirror) .none kV_mirror dc_mirror pm_mirror an_mirror cd_mirror ct_mirror, f_is_in, PySem.W.fnOf "is_in" "is_in" (defArgs s_is_in) (defBody s_is_in) (defScope s_is_in) .none kV_is_in dc_is_in pm_is_in an_is_in cd_is_in ct_is_in, f__law_deck, PySem.W.fnOf "_law_deck" "_law_deck" (defArgs s__law_deck) (defBody s__law_deck) (defScope s__law_deck) .none kV__law_deck dc__law_deck pm__law_deck an__law_deck cd__law_deck ct__law_deck, f__law_next, PySem.W.fnOf "_law_next" "_law_next" (defArgs s__law_next) (defBody s__law_next) (defScope s__law_next) .none kV__law_next dc__law_next pm__law_next an__law_next cd__law_next ct__law_next, f__law_prime, PySem.W.fnOf "_law_prime" "_law_prime" (defArgs s__law_prime) (defBody s__law_prime) (defScope s__law_prime) .none kV__law_prime dc__law_prime pm__law_prime an__law_prime cd__law_prime ct__law_prime, f__law_numbers, PySem.W.fnOf "_law_numbers" "_law_numbers" (defArgs s__law_numbers) (defBody s__law_numbers) (defScope s__law_numbers) .none kV__law_numbers dc__law_numbers pm__law_numbers an__law_numbers cd__law_numbers ct__law_numbers, f__law_added, PySem.W.fnOf "_law_added" "_law_added" (defArgs s__law_added) (defBody s__law_added) (defScope s__law_added) .none kV__law_added dc__law_added pm__law_added an__law_added cd__law_added ct__law_added, f__law_times, PySem.W.fnOf "_law_times" "_law_times" (defArgs s__law_times) (defBody s__law_times) (defScope s__law_times) .none kV__law_times dc__law_times pm__law_times an__law_times cd__law_times ct__law_times, f__law_sum, PySem.W.fnOf "_law_sum" "_law_sum" (defArgs s__law_sum) (defBody s__law_sum) (defScope s__law_sum) .none kV__law_sum dc__law_sum pm__law_sum an__law_sum cd__law_sum ct__law_sum, f__law_stirred, PySem.W.fnOf "_law_stirred" "_law_stirred" (defArgs s__law_stirred) (defBody s__law_stirred) (defScope s__law_stirred) .none kV__law_stirred dc__law_stirred pm__law_stirred an__law_stirred cd__law_stirred ct__law_stirred, f__law_plain_set, PySem.W.fnOf "_law_plain_set" "_law_plain_set" (defArgs s__law_plain_set) (defBody s__law_plain_set) (defScope s__law_plain_set) .none kV__law_plain_set dc__law_plain_set pm__law_plain_set an__law_plain_set cd__law_plain_set ct__law_plain_set, f__law_spanning, PySem.W.fnOf "_law_spanning" "_law_spanning" (defArgs s__law_spanning) (defBody s__law_spanning) (defScope s__law_spanning) .none kV__law_spanning dc__law_spanning pm__law_spanning an__law_spanning cd__law_spanning ct__law_spanning, f__law_meet, PySem.W.fnOf "_law_meet" "_law_meet" (defArgs s__law_meet) (defBody s__law_meet) (defScope s__law_meet) .none kV__law_meet dc__law_meet pm__law_meet an__law_meet cd__law_meet ct__law_meet, f__law_all, PySem.W.fnOf "_law_all" "_law_all" (defArgs s__law_all) (defBody s__law_all) (defScope s__law_all) .none kV__law_all dc__law_all pm__law_all an__law_all cd__law_all ct__law_all, f__law_power, PySem.W.fnOf "_law_power" "_law_power" (defArgs s__law_power) (defBody s__law_power) (defScope s__law_power) .none kV__law_power dc__law_power pm__law_power an__law_power cd__law_power ct__law_power, f__law_figures, PySem.W.fnOf "_law_figures" "_law_figures" (defArgs s__law_figures) (defBody s__law_figures) (defScope s__law_figures) .none kV__law_figures dc__law_figures pm__law_figures an__law_figures cd__law_figures ct__law_figures, f__law_truth, PySem.W.fnOf "_law_truth" "_law_truth" (defArgs s__law_truth) (defBody s__law_truth) (defScope s__law_truth) .none kV__law_truth dc__law_truth pm__law_truth an__law_truth cd__law_truth ct__law_truth, f__law_every_row, PySem.W.fnOf "_law_every_row" "_law_every_row" (defArgs s__law_every_row) (defBody s__law_every_row) (defScope s__law_every_row) .none kV__law_every_row dc__law_every_row pm__law_every_row an__law_every_row cd__law_every_row ct__law_every_row, fa, PySem.W.fnOf "law" "law" (defArgs s_law) (defBody s_law) (defScope s_law) .none kV_law dc_law pm_law an_law cd_law ct_law⟩
  let C : Cd := ⟨q_row_of, p_row_of, q_crossed, p_crossed⟩
  have T : Tx K mg A := ⟨⟨F_inverse, b_inverse, PySem.W.mg_of X G a_inverse⟩, ⟨F_flat_of, b_flat_of, PySem.W.mg_of X G a_flat_of⟩, ⟨F_row_of, b_row_of, PySem.W.mg_of X G a_row_of⟩, ⟨F_first_place, b_first_place, PySem.W.mg_of X G a_first_place⟩, ⟨F_lessened, b_lessened, PySem.W.mg_of X G a_lessened⟩, ⟨F_cleared, b_cleared, PySem.W.mg_of X G a_cleared⟩, ⟨F_leads_of, b_leads_of, PySem.W.mg_of X G a_leads_of⟩, ⟨F_row_leads, b_row_leads, PySem.W.mg_of X G a_row_leads⟩, ⟨F_plain, b_plain, PySem.W.mg_of X G a_plain⟩, ⟨F_crossed, b_crossed, PySem.W.mg_of X G a_crossed⟩, ⟨F_mirror, b_mirror, PySem.W.mg_of X G a_mirror⟩, ⟨F_is_in, b_is_in, PySem.W.mg_of X G a_is_in⟩, ⟨F__law_deck, b__law_deck, PySem.W.mg_of X G a__law_deck⟩, ⟨F__law_next, b__law_next, PySem.W.mg_of X G a__law_next⟩, ⟨F__law_prime, b__law_prime, PySem.W.mg_of X G a__law_prime⟩, ⟨F__law_numbers, b__law_numbers, PySem.W.mg_of X G a__law_numbers⟩, ⟨F__law_added, b__law_added, PySem.W.mg_of X G a__law_added⟩, ⟨F__law_times, b__law_times, PySem.W.mg_of X G a__law_times⟩, ⟨F__law_sum, b__law_sum, PySem.W.mg_of X G a__law_sum⟩, ⟨F__law_stirred, b__law_stirred, PySem.W.mg_of X G a__law_stirred⟩, ⟨F__law_plain_set, b__law_plain_set, PySem.W.mg_of X G a__law_plain_set⟩, ⟨F__law_spanning, b__law_spanning, PySem.W.mg_of X G a__law_spanning⟩, ⟨F__law_meet, b__law_meet, PySem.W.mg_of X G a__law_meet⟩, ⟨F__law_all, b__law_all, PySem.W.mg_of X G a__law_all⟩, ⟨F__law_power, b__law_power, PySem.W.mg_of X G a__law_power⟩, ⟨F__law_figures, b__law_figures, PySem.W.mg_of X G a__law_figures⟩, ⟨F__law_truth, b__law_truth, PySem.W.mg_of X G a__law_truth⟩, ⟨F__law_every_row, b__law_every_row, PySem.W.mg_of X G a__law_every_row⟩, ⟨F_law, b_law, PySem.W.mg_of X G a_law⟩, PySem.W.mg_none_of X G z_abs, PySem.W.mg_none_of X G z_bool, PySem.W.mg_none_of X G z_dict, PySem.W.mg_none_of X G z_enumerate, PySem.W.mg_none_of X G z_int, PySem.W.mg_none_of X G z_isinstance, PySem.W.mg_none_of X G z_len, PySem.W.mg_none_of X G z_list, PySem.W.mg_none_of X G z_min, PySem.W.mg_none_of X G z_range, PySem.W.mg_none_of X G z_sorted, PySem.W.mg_none_of X G z_sum, PySem.W.mg_none_of X G z_tuple, PySem.W.mg_none_of X G z_zip⟩
  have w_row_of := own_at own (by simp) X (PySem.W.mg_of X G a_row_of) l_row_of rfl u_row_of g_row_of
  have w_crossed := own_at own (by simp) X (PySem.W.mg_of X G a_crossed) l_crossed rfl u_crossed g_crossed
  refine ⟨[(q_row_of, p_row_of), (q_crossed, p_crossed)], List.forall_mem_cons.mpr ⟨w_row_of.2, List.forall_mem_cons.mpr ⟨w_crossed.2, fun _ z => by cases z⟩⟩, List.forall_mem_cons.mpr ⟨n_row_of, List.forall_mem_cons.mpr ⟨n_crossed, fun _ z => by cases z⟩⟩, List.forall_mem_cons.mpr ⟨w_row_of.1, List.forall_mem_cons.mpr ⟨w_crossed.1, fun _ z => by cases z⟩⟩, ok_law T (C := C) fun base TB => ?_⟩
  exact ⟨TB (q_row_of, p_row_of) (.head _), ⟨_, _, _, _, _, _, _, _, rfl, l_row_of, c_row_of⟩, TB (q_crossed, p_crossed) (.tail _ (.head _)), ⟨_, _, _, _, _, _, _, _, rfl, l_crossed, c_crossed⟩⟩
end Kp

open PySem PySem.W PyProof.Rows in
set_option maxRecDepth 100000 in
set_option maxHeartbeats 0 in
theorem PySem.Challenge.cw_fairposts_k18_whole_small_spaces_holds : PySem.Challenge.rw_fairposts_k18_whole_small_spaces.Holds := by
  w_on; o_law; k_head; (case hw => w_witness2)
  k_fill
  refine Kp.walk_gT (l := PySem.Challenge.rw_fairposts_k18_whole_small_spaces) ["row_of", "crossed"] rfl rfl (by decide +kernel) (by decide +kernel) (fun w h Y => PySem.W.kIn_of Y) ?F
  case F =>
    intro w mg fa h KX G hmg own
    refine' Kp.all_mk KX G hmg own ?a_inverse ?l_inverse ?c_inverse ?k_inverse ?a_flat_of ?l_flat_of ?c_flat_of ?k_flat_of ?a_row_of ?l_row_of ?c_row_of ?k_row_of ?u_row_of ?g_row_of ?n_row_of ?a_first_place ?l_first_place ?c_first_place ?k_first_place ?a_lessened ?l_lessened ?c_lessened ?k_lessened ?a_cleared ?l_cleared ?c_cleared ?k_cleared ?a_leads_of ?l_leads_of ?c_leads_of ?k_leads_of ?a_row_leads ?l_row_leads ?c_row_leads ?k_row_leads ?a_plain ?l_plain ?c_plain ?k_plain ?a_crossed ?l_crossed ?c_crossed ?k_crossed ?u_crossed ?g_crossed ?n_crossed ?a_mirror ?l_mirror ?c_mirror ?k_mirror ?a_is_in ?l_is_in ?c_is_in ?k_is_in ?a__law_deck ?l__law_deck ?c__law_deck ?k__law_deck ?a__law_next ?l__law_next ?c__law_next ?k__law_next ?a__law_prime ?l__law_prime ?c__law_prime ?k__law_prime ?a__law_numbers ?l__law_numbers ?c__law_numbers ?k__law_numbers ?a__law_added ?l__law_added ?c__law_added ?k__law_added ?a__law_times ?l__law_times ?c__law_times ?k__law_times ?a__law_sum ?l__law_sum ?c__law_sum ?k__law_sum ?a__law_stirred ?l__law_stirred ?c__law_stirred ?k__law_stirred ?a__law_plain_set ?l__law_plain_set ?c__law_plain_set ?k__law_plain_set ?a__law_spanning ?l__law_spanning ?c__law_spanning ?k__law_spanning ?a__law_meet ?l__law_meet ?c__law_meet ?k__law_meet ?a__law_all ?l__law_all ?c__law_all ?k__law_all ?a__law_power ?l__law_power ?c__law_power ?k__law_power ?a__law_figures ?l__law_figures ?c__law_figures ?k__law_figures ?a__law_truth ?l__law_truth ?c__law_truth ?k__law_truth ?a__law_every_row ?l__law_every_row ?c__law_every_row ?k__law_every_row ?a_law ?l_law ?c_law ?k_law ?z_abs ?z_bool ?z_dict ?z_enumerate ?z_int ?z_isinstance ?z_len ?z_list ?z_min ?z_range ?z_sorted ?z_sum ?z_tuple ?z_zip
    (case a_inverse => k_is)
    (case l_inverse => k_is)
    (case c_inverse => k_is)
    (case k_inverse => k_is)
    (case a_flat_of => k_is)
    (case l_flat_of => k_is)
    (case c_flat_of => k_is)
    (case k_flat_of => k_is)
    (case a_row_of => k_is)
    (case l_row_of => k_is)
    (case c_row_of => k_is)
    (case k_row_of => k_is)
    (case u_row_of => k_is)
    (case g_row_of => rfl)
    (case n_row_of => rfl)
    (case a_first_place => k_is)
    (case l_first_place => k_is)
    (case c_first_place => k_is)
    (case k_first_place => k_is)
    (case a_lessened => k_is)
    (case l_lessened => k_is)
    (case c_lessened => k_is)
    (case k_lessened => k_is)
    (case a_cleared => k_is)
    (case l_cleared => k_is)
    (case c_cleared => k_is)
    (case k_cleared => k_is)
    (case a_leads_of => k_is)
    (case l_leads_of => k_is)
    (case c_leads_of => k_is)
    (case k_leads_of => k_is)
    (case a_row_leads => k_is)
    (case l_row_leads => k_is)
    (case c_row_leads => k_is)
    (case k_row_leads => k_is)
    (case a_plain => k_is)
    (case l_plain => k_is)
    (case c_plain => k_is)
    (case k_plain => k_is)
    (case a_crossed => k_is)
    (case l_crossed => k_is)
    (case c_crossed => k_is)
    (case k_crossed => k_is)
    (case u_crossed => k_is)
    (case g_crossed => rfl)
    (case n_crossed => rfl)
    (case a_mirror => k_is)
    (case l_mirror => k_is)
    (case c_mirror => k_is)
    (case k_mirror => k_is)
    (case a_is_in => k_is)
    (case l_is_in => k_is)
    (case c_is_in => k_is)
    (case k_is_in => k_is)
    (case a__law_deck => k_is)
    (case l__law_deck => k_is)
    (case c__law_deck => k_is)
    (case k__law_deck => k_is)
    (case a__law_next => k_is)
    (case l__law_next => k_is)
    (case c__law_next => k_is)
    (case k__law_next => k_is)
    (case a__law_prime => k_is)
    (case l__law_prime => k_is)
    (case c__law_prime => k_is)
    (case k__law_prime => k_is)
    (case a__law_numbers => k_is)
    (case l__law_numbers => k_is)
    (case c__law_numbers => k_is)
    (case k__law_numbers => k_is)
    (case a__law_added => k_is)
    (case l__law_added => k_is)
    (case c__law_added => k_is)
    (case k__law_added => k_is)
    (case a__law_times => k_is)
    (case l__law_times => k_is)
    (case c__law_times => k_is)
    (case k__law_times => k_is)
    (case a__law_sum => k_is)
    (case l__law_sum => k_is)
    (case c__law_sum => k_is)
    (case k__law_sum => k_is)
    (case a__law_stirred => k_is)
    (case l__law_stirred => k_is)
    (case c__law_stirred => k_is)
    (case k__law_stirred => k_is)
    (case a__law_plain_set => k_is)
    (case l__law_plain_set => k_is)
    (case c__law_plain_set => k_is)
    (case k__law_plain_set => k_is)
    (case a__law_spanning => k_is)
    (case l__law_spanning => k_is)
    (case c__law_spanning => k_is)
    (case k__law_spanning => k_is)
    (case a__law_meet => k_is)
    (case l__law_meet => k_is)
    (case c__law_meet => k_is)
    (case k__law_meet => k_is)
    (case a__law_all => k_is)
    (case l__law_all => k_is)
    (case c__law_all => k_is)
    (case k__law_all => k_is)
    (case a__law_power => k_is)
    (case l__law_power => k_is)
    (case c__law_power => k_is)
    (case k__law_power => k_is)
    (case a__law_figures => k_is)
    (case l__law_figures => k_is)
    (case c__law_figures => k_is)
    (case k__law_figures => k_is)
    (case a__law_truth => k_is)
    (case l__law_truth => k_is)
    (case c__law_truth => k_is)
    (case k__law_truth => k_is)
    (case a__law_every_row => k_is)
    (case l__law_every_row => k_is)
    (case c__law_every_row => k_is)
    (case k__law_every_row => k_is)
    (case a_law => k_is)
    (case l_law => k_is)
    (case c_law => k_is)
    (case k_law => k_is)
    (case z_abs => k_is)
    (case z_bool => k_is)
    (case z_dict => k_is)
    (case z_enumerate => k_is)
    (case z_int => k_is)
    (case z_isinstance => k_is)
    (case z_len => k_is)
    (case z_list => k_is)
    (case z_min => k_is)
    (case z_range => k_is)
    (case z_sorted => k_is)
    (case z_sum => k_is)
    (case z_tuple => k_is)
    (case z_zip => k_is)
#print axioms PySem.Challenge.cw_fairposts_k18_whole_small_spaces_holds
