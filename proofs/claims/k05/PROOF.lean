import PyProof.Rows.All
import Wide.All
import OpenK.AllK
import Wide.FinOn
import HandS.ForMost
import HandS.Wide
import HandS.Conv
import HandS.Zip
import HandS.EndOwn
import KE.KNestM
import HandS.AnyAll
import HandS.GenList
import PyProof.TupleOfGen
import HandS.TupMul
import PySem.Challenge.RW_fairposts_k05_whole_meets
set_option Elab.async false
set_option maxRecDepth 100000
namespace Gx
open PySem PySem.Spec PyProof.Rows L2
theorem over_start {A : Around} {elt : Expr} {gs : List Comprehension} {scope : Scope} {pos : Pos} {it acc : Value} {env : Env} :
    A.over (.compStart (.GeneratorExp elt gs scope pos) 0 it acc env) [] = A.deeper env := by
  obtain ⟨hd, d, fr, g, u⟩ := A
  simp [Around.over, Around.deeper, marksOver, frameCount, unitsOf, envsOf, guardsOf, pushEnvs, pushGuards, Code.envs, Code.env?, Code.isFrame, Code.guards, Code.isGuard, Code.weight, Code.frames, Code.isCreation, Code.isCaller, Code.cUnits]
theorem over_loop0 {A : Around} {elt : Expr} {gs : List Comprehension} {scope : Scope} {pos : Pos} {it acc : Value} {env : Env} :
    A.over (.compLoop (.GeneratorExp elt gs scope pos) 0 it acc env) [] = A.deeper env := by
  obtain ⟨hd, d, fr, g, u⟩ := A
  simp [Around.over, Around.deeper, marksOver, frameCount, unitsOf, envsOf, guardsOf, pushEnvs, pushGuards, Code.envs, Code.env?, Code.isFrame, Code.guards, Code.isGuard, Code.weight, Code.frames, Code.isCreation, Code.isCaller, Code.cUnits]
/-- the context of a generator expression's own frame, made at s -/
abbrev gx (X : Cx) (A : Around) (s : Shared) (H : Hp) (cenv : Env) (fp : List Addr) (pn : List (Addr × Obj)) : Cx :=
  { X with A := A.deeper cenv, s_0 := s, H_0 := H, env := cenv, outer := X.stack, stack := cenv :: X.stack, ex := fp, fn := fun _ => false, pn := pn, xe := fun _ _ => False }
abbrev gxEnv (X : Cx) (scope : Scope) (s : Shared) (code : Value) : Env := genEnv scope (cloFrom X.env.cells scope.names []) s.heap.objs.size code builtinsNs X.env
section
variable {X : Cx} {pins : List (Addr × Obj)} {σ : L2.St} {H : Hp} {s : Shared}
theorem gx_inv {scope : Scope} {own : List (Str × Nat)} {fp : List Addr} {A : Around} {code : Value} {s5 : Shared} {pn pins5 : List (Addr × Obj)} (I : L2.Inv X pins σ H s) (ok : BlkOk X.N X.env.scope scope own) (hN : X.N.Nodup)
    (nc : ∀ y ∈ scope.names, y.2 ≠ .cell) (hfp : ∀ b ∈ fp, FpOk X pins H b ∧ b < s.heap.objs.size) (hA : A.handled = none) (hfr : A.frames = some X.stack)
    (kp : ∀ b o, s.heap.get? b = some o → s5.heap.get? b = some o) (hn : ∃ m, s5.heap.Ns s.heap.objs.size m) (hos : s5.os = s.os) (hb : AllBare s5.gens)
    (hpin : ∀ p ∈ pn ++ pins5, s5.heap.get? p.1 = some p.2 ∧ H p.1 = none ∧ p.1 ≠ s.heap.objs.size ∧ p.1 ∉ frs X.stack ∧ ∀ v, p.2.data ≠ .cell v) :
    L2.Inv (gx X A s H (gxEnv X scope s code) fp pn) pins5 (wipe σ (own.map (·.2))) H s5 := by
  have hfree : ∀ y ∈ scope.names, y.2 = .free → ∃ c, X.env.cells.lookup y.1 = some c := by
    intro y hy e
    exact (ok.free y hy e).elim (fun k => I.ok.has _ (.inl k)) (fun k => I.ok.has _ (.inr k))
  have cm : ∀ {y c}, (y, c) ∈ cloFrom X.env.cells scope.names [] → X.env.cells.lookup y = some c ∧ c < s.heap.objs.size := by
    intro y c hm
    rcases cloFrom_mem hm with z | ⟨h1, rfl⟩
    · cases z
    · obtain ⟨c, hc⟩ := hfree _ h1 rfl
      rw [hc]
      obtain ⟨_, z⟩ := I.cell _ _ hc
      exact ⟨rfl, z.lt⟩
  have mem : ∀ {y c}, (cloFrom X.env.cells scope.names []).lookup y = some c → X.env.cells.lookup y = some c ∧ c < s.heap.objs.size := fun e => cm (PySem.mem_of_lookup e)
  have look : ∀ {y}, scope.names.lookup y = some .free → ∃ c, (cloFrom X.env.cells scope.names []).lookup y = some c ∧ X.env.cells.lookup y = some c := by
    intro y hl
    obtain ⟨c, e⟩ := mem_lookup (cloFrom_has (cells := X.env.cells) (acc := []) (PySem.mem_of_lookup hl))
    exact ⟨c, e, (mem e).1⟩
  have okG : (gx X A s H (gxEnv X scope s code) fp pn).Ok := by
    refine ⟨I.ok.mod, ok.kind, I.ok.glob, rfl, Nat.le_refl _, fun y z c e1 e2 => I.ok.inj y z c (mem e1).1 (mem e2).1, fun y hy => ?_, fun y c z _ => absurd z Bool.false_ne_true, fun _ => hA, Around.frames_deeper hfr, .inr ⟨rfl, rfl⟩,
      fun b hb => ⟨Nat.ne_of_lt (hfp b hb).2, fun y c e z => (hfp b hb).1.2.2.2.2.1 y c (mem e).1 z⟩, I.bs, Nat.le_trans I.ok.bsz I.sz, fun b o e hb => ?_, fun b hb z => ?_, I.stack, I.stkFree⟩
    · rcases hy with hy | hy
      · exact absurd rfl (nc _ (PySem.mem_of_lookup (show scope.names.lookup y = some .cell from hy)))
      · obtain ⟨c, e, _⟩ := look (show scope.names.lookup y = some .free from hy)
        exact ⟨c, e⟩
    · rcases (hfp b hb).1.2.2.2.1 with z | z
      · exact I.ok.noex b o e z
      · exact absurd (Nat.lt_of_lt_of_le (Heap.lt_size e) (Nat.le_trans I.ok.bsz z)) (Nat.lt_irrefl _)
    · rcases List.mem_cons.mp (I.stkSub b z) with z | z
      · exact (hfp b hb).1.2.1 z
      · exact (hfp b hb).1.2.2.1 z
  obtain ⟨m5, hm5⟩ := hn
  refine ⟨okG, hos, hb, Un.kept kp, ⟨m5, hm5, fun i y av e1 e2 e3 => ?_⟩, fun y c e => ?_, I.hok.fresh (Nat.le_refl _), fun y c e => I.freeC y c (mem e).1, hpin, I.hok.kept kp, by rw [wipe_length]; exact I.len⟩
  · obtain ⟨e2, hne⟩ := wipe_some e2
    have fr : scope.names.lookup y = some .free := by
      have no : ∀ k, scope.names.lookup y = some k → k = .local ∨ k = .cell → False := by
        intro k e hh
        rcases ok.own _ (PySem.mem_of_lookup e) hh with e' | e'
        · obtain ⟨p, hp, hpy⟩ := List.mem_map.mp e'
          have e4 := ok.ix p hp
          have e5 : p.1 = y := hpy
          rw [e5] at e4
          exact hne (List.mem_map.mpr ⟨p, hp, nodup_ix hN e4 e1⟩)
        · exact e' (List.mem_of_getElem? e1)
      rcases (show Vis scope y from e3) with z | z | z
      · exact (no _ z (.inl rfl)).elim
      · exact (no _ z (.inr rfl)).elim
      · exact z
    obtain ⟨m, _, hl⟩ := I.loc
    have hvis : Vis X.env.scope y := (ok.free _ (PySem.mem_of_lookup fr) rfl).elim (fun k => .inr (.inl k)) (fun k => .inr (.inr k))
    obtain ⟨u, r, q⟩ := hl i y av e1 e2 hvis
    obtain ⟨c, h1, h2⟩ := look fr
    refine ⟨u, r, .inr ⟨.inr fr, c, h1, ?_⟩⟩
    rcases q with ⟨k, _⟩ | ⟨_, c', e', z⟩
    · have k : X.env.scope.names.lookup y = some .local := k
      rcases ok.free _ (PySem.mem_of_lookup fr) rfl with k' | k' <;> rw [show X.env.scope.names.lookup y = _ from k'] at k <;> cases k
    · rw [h2] at e'
      cases e'
      exact z.keeps kp
  · obtain ⟨v, z⟩ := I.cell y c (mem e).1
    exact ⟨v, z.keeps kp⟩
end
/-- what a generator expression's turns ask: W of the turn, what is left, what is out, the heap -/
def Turns (J : It) (g : TG) (te : TE) (vs : List Nat) (σ : L2.St) (Q : List V → Hp → Prop) (W : Nat → Nat → List V → Hp → Prop) : Prop :=
  ∀ i m ys H, W i m ys H → (J.stop i H ∧ Q ys H) ∨ (J.go i H ∧ ∃ Nx : List V → Hp → Prop, (∀ zs H', Nx zs H' → ∃ m', m' < m ∧ W (i + 1) m' zs H') ∧
    ∀ x H', J.yld i H x H' → g x (wipe σ vs) H' fun σ2 H2 => wipe σ2 vs = wipe σ vs ∧ te σ2 H2 fun y H3 => ys.length < sizeLine ∧ Nx (ys ++ [y]) H3)
def GEnd (X : Cx) (S : Addr) (Q : List V → Hp → Prop) : GenEnd := fun n _ r s => r = .ok .next ∧ ∃ ys σ ip H, n + ys.length = sizeLine ∧ GI X S ip ys σ H s ∧ Q ys H
section
variable {X : Cx} {A : Around} {s : Shared} {H : Hp} {cenv : Env} {fp : List Addr} {pn : List (Addr × Obj)} {S it : Addr} {tn : Nat → Heap → Prop} {J : It} {tg elt iter : Expr} {scope : Scope} {pos : Pos} {g : TG} {te : TE} {vs : List Nat} {σ : L2.St} {Q : List V → Hp → Prop} {W : Nat → Nat → List V → Hp → Prop}
theorem gx_loop (hc : X.calm = true) (T : Turn X.prog X.w X.K tg J fp it tn) (pg : PG (gx X A s H cenv fp pn) tg g) (pe : PE (gx X A s H cenv fp pn) elt te) (hco : cenv.scope.isCoroutine = false)
    (hS : ∀ p ∈ pn, p.1 ≠ S) (hfS : ∀ b ∈ fp, S ≠ b) (hfn : ∀ b ∈ fp, ∀ p ∈ pn, p.1 ≠ b) (ap : Apart (gx X A s H cenv fp pn) S) (turn : Turns J g te vs σ Q W) :
    ∀ (m i n : Nat) (ys : List V) (s₀ s1 : Shared) (H1 : Hp), W i m ys H1 → GI (gx X A s H cenv fp pn) S [] ys (wipe σ vs) H1 s1 → tn i s1.heap → (∀ b ∈ fp, H1 b = none) → n + ys.length = sizeLine →
      Seg (model X.prog X.w) A (GEnd (gx X A s H cenv fp pn) S Q) (GY (gx X A s H cenv fp pn) S) n s₀ (.compLoop (.GeneratorExp elt [⟨tg, iter, [], 0⟩] scope pos) 0 (.ref it) .none cenv)
        ((model X.prog X.w).den (.compLoop (.GeneratorExp elt [⟨tg, iter, [], 0⟩] scope pos) 0 (.ref it) .none cenv)) [] s1 := by
  intro m
  induction m using Nat.strongRecOn with
  | _ m ih =>
    intro i n ys s₀ s1 H1 w1 gi st1 n1 hn
    have ov : A.over (.compLoop (.GeneratorExp elt [⟨tg, iter, [], 0⟩] scope pos) 0 (.ref it) .none cenv) [] = (gx X A s H cenv fp pn).A := over_loop0
    have stat : ∀ {σ' : L2.St} {H' : Hp} {s' : Shared} {acc : Array Value} {c : Nat}, L2.Inv (gx X A s H cenv fp pn) [(S, lstObj acc c)] σ' H' s' → (∀ b ∈ fp, H' b = none) → ∀ b ∈ fp, FpOk (gx X A s H cenv fp pn) [(S, lstObj acc c)] H' b := by
      intro σ' H' s' acc c I' hz b hb
      refine ⟨hz b hb, (I'.ok.exf b hb).1, I'.ok.exfs b hb, .inl hb, fun x c e => (I'.ok.exf b hb).2 x c e, fun p hp => ?_⟩
      rcases List.mem_append.mp hp with z | z
      · exact hfn b hb p z
      · rw [List.mem_singleton.mp z]
        exact hfS b hb
    show Seg _ A _ _ _ s₀ _ ((compTurn (.GeneratorExp elt [⟨tg, iter, [], 0⟩] scope pos) 0 (.ref it) .none cenv).onRaise (leaving cenv)) [] s1
    rw [compTurn_gen, Sem.onRaise_eq_wrap]
    refine seg_bind_wrap (wpAny_standAt ?_)
    obtain ⟨acc, cc, ra, I⟩ := gi
    rcases turn i m ys H1 w1 with ⟨stop, q⟩ | ⟨go, Nx, hNx, step⟩
    · refine seg_bind_wrap ?_
      rw [ov]
      refine wpAny_mono (T.done (gx X A s H cenv fp pn) rfl rfl rfl hc i _ s1 _ H1 _ I (stat I n1) st1 stop) (fun r s6 h6 => ?_) (fun _ _ z => z)
      obtain ⟨rfl, I6⟩ := h6
      exact seg_end (.ok .next) ⟨rfl, ys, _, [], H1, hn, ⟨acc, cc, ra, I6⟩, q⟩
    · refine seg_bind_wrap ?_
      rw [ov]
      refine wpAny_mono (T.item (gx X A s H cenv fp pn) rfl rfl rfl hc i _ s1 _ H1 _ I (stat I n1) st1 go) (fun r s6 h6 => ?_) (fun _ _ z => z)
      obtain ⟨u, rfl, h6⟩ := h6
      refine seg_bind_wrap ?_
      rw [ov]
      refine wpAny_mono h6 (fun _ s7 h7 => ?_) (fun _ _ z => z)
      obtain ⟨x, H7, I7, r7, y7, st7, n7⟩ := h7
      have I7' := I7.pinned (stat I7 n7) (T.obj _ _ st7)
      refine seg_bind_wrap ?_
      rw [ov]
      refine wpAny_mono (pg.run _ s7 _ H7 x u _ I7' r7 (step x H7 y7)) (fun _ s8 h8 => ?_) (fun _ _ z => z.elim)
      obtain ⟨σ8, H8, I8, hw8, q8⟩ := h8
      refine seg_bind_wrap ?_
      simp only [List.forIn_nil]
      refine wpAny_pure ?_
      simp only [if_true]
      have hy : ∀ v, yieldOut cenv v = yieldValue v := fun v => by simp only [yieldOut, hco, Bool.false_eq_true, if_false]
      simp only [hy]
      rw [Sem.bind_eq_wrap', Sem.bind_eq_wrap', Sem.wrap_wrap, Sem.wrap_wrap]
      refine seg_wrap ?_
      rw [ov]
      refine wpAny_mono (pe.run _ s8 σ8 H8 _ I8 q8) (fun yv s9 h9 => ?_) (fun _ _ z => z.elim)
      obtain ⟨y, H9, I9, r9, hlt, nx⟩ := h9
      obtain ⟨n', rfl⟩ : ∃ n', n = n' + 1 := ⟨n - 1, by omega⟩
      have hip : ∀ p ∈ pinsAt fp s7.heap, p.1 ≠ S := fun p hp => (hfS p.1 (of_pinsAt hp).1).symm
      have gi9 : GI (gx X A s H cenv fp pn) S (pinsAt fp s7.heap) ys σ8 H9 s9 := ⟨acc, cc, ra, I9⟩
      refine seg_at (seg_yield rfl rfl rfl ⟨ys, y, pinsAt fp s7.heap, σ8, H9, by omega, r9, gi9, fun s'' sl => ?_⟩)
      obtain ⟨acc2, c2, ra2, I10⟩ := gi9.woken hS hip ap r9 sl
      obtain ⟨m', hm, w'⟩ := hNx _ _ nx
      have pin' : ∀ b ∈ fp, ∀ o, s7.heap.get? b = some o → s''.heap.get? b = some o ∧ H9 b = none := by
        intro b hb o e
        have z := I10.pin (b, o) (List.mem_append_right _ (List.mem_cons_of_mem _ (mem_pinsAt hb e)))
        exact ⟨z.1, z.2.1⟩
      have hl : (wipe σ vs).length = σ8.length := by rw [← hw8, wipe_length]
      refine seg_again rfl (ih m' hm (i + 1) n' (ys ++ [y]) _ s'' H9 w' ⟨acc2, c2, ra2, ?_⟩ (T.keep _ _ _ st7 fun b hb o e => (pin' b hb o e).1) (fun b hb => ?_) (by rw [List.length_append]; show n' + (ys.length + 1) = sizeLine; omega))
      · refine (Inv.unpinned (pins := [(S, lstObj acc2 c2)]) (pl := pinsAt fp s7.heap) I10).weak hl fun j v e => ?_
        rw [← hw8] at e
        exact (wipe_some e).1
      · obtain ⟨o, e, _⟩ := T.obj _ _ st7 b hb
        exact (pin' b hb o e).2
end
section
variable {X : Cx} {A : Around} {s : Shared} {H : Hp} {cenv : Env} {fp : List Addr} {pn : List (Addr × Obj)} {S it : Addr} {tn : Nat → Heap → Prop} {J : It} {tg elt iter : Expr} {scope : Scope} {pos : Pos} {g : TG} {te : TE} {vs : List Nat} {σ : L2.St} {Q : List V → Hp → Prop} {W : Nat → Nat → List V → Hp → Prop}
theorem gx_start (hc : X.calm = true) (T : Turn X.prog X.w X.K tg J fp it tn) (pg : PG (gx X A s H cenv fp pn) tg g) (pe : PE (gx X A s H cenv fp pn) elt te) (hco : cenv.scope.isCoroutine = false)
    (hS : ∀ p ∈ pn, p.1 ≠ S) (hfS : ∀ b ∈ fp, S ≠ b) (hfn : ∀ b ∈ fp, ∀ p ∈ pn, p.1 ≠ b) (ap : Apart (gx X A s H cenv fp pn) S) (turn : Turns J g te vs σ Q W)
    {m : Nat} {s₀ s1 : Shared} {H1 : Hp} (w0 : W 0 m [] H1) (gi : GI (gx X A s H cenv fp pn) S [] [] (wipe σ vs) H1 s1) (st : tn 0 s1.heap) (n1 : ∀ b ∈ fp, H1 b = none) :
    Seg (model X.prog X.w) A (GEnd (gx X A s H cenv fp pn) S Q) (GY (gx X A s H cenv fp pn) S) sizeLine s₀ (.compStart (.GeneratorExp elt [⟨tg, iter, [], 0⟩] scope pos) 0 (.ref it) .none cenv)
      ((model X.prog X.w).den (.compStart (.GeneratorExp elt [⟨tg, iter, [], 0⟩] scope pos) 0 (.ref it) .none cenv)) [] s1 := by
  have loop := gx_loop (iter := iter) (scope := scope) (pos := pos) hc T pg pe hco hS hfS hfn ap turn m 0 sizeLine [] s₀ s1 H1 w0 gi st n1 (Nat.add_zero _)
  show Seg _ A _ _ _ s₀ _ ((compStart (.GeneratorExp elt [⟨tg, iter, [], 0⟩] scope pos) 0 (.ref it) .none cenv).onRaise (leaving cenv)) [] s1
  unfold compStart
  rw [Sem.onRaise_eq_wrap]
  show Seg _ A _ _ _ s₀ _ ((ask >>= _).wrap _ _ _ _) [] s1
  refine seg_bind_wrap (wpAny_askSetting ?_)
  split
  · exact seg_again rfl loop
  · first
    | exact seg_bind_wrap (wpAny_rule (seg_bind_wrap (wpAny_standAt (seg_bind_wrap (T.self _ 0 s1 _ _ st (seg_again rfl loop))))))
    | (refine seg_bind_wrap (wpAny_rule ?_)
       show Seg _ A _ _ _ s₀ _ ((standAt iter.pos >>= _).wrap _ _ _ _) [] s1
       exact seg_bind_wrap (wpAny_standAt (seg_bind_wrap (T.self _ 0 s1 _ _ st (seg_again rfl loop)))))
end
section
variable {X : Cx} {pins : List (Addr × Obj)} {σ : L2.St} {H : Hp} {s : Shared}
/-- a generator that stands ready: its frame at the size of s, its object behind it -/
theorem gx_made {scope : Scope} {own : List (Str × Nat)} {fp : List Addr} {code : Value} {it : Addr} {tn : Nat → Heap → Prop} {J : It} {tg elt iter : Expr} {pos : Pos} {g : TG} {te : TE} {Q : List V → Hp → Prop} {W : Nat → Nat → List V → Hp → Prop} {k m : Nat}
    (I : L2.Inv X pins σ H s) (ok : BlkOk X.N X.env.scope scope own) (hN : X.N.Nodup) (nc : ∀ y ∈ scope.names, y.2 ≠ .cell) (hco : scope.isCoroutine = false) (hc : X.calm = true)
    (T : Turn X.prog X.w X.K tg J fp it tn) (st : tn 0 s.heap) (hfp : ∀ b ∈ fp, FpOk X pins H b ∧ b < s.heap.objs.size)
    (pg : ∀ A pn, PG (gx X A s H (gxEnv X scope s code) fp pn) tg g) (pe : ∀ A pn, PE (gx X A s H (gxEnv X scope s code) fp pn) elt te)
    (w0 : W 0 m [] H) (turn : Turns J g te (own.map (·.2)) σ Q W) {h' : Heap} {go : Obj} {nm qn : Value} {tk : Nat} {mC : Str → Option Value}
    (hC : h'.Ns s.heap.objs.size mC) (hsz : h'.objs.size = s.heap.objs.size + 1) (kp : ∀ b o, s.heap.get? b = some o → h'.get? b = some o)
    (hgc : go.cls = .type "generator") (hgd : go.data = .fields #[.int s.gens.size 0, nm, qn]) (hgs : go.slots = #[]) (hgp : (h'.push go).get? h'.objs.size = some go) :
    GMade X.prog X.w k X.stack H s fp Q E0 (.ref h'.objs.size) { s with gens := s.gens.push (.fresh (.compStart (.GeneratorExp elt [⟨tg, iter, [], 0⟩] scope pos) 0 (.ref it) .none (gxEnv X scope s code))), toks := tk, heap := h'.push go } := by
  have isg : ∀ h : Heap, h.get? h'.objs.size = some go → h.IsGen h'.objs.size s.gens.size := fun h e => ⟨go, nm, qn, e, hgc, hgd, hgs⟩
  have kp5 : ∀ b o, s.heap.get? b = some o → (h'.push go).get? b = some o := fun b o e => Heap.get?_push_of_some _ (kp b o e)
  refine ⟨h'.objs.size, s.gens.size, _, rfl, by omega, ?_, isg _ hgp, Array.getElem?_push_size .., rfl, AllBare.push I.bare rfl, I.nolimit.keeps kp5, kp5, ?_⟩
  · show _ < (h'.push go).objs.size
    rw [Heap.size_push]
    exact Nat.lt_succ_self _
  · intro Aw S s2 room hfr hSz hk2 hSo hos hba
    obtain ⟨cS, heS⟩ := hSo
    have hk2' : ∀ b o, (h'.push go).get? b = some o → s2.heap.get? b = some o := hk2
    have hSz' : h'.objs.size + 1 ≤ S := by
      have z : (h'.push go).objs.size ≤ S := hSz
      rw [Heap.size_push] at z
      exact z
    have ea : s2.heap.get? h'.objs.size = some go := hk2' _ _ hgp
    have lS : s.heap.objs.size < S := by omega
    have lH : h'.objs.size < S := by omega
    have lh : s.heap.objs.size < h'.objs.size := by omega
    have young : ∀ b, s.heap.objs.size < b → H b = none ∧ b ≠ s.heap.objs.size ∧ b ∉ frs X.stack := by
      intro b hb
      refine ⟨I.hok.fresh (Nat.le_of_lt hb), Nat.ne_of_gt hb, fun z => ?_⟩
      rcases List.mem_cons.mp (I.stkSub b z) with z | z
      · rw [z] at hb
        exact absurd (Nat.lt_trans hb I.lt) (Nat.lt_irrefl _)
      · exact I.nofs (Nat.le_of_lt hb) z
    have pinOk : ∀ p ∈ [(h'.objs.size, go)] ++ [(S, lstObj #[] cS)], s2.heap.get? p.1 = some p.2 ∧ H p.1 = none ∧ p.1 ≠ s.heap.objs.size ∧ p.1 ∉ frs X.stack ∧ ∀ v, p.2.data ≠ .cell v := by
      intro p hp
      rcases List.mem_append.mp hp with z | z
      · rw [List.mem_singleton.mp z]
        obtain ⟨y1, y2, y3⟩ := young h'.objs.size (by omega)
        exact ⟨ea, y1, y2, y3, fun v q => by rw [show go.data = _ from hgd] at q; cases q⟩
      · rw [List.mem_singleton.mp z]
        obtain ⟨y1, y2, y3⟩ := young S (by omega)
        exact ⟨heS, y1, y2, y3, fun v q => by cases q⟩
    have I2 := gx_inv (own := own) (code := code) (A := Aw) (pn := [(h'.objs.size, go)]) (pins5 := [(S, lstObj #[] cS)]) I ok hN nc hfp room.hd hfr (fun b o e => hk2' b o (kp5 b o e))
      ⟨mC, hC.keeps fun b o e => hk2' b o (Heap.get?_push_of_some _ e)⟩ hos hba pinOk
    have hcell : ∀ x c, (cloFrom X.env.cells scope.names []).lookup x = some c → c < s.heap.objs.size := by
      intro x c e
      obtain ⟨v, z⟩ := I2.cell x c e
      rcases cloFrom_mem (PySem.mem_of_lookup e) with z2 | ⟨h1, rfl⟩
      · cases z2
      · obtain ⟨c2, hc2⟩ : ∃ c2, X.env.cells.lookup x = some c2 := (ok.free _ h1 rfl).elim (fun k => I.ok.has _ (.inl k)) (fun k => I.ok.has _ (.inr k))
        obtain ⟨_, z3⟩ := I.cell _ _ hc2
        rw [hc2]
        exact z3.lt
    have ap : Apart (gx X Aw s H (gxEnv X scope s code) fp [(h'.objs.size, go)]) S := ⟨by show s.heap.objs.size ≤ S; omega, Nat.ne_of_gt lS, fun x c e => Nat.ne_of_lt (Nat.lt_of_lt_of_le (hcell x c e) (by omega))⟩
    have seg := gx_start (iter := iter) (scope := scope) (pos := pos) (S := S) (s₀ := s2) hc T (pg Aw [(h'.objs.size, go)]) (pe Aw [(h'.objs.size, go)]) hco (fun p hp => by rw [List.mem_singleton.mp hp]; exact Nat.ne_of_lt lH)
      (fun b hb => Nat.ne_of_gt (Nat.lt_trans (hfp b hb).2 lS)) (fun b hb p hp => by rw [List.mem_singleton.mp hp]; exact Nat.ne_of_gt (Nat.lt_trans (hfp b hb).2 lh)) ap turn w0 ⟨#[], cS, .nil, I2⟩
      (T.keep _ _ _ st fun b _ o e => hk2' b o (kp5 b o e)) (fun b hb => (hfp b hb).1.1)
    refine seg_imp (fun n s₀ r s1 hR => ?_) (fun n s₀ v s1 kap kap' hkk hY => ?_) sizeLine seg
    · obtain ⟨rfl, ys, σ', ip, H', hn, gi, hq⟩ := hR
      obtain ⟨a1, _, _, acc, cc, ra, ea⟩ := gi.at
      obtain ⟨_, _, _, J1⟩ := gi
      exact .inl ⟨.inr rfl, H', ys, acc, cc, J1.os, J1.bare, J1.base, J1.hok, a1, ea, ra, by omega, hq⟩
    · obtain ⟨ys, xx, ip, σ', H', hn, h2, gi, h3⟩ := hY
      obtain ⟨_, _, _, acc, cc, ra, ea⟩ := gi.at
      obtain ⟨_, _, _, J1⟩ := gi
      have hg : s1.heap.IsGen h'.objs.size s.gens.size := isg _ (J1.pin (h'.objs.size, go) (List.mem_append_left _ (List.mem_singleton.mpr rfl))).1
      have len : acc.size = ys.length := by
        have e1 := ra.length
        have e2 : acc.toList.length = acc.size := by simp
        omega
      exact ⟨J1.os, J1.bare, J1.nolimit, hg, ⟨acc, cc, ea, by rw [len]; exact hn⟩, fun s' z => hkk _ _ (h3 s' z)⟩
end
/-! ### tuple(generator) -/
section
variable {P : Program} {w : World} {outer : List Env} {H : Hp} {sc s : Shared} {ex : List Addr} {Q : List V → Hp → Prop} {A : Around} {k : Nat} {E : Value → Shared → Prop}
theorem collect_made {u : Value} {Qc : List Value → Shared → Prop} (hr : Room (k + 3) A) (hfr : A.frames = some outer) (h : GMade P w k outer H sc ex Q E0 u s)
    (hQ : ∀ (s' : Shared) (acc : List Value) (H' : Hp) (ys : List V), L2.Vals ys acc → ys.length ≤ sizeLine → s'.os = sc.os → AllBare s'.gens → Un (frs outer) ex H H' sc.heap s'.heap → HOk P w H' s'.heap → Q ys H' → Qc acc s')
    (hexc : ∀ e s', ¬ CX P w outer H sc E0 e s') : wpAny (model P w) A (collect u) Qc E s := by
  obtain ⟨a, g, c, rfl, ha1, ha2, hg, hgs, hos, hb, hl, hkp, wake⟩ := h
  have hSa : s.heap.objs.size ≠ a := Nat.ne_of_gt ha2
  have hSc : s.heap.objs.size ≠ cStatics := Nat.ne_of_gt (let ⟨_, hn, _⟩ := hl; hn.lt)
  unfold collect
  refine wpAny_bind (wpAny_runValue (codeAny_builtin F.entry_proto_collect ?_))
  rw [Around.under_plainId F.plain_proto_collect _]
  show wpAny _ A.in1 (newList [] >>= fun l0 => again (.builtin "list.__iadd__" ⟨[l0, .ref a], []⟩)) _ _ s
  refine wpAny_bind (wpAny_newObj_type ?_)
  refine wpAny_pure ⟨plainId_quiet F.plain_list_iadd _, codeAny_builtin F.entry_list_iadd ?_⟩
  rw [Around.under_plainId F.plain_list_iadd _]
  show wpAny _ A.in1 (Builtin.List.listExtendWith (.ref s.heap.objs.size) (.ref a) (.ref s.heap.objs.size)) _ _ _
  unfold Builtin.List.listExtendWith
  have up : ∀ (h : Heap) (f : Obj → Obj), (∀ b o, s.heap.get? b = some o → h.get? b = some o) → ∀ b o, s.heap.get? b = some o → (h.update s.heap.objs.size f).get? b = some o := by
    intro h f q b o e
    exact (Heap.get?_update_other _ _ (Ne.symm (Nat.ne_of_lt (Heap.lt_size e)))).trans (q b o e)
  have k1 : ∀ b o, s.heap.get? b = some o → (s.heap.push { cls := .type "list", data := .seq ([] : List Value).toArray }).get? b = some o := fun b o e => Heap.get?_push_of_some _ e
  have isg : ∀ {h : Heap}, (∀ b o, s.heap.get? b = some o → h.get? b = some o) → h.IsGen a g := fun q => hg.keeps q
  refine wpAny_bind (wpAny_typeOf (Heap.IsGen.typeIs (s := { s with heap := _ }) (isg k1)) ?_)
  have h1 : Builtin.List.listSameRef (.ref s.heap.objs.size) (.ref a) = false := by simp [Builtin.List.listSameRef, hSa]
  have h2 : (Value.type "generator" == Value.type "list") = false := by decide
  have h3 : (Value.type "generator" == Value.type "tuple") = false := by decide
  simp only [h1, h2, h3, Bool.or_false, Bool.false_eq_true, if_false]
  refine wpAny_bind (wpAny_pyIter_gen (s := { s with heap := _ }) (isg k1) ?_)
  refine wpAny_bind (wpAny_holding ?_)
  unfold Builtin.List.listLengthHint
  refine wpAny_bind (wpAny_specialOf (Heap.IsGen.typeIs (s := { s with heap := _ }) (isg k1)) F.gen_no_len ?_)
  show wpAny _ A.in1 (specialOf (Value.ref a) (Str.ofString "__length_hint__") >>= _) _ _ _
  refine wpAny_bind (wpAny_specialOf (Heap.IsGen.typeIs (s := { s with heap := _ }) (isg k1)) F.gen_no_hint ?_)
  refine wpAny_pure ?_
  show wpAny _ A.in1 (rule "list.extend.makes-room" >>= fun _ => Builtin.List.listTouch (.ref s.heap.objs.size) >>= fun _ => again (.builtin "list.extend.loop" ⟨[.ref s.heap.objs.size, .ref a, .ref s.heap.objs.size], []⟩)) _ _ _
  refine wpAny_bind (wpAny_rule (wpAny_bind ?_))
  have hS1 : (s.heap.push { cls := .type "list", data := .seq ([] : List Value).toArray }).get? s.heap.objs.size = some { cls := .type "list", data := .seq ([] : List Value).toArray } := Heap.get?_push_size _ rfl
  show wpAny _ A.in1 (updateSeq s.heap.objs.size (·.push .none) >>= fun _ => updateSeq s.heap.objs.size (·.pop)) _ _ _
  refine wpAny_bind (wpAny_updateSeq hS1 rfl ?_)
  have hS2 := Heap.get?_update_self (Obj.mapSeq (·.push Value.none)) hS1 rfl
  refine wpAny_updateSeq hS2 rfl ?_
  have hS3 := Heap.get?_update_self (Obj.mapSeq (·.pop)) hS2 rfl
  have k3 := up _ (Obj.mapSeq (·.pop)) (up _ (Obj.mapSeq (·.push Value.none)) k1)
  refine wpAny_pure ⟨plainId_quiet F.plain_extend_loop _, ?_⟩
  refine drain (P := P) (w := w) (outer := outer) (H := H) (sc := sc) (ex := ex) (Q := Q) (EX := E0) (A := A) (g := g) hr.hd (by have := hr.dp; show A.depth < _; omega) hSa hSc
    (fun s' acc c H' ys q1 q2 q3 q4 q5 q6 q7 q8 q9 => ?_) (fun e s' z => (hexc e s' z).elim) sizeLine _ (isg k3) (hl.keeps k3) ⟨_, hgs, rfl, ?_⟩
  · show wpAny _ A (load s.heap.objs.size >>= _) _ _ s'
    refine wpAny_bind (wpAny_load q1 ?_)
    exact wpAny_pure (hQ s' acc.toList H' ys q2 q3 q4 q5 q6 q7 q9)
  · refine wake _ _ _ ⟨hr.hd, ?_, ?_⟩ hfr (Nat.le_refl _) k3 ⟨_, hS3⟩ hos (allBare_setGen (s := { s with heap := _ }) hb rfl)
    · have := hr.dp
      show A.depth + 3 * k + 5 < _
      omega
    · have := hr.un
      show A.units + 1 + 1 + 16 * k + 200 < _
      omega
theorem tuple_new_made {u : Value} {Q1 : Value → Shared → Prop} (hr : Room (k + 4) A) (hfr : A.frames = some outer) (h : GMade P w k outer H sc ex Q E0 u s)
    (hQ : ∀ (s' : Shared) (acc : List Value) (H' : Hp) (ys : List V), L2.Vals ys acc → ys.length ≤ sizeLine → s'.os = sc.os → AllBare s'.gens → Un (frs outer) ex H H' sc.heap s'.heap → HOk P w H' s'.heap → Q ys H' →
      Q1 (.ref s'.heap.objs.size) { s' with heap := s'.heap.push { cls := .type "tuple", data := .seq acc.toArray } })
    (hexc : ∀ e s', ¬ CX P w outer H sc E0 e s') : codeAny (model P w) A (.call (.builtin "tuple.__new__") ⟨[.type "tuple", u], []⟩) (wants Q1 E) s := by
  obtain ⟨a, g, c, ea, _, _, hg, _⟩ := id h
  subst ea
  refine codeAny_of_tree ?_
  show wpAny _ A.in1 (do checkBuiltinCall "tuple.__new__" ⟨[.type "tuple", .ref a], []⟩; again (.builtin "tuple.__new__" ⟨[.type "tuple", .ref a], []⟩)) _ _ s
  refine wpAny_bind (wpAny_of_eq (F.newCall_tuple_1 _) (wpAny_pure ⟨plainId_quiet F.plain_tuple_new _, codeAny_builtin F.entry_tuple_new ?_⟩))
  rw [Around.under_plainId F.plain_tuple_new _]
  have hsub := sub_tuple_self
  have hinit := init_tuple_lookup
  have hmh := madeHere_tuple
  have hTI := hg.typeIs
  have hr1 : Room (k + 3) A.in1 := hr.in1
  wp_walk using wpAny_typeOf hTI, collect_made hr1 hfr h
  · intro s' acc H' ys q1 q2 q3 q4 q5 q6 q7
    show wpAny _ _ (Builtin.Tuple.tupleExact acc.toArray >>= fun v => ret v) _ _ _
    unfold Builtin.Tuple.tupleExact
    refine wpAny_bind (wpAny_newObj_type ?_ (by show acc.toArray.size ≤ sizeLine; rw [List.size_toArray, ← q1.length]; exact q2))
    exact wpAny_pure (hQ s' acc H' ys q1 q2 q3 q4 q5 q6 q7)
  · exact hexc
theorem call_tuple_made {u : Value} {Q' : Value → Shared → Prop} (hr : Room (k + 5) A) (hfr : A.frames = some outer) (h : GMade P w k outer H sc ex Q E0 u s)
    (hQ : ∀ (s' : Shared) (acc : List Value) (H' : Hp) (ys : List V), L2.Vals ys acc → ys.length ≤ sizeLine → s'.os = sc.os → AllBare s'.gens → Un (frs outer) ex H H' sc.heap s'.heap → HOk P w H' s'.heap → Q ys H' →
      Q' (.ref s'.heap.objs.size) { s' with heap := s'.heap.push { cls := .type "tuple", data := .seq acc.toArray } })
    (hexc : ∀ e s', ¬ CX P w outer H sc E0 e s') : wpAny (model P w) A (call (.type "tuple") [u]) Q' E s := by
  refine callType_codes (Q₁ := fun obj s₁ => s₁.TypeIs obj "tuple" ∧ Q' obj s₁) F.called_tuple (F.typeCall_tuple_1 _) F.entry_object_init
    (tuple_new_made hr.in1 hfr h (fun s' acc H' ys q1 q2 q3 q4 q5 q6 q7 => ⟨⟨_, Heap.get?_push_size _ rfl, rfl⟩, hQ s' acc H' ys q1 q2 q3 q4 q5 q6 q7⟩) hexc) fun obj s₁ h₁ => ?_
  exact ⟨h₁.1, F.args_object_init_2 obj _, object_init_meets F.called_tuple.init.lookup F.called_tuple.made (by decide) P w A.in1 _ s₁ ⟨h₁.1, rfl, h₁.2⟩⟩
end
/-! ### the expression tuple(e for x in xs) -/
def tTupGx (P : Addr) (wi : TI) (g : TG) (te : TE) (vs : List Nat) : TE := fun σ H Q => wi σ H fun J H1 => GxR.TabG H1 P ∧ ∀ H2, GxR.Tabbed P H1 H2 →
  ∃ W : Nat → Nat → List V → Hp → Prop, (∃ m, W 0 m [] H2) ∧ Turns J g te vs σ (fun ys H' => ∀ p, H' p = none → Q (.ref p) (upd H' p (.tup ys))) W
section
variable {X : Cx}
theorem gx_eval {c P : Addr} {elt tg iter : Expr} {scope : Scope} {own : List (Str × Nat)} {gpos : Pos} {wi : TI} {g : TG} {te : TE} {pins : List (Addr × Obj)} {s : Shared} {σ : L2.St} {H : Hp} {R : List V → Hp → Prop} {Q' : Value → Shared → Prop} (hc : X.calm = true) (hr : Room 5 X.A) (hN : X.N.Nodup)
    (TB : GxR.TabB X.base X.mg c P) (hcode : X.env.code = .ref c) (hi : PI X tg iter wi) (ok : BlkOk X.N X.env.scope scope own) (nc : ∀ y ∈ scope.names, y.2 ≠ .cell) (hco : scope.isCoroutine = false) (dot : scope.names.lookup (".0" : Str) = some NameKind.local)
    (pg : ∀ (A : Around) (s : Shared) (H : Hp) (code : Value) (fp : List Addr) (pn : List (Addr × Obj)), PG (gx X A s H (gxEnv X scope s code) fp pn) tg g)
    (pe : ∀ (A : Around) (s : Shared) (H : Hp) (code : Value) (fp : List Addr) (pn : List (Addr × Obj)), PE (gx X A s H (gxEnv X scope s code) fp pn) elt te)
    (hs : ∀ v, genFold iter X.env v = pure v) (I : L2.Inv X pins σ H s)
    (h : wi σ H fun J H1 => GxR.TabG H1 P ∧ ∀ H2, GxR.Tabbed P H1 H2 → ∃ W : Nat → Nat → List V → Hp → Prop, (∃ m, W 0 m [] H2) ∧ Turns J g te (own.map (·.2)) σ R W)
    (hQ : ∀ (u : Value) (s5 sc : Shared) (H2 : Hp) (fp : List Addr), L2.Inv X pins σ H2 sc → (∀ b ∈ fp, FpOk X pins H2 b) → GMade X.prog X.w 0 X.stack H2 sc fp R E0 u s5 → Q' u s5) :
    wpAny (model X.prog X.w) X.A (eval (.GeneratorExp elt [⟨tg, iter, [], 0⟩] scope gpos) X.env) Q' X.xe s := by
  have hfree : ∀ y ∈ scope.names, y.2 = .free → ∃ c, X.env.cells.lookup y.1 = some c := by
    intro y hy e
    exact (ok.free y hy e).elim (fun k => I.ok.has _ (.inl k)) (fun k => I.ok.has _ (.inr k))
  refine wpAny_GeneratorExp_make hco (closure_ok hfree) nc dot ok.kind (by have := hr.dp; omega) ?_ hs
  refine thn (hi.run pins s σ H _ I h) fun xv s1 h1 => thn h1 fun itv s2 h2 => ?_
  obtain ⟨it, fp, tn, J, H1, e, I2, T, st2, f2, ⟨ps, hP, ht⟩, q⟩ := h2
  subst e
  have hPs : s2.heap.get? P = some { cls := .none, data := .fields ps } := I2.hok P _ hP
  have cd : PySem.W.CodeHd s2.heap c P := TB.code.keeps I2.bk
  have nP : ∀ b ∈ fp, b ≠ P := fun b hb z => by
    have y := (f2 b hb).1
    rw [z, hP] at y
    cases y
  have hcP : cStatics ≠ P := fun e => by
    obtain ⟨_, hns, _⟩ := I2.nolimit
    obtain ⟨o', es, ep, ho, hd, _⟩ := hns
    rw [e, hPs] at ho
    cases ho
    cases hd
  refine ⟨I2.nolimit, ?_⟩
  have cont : ∀ (code : Value) (h3 : Heap) (tk : Nat) (ps' : Array Value), Heap.ExtBut P s2.heap h3 → s2.heap.objs.size ≤ h3.objs.size → h3.get? P = some { cls := .none, data := .fields ps' } → (∃ more, ps' = ps ++ more) → TriplesOk ps'.toList →
      wpAny (model X.prog X.w) X.A (builtinsFor X.env.globals X.env.builtins) (fun bi s₄ => ∀ h', h'.Ns s₄.heap.objs.size (fun y => if y = ".0" then some (Value.ref it) else none) → Heap.SameBut s₄.heap.objs.size (s₄.heap.push { cls := .type "frame", data := .dict #[] }) h' →
        Q' (Value.ref h'.objs.size) ({ s₄ with
          gens := s₄.gens.push (.fresh (.compStart (.GeneratorExp elt [⟨tg, iter, [], 0⟩] scope gpos) 0 (.ref it) .none (genEnv scope (cloFrom X.env.cells scope.names []) s₄.heap.objs.size code bi X.env))),
          toks := s₄.toks + 1 + 1 + 1,
          heap := h'.push { cls := .type "generator", data := .fields #[.int s₄.gens.size 0, .str "<genexpr>" (s₄.toks + 1), .str (X.env.qual ++ "<genexpr>") (s₄.toks + 1 + 1)] } } : Shared)) X.xe { s2 with heap := h3, toks := tk } := by
    intro code h3 tk ps' hx hsz hP3 hmore ht3
    obtain ⟨bm, ob, e1, e2, e3, e4, e5, e6, e7, e8⟩ := TB.bm
    have keep3 : ∀ b u, b ≠ P → s2.heap.get? b = some u → h3.get? b = some u := fun b u hb e => hx b u hb e
    refine wpAny_builtinsFor (m := X.mg) (by rw [I2.ok.glob]; exact (I2.mod.glob.keeps I2.bk).extBut hx TB.gP) e1 e2 (keep3 _ _ e4 (I2.bk _ _ e5)) e6 e7 e8 ?_
    intro h' hn' hs'
    obtain ⟨more, em⟩ := hmore
    have I3 : L2.Inv X pins σ (upd H1 P (.tbl (ps ++ more))) { s2 with heap := h3, toks := tk } :=
      GxR.inv_tab (more := more) (h' := h3) (g' := s2.gens) (d' := s2.drawn) (t' := tk) I2 hP keep3 (by rw [← em]; exact hP3) I2.bare
    obtain ⟨W, ⟨m, w0⟩, turn⟩ := q _ (show GxR.Tabbed P H1 (upd H1 P (.tbl (ps ++ more))) from ⟨⟨ps ++ more, upd_same, by rw [← em]; exact ht3⟩, fun b hb => upd_ne hb⟩)
    have fp3 : ∀ b ∈ fp, FpOk X pins (upd H1 P (.tbl (ps ++ more))) b ∧ b < h3.objs.size := by
      intro b hb
      obtain ⟨o, eo, _⟩ := T.obj _ _ st2 b hb
      refine ⟨⟨by rw [upd_ne (nP b hb)]; exact (f2 b hb).1, (f2 b hb).2⟩, Nat.lt_of_lt_of_le (Heap.lt_size eo) hsz⟩
    have st3 : tn 0 h3 := T.keep _ _ _ st2 fun b hb o e => keep3 b o (nP b hb) e
    have hsz' : h'.objs.size = h3.objs.size + 1 := by
      rw [hs'.1, Heap.size_push]
    have kp' : ∀ b o, h3.get? b = some o → h'.get? b = some o := fun b o e => hs'.extBut b o (Nat.ne_of_lt (Heap.lt_size e)) (Heap.get?_push_of_some _ e)
    have made := gx_made (k := 0) (own := own) (code := code) (iter := iter) (pos := gpos) (tk := tk + 1 + 1 + 1) I3 ok hN nc hco hc T st3 fp3 (fun A pn => pg A _ _ code fp pn) (fun A pn => pe A _ _ code fp pn) w0 turn hn' hsz' kp'
      (go := { cls := .type "generator", data := .fields #[.int s2.gens.size 0, .str "<genexpr>" (tk + 1), .str (X.env.qual ++ "<genexpr>") (tk + 1 + 1)] }) rfl rfl rfl (Heap.get?_push_size _ rfl)
    exact hQ _ _ _ _ fp I3 (fun b hb => (fp3 b hb).1) made
  cases hf : codeAmong gpos ps.toList with
  | none =>
    refine wpAny_genexprCodeX hcode (cd.code hPs ht) (cd.tab hPs) hf fun c' h' tk hx hge hlt hco' _ htab' _ => ?_
    obtain ⟨o1, vs, f1, tf, fl, tg', inF, tx, tt, op, _, _, _, _, _, _, _, _, _, htr, _⟩ := hco'
    exact cont _ h' tk _ hx (Nat.le_trans hge (Nat.le_of_lt hlt)) htab'.2 ⟨_, rfl⟩ htr
  | some cv =>
    refine wpAny_genexprCode_hit hcode (cd.code hPs ht) hf ?_
    exact cont cv s2.heap s2.toks ps (Heap.ExtBut.refl _ _) (Nat.le_refl _) hPs ⟨#[], by simp⟩ ht
theorem pe_tupGx {c P : Addr} {elt tg iter : Expr} {scope : Scope} {own : List (Str × Nat)} {p pos gpos : Pos} {wi : TI} {g : TG} {te : TE} (hc : X.calm = true) (hr : Room 5 X.A) (hN : X.N.Nodup) (hg : Gl X "tuple") (hm : X.mg "tuple" = none)
    (TB : GxR.TabB X.base X.mg c P) (hcode : X.env.code = .ref c) (hi : PI X tg iter wi) (ok : BlkOk X.N X.env.scope scope own) (nc : ∀ y ∈ scope.names, y.2 ≠ .cell) (hco : scope.isCoroutine = false) (dot : scope.names.lookup (".0" : Str) = some NameKind.local)
    (pg : ∀ (A : Around) (s : Shared) (H : Hp) (code : Value) (fp : List Addr) (pn : List (Addr × Obj)), PG (gx X A s H (gxEnv X scope s code) fp pn) tg g)
    (pe : ∀ (A : Around) (s : Shared) (H : Hp) (code : Value) (fp : List Addr) (pn : List (Addr × Obj)), PE (gx X A s H (gxEnv X scope s code) fp pn) elt te)
    (hs : ∀ v, genFold iter X.env v = pure v)
    (he : starEach [.GeneratorExp elt [⟨tg, iter, [], 0⟩] scope gpos] X.env = (false, eval (.GeneratorExp elt [⟨tg, iter, [], 0⟩] scope gpos) X.env) :: starEach [] X.env := by rfl) :
    PE X (.Call (.Name "tuple" p) [.GeneratorExp elt [⟨tg, iter, [], 0⟩] scope gpos] [] pos) (tTupGx P wi g te (own.map (·.2))) := by
  refine ⟨fun pins s σ H Q I h => ?_⟩
  refine Call_ (ld_blt I hg hm boot_tuple (PyProof.Rows.callWith_type1 (args_cons ?_ he) he rfl))
  refine gx_eval hc hr hN TB hcode hi ok nc hco dot pg pe hs I h fun u s5 sc H2 fp I3 fp3 made => args_nil ?_
  refine call_tuple_made hr I.ok.frames made (fun s' acc H' ys q1 q2 q3 q4 q5 q6 q7 => ?_) (fun e s' z => ?_)
  · have J3 : L2.Inv X pins σ H' s' := I3.call' (ch := fp) q3 q5 q6 q4 fun b hb => ⟨(fp3 b hb).2.2.2.1, (fp3 b hb).2.1, (fp3 b hb).2.2.2.2.1, (fp3 b hb).2.2.2.2.2⟩
    refine ⟨.ref _, _, J3.laid (t' := s'.toks) (o := .tup ys) (fun b ob z => Heap.get?_push_of_some _ z) (Nat.le_refl _) ?_, rfl, q7 _ (J3.hok.fresh (Nat.le_refl _))⟩
    exact ⟨q2, acc, q1, _, Heap.get?_push_size _ rfl, rfl, _, rfl⟩
  · obtain ⟨_, _, _, _, _, _, _, _, _, _, _, _, z⟩ := z
    exact z
end
end Gx
set_option maxHeartbeats 4000000
/-! tuple * int, also by 0 and by 1. -/
namespace Gx
open PySem PySem.Spec PyProof.Rows L2
theorem tuple_mul1 (l : Addr) (items : Array Value) (n : Nat) (dd : Option Addr) (sl : Array (Option Value)) (u : Tok) :
    Meets (Builtin.«tuple.__mul__» ⟨[.ref l, .int 1 u], []⟩) (fun _ R s => s.heap.get? l = some { cls := .type "tuple", dict := dd, data := .seq items n, slots := sl } ∧ R (.ok (.ret (Value.ref l))) s) :=
  .of_wp fun prog w A R s h => by
    obtain ⟨hp, g, d, tk, os⟩ := s
    obtain ⟨hl, h⟩ := h
    have f1 := AutoSeq1.idx_int
    wp_walk using wpAny_loadPart' hl
    repeat (first
      | (refine wpAny_ite_false (decide_eq_false (by decide)) ?_; wp_walk using wpAny_loadPart' hl)
      | (refine wpAny_ite_true (decide_eq_true (by simp)) ?_; wp_walk using wpAny_loadPart' hl))
    exact ⟨_, rfl, h⟩
theorem tuple_mul0 (l : Addr) (items : Array Value) (n : Nat) (dd : Option Addr) (sl : Array (Option Value)) (u : Tok) (c1 : items.isEmpty = false) :
    Meets (Builtin.«tuple.__mul__» ⟨[.ref l, .int 0 u], []⟩) (fun _ R s => s.heap.get? l = some { cls := .type "tuple", dict := dd, data := .seq items n, slots := sl } ∧
      R (.ok (.ret (Value.ref s.heap.objs.size))) { s with heap := s.heap.push { cls := Value.type "tuple", data := Data.seq #[] }, toks := s.toks }) :=
  .of_wp fun prog w A R s h => by
    obtain ⟨hp, g, d, tk, os⟩ := s
    obtain ⟨hl, h⟩ := h
    have f1 := AutoSeq1.idx_int
    wp_walk using wpAny_loadPart' hl
    repeat (first
      | (refine wpAny_ite_false (decide_eq_false (by decide)) ?_; wp_walk using wpAny_loadPart' hl)
      | (refine wpAny_ite_false (decide_eq_false (by rw [c1]; decide)) ?_; wp_walk using wpAny_loadPart' hl)
      | (refine wpAny_ite_true (decide_eq_true (by simp)) ?_; wp_walk using wpAny_loadPart' hl))
    exact ⟨_, rfl, h⟩
def rRepA (K : PySem.W.Frag) : R2 := fun x y H Q => ∃ l k xs, x = .ref l ∧ y = .int k ∧ SqT K H l xs ∧ xs ≠ [] ∧ 0 ≤ k ∧ k ≤ 1000 ∧ xs.length ≤ 1000 ∧ (k = 1 → Q (.ref l) H) ∧ (k ≠ 1 → ∀ p, H p = none → Q (.ref p) (upd H p (.tup (List.replicate k.toNat xs).flatten)))
section
variable {X : Cx}
theorem op_repA : OpR X (binaryOp .Mult) (rRepA X.K) := by
  intro pins s σ H x y v u Q I rx ry h
  obtain ⟨l, k, xs, rfl, rfl, hT, hne, h1, h2, hz, q1, q⟩ := h
  by_cases k2 : 2 ≤ k
  · exact op_repT pins s σ H _ _ v u Q I rx ry ⟨l, k, xs, rfl, rfl, hT, hne, k2, h2, hz, q (by omega)⟩
  · cases rx
    obtain ⟨t, rfl⟩ := ry
    have hT0 := hT
    obtain ⟨its, r, ⟨⟨cls, dd, data, sl⟩, ho, hc, n, hd⟩, hs⟩ := I.tuple hT
    simp only at hc hd
    subst hc hd
    have hle : its.length = xs.length := r.length.symm
    have hn : its ≠ [] := fun e => hne (by
      rw [e] at hle
      exact List.eq_nil_of_length_eq_zero hle.symm)
    have hi : its.toArray.isEmpty = false := by
      cases its with
      | nil => exact absurd rfl hn
      | cons a b => rfl
    rcases (show k = 0 ∨ k = 1 by omega) with rfl | rfl
    · refine wpAny_binaryOp_repeat_ref (T := "tuple") (U := "int") (by decide) ⟨_, ho, rfl⟩ (fun s' => typeIs_int s' 0 t) noFill_tuple_mul F.fills_int_mul F.slot_int_rmul repeat_tuple F.slot_int_index.lookup
        (call_meets F.slot_int_rmul (typeIs_int s 0 t) F.entry_int_rmul (F.args_int_rmul_2 _ _) (int_rmul_tuple 0 t l its.toArray n dd sl)
          ⟨ho, rfl, ⟨_, ho, rfl⟩, call_meets F.slot_tuple_mul ⟨_, ho, rfl⟩ F.entry_tuple_mul (F.args_tuple_mul_2 _ _) (tuple_mul0 l its.toArray n dd sl t hi) ⟨ho, ?_⟩⟩)
      refine ⟨.ref s.heap.objs.size, _, I.laid (t' := s.toks) (o := .tup []) (fun b ob q => Heap.get?_push_of_some _ q) (Nat.le_refl _) ?_, rfl, q (by decide) _ (I.hok.fresh (Nat.le_refl _))⟩
      exact ⟨by simp [sizeLine_eq], [], .nil, IsTup.new _ _⟩
    · refine wpAny_binaryOp_repeat_ref (T := "tuple") (U := "int") (by decide) ⟨_, ho, rfl⟩ (fun s' => typeIs_int s' 1 t) noFill_tuple_mul F.fills_int_mul F.slot_int_rmul repeat_tuple F.slot_int_index.lookup
        (call_meets F.slot_int_rmul (typeIs_int s 1 t) F.entry_int_rmul (F.args_int_rmul_2 _ _) (int_rmul_tuple 1 t l its.toArray n dd sl)
          ⟨ho, rfl, ⟨_, ho, rfl⟩, call_meets F.slot_tuple_mul ⟨_, ho, rfl⟩ F.entry_tuple_mul (F.args_tuple_mul_2 _ _) (tuple_mul1 l its.toArray n dd sl t) ⟨ho, ?_⟩⟩)
      exact ⟨.ref l, H, I, rfl, q1 rfl⟩
end
end Gx
namespace Kp
open PySem L2
def top (i : Nat) : Stmt := PySem.Challenge.pw_fairposts_k05_whole_meets.main.body.getD i (.Pass ⟨0, 0, 0, 0⟩)
abbrev s_nought : Stmt := top 1
def N_nought : List Str := ["posts"]
theorem sc_nought : FnScope ["posts"] ["posts"] (defScope s_nought) := ⟨rfl, rfl, rfl, by decide +kernel, rfl, by decide +kernel, by decide +kernel⟩
abbrev s_added : Stmt := top 2
def N_added : List Str := ["p", "one", "other", "a", "b", "c", "d"]
theorem sc_added : FnScope ["p", "one", "other", "a", "b", "c", "d"] ["p", "one", "other"] (defScope s_added) := ⟨rfl, rfl, rfl, by decide +kernel, rfl, by decide +kernel, by decide +kernel⟩
abbrev s_times : Stmt := top 3
def N_times : List Str := ["p", "number", "row", "push", "answer"]
theorem sc_times : FnScope ["p", "number", "row", "push", "answer"] ["p", "number", "row"] (defScope s_times) := ⟨rfl, rfl, rfl, by decide +kernel, rfl, by decide +kernel, by decide +kernel⟩
abbrev s_meet : Stmt := top 4
def N_meet : List Str := ["p", "one", "other", "a", "b", "c", "d"]
theorem sc_meet : FnScope ["p", "one", "other", "a", "b", "c", "d"] ["p", "one", "other"] (defScope s_meet) := ⟨rfl, rfl, rfl, by decide +kernel, rfl, by decide +kernel, by decide +kernel⟩
abbrev s_part : Stmt := top 5
def N_part : List Str := ["row", "posts", "post"]
theorem sc_part : FnScope ["row", "posts", "post"] ["row", "posts"] (defScope s_part) := ⟨rfl, rfl, rfl, by decide +kernel, rfl, by decide +kernel, by decide +kernel⟩
abbrev s__law_deck : Stmt := top 7
def N__law_deck : List Str := ["_law_script", "_law_cells", "_law_cell"]
theorem sc__law_deck : FnScope ["_law_script", "_law_cells", "_law_cell"] ["_law_script"] (defScope s__law_deck) := ⟨rfl, rfl, rfl, by decide +kernel, rfl, by decide +kernel, by decide +kernel⟩
abbrev s__law_next : Stmt := top 8
def N__law_next : List Str := ["_law_deck_here", "_law_many", "_law_cell", "_law_mixed", "_law_rest"]
theorem sc__law_next : FnScope ["_law_deck_here", "_law_many", "_law_cell", "_law_mixed", "_law_rest"] ["_law_deck_here", "_law_many"] (defScope s__law_next) := ⟨rfl, rfl, rfl, by decide +kernel, rfl, by decide +kernel, by decide +kernel⟩
abbrev s__law_prime : Stmt := top 9
def N__law_prime : List Str := ["_law_deck_here"]
theorem sc__law_prime : FnScope ["_law_deck_here"] ["_law_deck_here"] (defScope s__law_prime) := ⟨rfl, rfl, rfl, by decide +kernel, rfl, by decide +kernel, by decide +kernel⟩
abbrev s__law_numbers : Stmt := top 10
def N__law_numbers : List Str := ["_law_deck_here", "_law_p", "_law_many", "_law_k"]
theorem sc__law_numbers : FnScope ["_law_deck_here", "_law_p", "_law_many", "_law_k"] ["_law_deck_here", "_law_p", "_law_many"] (defScope s__law_numbers) := ⟨rfl, rfl, rfl, by decide +kernel, rfl, by decide +kernel, by decide +kernel⟩
abbrev s__law_row : Stmt := top 11
def N__law_row : List Str := ["_law_deck_here", "_law_p", "_law_posts", "_law_k"]
theorem sc__law_row : FnScope ["_law_deck_here", "_law_p", "_law_posts", "_law_k"] ["_law_deck_here", "_law_p", "_law_posts"] (defScope s__law_row) := ⟨rfl, rfl, rfl, by decide +kernel, rfl, by decide +kernel, by decide +kernel⟩
abbrev s__law_single : Stmt := top 12
def N__law_single : List Str := ["_law_posts", "_law_place", "_law_numbers_here", "_law_k"]
theorem sc__law_single : FnScope ["_law_posts", "_law_place", "_law_numbers_here", "_law_k"] ["_law_posts", "_law_place"] (defScope s__law_single) := ⟨rfl, rfl, rfl, by decide +kernel, rfl, by decide +kernel, by decide +kernel⟩
abbrev s__law_straight : Stmt := top 13
def N__law_straight : List Str := ["_law_p", "_law_one", "_law_other", "_law_third", "_law_number", "_law_by", "_law_whole", "_law_due", "_law_back"]
theorem sc__law_straight : FnScope ["_law_p", "_law_one", "_law_other", "_law_third", "_law_number", "_law_by", "_law_whole", "_law_due", "_law_back"] ["_law_p", "_law_one", "_law_other", "_law_third", "_law_number", "_law_by"] (defScope s__law_straight) := ⟨rfl, rfl, rfl, by decide +kernel, rfl, by decide +kernel, by decide +kernel⟩
abbrev s__law_seen : Stmt := top 14
def N__law_seen : List Str := ["_law_p", "_law_posts", "_law_row_here", "_law_told", "_law_place", "_law_one"]
theorem sc__law_seen : FnScope ["_law_p", "_law_posts", "_law_row_here", "_law_told", "_law_place", "_law_one"] ["_law_p", "_law_posts", "_law_row_here"] (defScope s__law_seen) := ⟨rfl, rfl, rfl, by decide +kernel, rfl, by decide +kernel, by decide +kernel⟩
abbrev s__law_apart : Stmt := top 15
def N__law_apart : List Str := ["_law_p", "_law_posts", "_law_one", "_law_other", "_law_cut", "_law_here", "_law_first", "_law_last"]
theorem sc__law_apart : FnScope ["_law_p", "_law_posts", "_law_one", "_law_other", "_law_cut", "_law_here", "_law_first", "_law_last"] ["_law_p", "_law_posts", "_law_one", "_law_other", "_law_cut"] (defScope s__law_apart) := ⟨rfl, rfl, rfl, by decide +kernel, rfl, by decide +kernel, by decide +kernel⟩
abbrev s_law : Stmt := top 16
def N_law : List Str := ["_law_script", "_law_deck_here", "_law_turn", "_law_p", "_law_posts", "_law_one", "_law_other", "_law_third", "_law_number", "_law_by", "_law_k"]
theorem sc_law : FnScope ["_law_script", "_law_deck_here", "_law_turn", "_law_p", "_law_posts", "_law_one", "_law_other", "_law_third", "_law_number", "_law_by", "_law_k"] ["_law_script"] (defScope s_law) := ⟨rfl, rfl, rfl, by decide +kernel, rfl, by decide +kernel, by decide +kernel⟩
structure Df (K : PySem.W.Frag) (mg : Str → Option Value) (x : Str) (st : Stmt) (ps : List Str) (f : Addr) (fd : FuncData) : Prop where
  F : Fun K x x st f fd
  b : Binds K fd ps []
  g : mg x = some (.ref f)
structure Ad where
  f_nought : Addr
  d_nought : FuncData
  f_added : Addr
  d_added : FuncData
  f_times : Addr
  d_times : FuncData
  f_meet : Addr
  d_meet : FuncData
  f_part : Addr
  d_part : FuncData
  f__law_deck : Addr
  d__law_deck : FuncData
  f__law_next : Addr
  d__law_next : FuncData
  f__law_prime : Addr
  d__law_prime : FuncData
  f__law_numbers : Addr
  d__law_numbers : FuncData
  f__law_row : Addr
  d__law_row : FuncData
  f__law_single : Addr
  d__law_single : FuncData
  f__law_straight : Addr
  d__law_straight : FuncData
  f__law_seen : Addr
  d__law_seen : FuncData
  f__law_apart : Addr
  d__law_apart : FuncData
  f_law : Addr
  d_law : FuncData
structure Tx (K : PySem.W.Frag) (mg : Str → Option Value) (A : Ad) : Prop where
  d_nought : Df K mg "nought" s_nought ["posts"] A.f_nought A.d_nought
  d_added : Df K mg "added" s_added ["p", "one", "other"] A.f_added A.d_added
  d_times : Df K mg "times" s_times ["p", "number", "row"] A.f_times A.d_times
  d_meet : Df K mg "meet" s_meet ["p", "one", "other"] A.f_meet A.d_meet
  d_part : Df K mg "part" s_part ["row", "posts"] A.f_part A.d_part
  d__law_deck : Df K mg "_law_deck" s__law_deck ["_law_script"] A.f__law_deck A.d__law_deck
  d__law_next : Df K mg "_law_next" s__law_next ["_law_deck_here", "_law_many"] A.f__law_next A.d__law_next
  d__law_prime : Df K mg "_law_prime" s__law_prime ["_law_deck_here"] A.f__law_prime A.d__law_prime
  d__law_numbers : Df K mg "_law_numbers" s__law_numbers ["_law_deck_here", "_law_p", "_law_many"] A.f__law_numbers A.d__law_numbers
  d__law_row : Df K mg "_law_row" s__law_row ["_law_deck_here", "_law_p", "_law_posts"] A.f__law_row A.d__law_row
  d__law_single : Df K mg "_law_single" s__law_single ["_law_posts", "_law_place"] A.f__law_single A.d__law_single
  d__law_straight : Df K mg "_law_straight" s__law_straight ["_law_p", "_law_one", "_law_other", "_law_third", "_law_number", "_law_by"] A.f__law_straight A.d__law_straight
  d__law_seen : Df K mg "_law_seen" s__law_seen ["_law_p", "_law_posts", "_law_row_here"] A.f__law_seen A.d__law_seen
  d__law_apart : Df K mg "_law_apart" s__law_apart ["_law_p", "_law_posts", "_law_one", "_law_other", "_law_cut"] A.f__law_apart A.d__law_apart
  d_law : Df K mg "law" s_law ["_law_script"] A.f_law A.d_law
  b_abs : mg "abs" = none
  b_int : mg "int" = none
  b_len : mg "len" = none
  b_range : mg "range" = none
  b_sum : mg "sum" = none
  b_tuple : mg "tuple" = none
  b_zip : mg "zip" = none
/-! ### heaps -/
theorem same_upd {H : Hp} {p : Addr} {o : HO} (h : H p = none) : Same H (upd H p o) := fun b x e => by
  rw [upd_ne (ne_of_none e h)]
  exact e
/-- all but the deck's two lists that change stays -/
def Fr (d g : Addr) (H H' : Hp) : Prop := ∀ a o, a ≠ d → a ≠ g → H a = some o → H' a = some o
theorem Fr.refl (d g : Addr) (H : Hp) : Fr d g H H := fun _ _ _ _ h => h
theorem Fr.trans {d g : Addr} {H H1 H2 : Hp} (x : Fr d g H H1) (y : Fr d g H1 H2) : Fr d g H H2 := fun a o hd hg h => y a o hd hg (x a o hd hg h)
theorem Fr.of_same {d g : Addr} {H H1 : Hp} (x : Same H H1) : Fr d g H H1 := fun a o _ _ h => x a o h
theorem Fr.new {d g : Addr} {H : Hp} {p : Addr} {o : HO} (h : H p = none) : Fr d g H (upd H p o) := .of_same (same_upd h)
theorem Fr.atd {d g : Addr} {H : Hp} {o : HO} : Fr d g H (upd H d o) := fun a x hd _ h => by
  rw [upd_ne hd]
  exact h
theorem Fr.atg {d g : Addr} {H : Hp} {o : HO} : Fr d g H (upd H g o) := fun a x _ hg h => by
  rw [upd_ne hg]
  exact h
/-- the deck: a list of great cells, of cells, and a count that is at most k -/
structure Dk (d g c : Addr) (k : Int) (H : Hp) : Prop where
  ex : ∃ (gs cs : List Int) (n : Int), H d = some (.lst [.ref g, .ref c, .int n]) ∧ H g = some (.lst (gs.map V.int)) ∧ H c = some (.lst (cs.map V.int)) ∧ 0 < cs.length ∧ cs.length ≤ 100 ∧ 0 ≤ n ∧ n ≤ k
  dg : d ≠ g
  dc : d ≠ c
  gc : g ≠ c
theorem Dk.mono {d g c : Addr} {k j : Int} {H : Hp} (D : Dk d g c k H) (h : k ≤ j) : Dk d g c j H := by
  obtain ⟨gs, cs, n, h1, h2, h3, h4, h5, h6, h7⟩ := D.ex
  exact ⟨⟨gs, cs, n, h1, h2, h3, h4, h5, h6, by omega⟩, D.dg, D.dc, D.gc⟩
theorem Dk.same {d g c : Addr} {k : Int} {H H' : Hp} (D : Dk d g c k H) (s : Same H H') : Dk d g c k H' := by
  obtain ⟨gs, cs, n, h1, h2, h3, h4, h5, h6, h7⟩ := D.ex
  exact ⟨⟨gs, cs, n, s _ _ h1, s _ _ h2, s _ _ h3, h4, h5, h6, h7⟩, D.dg, D.dc, D.gc⟩
theorem Dk.hd {d g c : Addr} {k : Int} {H : Hp} (D : Dk d g c k H) : ∃ o, H d = some o := by
  obtain ⟨gs, cs, n, h1, _⟩ := D.ex
  exact ⟨_, h1⟩
theorem Dk.nd {d g c p : Addr} {k : Int} {H : Hp} (D : Dk d g c k H) (h : H p = none) : p ≠ d ∧ p ≠ g ∧ p ≠ c := by
  obtain ⟨gs, cs, n, h1, h2, h3, _⟩ := D.ex
  exact ⟨(ne_of_none h1 h).symm, (ne_of_none h2 h).symm, (ne_of_none h3 h).symm⟩
theorem neqv_nil : ∀ gs : List Int, PyData.eqv (.list (gs.map PyData.int)) (.list []) = gs.isEmpty
  | [] => rfl
  | _ :: _ => rfl
theorem dp_ints {K : PySem.W.Frag} {H : Hp} : ∀ gs : List Int, DpAll K H (gs.map V.int) (gs.map PyData.int)
  | [] => .nil
  | i :: r => .cons (.int i) (dp_ints r)
theorem lay_ints : ∀ gs : List Int, PyData.canLayAll0 (gs.map PyData.int) = true
  | [] => by simp [PyData.canLayAll0]
  | z :: zs => by simp [PyData.canLayAll0, PyData.canLay0, lay_ints zs]
theorem dep_ints : ∀ gs : List Int, PyData.depthAll (gs.map PyData.int) = 0
  | [] => by simp [PyData.depthAll]
  | z :: zs => by simp [PyData.depthAll, PyData.depth, dep_ints zs]
theorem sh_ints (gs : List Int) : SeqAt.shaped (.list (gs.map PyData.int)) = true := by
  have h1 := dep_ints gs
  have h2 : PyData.depth (.list (gs.map PyData.int)) ≤ 64 := by
    simp only [PyData.depth]
    omega
  show (PyData.canLay0 (.list (gs.map PyData.int)) && decide (PyData.depth (.list (gs.map PyData.int)) ≤ 64)) = true
  rw [Bool.and_eq_true]
  exact ⟨by simp only [PyData.canLay0]; exact lay_ints gs, decide_eq_true h2⟩
theorem atI_zero {α : Type} {x : α} {xs : List α} : atI (x :: xs) 0 = some x := atI_nat (j := 0) rfl
theorem ints_at {cs : List Int} {i : Int} (h0 : 0 ≤ i) (h1 : i < cs.length) : ∃ v : Int, atI (cs.map V.int) i = some (V.int v) := by
  obtain ⟨j, rfl⟩ := Int.eq_ofNat_of_zero_le h0
  have hj : j < cs.length := by omega
  refine ⟨cs[j], ?_⟩
  apply atI_nat
  rw [List.getElem?_map, List.getElem?_eq_getElem hj]
  rfl
theorem int_of_map {cs : List Int} {i : Nat} {y : V} (h : (cs.map V.int)[i]? = some y) : ∃ u, y = V.int u := by
  rw [List.getElem?_map] at h
  cases e : cs[i]? with
  | none =>
    rw [e] at h
    cases h
  | some u =>
    rw [e] at h
    exact ⟨u, (Option.some.inj h).symm⟩
theorem ixN_zero {n : Nat} (h : 0 < n) : ixN n 0 = some 0 := by
  unfold ixN
  rw [if_pos (Int.le_refl 0), if_pos (by omega)]
  rfl
theorem ixN_seq0 {n : Nat} (h : 0 < n) : seqIndex? 0 n = some 0 := (ixN_seq (ixN_zero h)).1
theorem mod_in {a m : Int} (h0 : 0 < m) (h1 : m ≤ 2 ^ 64) : -(2 ^ 64) < a % m ∧ a % m < 2 ^ 64 := by
  have x := Int.emod_nonneg a (b := m) (by omega)
  have y := Int.emod_lt_of_pos a h0
  exact ⟨by omega, by omega⟩
theorem bl_t {c : Prop} [Decidable c] (h : c) : V.bl (decide c) = V.bl true := by rw [decide_eq_true h]
theorem bl_f {c : Prop} [Decidable c] (h : ¬ c) : V.bl (decide c) = V.bl false := by rw [decide_eq_false h]
theorem nb_f {c : Prop} [Decidable c] (h : c) : V.bl (!decide c) = V.bl false := by rw [decide_eq_true h]; rfl
theorem nb_t {c : Prop} [Decidable c] (h : ¬ c) : V.bl (!decide c) = V.bl true := by rw [decide_eq_false h]; rfl
/-! ### rows: tuples of pairs -/
/-- all but tables stays; tables stay tables -/
structure Sm (H H' : Hp) : Prop where
  kp : ∀ a o, (∀ ps, o ≠ HO.tbl ps) → H a = some o → H' a = some o
  tb : ∀ P, GxR.TabG H P → GxR.TabG H' P
theorem Sm.refl (H : Hp) : Sm H H := ⟨fun _ _ _ e => e, fun _ e => e⟩
theorem Sm.trans {H H1 H2 : Hp} (a : Sm H H1) (b : Sm H1 H2) : Sm H H2 := ⟨fun x o n e => b.kp x o n (a.kp x o n e), fun P e => b.tb P (a.tb P e)⟩
theorem Sm.of_same {H H1 : Hp} (s : Same H H1) : Sm H H1 := ⟨fun x o _ e => s x o e, fun _ ⟨ps, e, t⟩ => ⟨ps, s _ _ e, t⟩⟩
theorem Sm.new {H : Hp} {p : Addr} {o : HO} (h : H p = none) : Sm H (upd H p o) := .of_same (same_upd h)
theorem Sm.tabbed {H H1 : Hp} {P : Addr} (g : GxR.TabG H P) (t : GxR.Tabbed P H H1) : Sm H H1 := by
  obtain ⟨t1, t2⟩ := t
  refine ⟨fun x o n e => ?_, fun R ⟨ps, e, tr⟩ => ?_⟩
  · by_cases h : x = P
    · obtain ⟨ps, e2, _⟩ := g
      rw [h, e2] at e
      cases e
      exact absurd rfl (n ps)
    · rw [t2 x h]
      exact e
  · by_cases h : R = P
    · rw [h]
      exact t1
    · exact ⟨ps, by rw [t2 R h]; exact e, tr⟩
theorem Sm.tup {H H1 : Hp} (s : Sm H H1) {a : Addr} {xs : List V} (e : H a = some (.tup xs)) : H1 a = some (.tup xs) := s.kp _ _ (fun _ z => by cases z) e
theorem Sm.lst {H H1 : Hp} (s : Sm H H1) {a : Addr} {xs : List V} (e : H a = some (.lst xs)) : H1 a = some (.lst xs) := s.kp _ _ (fun _ z => by cases z) e
/-- a list that is written while all else stays -/
theorem Sm.put {H H1 : Hp} {L : Addr} {o : HO} (s : Sm H H1) (h : H L = none) : Sm H (upd H1 L o) := by
  refine ⟨fun x u n e => ?_, fun R ⟨ps, e, t⟩ => ?_⟩
  · rw [upd_ne (ne_of_none e h)]
    exact s.kp _ _ n e
  · obtain ⟨qs, e2, t2⟩ := s.tb R ⟨ps, e, t⟩
    exact ⟨qs, by rw [upd_ne (ne_of_none e h)]; exact e2, t2⟩
abbrev Row := List (Int × Int)
def Pr (H : Hp) (x : V) (u : Int × Int) : Prop := ∃ a, x = .ref a ∧ H a = some (.tup [.int u.1, .int u.2])
structure Prs (H : Hp) (xs : List V) (r : Row) : Prop where
  len : xs.length = r.length
  get : ∀ {i : Nat} {x : V}, xs[i]? = some x → ∃ u, r[i]? = some u ∧ Pr H x u
def Rw (H : Hp) (t : Addr) (r : Row) : Prop := ∃ xs, H t = some (.tup xs) ∧ Prs H xs r
theorem Pr.sm {H H1 : Hp} {x : V} {u : Int × Int} (h : Pr H x u) (s : Sm H H1) : Pr H1 x u := let ⟨a, e, h⟩ := h; ⟨a, e, s.tup h⟩
theorem Prs.sm {H H1 : Hp} {xs : List V} {r : Row} (h : Prs H xs r) (s : Sm H H1) : Prs H1 xs r := ⟨h.len, fun e => let ⟨u, e2, p⟩ := h.get e; ⟨u, e2, p.sm s⟩⟩
theorem Rw.sm {H H1 : Hp} {t : Addr} {r : Row} (h : Rw H t r) (s : Sm H H1) : Rw H1 t r := let ⟨xs, e, p⟩ := h; ⟨xs, s.tup e, p.sm s⟩
theorem Prs.nil {H : Hp} : Prs H [] [] := ⟨rfl, fun {i x} e => by simp at e⟩
theorem Prs.snoc {H : Hp} {xs : List V} {r : Row} {x : V} {u : Int × Int} (h : Prs H xs r) (p : Pr H x u) : Prs H (xs ++ [x]) (r ++ [u]) := by
  refine ⟨by simp [h.len], fun {i y} e => ?_⟩
  by_cases hi : i < xs.length
  · rw [List.getElem?_append_left hi] at e
    rw [List.getElem?_append_left (by rw [← h.len]; exact hi)]
    exact h.get e
  · rw [List.getElem?_append_right (by omega)] at e
    rw [List.getElem?_append_right (by rw [← h.len]; omega), ← h.len]
    cases hk : i - xs.length with
    | zero =>
      rw [hk] at e
      cases e
      exact ⟨u, rfl, p⟩
    | succ m =>
      rw [hk] at e
      simp at e
theorem take_snoc {α : Type} {xs : List α} {i : Nat} {u : α} (e : xs[i]? = some u) : xs.take (i + 1) = xs.take i ++ [u] := by
  rw [List.take_add_one, e]
  rfl
/-! walks -/
section
variable {K : PySem.W.Frag} {a b : Addr} {xs ys : List V} {g : TG} {tt : TT} {te : TE} {vs : List Nat} {σ : L2.St} {Hs : Hp}
theorem gx_tup {Q : List V → Hp → Prop} (Pv : Nat → List V → Hp → Prop) (h0 : Pv 0 [] Hs) (hl : ∀ i zs H, i ≤ xs.length → Pv i zs H → SqT K H a xs)
    (hs : ∀ i x zs H, xs[i]? = some x → Pv i zs H → g x (wipe σ vs) H fun σ2 H2 => wipe σ2 vs = wipe σ vs ∧ te σ2 H2 fun y H3 => zs.length < sizeLine ∧ Pv (i + 1) (zs ++ [y]) H3) (hd : ∀ zs H, Pv xs.length zs H → Q zs H) :
    ∃ W : Nat → Nat → List V → Hp → Prop, (∃ m, W 0 m [] Hs) ∧ Gx.Turns (Itt K a) g te vs σ Q W := by
  refine ⟨fun i m zs H => m = xs.length - i ∧ i ≤ xs.length ∧ Pv i zs H, ⟨xs.length, by simp, Nat.zero_le _, h0⟩, ?_⟩
  rintro i m zs H ⟨rfl, hi, p⟩
  have q := hl i zs H hi p
  by_cases hlt : i < xs.length
  · refine .inr ⟨⟨xs, xs[i], q, by simp [hlt]⟩, Pv (i + 1), fun zs H' p' => ⟨xs.length - (i + 1), by omega, rfl, hlt, p'⟩, fun x H' y => ?_⟩
    obtain ⟨e, y⟩ := y
    subst e
    exact hs i x zs _ (y xs q) p
  · have e : i = xs.length := by omega
    subst e
    exact .inl ⟨⟨xs, q, Nat.le_refl _⟩, hd zs H p⟩
theorem gx_zip {Q : List V → Hp → Prop} (hle : xs.length = ys.length) (Pv : Nat → List V → Hp → Prop) (h0 : Pv 0 [] Hs) (hl : ∀ i zs H, Pv i zs H → SqT K H a xs ∧ SqT K H b ys)
    (hs : ∀ i x y T zs H, xs[i]? = some x → ys[i]? = some y → Pv i zs H → H T = none → g (.ref T) (wipe σ vs) (upd H T (.tup [x, y])) fun σ2 H2 => wipe σ2 vs = wipe σ vs ∧ te σ2 H2 fun y H3 => zs.length < sizeLine ∧ Pv (i + 1) (zs ++ [y]) H3) (hd : ∀ zs H, Pv xs.length zs H → Q zs H) :
    ∃ W : Nat → Nat → List V → Hp → Prop, (∃ m, W 0 m [] Hs) ∧ Gx.Turns (RZ.ItzT K a b) g te vs σ Q W := by
  refine ⟨fun i m zs H => m = xs.length - i ∧ i ≤ xs.length ∧ Pv i zs H, ⟨xs.length, by simp, Nat.zero_le _, h0⟩, ?_⟩
  rintro i m zs H ⟨rfl, hi, p⟩
  obtain ⟨qx, qy⟩ := hl i zs H p
  by_cases hlt : i < xs.length
  · have hx : xs[i]? = some xs[i] := List.getElem?_eq_getElem hlt
    have hlt2 : i < ys.length := by omega
    have hy : ys[i]? = some ys[i] := List.getElem?_eq_getElem hlt2
    refine .inr ⟨⟨xs, ys, _, _, qx, qy, hx, hy⟩, Pv (i + 1), fun zs H' p' => ⟨xs.length - (i + 1), by omega, rfl, hlt, p'⟩, fun v H' y => ?_⟩
    obtain ⟨T, x', y', rfl, hT, rfl, f1, f2⟩ := y
    exact hs i x' y' T zs H (f1 xs qx) (f2 ys qy) p hT
  · have e : i = xs.length := by omega
    subst e
    exact .inl ⟨⟨xs, ys, qx, qy, Or.inl (Nat.le_refl _)⟩, hd zs H p⟩
theorem lc_zip {D : Addr} {Qd : Hp → Prop} (hle : xs.length = ys.length) (Pv : Nat → Hp → Prop) (h0 : Pv 0 (upd Hs D (.lst []))) (hl : ∀ i H, Pv i H → SqT K H a xs ∧ SqT K H b ys)
    (hs : ∀ i x y T H, xs[i]? = some x → ys[i]? = some y → Pv i H → H T = none → g (.ref T) (wipe σ vs) (upd H T (.tup [x, y])) fun σ2 H2 => wipe σ2 vs = wipe σ vs ∧ tt σ2 H2 fun b H3 =>
      if b = true then te σ2 H3 fun y H4 => ∃ acc, H4 D = some (.lst acc) ∧ acc.length < sizeLine ∧ Pv (i + 1) (upd H4 D (.lst (acc ++ [y]))) else Pv (i + 1) H3) (hd : ∀ H, Pv xs.length H → Qd H) :
    ∃ W : Nat → Nat → Hp → Prop, (∃ m, W 0 m (upd Hs D (.lst []))) ∧ ∀ i m H, W i m H →
      ((RZ.ItzT K a b).stop i H ∧ Qd H) ∨ ((RZ.ItzT K a b).go i H ∧ ∃ Nx : Hp → Prop, (∀ H', Nx H' → ∃ m', m' < m ∧ W (i + 1) m' H') ∧ ∀ x H', (RZ.ItzT K a b).yld i H x H' → g x (wipe σ vs) H' fun σ2 H2 => wipe σ2 vs = wipe σ vs ∧ tt σ2 H2 fun b H3 =>
        if b = true then te σ2 H3 fun y H4 => ∃ acc, H4 D = some (.lst acc) ∧ acc.length < sizeLine ∧ Nx (upd H4 D (.lst (acc ++ [y]))) else Nx H3) := by
  refine ⟨fun i m H => m = xs.length - i ∧ i ≤ xs.length ∧ Pv i H, ⟨xs.length, by simp, Nat.zero_le _, h0⟩, ?_⟩
  rintro i m H ⟨rfl, hi, p⟩
  obtain ⟨qx, qy⟩ := hl i H p
  by_cases hlt : i < xs.length
  · have hx : xs[i]? = some xs[i] := List.getElem?_eq_getElem hlt
    have hlt2 : i < ys.length := by omega
    have hy : ys[i]? = some ys[i] := List.getElem?_eq_getElem hlt2
    refine .inr ⟨⟨xs, ys, _, _, qx, qy, hx, hy⟩, Pv (i + 1), fun H' p' => ⟨xs.length - (i + 1), by omega, rfl, hlt, p'⟩, fun v H' y => ?_⟩
    obtain ⟨T, x', y', rfl, hT, rfl, f1, f2⟩ := y
    exact hs i x' y' T H (f1 xs qx) (f2 ys qy) p hT
  · have e : i = xs.length := by omega
    subst e
    exact .inl ⟨⟨xs, ys, qx, qy, Or.inl (Nat.le_refl _)⟩, hd H p⟩
end
/-! a def whose code object is known -/
structure FunC (K : PySem.W.Frag) (x qual : Str) (st : Stmt) (f : Addr) (fd : FuncData) (c : Addr) : Prop where
  ex : ∃ (oc : Value) (od : Option Addr) (kV doc pm : Value) (an : Option Addr) (ct : Value) (osl : Array (Option Value)),
    fd = PySem.W.fnOf x qual (defArgs st) (defBody st) (defScope st) .none kV doc pm an (.ref c) ct ∧ K.lookup f = some ⟨oc, od, .func fd, osl⟩ ∧ PySem.W.codeIn K (.ref c) qual = true
open PySem.Spec PyProof.Rows in
theorem FunC.ok {P : Program} {w : World} {K : PySem.W.Frag} {mg : Str → Option Value} {base : Heap} {x qual : Str} {st : Stmt} {f c : Addr} {fd : FuncData} {N ps : List Str} {k : Nat} {sp : Sp} (F : FunC K x qual st f fd c) (S : FnScope N ps (defScope st)) (len : ∀ vs H Q E, sp vs H Q E → vs.length = ps.length)
    (hbody : ∀ (A : Around) (outer : List Env) (s : Shared) (H : Hp) (vs : List V) (Q : VK) (E : XK), Room k (A.deeper (envOfC qual (defScope st) s.heap.objs.size f (.ref c))) → sp vs H Q E →
      ∃ t, PSs (cxOf CX0 P w K mg base N qual (defScope st) f (.ref c) A outer s H E).nox (defBody st) t ∧ t { nx := fun _ H' => Q .non H', rt := Q } (start N vs) H) : FnOk P w K mg base CX0 (k + 1) f fd ps sp := by
  obtain ⟨oc, od, kV, doc, pm, an, ct, osl, rfl, lk, hcd⟩ := F.ex
  refine fn_of lk hcd S len fun A outer s H vs Q E hr hsp => ?_
  obtain ⟨t, h, q⟩ := hbody A outer s H vs Q E hr hsp
  exact ⟨t, h.nox, q⟩
/-! what is reckoned -/
def addR (p : Int) (r s : Row) : Row := List.zipWith (fun u v => ((u.1 + v.1) % p, (u.2 + v.2) % p)) r s
def timR (p n : Int) (r : Row) : Row := r.map fun u => (n * u.1 % p, n * u.2 % p)
def mets (r s : Row) : List Int := List.zipWith (fun u v => u.1 * v.2 - v.1 * u.2) r s
def metR (p : Int) (r s : Row) : Int := (mets r s).sum % p
def parR (r : Row) (js : List Nat) : Row := js.map fun j => r.getD j (0, 0)
def noR (n : Nat) : Row := List.replicate n (0, 0)
/-- a row of numbers that are no greater than we reckon with -/
def Fit (r : Row) : Prop := r.length ≤ 20 ∧ ∀ u ∈ r, (0 ≤ u.1 ∧ u.1 < 13) ∧ 0 ≤ u.2 ∧ u.2 < 13
theorem Fit.get {r : Row} (h : Fit r) {i : Nat} {u : Int × Int} (e : r[i]? = some u) : (0 ≤ u.1 ∧ u.1 < 13) ∧ 0 ≤ u.2 ∧ u.2 < 13 := h.2 u (List.mem_of_getElem? e)
theorem cmul {a b : Int} (h : 0 ≤ a ∧ a < 13) : CMul a b := .inl ⟨by omega, by omega⟩
theorem small {n : Nat} (h : n ≤ 1000) : n < sizeLine := small1000 h
structure Cd where
  c_added : Addr
  p_added : Addr
  c_times : Addr
  p_times : Addr
  c_part : Addr
  p_part : Addr
structure Tb (K : PySem.W.Frag) (mg : Str → Option Value) (base : Heap) (A : Ad) (C : Cd) : Prop where
  t_added : GxR.TabB base mg C.c_added C.p_added
  k_added : FunC K "added" "added" s_added A.f_added A.d_added C.c_added
  t_times : GxR.TabB base mg C.c_times C.p_times
  k_times : FunC K "times" "times" s_times A.f_times A.d_times C.c_times
  t_part : GxR.TabB base mg C.c_part C.p_part
  k_part : FunC K "part" "part" s_part A.f_part A.d_part C.c_part
section
variable {P : Program} {w : World} {K : PySem.W.Frag} {mg : Str → Option Value} {base : Heap} {A : Ad} {C : Cd}
/-! ### the deck -/
def spDeck (K : PySem.W.Frag) : Sp := fun vs H Q _ => ∃ (a : Addr) (ns : List Int), vs = [.ref a] ∧ SqL K H a (ns.map V.int) ∧ ns.length ≤ 63 ∧
  ∀ (d g c : Addr) (H' : Hp), Same H H' → H d = none → H g = none → H c = none → Dk d g c 0 H' → Q (.ref d) H'
theorem ok__law_deck (T : Tx K mg A) : FnOk P w K mg base CX0 1 A.f__law_deck A.d__law_deck ["_law_script"] (spDeck K) := by
  refine T.d__law_deck.F.ok sc__law_deck (fun vs H Q E h => ?_) (fun cdv A outer s H vs Q E hr h => ?_)
  · obtain ⟨a, ns, rfl, _⟩ := h
    rfl
  · obtain ⟨a, ns, rfl, hS, hlen, k⟩ := h
    refine ⟨_, (pss_cons (ps_setLc (i := 1) (own := [("_law_cell", 2)]) rfl sc__law_deck.nd rfl rfl (sw_true rfl rfl rfl (by decide +kernel)) (pi_list (pv 0)) (blkOk_by (N := N__law_deck) (sc := defScope s__law_deck) (by decide +kernel)) (fun _ _ _ _ _ => (pg_name (i := 2) sc__law_deck.nd rfl (.inl rfl))) (fun _ _ _ _ _ => pts_nil) (fun _ _ _ _ _ => (pe_callB call_abs (by rfl) T.b_abs PyProof.Rows.boot_abs (pa_cons (pv 2) pa_nil))))
        (pss_one (ps_ret (pe_lst (pa_cons (pe_lc (own := [("_law_cell", 2)]) rfl sc__law_deck.nd (pi_list (pv 1)) (blkOk_by (N := N__law_deck) (sc := defScope s__law_deck) (by decide +kernel)) (fun _ _ _ _ _ => (pg_name (i := 2) sc__law_deck.nd rfl (.inl rfl))) (fun _ _ _ _ _ => (pts_one (pt_cmpR op_ge (pv 2) (pe_op op_pow pe_int pe_int) (nomark _)))) (fun _ _ _ _ _ => (pv 2))) (pa_cons (pe_op op_cat (pv 1) (pe_lst (pa_cons (pe_op op_add (pe_callB call_len_seq (by rfl) T.b_len PySem.boot_len (pa_cons (pv 1) pa_nil)) pe_int) pa_nil))) (pa_cons pe_int pa_nil))))))), ?_⟩
    -- cells = [abs(cell) for cell in script]
    refine ⟨.ref a, rfl, a, rfl, ⟨_, hS⟩, fun D hD => lc_list (xs := ns.map V.int) (fun i H' => Same H H' ∧ ∃ cs : List Int, cs.length = i ∧ H' D = some (.lst (cs.map V.int))) ⟨same_upd hD, [], rfl, upd_same⟩ (fun i H' _ h => h.1.seq hS) ?_ ?_⟩
    · rintro i x H' hi ⟨s1, cs, hc, hDs⟩
      obtain ⟨u, rfl⟩ := int_of_map hi
      have hi63 : i < ns.length := by
        have q := (List.getElem?_eq_some_iff.mp hi).1
        rw [List.length_map] at q
        exact q
      refine ⟨rfl, .int u, rfl, u, rfl, cs.map V.int, hDs, by rw [List.length_map]; exact small1000 (by omega), ?_⟩
      refine ⟨fun b o e => ?_, cs ++ [if u < 0 then -u else u], by rw [List.length_append, hc]; rfl, by rw [upd_same, List.map_append]; rfl⟩
      rw [upd_ne (ne_of_none e hD)]
      exact s1 _ _ e
    · rintro H1 ⟨s1, cs, hc, hDs⟩
      rw [List.length_map] at hc
      -- the great ones
      refine ⟨.ref D, rfl, D, rfl, ⟨_, .inl (.inl hDs)⟩, fun G hG => lc_list (xs := cs.map V.int) (fun i H' => Same H1 H' ∧ ∃ gs : List Int, gs.length ≤ i ∧ H' G = some (.lst (gs.map V.int))) ⟨same_upd hG, [], Nat.le_refl _, upd_same⟩ (fun i H' _ h => h.1.seq (.inl (.inl hDs))) ?_ ?_⟩
      · rintro i x H' hi ⟨s2, gs, hg, hGs⟩
        obtain ⟨u, rfl⟩ := int_of_map hi
        have hi63 : i < cs.length := by
          have q := (List.getElem?_eq_some_iff.mp hi).1
          rw [List.length_map] at q
          exact q
        refine ⟨rfl, .int u, rfl, _, _, rfl, rfl, ⟨by decide, by decide, by decide⟩, u, _, rfl, rfl, _, rfl, ite2 (fun _ => ?_) (fun _ => ?_)⟩
        · refine ⟨.int u, rfl, gs.map V.int, hGs, by rw [List.length_map]; exact small1000 (by omega), fun b o e => ?_, gs ++ [u], ?_, by rw [upd_same, List.map_append]; rfl⟩
          · rw [upd_ne (ne_of_none e hG)]
            exact s2 _ _ e
          · rw [List.length_append, List.length_singleton]
            omega
        · exact ⟨s2, gs, by omega, hGs⟩
      · rintro H2 ⟨s2, gs, hg, hGs⟩
        rw [List.length_map] at hg
        have hD2 : H2 D = some (.lst (cs.map V.int)) := s2 _ _ hDs
        -- cells + [len(cells) + 3]
        refine ⟨.ref D, rfl, .ref D, rfl, D, _, rfl, .inl (.inl (.inl hD2)), _, _, rfl, rfl, (by show 1 ≤ sizeLine; decide), fun p hp => ?_⟩
        have npD : D ≠ p := ne_of_none hD2 hp
        have npG : G ≠ p := ne_of_none hGs hp
        refine ⟨D, p, cs.map V.int, _, rfl, rfl, by rw [upd_ne npD]; exact hD2, upd_same, ?_, fun c hc' => ?_⟩
        · rw [List.length_map]
          exact Nat.le_of_lt (small1000 (by show cs.length + 1 ≤ 1000; omega))
        · have ncp : c ≠ p := fun e => by
            rw [e, upd_same] at hc'
            cases hc'
          have hc2 : H2 c = none := by
            rw [upd_ne ncp] at hc'
            exact hc'
          have ncG : G ≠ c := ne_of_none hGs hc2
          refine ⟨(by show 3 ≤ sizeLine; decide), fun d hd => ?_⟩
          have ndc : d ≠ c := fun e => by
            rw [e, upd_same] at hd
            cases hd
          rw [upd_ne ndc] at hd
          have ndp : d ≠ p := fun e => by
            rw [e, upd_same] at hd
            cases hd
          rw [upd_ne ndp] at hd
          have ndG : G ≠ d := ne_of_none hGs hd
          have s3 : Same H H2 := s1.trans s2
          refine k d G c _ (fun b o e => ?_) (s3.free hd) (s1.free hG) (s3.free hc2) ⟨⟨gs, cs ++ [((cs.length : Nat) : Int) + 3], 0, upd_same, ?_, ?_, ?_, ?_, by decide, by decide⟩, ndG.symm, ndc, ncG⟩
          · have e2 := s3 _ _ e
            rw [upd_ne (ne_of_none e2 hd), upd_ne (ne_of_none e2 hc2), upd_ne (ne_of_none e2 hp)]
            exact e2
          · rw [upd_ne ndG, upd_ne ncG, upd_ne npG]
            exact hGs
          · rw [upd_ne ndc.symm, upd_same, List.map_append, List.length_map]
            rfl
          · rw [List.length_append]
            show 0 < cs.length + 1
            omega
          · rw [List.length_append]
            show cs.length + 1 ≤ 100
            omega
def spNext : Sp := fun vs H Q _ => ∃ (d g c : Addr) (k m : Int), vs = [.ref d, .int m] ∧ 0 < m ∧ m < 1208925819614629174706176 ∧ Dk d g c k H ∧ k ≤ 1000000000 ∧
  ∀ (r : Int) (H' : Hp), 0 ≤ r → r < m → Dk d g c (k + 1) H' → Fr d g H H' → Q (.int r) H'
def lenAt (g : Addr) (H : Hp) : Nat := match H g with
  | some (.lst xs) => xs.length
  | _ => 0
theorem lenAt_of {g : Addr} {H : Hp} {xs : List V} (h : H g = some (.lst xs)) : lenAt g H = xs.length := by
  unfold lenAt
  rw [h]
theorem ok__law_next (T : Tx K mg A) : FnOk P w K mg base CX0 1 A.f__law_next A.d__law_next ["_law_deck_here", "_law_many"] spNext := by
  refine T.d__law_next.F.ok sc__law_next (fun vs H Q E h => ?_) (fun cdv A outer s H vs Q E hr h => ?_)
  · obtain ⟨d, g, c, k, m, rfl, _⟩ := h
    rfl
  · obtain ⟨d, g, c, k, m, rfl, hm, hm2, D0, hk, q⟩ := h
    have hW : m.natAbs < 2 ^ 80 := by
      show m.natAbs < 1208925819614629174706176
      omega
    refine ⟨_, (pss_cons (ps_while PassesOwn.never (pt_cmpR (op_neD hr.units) (pe_ix ix_list (pv 0) pe_int (fun _ _ => rfl)) (pe_lst pa_nil) (nomark _))
        (pss_cons (ps_set (i := 4) sc__law_next.nd rfl (.inl rfl) (pe_ix ix_list (pe_ix ix_list (pv 0) pe_int (fun _ _ => rfl)) pe_int (fun _ _ => rfl)))
        (pss_cons (ps_if (pt_cmpR op_gt (pv 4) pe_int (nomark _))
        (pss_cons (ps_asg (pe_op op_fdivW (pv 4) (pv 1)) (pg_sub (pe_ix ix_list (pv 0) pe_int (fun _ _ => rfl)) pe_int set_list))
        (pss_one (ps_ret (pe_op op_mod (pv 4) (pv 1)))))
        pss_nil)
        (pss_one (ps_expr (pe_bm PySem.F.plainAttrs_list PySem.F.slot_list_pop PySem.F.type_list_pop mt_popAt (pe_ix ix_list (pv 0) pe_int (fun _ _ => rfl)) (pa_cons pe_int pa_nil)))))))
        (pss_cons (ps_asg (pe_op op_add (pe_ix ix_list (pv 0) pe_int (fun _ _ => rfl)) pe_int) (pg_sub (pv 0) pe_int set_list))
        (pss_cons (ps_set (i := 2) sc__law_next.nd rfl (.inl rfl) (pe_op op_mod (pe_ix ix_list (pe_ix ix_list (pv 0) pe_int (fun _ _ => rfl)) (pe_op op_mod (pe_ix ix_list (pv 0) pe_int (fun _ _ => rfl)) (pe_callB call_len_seq (by rfl) T.b_len PySem.boot_len (pa_cons (pe_ix ix_list (pv 0) pe_int (fun _ _ => rfl)) pa_nil))) (fun _ _ => rfl)) pe_int))
        (pss_cons (ps_set (i := 3) sc__law_next.nd rfl (.inl rfl) (pe_op op_add (pe_op op_add (pe_op op_mul (pv 2) (pe_op op_add pe_int (pe_op op_mul pe_int (pe_ix ix_list (pv 0) pe_int (fun _ _ => rfl))))) (pe_op op_mul (pe_op op_mul pe_int (pe_ix ix_list (pv 0) pe_int (fun _ _ => rfl))) (pe_ix ix_list (pv 0) pe_int (fun _ _ => rfl)))) pe_int))
        (pss_cons (ps_set (i := 3) sc__law_next.nd rfl (.inl rfl) (pe_op op_mod (pv 3) pe_int))
        (pss_one (ps_ret (pe_op op_mod (pe_op op_fdivW (pe_op op_mod (pe_op op_mul (pv 3) (pv 3)) pe_int) pe_int) (pv 1))))))))), ?_⟩
    refine while_by (fun σ H' => ∃ v2 v3 v4, σ = [some (.ref d), some (.int m), v2, v3, v4] ∧ Dk d g c k H' ∧ Fr d g H H') (fun _ H' => lenAt g H') ⟨none, none, none, rfl, D0, Fr.refl _ _ _⟩ ?_ ?_
    · rintro σ H1 ⟨v2, v3, v4, rfl, D1, f1⟩
      obtain ⟨gs, cs, n, h1, h2, h3, h4, h5, h6, h7⟩ := D1.ex
      refine ⟨.ref d, rfl, d, _, 0, .ref g, rfl, rfl, SqL.of h1, atI_zero, Nat.zero_le _, fun p hp => ?_⟩
      obtain ⟨npd, npg, npc⟩ := D1.nd hp
      have k1 : upd H1 p (.lst []) d = some (.lst [.ref g, .ref c, .int n]) := by
        rw [upd_ne npd.symm]
        exact h1
      have k2 : upd H1 p (.lst []) g = some (.lst (gs.map V.int)) := by
        rw [upd_ne npg.symm]
        exact h2
      have k3 : upd H1 p (.lst []) c = some (.lst (cs.map V.int)) := by
        rw [upd_ne npc.symm]
        exact h3
      have f2 : Fr d g H (upd H1 p (.lst [])) := f1.trans (.new hp)
      have eL : lenAt g H1 = gs.length := by rw [lenAt_of h2, List.length_map]
      have k4 : upd H1 p (.lst []) p = some (.lst []) := upd_same
      generalize upd H1 p (.lst []) = H2 at k1 k2 k3 k4 f2 ⊢
      refine ⟨.list (gs.map PyData.int), .list ([].map PyData.int), .lst (SqL.of k2) (dp_ints gs), .lst (SqL.of k4) .nil, sh_ints gs, sh_ints [], _, rfl, ?_⟩
      cases gs with
      | cons x r =>
        -- rest = deck[0][0]
        refine ⟨.ref d, rfl, d, _, 0, _, rfl, rfl, SqL.of k1, atI_zero, g, _, 0, _, rfl, rfl, SqL.of k2, atI_zero, ?_⟩
        refine ⟨.int x, rfl, x, 0, rfl, rfl, _, rfl, ite2 (fun _ => ?_) (fun _ => ?_)⟩
        · -- deck[0][0] = rest // many; return rest % many
          refine ⟨.int x, rfl, .int m, rfl, x, m, rfl, rfl, wide_div hm hW (by decide) (by decide), .ref d, rfl, d, _, 0, _, rfl, rfl, SqL.of k1, atI_zero, g, _, 0, 0, rfl, rfl, k2, ixN_zero (by simp), ?_⟩
          refine ⟨.int x, rfl, .int m, rfl, x, m, rfl, rfl, hm, ?_⟩
          refine q _ _ (Int.emod_nonneg _ (by omega)) (Int.emod_lt_of_pos _ hm) ⟨⟨(x / m) :: r, cs, n, ?_, ?_, ?_, h4, h5, h6, by omega⟩, D1.dg, D1.dc, D1.gc⟩ (f2.trans .atg)
          · rw [upd_ne D1.dg]
            exact k1
          · rw [upd_same]
            rfl
          · rw [upd_ne D1.gc.symm]
            exact k3
        · -- deck[0].pop(0)
          refine ⟨.ref d, rfl, d, _, 0, _, rfl, rfl, SqL.of k1, atI_zero, .inl ⟨rfl, _, SqL.of k2⟩, g, _, 0, 0, .int x, rfl, rfl, k2, by decide, by decide, ixN_seq0 (by simp), rfl, ?_⟩
          refine ⟨⟨_, _, _, rfl, ⟨⟨r, cs, n, ?_, ?_, ?_, h4, h5, h6, h7⟩, D1.dg, D1.dc, D1.gc⟩, f2.trans .atg⟩, ?_⟩
          · rw [upd_ne D1.dg]
            exact k1
          · rw [upd_same]
            rfl
          · rw [upd_ne D1.gc.symm]
            exact k3
          · show lenAt g (upd H2 g _) < lenAt g H1
            rw [eL, lenAt_of upd_same]
            show (r.map V.int).length < r.length + 1
            rw [List.length_map]
            omega
      | nil =>
        -- deck[2] = deck[2] + 1
        refine ⟨.ref d, rfl, d, _, 2, _, rfl, rfl, SqL.of k1, atI_nat (j := 2) rfl, n, 1, rfl, rfl, .ref d, rfl, d, _, 2, 2, rfl, rfl, k1, rfl, ?_⟩
        have j1 : upd H2 d (.lst ([V.ref g, V.ref c, V.int n].set 2 (V.int (n + 1)))) d = some (.lst [.ref g, .ref c, .int (n + 1)]) := upd_same
        have j2 : upd H2 d (.lst ([V.ref g, V.ref c, V.int n].set 2 (V.int (n + 1)))) g = some (.lst []) := by
          rw [upd_ne D1.dg.symm]
          exact k2
        have j3 : upd H2 d (.lst ([V.ref g, V.ref c, V.int n].set 2 (V.int (n + 1)))) c = some (.lst (cs.map V.int)) := by
          rw [upd_ne D1.dc.symm]
          exact k3
        have f3 : Fr d g H (upd H2 d (.lst ([V.ref g, V.ref c, V.int n].set 2 (V.int (n + 1))))) := f2.trans .atd
        generalize upd H2 d (.lst ([V.ref g, V.ref c, V.int n].set 2 (V.int (n + 1)))) = H3 at j1 j2 j3 f3 ⊢
        have hl : (0 : Int) < (cs.map V.int).length := by
          rw [List.length_map]
          omega
        obtain ⟨v, hv⟩ := ints_at (cs := cs) (i := (n + 1) % ((cs.map V.int).length : Int)) (Int.emod_nonneg _ (by omega)) (by
          have z := Int.emod_lt_of_pos (n + 1) hl
          rw [List.length_map] at z ⊢
          exact z)
        -- the cell
        refine ⟨.ref d, rfl, d, _, 1, _, rfl, rfl, SqL.of j1, atI_nat (j := 1) rfl, .ref d, rfl, d, _, 2, _, rfl, rfl, SqL.of j1, atI_nat (j := 2) rfl, .ref d, rfl, d, _, 1, _, rfl, rfl, SqL.of j1, atI_nat (j := 1) rfl, c, _, rfl, .inl (SqL.of j3), n + 1, _, rfl, rfl, hl, c, _, _, .int v, rfl, rfl, SqL.of j3, hv, v, 2147483647, rfl, rfl, (by show (0 : Int) < 2147483647; decide), ?_⟩
        have q0 : 0 ≤ v % 2147483647 := Int.emod_nonneg _ (by decide)
        have q1 : v % 2147483647 < 2147483647 := Int.emod_lt_of_pos _ (by decide)
        refine ⟨.int (v % 2147483647), rfl, .ref d, rfl, d, _, 2, _, rfl, rfl, SqL.of j1, atI_nat (j := 2) rfl, 69621, n + 1, rfl, rfl, .inl ⟨by decide, by decide⟩, 48271, _, rfl, rfl, v % 2147483647, _, rfl, rfl, .inl ⟨by omega, by omega⟩,
          .ref d, rfl, d, _, 2, _, rfl, rfl, SqL.of j1, atI_nat (j := 2) rfl, 40692, n + 1, rfl, rfl, .inl ⟨by decide, by decide⟩, .ref d, rfl, d, _, 2, _, rfl, rfl, SqL.of j1, atI_nat (j := 2) rfl, _, n + 1, rfl, rfl, .inr ⟨by omega, by omega⟩, _, _, rfl, rfl, _, 11, rfl, rfl, ?_⟩
        refine ⟨_, rfl, _, 2147483629, rfl, rfl, (by show (0 : Int) < 2147483629; decide), ?_⟩
        refine ⟨_, rfl, _, rfl, _, _, rfl, rfl, .inl (mod_in (by decide) (by decide)), _, 2147483587, rfl, rfl, (by show (0 : Int) < 2147483587; decide), _, 16, rfl, rfl, wide_div (b := 5) (by decide) (by decide) (by decide) (by decide), .int m, rfl, _, m, rfl, rfl, hm, ?_⟩
        exact q _ _ (Int.emod_nonneg _ (by omega)) (Int.emod_lt_of_pos _ hm) ⟨⟨[], cs, n + 1, j1, j2, j3, h4, h5, by omega, by omega⟩, D1.dg, D1.dc, D1.gc⟩ f3
    · rintro σ H1 Q1 Q2 hq ⟨v, e, p, xs, i, v', e1, e2, hs, ha, hz, f⟩
      refine ⟨v, e, p, xs, i, v', e1, e2, hs, ha, hz, fun r hr => ?_⟩
      obtain ⟨d1, d2, a1, a2, a3, a4, kk, ek, qk⟩ := f r hr
      exact ⟨d1, d2, a1, a2, a3, a4, kk, ek, hq _ _ qk⟩
/-! ### what is drawn -/
def prs : List Int := [2, 3, 5, 7, 11, 13]
theorem prs_bd : ∀ p ∈ prs, 2 ≤ p ∧ p ≤ 13 := by decide
theorem ints_mem {cs : List Int} {i : Int} (h0 : 0 ≤ i) (h1 : i < cs.length) : ∃ v : Int, v ∈ cs ∧ atI (cs.map V.int) i = some (V.int v) := by
  obtain ⟨j, rfl⟩ := Int.eq_ofNat_of_zero_le h0
  have hj : j < cs.length := by omega
  refine ⟨cs[j], List.getElem_mem hj, ?_⟩
  apply atI_nat
  rw [List.getElem?_map, List.getElem?_eq_getElem hj]
  rfl
def spPrm : Sp := fun vs H Q _ => ∃ (d g c : Addr) (k : Int), vs = [.ref d] ∧ Dk d g c k H ∧ k ≤ 1000000 ∧
  ∀ (p : Int) (H' : Hp), p ∈ prs → Dk d g c (k + 1) H' → Fr d g H H' → Q (.int p) H'
theorem ok__law_prime (T : Tx K mg A) : FnOk P w K mg base CX0 2 A.f__law_prime A.d__law_prime ["_law_deck_here"] spPrm := by
  have G__law_next : FnOk P w K mg base CX0 1 A.f__law_next A.d__law_next ["_law_deck_here", "_law_many"] spNext := ok__law_next T
  refine T.d__law_prime.F.ok sc__law_prime (fun vs H Q E h => ?_) (fun cdv A outer s H vs Q E hr h => ?_)
  · obtain ⟨d, g, c, k, rfl, _⟩ := h
    rfl
  · obtain ⟨d, g, c, k, rfl, D0, hk, q⟩ := h
    refine ⟨_, (pss_one (ps_ret (pe_ix ix_tup (pe_tup (pa_cons pe_int (pa_cons pe_int (pa_cons pe_int (pa_cons pe_int (pa_cons pe_int (pa_cons pe_int pa_nil))))))) (pe_call G__law_next hr (by rfl) T.d__law_next.g T.d__law_next.F.kp T.d__law_next.b .nil pass0 (pa_cons (pv 0) (pa_cons pe_int pa_nil))) (fun _ _ => rfl)))), ?_⟩
    refine ⟨(by show 6 ≤ sizeLine; decide), fun t ht => ?_⟩
    have nt := D0.nd ht
    refine ⟨.ref d, rfl, d, g, c, k, 6, rfl, by decide, by decide, D0.same (same_upd ht), by omega, fun r H1 r0 r1 D1 f1 => ?_⟩
    obtain ⟨v, hv, ev⟩ := ints_mem (cs := prs) r0 r1
    exact ⟨t, _, r, .int v, rfl, rfl, SqT.of (f1 t _ nt.1 nt.2.1 upd_same), ev, q v H1 hv D1 ((Fr.new ht).trans f1)⟩
def spNums : Sp := fun vs H Q _ => ∃ (d g c : Addr) (k p m : Int), vs = [.ref d, .int p, .int m] ∧ Dk d g c k H ∧ k ≤ 1000000 ∧ 2 ≤ p ∧ p ≤ 13 ∧ 0 ≤ m ∧ m ≤ 100 ∧
  ∀ (t : Addr) (ns : List Int) (H' : Hp), (∀ n ∈ ns, 0 ≤ n ∧ n < p) → ns.length = m.toNat → H' t = some (.tup (ns.map V.int)) → Dk d g c (k + 2 * m) H' → Fr d g H H' → Q (.ref t) H'
theorem ok__law_numbers (T : Tx K mg A) : FnOk P w K mg base CX0 2 A.f__law_numbers A.d__law_numbers ["_law_deck_here", "_law_p", "_law_many"] spNums := by
  have G__law_next : FnOk P w K mg base CX0 1 A.f__law_next A.d__law_next ["_law_deck_here", "_law_many"] spNext := ok__law_next T
  refine T.d__law_numbers.F.ok sc__law_numbers (fun vs H Q E h => ?_) (fun cdv A outer s H vs Q E hr h => ?_)
  · obtain ⟨d, g, c, k, p, m, rfl, _⟩ := h
    rfl
  · obtain ⟨d, g, c, k, p, m, rfl, D0, hk, p2, p13, m0, m1, q⟩ := h
    refine ⟨_, (pss_one (ps_ret (pe_callTy call_tuple_of (by rfl) T.b_tuple PyProof.Rows.boot_tuple (pa_cons (pe_lc (own := [("_law_k", 3)]) rfl sc__law_numbers.nd (pi_range1 (by rfl) T.b_range (pa_cons (pv 2) pa_nil)) (blkOk_by (N := N__law_numbers) (sc := defScope s__law_numbers) (by decide +kernel)) (fun _ _ _ _ _ => (pg_name (i := 3) sc__law_numbers.nd rfl (.inl rfl))) (fun _ _ _ _ _ => pts_nil) (fun _ _ _ _ _ => (pe_op op_mul (pe_call G__law_next hr (by rfl) T.d__law_next.g T.d__law_next.F.kp T.d__law_next.b .nil pass0 (pa_cons (pv 0) (pa_cons (pv 1) pa_nil))) (pe_callTy call_int1 (by rfl) T.b_int PyProof.Rows.boot_int (pa_cons (pe_cmpR op_gt (pe_call G__law_next hr (by rfl) T.d__law_next.g T.d__law_next.F.kp T.d__law_next.b .nil pass0 (pa_cons (pv 0) (pa_cons pe_int pa_nil))) pe_int (nomark _)) pa_nil))))) pa_nil)))), ?_⟩
    refine ⟨.int m, rfl, m, rfl, by omega, by omega, fun L hL => lc_range (fun i H' => Dk d g c (k + 2 * i) H' ∧ Fr d g H H' ∧ ∃ ns : List Int, (∀ n ∈ ns, 0 ≤ n ∧ n < p) ∧ ns.length = i ∧ H' L = some (.lst (ns.map V.int))) ⟨(D0.same (same_upd hL)).mono (by omega), .new hL, [], by simp, rfl, upd_same⟩ ?_ ?_⟩
    · rintro i H1 hi ⟨D1, f1, ns, hns, hlen, eL⟩
      have nL := D0.nd hL
      refine ⟨rfl, .ref d, rfl, .int p, rfl, d, g, c, _, p, rfl, by omega, by omega, D1, by omega, fun r H2 r0 r1 D2 f2 => ?_⟩
      refine ⟨.ref d, rfl, d, g, c, _, 4, rfl, by decide, by decide, D2, by omega, fun r2 H3 _ _ D3 f3 => ?_⟩
      have eL3 := f3 L _ nL.1 nL.2.1 (f2 L _ nL.1 nL.2.1 eL)
      refine ⟨r2, 0, rfl, rfl, .inr ⟨_, rfl, r, _, rfl, rfl, .inl ⟨by omega, by omega⟩, _, eL3, by rw [List.length_map]; exact small1000 (by omega), ?_⟩⟩
      have hz : ∀ b : Bool, 0 ≤ r * (if b = true then 1 else 0) ∧ r * (if b = true then 1 else 0) < p := by
        intro b
        cases b with
        | true => simp; omega
        | false => simp; omega
      have zL : Dk d g c (k + 2 * (i + 1 : Nat)) (upd H3 L (.lst (ns.map V.int ++ [V.int (r * (if decide (0 < r2) = true then 1 else 0))]))) := by
        obtain ⟨gs, cs, n, h1, h2, h3, h4, h5, h6, h7⟩ := D3.ex
        exact ⟨⟨gs, cs, n, by rw [upd_ne nL.1.symm]; exact h1, by rw [upd_ne nL.2.1.symm]; exact h2, by rw [upd_ne nL.2.2.symm]; exact h3, h4, h5, h6, by omega⟩, D3.dg, D3.dc, D3.gc⟩
      refine ⟨zL, fun b o e1 e2 e => ?_, ns ++ [r * (if decide (0 < r2) = true then 1 else 0)], ?_, by rw [List.length_append, hlen]; rfl, by rw [upd_same, List.map_append]; rfl⟩
      · rw [upd_ne (ne_of_none e hL)]
        exact f3 _ _ e1 e2 (f2 _ _ e1 e2 (f1 _ _ e1 e2 e))
      · intro n hn
        rcases List.mem_append.mp hn with hn | hn
        · exact hns n hn
        · rw [List.mem_singleton.mp hn]
          exact hz _
    · rintro H1 ⟨D1, f1, ns, hns, hlen, eL⟩
      refine ⟨L, _, rfl, .inl ⟨SqL.of eL, fun t ht => ?_⟩⟩
      exact q t ns _ hns hlen upd_same ((D1.same (same_upd ht)).mono (by omega)) (f1.trans (.new ht))
/-! ### the program's rows -/
def spNought : Sp := fun vs H Q _ => ∃ (n : Int), vs = [.int n] ∧ 0 ≤ n ∧ n ≤ 20 ∧ ∀ t H', Sm H H' → Rw H' t (noR n.toNat) → Q (.ref t) H'
theorem rep_one {α : Type} (x : α) : ∀ k : Nat, (List.replicate k [x]).flatten = List.replicate k x
  | 0 => rfl
  | k + 1 => by
    rw [List.replicate_succ, List.flatten_cons, rep_one x k]
    rfl
theorem prs_rep {H : Hp} {x : V} {u : Int × Int} (p : Pr H x u) (k : Nat) : Prs H (List.replicate k x) (List.replicate k u) := by
  refine ⟨by simp, fun {i y} e => ?_⟩
  have hi : i < k := by
    have := (List.getElem?_eq_some_iff.mp e).1
    simpa using this
  rw [List.getElem?_replicate, if_pos hi] at e
  cases e
  exact ⟨u, by rw [List.getElem?_replicate, if_pos hi], p⟩
theorem ok_nought (T : Tx K mg A) : FnOk P w K mg base CX0 1 A.f_nought A.d_nought ["posts"] spNought := by
  refine T.d_nought.F.ok sc_nought (fun vs H Q E h => ?_) (fun cdv A outer s H vs Q E hr h => ?_)
  · obtain ⟨n, rfl, _⟩ := h
    rfl
  · obtain ⟨n, rfl, n0, n1, q⟩ := h
    refine ⟨_, (pss_one (ps_ret (pe_op Gx.op_repA (pe_tup (pa_cons (pe_tup (pa_cons pe_int (pa_cons pe_int pa_nil))) pa_nil)) (pv 0)))), ?_⟩
    refine ⟨(by show 2 ≤ sizeLine; decide), fun t ht => ⟨(by show 1 ≤ sizeLine; decide), fun t2 ht2 => ?_⟩⟩
    have e1 : upd (upd H t (.tup [.int 0, .int 0])) t2 (.tup [.ref t]) t = some (.tup [.int 0, .int 0]) := by
      rw [upd_ne (ne_of_none upd_same ht2)]
      exact upd_same
    have s2 : Sm H (upd (upd H t (.tup [.int 0, .int 0])) t2 (.tup [.ref t])) := (Sm.new ht).trans (.new ht2)
    refine ⟨.int n, rfl, t2, n, _, rfl, rfl, SqT.of upd_same, by simp, n0, by omega, (by show 1 ≤ 1000; decide), fun e => ?_, fun _ t3 ht3 => ?_⟩
    · subst e
      exact q t2 _ s2 ⟨_, upd_same, prs_rep (k := 1) ⟨t, rfl, e1⟩⟩
    · refine q t3 _ (s2.trans (.new ht3)) ⟨_, upd_same, ?_⟩
      rw [rep_one]
      exact (prs_rep ⟨t, rfl, e1⟩ n.toNat).sm (.new ht3)
def spTimes (P : Addr) : Sp := fun vs H Q _ => ∃ (p n : Int) (a : Addr) (r : Row), vs = [.int p, .int n, .ref a] ∧ 0 < p ∧ 0 ≤ n ∧ n < 13 ∧ Rw H a r ∧ Fit r ∧ GxR.TabG H P ∧ ∀ t H', Sm H H' → Rw H' t (timR p n r) → Q (.ref t) H'
theorem ok_times (T : Tx K mg A) (B : Tb K mg base A C) : FnOk P w K mg base CX0 6 A.f_times A.d_times ["p", "number", "row"] (spTimes C.p_times) := by
  refine B.k_times.ok sc_times (fun vs H Q E h => ?_) (fun A outer s H vs Q E hr h => ?_)
  · obtain ⟨p, n, a, r, rfl, _⟩ := h
    rfl
  · obtain ⟨p, n, a, r, rfl, p0, n0, n1, ⟨xs, ha, hp⟩, hf, tg, q⟩ := h
    have hf1 := hf.1
    refine ⟨_, (pss_one (ps_ret (Gx.pe_tupGx (own := [("push", 3), ("answer", 4)]) (g := (gTup K 2 (gCons (gName 3) (gCons (gName 4) gNil)))) rfl hr sc_times.nd (by rfl) T.b_tuple B.t_times rfl (pi_tup (pv 2)) (blkOk_by (N := N_times) (sc := defScope s_times) (by decide +kernel)) (by decide +kernel) rfl rfl (fun _ _ _ _ _ _ => (pg_tup rfl (pgs_cons (pg_name (i := 3) sc_times.nd rfl (.inl rfl) (.inr rfl)) (pgs_cons (pg_name (i := 4) sc_times.nd rfl (.inl rfl) (.inr rfl)) pgs_nil)))) (fun _ _ _ _ _ _ => (pe_tup (pa_cons (pe_op op_mod (pe_op op_mul (pv 1) (pv 3)) (pv 0)) (pa_cons (pe_op op_mod (pe_op op_mul (pv 1) (pv 4)) (pv 0)) pa_nil)))) (fun _ => rfl)))), ?_⟩
    refine ⟨.ref a, rfl, a, rfl, ⟨xs, SqT.of ha⟩, tg, fun H2 tb => ?_⟩
    have s2 := Sm.tabbed tg tb
    refine gx_tup (xs := xs) (fun i zs H' => Sm H H' ∧ Prs H' zs ((timR p n r).take i)) ⟨s2, by simpa using Prs.nil⟩ (fun i zs H' _ h => SqT.of (h.1.tup ha)) ?_ ?_
    · rintro i x zs H' hx ⟨s3, hz⟩
      obtain ⟨u, eu, b, rfl, hb⟩ := hp.get hx
      refine ⟨b, _, rfl, SqT.of (s3.tup hb), rfl, _, _, rfl, _, _, rfl, rfl, rfl, ?_⟩
      have hzl := hz.len
      have e2 : (timR p n r)[i]? = some (n * u.1 % p, n * u.2 % p) := by
        unfold timR
        rw [List.getElem?_map, eu]
        rfl
      have hl2 : zs.length ≤ 20 := by
        rw [hzl, List.length_take]
        unfold timR
        rw [List.length_map]
        omega
      refine ⟨.int n, rfl, .int u.1, rfl, n, u.1, rfl, rfl, cmul ⟨n0, n1⟩, .int p, rfl, _, p, rfl, rfl, p0, .int n, rfl, .int u.2, rfl, n, u.2, rfl, rfl, cmul ⟨n0, n1⟩, .int p, rfl, _, p, rfl, rfl, p0, (by show 2 ≤ sizeLine; decide), fun t ht => ⟨small (by omega), s3.trans (.new ht), ?_⟩⟩
      rw [take_snoc e2]
      exact (hz.sm (.new ht)).snoc ⟨t, rfl, upd_same⟩
    · rintro zs H' ⟨s3, hz⟩ t ht
      refine q t _ (s3.trans (.new ht)) ⟨zs, upd_same, ?_⟩
      have e : (timR p n r).take xs.length = timR p n r := by
        rw [hp.len]
        exact List.take_of_length_le (by unfold timR; simp)
      rw [e] at hz
      exact hz.sm (.new ht)
def spAdded (P : Addr) : Sp := fun vs H Q _ => ∃ (p : Int) (a b : Addr) (r s : Row), vs = [.int p, .ref a, .ref b] ∧ 0 < p ∧ Rw H a r ∧ Rw H b s ∧ Fit r ∧ r.length = s.length ∧ GxR.TabG H P ∧ ∀ t H', Sm H H' → Rw H' t (addR p r s) → Q (.ref t) H'
theorem ok_added (T : Tx K mg A) (B : Tb K mg base A C) : FnOk P w K mg base CX0 6 A.f_added A.d_added ["p", "one", "other"] (spAdded C.p_added) := by
  refine B.k_added.ok sc_added (fun vs H Q E h => ?_) (fun A outer s H vs Q E hr h => ?_)
  · obtain ⟨p, a, b, r, s, rfl, _⟩ := h
    rfl
  · obtain ⟨p, a, b, r, s', rfl, p0, ⟨xs, ha, hp⟩, ⟨ys, hb, hp2⟩, hf, hle, tg, q⟩ := h
    have hf1 := hf.1
    refine ⟨_, (pss_one (ps_ret (Gx.pe_tupGx (own := [("a", 3), ("b", 4), ("c", 5), ("d", 6)]) (g := (gTup K 2 (gCons (gTup K 2 (gCons (gName 3) (gCons (gName 4) gNil))) (gCons (gTup K 2 (gCons (gName 5) (gCons (gName 6) gNil))) gNil)))) rfl hr sc_added.nd (by rfl) T.b_tuple B.t_added rfl (RZ.pi_zipA (by rfl) T.b_zip (pa_cons (pv 1) (pa_cons (pv 2) pa_nil))) (blkOk_by (N := N_added) (sc := defScope s_added) (by decide +kernel)) (by decide +kernel) rfl rfl (fun _ _ _ _ _ _ => (pg_tup rfl (pgs_cons (pg_tup rfl (pgs_cons (pg_name (i := 3) sc_added.nd rfl (.inl rfl) (.inr rfl)) (pgs_cons (pg_name (i := 4) sc_added.nd rfl (.inl rfl) (.inr rfl)) pgs_nil))) (pgs_cons (pg_tup rfl (pgs_cons (pg_name (i := 5) sc_added.nd rfl (.inl rfl) (.inr rfl)) (pgs_cons (pg_name (i := 6) sc_added.nd rfl (.inl rfl) (.inr rfl)) pgs_nil))) pgs_nil)))) (fun _ _ _ _ _ _ => (pe_tup (pa_cons (pe_op op_mod (pe_op op_add (pv 3) (pv 5)) (pv 0)) (pa_cons (pe_op op_mod (pe_op op_add (pv 4) (pv 6)) (pv 0)) pa_nil)))) (fun _ => rfl)))), ?_⟩
    refine ⟨.ref a, rfl, .ref b, rfl, a, b, xs, ys, rfl, .inr ⟨SqT.of ha, SqT.of hb, tg, fun H2 tb => ?_⟩⟩
    have s2 := Sm.tabbed tg tb
    refine gx_zip (σ := [some (.int p), some (.ref a), some (.ref b), none, none, none, none]) (vs := [3, 4, 5, 6]) (xs := xs) (ys := ys) (by rw [hp.len, hp2.len, hle]) (fun i zs H' => Sm H H' ∧ Prs H' zs ((addR p r s').take i)) ⟨s2, by simpa using Prs.nil⟩ (fun i zs H' h => ⟨SqT.of (h.1.tup ha), SqT.of (h.1.tup hb)⟩) ?_ ?_
    · rintro i x y T1 zs H' hx hy ⟨s3, hz⟩ hT
      obtain ⟨u, eu, b1, rfl, hb1⟩ := hp.get hx
      obtain ⟨v, ev, b2, rfl, hb2⟩ := hp2.get hy
      have s4 := s3.trans (.new (o := .tup [.ref b1, .ref b2]) hT)
      refine ⟨T1, [.ref b1, .ref b2], rfl, SqT.of upd_same, rfl, .ref b1, [.ref b2], rfl, ?_⟩
      refine ⟨b1, [.int u.1, .int u.2], rfl, SqT.of (s4.tup hb1), rfl, .int u.1, [.int u.2], rfl, .int u.2, [], rfl, rfl, .ref b2, [], rfl, ?_⟩
      refine ⟨b2, [.int v.1, .int v.2], rfl, SqT.of (s4.tup hb2), rfl, .int v.1, [.int v.2], rfl, .int v.2, [], rfl, rfl, rfl, ?_⟩
      dsimp only [wipe, List.set]
      refine ⟨rfl, ?_⟩
      have hzl := hz.len
      have e2 : (addR p r s')[i]? = some ((u.1 + v.1) % p, (u.2 + v.2) % p) := by
        unfold addR
        rw [List.getElem?_zipWith, eu, ev]
      have hl2 : zs.length ≤ 20 := by
        rw [hzl, List.length_take]
        unfold addR
        rw [List.length_zipWith]
        omega
      refine ⟨.int u.1, rfl, .int v.1, rfl, u.1, v.1, rfl, rfl, .int p, rfl, _, p, rfl, rfl, p0, .int u.2, rfl, .int v.2, rfl, u.2, v.2, rfl, rfl, .int p, rfl, _, p, rfl, rfl, p0, (by show 2 ≤ sizeLine; decide), fun t ht => ⟨small (by omega), s4.trans (.new ht), ?_⟩⟩
      rw [take_snoc e2]
      exact ((hz.sm (.new hT)).sm (.new ht)).snoc ⟨t, rfl, upd_same⟩
    · rintro zs H' ⟨s3, hz⟩ t ht
      refine q t _ (s3.trans (.new ht)) ⟨zs, upd_same, ?_⟩
      have e : (addR p r s').take xs.length = addR p r s' := by
        rw [hp.len]
        exact List.take_of_length_le (by unfold addR; rw [List.length_zipWith]; omega)
      rw [e] at hz
      exact hz.sm (.new ht)
def spPart (P : Addr) : Sp := fun vs H Q _ => ∃ (a b : Addr) (r : Row) (js : List Nat), vs = [.ref a, .ref b] ∧ Rw H a r ∧ H b = some (.tup (js.map fun j => V.int (j : Nat))) ∧ (∀ j ∈ js, j < r.length) ∧ js.length ≤ 100 ∧ GxR.TabG H P ∧ ∀ t H', Sm H H' → Rw H' t (parR r js) → Q (.ref t) H'
theorem ok_part (T : Tx K mg A) (B : Tb K mg base A C) : FnOk P w K mg base CX0 6 A.f_part A.d_part ["row", "posts"] (spPart C.p_part) := by
  refine B.k_part.ok sc_part (fun vs H Q E h => ?_) (fun A outer s H vs Q E hr h => ?_)
  · obtain ⟨a, b, r, js, rfl, _⟩ := h
    rfl
  · obtain ⟨a, b, r, js, rfl, ⟨xs, ha, hp⟩, hb, hj, hjl, tg, q⟩ := h
    refine ⟨_, (pss_one (ps_ret (Gx.pe_tupGx (own := [("post", 2)]) (g := (gName 2)) rfl hr sc_part.nd (by rfl) T.b_tuple B.t_part rfl (pi_tup (pv 1)) (blkOk_by (N := N_part) (sc := defScope s_part) (by decide +kernel)) (by decide +kernel) rfl rfl (fun _ _ _ _ _ _ => (pg_name (i := 2) sc_part.nd rfl (.inl rfl) (.inr rfl))) (fun _ _ _ _ _ _ => (pe_ix (show IxR _ (rIxT K) from ix_tup) (pv 0) (pv 2) (fun _ _ => rfl))) (fun _ => rfl)))), ?_⟩
    refine ⟨.ref b, rfl, b, rfl, ⟨_, SqT.of hb⟩, tg, fun H2 tb => ?_⟩
    have s2 := Sm.tabbed tg tb
    refine gx_tup (xs := js.map fun j => V.int (j : Nat)) (fun i zs H' => Sm H H' ∧ Prs H' zs ((parR r js).take i)) ⟨s2, by simpa using Prs.nil⟩ (fun i zs H' _ h => SqT.of (h.1.tup hb)) ?_ ?_
    · rintro i x zs H' hx ⟨s3, hz⟩
      rw [List.getElem?_map] at hx
      obtain ⟨j, ej, rfl⟩ := Option.map_eq_some_iff.mp hx
      have jl := hj j (List.mem_of_getElem? ej)
      have jl2 : j < xs.length := by rw [hp.len]; exact jl
      obtain ⟨u, eu, pr⟩ := hp.get (List.getElem?_eq_getElem jl2)
      have hzl := hz.len
      have e2 : (parR r js)[i]? = some u := by
        unfold parR
        rw [List.getElem?_map, ej]
        show some (r.getD j (0, 0)) = _
        rw [List.getD_eq_getElem?_getD, eu]
        rfl
      have hl2 : zs.length ≤ 100 := by
        rw [hzl, List.length_take]
        unfold parR
        rw [List.length_map]
        omega
      refine ⟨rfl, .ref a, rfl, .int j, rfl, a, _, (j : Nat), xs[j], rfl, rfl, SqT.of (s3.tup ha), atI_nat (List.getElem?_eq_getElem jl2), small (by omega), s3, ?_⟩
      rw [take_snoc e2]
      exact hz.snoc (pr.sm s3)
    · rintro zs H' ⟨s3, hz⟩ t ht
      refine q t _ (s3.trans (.new ht)) ⟨zs, upd_same, ?_⟩
      have e : (parR r js).take (js.map fun j => V.int (j : Nat)).length = parR r js := by
        rw [List.length_map]
        exact List.take_of_length_le (by unfold parR; simp)
      rw [e] at hz
      exact hz.sm (.new ht)
def spMeet : Sp := fun vs H Q _ => ∃ (p : Int) (a b : Addr) (r s : Row), vs = [.int p, .ref a, .ref b] ∧ 0 < p ∧ Rw H a r ∧ Rw H b s ∧ Fit r ∧ Fit s ∧ r.length = s.length ∧ ∀ H', Sm H H' → Q (.int (metR p r s)) H'
theorem ok_meet (T : Tx K mg A) : FnOk P w K mg base CX0 1 A.f_meet A.d_meet ["p", "one", "other"] spMeet := by
  refine T.d_meet.F.ok sc_meet (fun vs H Q E h => ?_) (fun cdv A outer s H vs Q E hr h => ?_)
  · obtain ⟨p, a, b, r, s, rfl, _⟩ := h
    rfl
  · obtain ⟨p, a, b, r, s', rfl, p0, ⟨xs, ha, hp⟩, ⟨ys, hb, hp2⟩, hf, hf', hle, q⟩ := h
    have hf1 := hf.1
    refine ⟨_, (pss_one (ps_ret (pe_op op_mod (pe_callB (cr_sum rfl) (by rfl) T.b_sum PyProof.Rows.boot_sum (pa_cons (pe_lc (own := [("a", 3), ("b", 4), ("c", 5), ("d", 6)]) (g := (gTup K 2 (gCons (gTup K 2 (gCons (gName 3) (gCons (gName 4) gNil))) (gCons (gTup K 2 (gCons (gName 5) (gCons (gName 6) gNil))) gNil)))) rfl sc_meet.nd (RZ.pi_zipA (by rfl) T.b_zip (pa_cons (pv 1) (pa_cons (pv 2) pa_nil))) (blkOk_by (N := N_meet) (sc := defScope s_meet) (by decide +kernel)) (fun _ _ _ _ _ => (pg_tup rfl (pgs_cons (pg_tup rfl (pgs_cons (pg_name (i := 3) sc_meet.nd rfl (.inl rfl)) (pgs_cons (pg_name (i := 4) sc_meet.nd rfl (.inl rfl)) pgs_nil))) (pgs_cons (pg_tup rfl (pgs_cons (pg_name (i := 5) sc_meet.nd rfl (.inl rfl)) (pgs_cons (pg_name (i := 6) sc_meet.nd rfl (.inl rfl)) pgs_nil))) pgs_nil)))) (fun _ _ _ _ _ => pts_nil) (fun _ _ _ _ _ => (pe_op op_sub (pe_op op_mul (pv 3) (pv 6)) (pe_op op_mul (pv 5) (pv 4))))) pa_nil)) (pv 0)))), ?_⟩
    refine ⟨.ref a, rfl, .ref b, rfl, a, b, xs, ys, rfl, .inr ⟨SqT.of ha, SqT.of hb, fun L hL => ?_⟩⟩
    refine lc_zip (σ := [some (.int p), some (.ref a), some (.ref b), none, none, none, none]) (vs := [3, 4, 5, 6]) (xs := xs) (ys := ys) (by rw [hp.len, hp2.len, hle]) (fun i H' => Sm H H' ∧ H' L = some (.lst (((mets r s').take i).map V.int))) ⟨.new hL, upd_same⟩ (fun i H' h => ⟨SqT.of (h.1.tup ha), SqT.of (h.1.tup hb)⟩) ?_ ?_
    · rintro i x y T1 H' hx hy ⟨s3, hz⟩ hT
      obtain ⟨u, eu, b1, rfl, hb1⟩ := hp.get hx
      obtain ⟨v, ev, b2, rfl, hb2⟩ := hp2.get hy
      have hu := hf.get eu
      have hv := hf'.get ev
      have s4 := s3.trans (.new (o := .tup [.ref b1, .ref b2]) hT)
      refine ⟨T1, [.ref b1, .ref b2], rfl, SqT.of upd_same, rfl, .ref b1, [.ref b2], rfl, ?_⟩
      refine ⟨b1, [.int u.1, .int u.2], rfl, SqT.of (s4.tup hb1), rfl, .int u.1, [.int u.2], rfl, .int u.2, [], rfl, rfl, .ref b2, [], rfl, ?_⟩
      refine ⟨b2, [.int v.1, .int v.2], rfl, SqT.of (s4.tup hb2), rfl, .int v.1, [.int v.2], rfl, .int v.2, [], rfl, rfl, rfl, ?_⟩
      dsimp only [wipe, List.set]
      refine ⟨rfl, ?_⟩
      have e2 : (mets r s')[i]? = some (u.1 * v.2 - v.1 * u.2) := by
        unfold mets
        rw [List.getElem?_zipWith, eu, ev]
      have nT : L ≠ T1 := ne_of_none hz hT
      refine ⟨.int u.1, rfl, .int v.2, rfl, u.1, v.2, rfl, rfl, cmul hu.1, .int v.1, rfl, .int u.2, rfl, v.1, u.2, rfl, rfl, cmul hv.1, _, _, rfl, rfl, _, (by rw [upd_ne nT]; exact hz), ?_, s4.put hL, ?_⟩
      · rw [List.length_map, List.length_take]
        unfold mets
        rw [List.length_zipWith]
        exact small (by omega)
      · rw [upd_same, take_snoc e2, List.map_append]
        rfl
    · rintro H' ⟨s3, hz⟩
      have e : (mets r s').take xs.length = mets r s' := by
        rw [hp.len]
        exact List.take_of_length_le (by unfold mets; rw [List.length_zipWith]; omega)
      rw [e] at hz
      exact ⟨L, _, rfl, SqL.of hz, .int p, rfl, _, p, rfl, rfl, p0, q H' s3⟩
/-! ### rows that are drawn -/
def In (p : Int) (r : Row) : Prop := ∀ u ∈ r, (0 ≤ u.1 ∧ u.1 < p) ∧ 0 ≤ u.2 ∧ u.2 < p
theorem In.fit {p : Int} {r : Row} (h : In p r) (h2 : p ≤ 13) (h3 : r.length ≤ 20) : Fit r := ⟨h3, fun u hu => by have := h u hu; omega⟩
theorem Dk.nt {d g c a : Addr} {k : Int} {H : Hp} {xs : List V} (D : Dk d g c k H) (h : H a = some (.tup xs)) : a ≠ d ∧ a ≠ g := by
  obtain ⟨gs, cs, n, h1, h2, _⟩ := D.ex
  exact ⟨ne_of h h1 (by intro z; cases z), ne_of h h2 (by intro z; cases z)⟩
theorem Dk.ntb {d g c a : Addr} {k : Int} {H : Hp} (D : Dk d g c k H) (h : GxR.TabG H a) : a ≠ d ∧ a ≠ g := by
  obtain ⟨gs, cs, n, h1, h2, _⟩ := D.ex
  obtain ⟨ps, h, _⟩ := h
  exact ⟨ne_of h h1 (by intro z; cases z), ne_of h h2 (by intro z; cases z)⟩
theorem Dk.sm {d g c : Addr} {k : Int} {H H' : Hp} (D : Dk d g c k H) (s : Sm H H') : Dk d g c k H' := by
  obtain ⟨gs, cs, n, h1, h2, h3, h4, h5, h6, h7⟩ := D.ex
  exact ⟨⟨gs, cs, n, s.lst h1, s.lst h2, s.lst h3, h4, h5, h6, h7⟩, D.dg, D.dc, D.gc⟩
section
variable {d g c L : Addr} {k : Int} {H H' : Hp} {xs : List V} {r : Row} {t : Addr}
theorem Fr.tup (f : Fr d g H H') (D : Dk d g c k H) (h : H t = some (.tup xs)) : H' t = some (.tup xs) := f _ _ (D.nt h).1 (D.nt h).2 h
theorem Fr.tab (f : Fr d g H H') (D : Dk d g c k H) (h : GxR.TabG H t) : GxR.TabG H' t := let n := D.ntb h; let ⟨ps, e, z⟩ := h; ⟨ps, f _ _ n.1 n.2 e, z⟩
theorem Prs.fr (h : Prs H xs r) (D : Dk d g c k H) (f : Fr d g H H') : Prs H' xs r := ⟨h.len, fun e => let ⟨u, e2, a, ea, p⟩ := h.get e; ⟨u, e2, a, ea, f.tup D p⟩⟩
theorem Rw.fr (h : Rw H t r) (D : Dk d g c k H) (f : Fr d g H H') : Rw H' t r := let ⟨xs, e, p⟩ := h; ⟨xs, f.tup D e, p.fr D f⟩
theorem Prs.put {ys : List V} {o : HO} (h : Prs H xs r) (e : H L = some (.lst ys)) : Prs (upd H L o) xs r := ⟨h.len, fun e1 => let ⟨u, e2, a, ea, p⟩ := h.get e1; ⟨u, e2, a, ea, by rw [upd_ne (ne_of p e (by intro z; cases z))]; exact p⟩⟩
theorem Dk.put {o : HO} (D : Dk d g c k H) (h1 : L ≠ d) (h2 : L ≠ g) (h3 : L ≠ c) : Dk d g c k (upd H L o) := by
  obtain ⟨gs, cs, n, e1, e2, e3, h4, h5, h6, h7⟩ := D.ex
  exact ⟨⟨gs, cs, n, by rw [upd_ne h1.symm]; exact e1, by rw [upd_ne h2.symm]; exact e2, by rw [upd_ne h3.symm]; exact e3, h4, h5, h6, h7⟩, D.dg, D.dc, D.gc⟩
end
theorem two_ints {ns : List Int} (h : ns.length = (2 : Int).toNat) : ∃ x y, ns = [x, y] := by
  match ns, h with
  | [x, y], _ => exact ⟨x, y, rfl⟩
def spDrawR : Sp := fun vs H Q _ => ∃ (d g c : Addr) (k p m : Int), vs = [.ref d, .int p, .int m] ∧ Dk d g c k H ∧ k ≤ 100000 ∧ 2 ≤ p ∧ p ≤ 13 ∧ 0 ≤ m ∧ m ≤ 20 ∧
  ∀ (t : Addr) (r : Row) (H' : Hp), Rw H' t r → In p r → r.length = m.toNat → Dk d g c (k + 4 * m) H' → Fr d g H H' → Q (.ref t) H'
theorem ok__law_row (T : Tx K mg A) : FnOk P w K mg base CX0 3 A.f__law_row A.d__law_row ["_law_deck_here", "_law_p", "_law_posts"] spDrawR := by
  have G__law_numbers : FnOk P w K mg base CX0 2 A.f__law_numbers A.d__law_numbers ["_law_deck_here", "_law_p", "_law_many"] spNums := ok__law_numbers T
  refine T.d__law_row.F.ok sc__law_row (fun vs H Q E h => ?_) (fun cdv A outer s H vs Q E hr h => ?_)
  · obtain ⟨d, g, c, k, p, m, rfl, _⟩ := h
    rfl
  · obtain ⟨d, g, c, k, p, m, rfl, D0, hk, p2, p13, m0, m1, q⟩ := h
    refine ⟨_, (pss_one (ps_ret (pe_callTy call_tuple_of (by rfl) T.b_tuple PyProof.Rows.boot_tuple (pa_cons (pe_lc (own := [("_law_k", 3)]) rfl sc__law_row.nd (pi_range1 (by rfl) T.b_range (pa_cons (pv 2) pa_nil)) (blkOk_by (N := N__law_row) (sc := defScope s__law_row) (by decide +kernel)) (fun _ _ _ _ _ => (pg_name (i := 3) sc__law_row.nd rfl (.inl rfl))) (fun _ _ _ _ _ => pts_nil) (fun _ _ _ _ _ => (pe_call G__law_numbers hr (by rfl) T.d__law_numbers.g T.d__law_numbers.F.kp T.d__law_numbers.b .nil pass0 (pa_cons (pv 0) (pa_cons (pv 1) (pa_cons pe_int pa_nil)))))) pa_nil)))), ?_⟩
    refine ⟨.int m, rfl, m, rfl, by omega, by omega, fun L hL => lc_range (fun i H' => Dk d g c (k + 4 * i) H' ∧ Fr d g H H' ∧ ∃ (xs : List V) (r : Row), Prs H' xs r ∧ In p r ∧ r.length = i ∧ H' L = some (.lst xs)) ⟨(D0.same (same_upd hL)).mono (by omega), .new hL, [], [], .nil, (fun u hu => by cases hu), rfl, upd_same⟩ ?_ ?_⟩
    · rintro i H1 hi ⟨D1, f1, xs, r, hp, hin, hlen, eL⟩
      have nL := D0.nd hL
      refine ⟨rfl, .ref d, rfl, .int p, rfl, d, g, c, _, p, 2, rfl, D1, by omega, p2, p13, by decide, by decide, fun t ns H2 hns nl et D2 f2 => ?_⟩
      have eL2 := f2 L _ nL.1 nL.2.1 eL
      obtain ⟨x, y, rfl⟩ := two_ints nl
      have lx := hp.len
      have hp2 := hp.fr D1 f2
      refine ⟨_, eL2, small (by omega), (D2.put nL.1 nL.2.1 nL.2.2).mono (by omega), fun b o e1 e2 e => ?_, xs ++ [.ref t], r ++ [(x, y)], (hp2.snoc (u := (x, y)) ⟨t, rfl, et⟩).put eL2, ?_, by rw [List.length_append, hlen]; rfl, upd_same⟩
      · rw [upd_ne (ne_of_none e hL)]
        exact f2 _ _ e1 e2 (f1 _ _ e1 e2 e)
      · intro u hu
        rcases List.mem_append.mp hu with hu | hu
        · exact hin u hu
        · rw [List.mem_singleton.mp hu]
          exact ⟨hns x (by simp), hns y (by simp)⟩
    · rintro H1 ⟨D1, f1, xs, r, hp, hin, hlen, eL⟩
      refine ⟨L, _, rfl, .inl ⟨SqL.of eL, fun t ht => ?_⟩⟩
      exact q t r _ ⟨xs, upd_same, hp.sm (.new ht)⟩ hin hlen ((D1.same (same_upd ht)).mono (by omega)) (f1.trans (.new ht))
end
/-! ### the mathematics of meets -/
def Cg (p a b : Int) : Prop := ∃ c, a = b + p * c
theorem Cg.rfl' {p a : Int} : Cg p a a := ⟨0, by simp⟩
theorem Cg.mod {p : Int} (a : Int) : Cg p (a % p) a := ⟨-(a / p), by have := Int.emod_def a p; rw [Int.mul_neg]; omega⟩
theorem Cg.add {p a b c d : Int} (h : Cg p a b) (k : Cg p c d) : Cg p (a + c) (b + d) := by
  obtain ⟨x, rfl⟩ := h
  obtain ⟨y, rfl⟩ := k
  exact ⟨x + y, by grind⟩
theorem Cg.sub {p a b c d : Int} (h : Cg p a b) (k : Cg p c d) : Cg p (a - c) (b - d) := by
  obtain ⟨x, rfl⟩ := h
  obtain ⟨y, rfl⟩ := k
  exact ⟨x - y, by grind⟩
theorem Cg.mul {p a b c d : Int} (h : Cg p a b) (k : Cg p c d) : Cg p (a * c) (b * d) := by
  obtain ⟨x, rfl⟩ := h
  obtain ⟨y, rfl⟩ := k
  exact ⟨b * y + x * d + p * x * y, by grind⟩
theorem Cg.trans {p a b c : Int} (h : Cg p a b) (k : Cg p b c) : Cg p a c := by
  obtain ⟨x, rfl⟩ := h
  obtain ⟨y, rfl⟩ := k
  exact ⟨x + y, by grind⟩
theorem Cg.symm {p a b : Int} (h : Cg p a b) : Cg p b a := by
  obtain ⟨x, rfl⟩ := h
  exact ⟨-x, by grind⟩
theorem Cg.eq {p a b : Int} (h : Cg p a b) : a % p = b % p := by
  obtain ⟨x, rfl⟩ := h
  exact Int.add_mul_emod_self_left b p x
theorem mets_lin {p n k : Int} : ∀ (r s t : Row), r.length = s.length → s.length = t.length → Cg p (mets (addR p (timR p n r) (timR p k s)) t).sum (n * (mets r t).sum + k * (mets s t).sum)
  | [], [], [], _, _ => ⟨0, by simp [mets, addR, timR]⟩
  | u :: r, v :: s, w :: t, h1, h2 => by
    have ih := mets_lin (p := p) (n := n) (k := k) r s t (by simpa using h1) (by simpa using h2)
    have e1 : (mets (addR p (timR p n (u :: r)) (timR p k (v :: s))) (w :: t)).sum = (((n * u.1 % p + k * v.1 % p) % p) * w.2 - w.1 * ((n * u.2 % p + k * v.2 % p) % p)) + (mets (addR p (timR p n r) (timR p k s)) t).sum := rfl
    have e2 : (mets (u :: r) (w :: t)).sum = (u.1 * w.2 - w.1 * u.2) + (mets r t).sum := rfl
    have e3 : (mets (v :: s) (w :: t)).sum = (v.1 * w.2 - w.1 * v.2) + (mets s t).sum := rfl
    rw [e1, e2, e3]
    have c1 : Cg p ((n * u.1 % p + k * v.1 % p) % p) (n * u.1 + k * v.1) := (Cg.mod _).trans ((Cg.mod _).add (Cg.mod _))
    have c2 : Cg p ((n * u.2 % p + k * v.2 % p) % p) (n * u.2 + k * v.2) := (Cg.mod _).trans ((Cg.mod _).add (Cg.mod _))
    have c3 := ((c1.mul (Cg.rfl' (a := w.2))).sub ((Cg.rfl' (a := w.1)).mul c2)).add ih
    have e4 : (n * u.1 + k * v.1) * w.2 - w.1 * (n * u.2 + k * v.2) + (n * (mets r t).sum + k * (mets s t).sum) = n * (u.1 * w.2 - w.1 * u.2 + (mets r t).sum) + k * (v.1 * w.2 - w.1 * v.2 + (mets s t).sum) := by grind
    rw [e4] at c3
    exact c3
theorem mets_self : ∀ r : Row, (mets r r).sum = 0
  | [] => rfl
  | u :: r => by
    show (u.1 * u.2 - u.1 * u.2) + (mets r r).sum = 0
    rw [mets_self r]
    omega
theorem mets_anti : ∀ r s : Row, (mets r s).sum = - (mets s r).sum
  | [], [] => rfl
  | [], _ :: _ => rfl
  | _ :: _, [] => rfl
  | u :: r, v :: s => by
    show (u.1 * v.2 - v.1 * u.2) + (mets r s).sum = -((v.1 * u.2 - u.1 * v.2) + (mets s r).sum)
    rw [mets_anti r s]
    omega
theorem mets_no : ∀ (n : Nat) (s : Row), (mets (noR n) s).sum = 0
  | 0, s => by simp [mets, noR]
  | n + 1, [] => by simp [mets, noR]
  | n + 1, v :: s => by
    show ((0 : Int) * v.2 - v.1 * 0) + (mets (noR n) s).sum = 0
    rw [mets_no n s]
    simp
theorem met_self {p : Int} (r : Row) : metR p r r = 0 := by
  unfold metR
  rw [mets_self]
  simp
theorem met_no {p : Int} (n : Nat) (s : Row) : metR p (noR n) s = 0 := by
  unfold metR
  rw [mets_no]
  simp
theorem met_anti {p : Int} (r s : Row) : (metR p r s + metR p s r) % p = 0 := by
  unfold metR
  rw [mets_anti r s]
  have c : Cg p (-(mets s r).sum % p + (mets s r).sum % p) (-(mets s r).sum + (mets s r).sum) := (Cg.mod _).add (Cg.mod _)
  rw [c.eq, Int.add_left_neg]
  simp
theorem met_lin {p n k : Int} {r s t : Row} (h1 : r.length = s.length) (h2 : s.length = t.length) : metR p (addR p (timR p n r) (timR p k s)) t = (n * metR p r t + k * metR p s t) % p := by
  have c := mets_lin (p := p) (n := n) (k := k) r s t h1 h2
  have d : Cg p (n * metR p r t + k * metR p s t) (n * (mets r t).sum + k * (mets s t).sum) := (Cg.rfl'.mul (Cg.mod _)).add (Cg.rfl'.mul (Cg.mod _))
  rw [d.eq]
  exact c.eq
theorem met_lin2 {p n k : Int} {r s t : Row} (h1 : r.length = s.length) (h2 : s.length = t.length) : metR p t (addR p (timR p n r) (timR p k s)) = (n * metR p t r + k * metR p t s) % p := by
  have c := mets_lin (p := p) (n := n) (k := k) r s t h1 h2
  have d : Cg p (n * metR p t r + k * metR p t s) (n * (mets t r).sum + k * (mets t s).sum) := (Cg.rfl'.mul (Cg.mod _)).add (Cg.rfl'.mul (Cg.mod _))
  rw [d.eq]
  have c2 := (Cg.rfl' (p := p) (a := 0)).sub c
  have e : (0 : Int) - (n * (mets r t).sum + k * (mets s t).sum) = n * (mets t r).sum + k * (mets t s).sum := by
    rw [mets_anti r t, mets_anti s t]
    grind
  rw [e] at c2
  unfold metR
  rw [mets_anti t, ← Int.zero_sub]
  exact c2.eq
theorem sum_app (a b : List Int) : (a ++ b).sum = a.sum + b.sum := by simp
theorem met_parts {p : Int} (r s : Row) (c : Nat) : (metR p (r.take c) (s.take c) + metR p (r.drop c) (s.drop c)) % p = metR p r s := by
  have e1 : mets (r.take c) (s.take c) = (mets r s).take c := by unfold mets; rw [List.take_zipWith]
  have e2 : mets (r.drop c) (s.drop c) = (mets r s).drop c := by unfold mets; rw [List.drop_zipWith]
  unfold metR
  rw [e1, e2]
  have d : Cg p (((mets r s).take c).sum % p + ((mets r s).drop c).sum % p) (((mets r s).take c).sum + ((mets r s).drop c).sum) := (Cg.mod _).add (Cg.mod _)
  rw [d.eq, ← sum_app, List.take_append_drop]
theorem par_take (r : Row) (c : Nat) (h : c ≤ r.length) : parR r (List.range c) = r.take c := by
  apply List.ext_getElem?
  intro i
  unfold parR
  rw [List.getElem?_map]
  by_cases hi : i < c
  · rw [List.getElem?_range hi, List.getElem?_take, if_pos hi, List.getElem?_eq_getElem (by omega)]
    show some (r.getD i (0, 0)) = _
    rw [List.getD_eq_getElem?_getD, List.getElem?_eq_getElem (by omega)]
    rfl
  · rw [List.getElem?_eq_none (by simpa using hi), List.getElem?_eq_none (by rw [List.length_take]; omega)]
    rfl
theorem par_drop (r : Row) (c : Nat) (h : c ≤ r.length) : parR r ((List.range (r.length - c)).map (c + ·)) = r.drop c := by
  apply List.ext_getElem?
  intro i
  unfold parR
  rw [List.map_map, List.getElem?_map, List.getElem?_drop]
  by_cases hi : i < r.length - c
  · rw [List.getElem?_range hi, List.getElem?_eq_getElem (by omega)]
    show some (r.getD (c + i) (0, 0)) = _
    rw [List.getD_eq_getElem?_getD, List.getElem?_eq_getElem (by omega)]
    rfl
  · rw [List.getElem?_eq_none (by simpa using hi), List.getElem?_eq_none (by omega)]
    rfl
theorem mets_app {a b : Row} {x y : Row} (h : a.length = b.length) : mets (a ++ x) (b ++ y) = mets a b ++ mets x y := by
  unfold mets
  rw [List.zipWith_append h]
theorem split_last {r : Row} {n : Nat} (h : r.length = n + 1) : ∃ s u, r = s ++ [u] ∧ s.length = n ∧ r[n]? = some u := by
  refine ⟨r.take n, r[n]'(by omega), ?_, by rw [List.length_take]; omega, List.getElem?_eq_getElem (by omega)⟩
  rw [← take_snoc (List.getElem?_eq_getElem (by omega)), List.take_of_length_le (by omega)]
/-! ### a single -/
def one (b : Bool) : Int := if b = true then 1 else 0
def sgR (n : Nat) (j : Int) : Row := (List.range n).map fun k => (one (decide (((2 * k : Nat) : Int) = j)), one (decide (((2 * k + 1 : Nat) : Int) = j)))
def sgN (n : Nat) (j : Int) : List Int := (List.range n).map fun (k : Nat) => one (decide ((k : Int) = j))
theorem sgN_len {n : Nat} {j : Int} : (sgN n j).length = n := by unfold sgN; rw [List.length_map, List.length_range]
theorem sgR_len {n : Nat} {j : Int} : (sgR n j).length = n := by unfold sgR; rw [List.length_map, List.length_range]
theorem sgN_succ {n : Nat} {j : Int} : sgN (n + 1) j = sgN n j ++ [one (decide ((n : Int) = j))] := by unfold sgN; rw [List.range_succ, List.map_append]; rfl
theorem sgR_succ {n : Nat} {j : Int} : sgR (n + 1) j = sgR n j ++ [(one (decide (((2 * n : Nat) : Int) = j)), one (decide (((2 * n + 1 : Nat) : Int) = j)))] := by unfold sgR; rw [List.range_succ, List.map_append]; rfl
theorem sgN_get {n k : Nat} {j : Int} (h : k < n) : ((sgN n j).map V.int)[k]? = some (V.int (one (decide ((k : Int) = j)))) := by
  unfold sgN
  rw [List.map_map, List.getElem?_map, List.getElem?_range h]
  rfl
theorem mets_sg0 : ∀ (n : Nat) (r : Row) (j : Int), r.length = n → (2 * n : Nat) ≤ j → (mets r (sgR n j)).sum = 0
  | 0, [], _, _, _ => rfl
  | n + 1, r, j, h, hj => by
    obtain ⟨s, u, rfl, hs, _⟩ := split_last h
    have e1 : decide (((2 * n : Nat) : Int) = j) = false := decide_eq_false (by omega)
    have e2 : decide (((2 * n + 1 : Nat) : Int) = j) = false := decide_eq_false (by omega)
    rw [sgR_succ, mets_app (by rw [hs, sgR_len]), sum_app, mets_sg0 n s j hs (by omega), e1, e2]
    simp [mets, one]
theorem mets_sg : ∀ (n : Nat) (r : Row) (k : Nat) (u : Int × Int), r.length = n → r[k]? = some u → (mets r (sgR n (2 * k : Nat))).sum = - u.2 ∧ (mets r (sgR n (2 * k + 1 : Nat))).sum = u.1
  | 0, [], k, u, _, h => by simp at h
  | n + 1, r, k, u, h, hk => by
    obtain ⟨s, v, rfl, hs, hv⟩ := split_last h
    have hkn : k < n + 1 := by rw [← h]; exact (List.getElem?_eq_some_iff.mp hk).1
    by_cases hn : k = n
    · subst hn
      rw [hv] at hk
      cases hk
      have e1 : decide (((2 * k : Nat) : Int) = ((2 * k : Nat) : Int)) = true := decide_eq_true rfl
      have e2 : decide (((2 * k + 1 : Nat) : Int) = ((2 * k : Nat) : Int)) = false := decide_eq_false (by omega)
      have e3 : decide (((2 * k : Nat) : Int) = ((2 * k + 1 : Nat) : Int)) = false := decide_eq_false (by omega)
      have e4 : decide (((2 * k + 1 : Nat) : Int) = ((2 * k + 1 : Nat) : Int)) = true := decide_eq_true rfl
      rw [sgR_succ, sgR_succ, mets_app (by rw [hs, sgR_len]), mets_app (by rw [hs, sgR_len]), sum_app, sum_app, mets_sg0 k s _ hs (by omega), mets_sg0 k s _ hs (by omega), e1, e2, e3, e4]
      constructor <;> simp [mets, one]
    · have hk2 : s[k]? = some u := by
        rw [List.getElem?_append_left (by omega)] at hk
        exact hk
      have ih := mets_sg n s k u hs hk2
      have e1 : decide (((2 * n : Nat) : Int) = ((2 * k : Nat) : Int)) = false := decide_eq_false (by omega)
      have e2 : decide (((2 * n + 1 : Nat) : Int) = ((2 * k : Nat) : Int)) = false := decide_eq_false (by omega)
      have e3 : decide (((2 * n : Nat) : Int) = ((2 * k + 1 : Nat) : Int)) = false := decide_eq_false (by omega)
      have e4 : decide (((2 * n + 1 : Nat) : Int) = ((2 * k + 1 : Nat) : Int)) = false := decide_eq_false (by omega)
      rw [sgR_succ, sgR_succ, mets_app (by rw [hs, sgR_len]), mets_app (by rw [hs, sgR_len]), sum_app, sum_app, ih.1, ih.2, e1, e2, e3, e4]
      constructor <;> simp [mets, one]
/-- what the singles tell of a row -/
def told (p : Int) (r : Row) (m : Nat) : List Int := (List.range m).map fun j => metR p r (sgR r.length (j : Nat))
theorem told_zero {p : Int} {r : Row} (h0 : 0 < p) (hin : In p r) (h : ∀ x ∈ told p r (2 * r.length), x = 0) : r = noR r.length := by
  apply List.ext_getElem?
  intro i
  unfold noR
  by_cases hi : i < r.length
  · rw [List.getElem?_replicate, if_pos hi, List.getElem?_eq_getElem hi]
    have hu := hin _ (List.getElem_mem hi)
    have m := mets_sg r.length r i r[i] rfl (List.getElem?_eq_getElem hi)
    have g : ∀ j : Nat, j < 2 * r.length → metR p r (sgR r.length (j : Nat)) = 0 := fun j hj => h _ (List.mem_map.mpr ⟨j, List.mem_range.mpr hj, rfl⟩)
    have g1 := g (2 * i) (by omega)
    have g2 := g (2 * i + 1) (by omega)
    unfold metR at g1 g2
    rw [m.1] at g1
    rw [m.2, Int.emod_eq_of_lt hu.1.1 hu.1.2] at g2
    have g3 : r[i].2 % p = 0 := Int.emod_eq_zero_of_dvd (Int.dvd_neg.mp (Int.dvd_of_emod_eq_zero g1))
    rw [Int.emod_eq_of_lt hu.2.1 hu.2.2] at g3
    congr 1
    exact Prod.ext g2 g3
  · rw [List.getElem?_eq_none (by omega), List.getElem?_replicate, if_neg hi]
theorem told_no {p : Int} {n m : Nat} : ∀ x ∈ told p (noR n) m, x = 0 := by
  intro x hx
  obtain ⟨j, _, rfl⟩ := List.mem_map.mp hx
  exact met_no _ _
theorem told_succ {p : Int} {r : Row} {m : Nat} : told p r (m + 1) = told p r m ++ [metR p r (sgR r.length (m : Nat))] := by unfold told; rw [List.range_succ, List.map_append]; rfl
theorem told_len {p : Int} {r : Row} {m : Nat} : (told p r m).length = m := by unfold told; rw [List.length_map, List.length_range]
def rest (xs : List Int) : List Int := xs.filter fun x => !decide (x = 0)
theorem rest_told {p : Int} {r : Row} (h0 : 0 < p) (hin : In p r) : (rest (told p r (2 * r.length))).isEmpty = decide (r = noR r.length) := by
  by_cases h : r = noR r.length
  · rw [decide_eq_true h, List.isEmpty_iff]
    unfold rest
    rw [List.filter_eq_nil_iff]
    intro x hx
    have hx2 : x ∈ told p (noR r.length) (2 * r.length) := by rw [← h]; exact hx
    rw [told_no x hx2]
    simp
  · rw [decide_eq_false h, Bool.eq_false_iff]
    intro z
    refine h (told_zero h0 hin fun x hx => ?_)
    rw [List.isEmpty_iff] at z
    have z2 := List.filter_eq_nil_iff.mp z x hx
    simpa using z2
section
variable {P : Program} {w : World} {K : PySem.W.Frag} {mg : Str → Option Value} {base : Heap} {A : Ad} {C : Cd}
def spSingle : Sp := fun vs H Q _ => ∃ (n j : Int), vs = [.int n, .int j] ∧ 0 ≤ n ∧ n ≤ 20 ∧ ∀ t H', Sm H H' → Rw H' t (sgR n.toNat j) → Q (.ref t) H'
theorem ok__law_single (T : Tx K mg A) : FnOk P w K mg base CX0 1 A.f__law_single A.d__law_single ["_law_posts", "_law_place"] spSingle := by
  refine T.d__law_single.F.ok sc__law_single (fun vs H Q E h => ?_) (fun cdv A outer s H vs Q E hr h => ?_)
  · obtain ⟨n, j, rfl, _⟩ := h
    rfl
  · obtain ⟨n, j, rfl, n0, n1, q⟩ := h
    refine ⟨_, (pss_cons (ps_set (i := 2) sc__law_single.nd rfl (.inr rfl) (pe_lc (own := [("_law_k", 3)]) rfl sc__law_single.nd (pi_range1 (by rfl) T.b_range (pa_cons (pe_op op_mul pe_int (pv 0)) pa_nil)) (blkOk_by (N := N__law_single) (sc := defScope s__law_single) (by decide +kernel)) (fun _ _ _ _ _ => (pg_name (i := 3) sc__law_single.nd rfl (.inl rfl))) (fun _ _ _ _ _ => pts_nil) (fun _ _ _ _ _ => (pe_callTy call_int1 (by rfl) T.b_int PyProof.Rows.boot_int (pa_cons (pe_cmpR op_eq (pv 3) (pv 1) (nomark _)) pa_nil)))))
        (pss_one (ps_ret (pe_callTy call_tuple_of (by rfl) T.b_tuple PyProof.Rows.boot_tuple (pa_cons (pe_lc (own := [("_law_k", 3)]) rfl sc__law_single.nd (pi_range1 (by rfl) T.b_range (pa_cons (pv 0) pa_nil)) (blkOk_by (N := N__law_single) (sc := defScope s__law_single) (by decide +kernel)) (fun _ _ _ _ _ => (pg_name (i := 3) sc__law_single.nd rfl (.inl rfl))) (fun _ _ _ _ _ => pts_nil) (fun _ _ _ _ _ => (pe_tup (pa_cons (pe_ix (show IxR _ (rIxL K) from ix_list) (pv 2) (pe_op op_mul pe_int (pv 3)) (fun _ _ => rfl)) (pa_cons (pe_ix (show IxR _ (rIxL K) from ix_list) (pv 2) (pe_op op_add (pe_op op_mul pe_int (pv 3)) pe_int) (fun _ _ => rfl)) pa_nil))))) pa_nil))))), ?_⟩
    refine ⟨.int n, rfl, 2, n, rfl, rfl, .inl ⟨by decide, by decide⟩, 2 * n, rfl, by omega, by omega, fun L hL => lc_range (fun i H' => Sm H H' ∧ H' L = some (.lst ((sgN i j).map V.int))) ⟨.new hL, upd_same⟩ ?_ ?_⟩
    · rintro i H1 hi ⟨s1, eL⟩
      refine ⟨rfl, .int (0 + i), rfl, .int j, rfl, rfl, .inr ⟨_, rfl, _, eL, ?_, s1.put hL, ?_⟩⟩
      · rw [List.length_map, sgN_len]
        exact small (by omega)
      · rw [upd_same, sgN_succ, List.map_append]
        have e : (decide (V.int (0 + (i : Nat)) = V.int j)) = decide ((i : Int) = j) := by
          by_cases h : (i : Int) = j
          · rw [decide_eq_true h, decide_eq_true (by rw [Int.zero_add, h])]
          · rw [decide_eq_false h, decide_eq_false (fun z => h (by have := V.int.inj z; omega))]
        rw [e]
        rfl
    · rintro H1 ⟨s1, eL⟩
      refine ⟨.int n, rfl, n, rfl, by omega, by omega, fun L2 hL2 => lc_range (fun i H' => Sm H1 H' ∧ ∃ xs, H' L2 = some (.lst xs) ∧ Prs H' xs (sgR i j)) ⟨.new hL2, [], upd_same, .nil⟩ ?_ ?_⟩
      · rintro i H2 hi ⟨s2, xs, eL2, hp⟩
        have g1 : atI ((sgN (2 * n).toNat j).map V.int) (2 * (0 + (i : Nat))) = some (V.int (one (decide (((2 * i : Nat) : Int) = j)))) := by
          have e : (2 * (0 + ((i : Nat) : Int))) = ((2 * i : Nat) : Int) := by omega
          rw [e]
          exact atI_nat (sgN_get (by omega))
        have g2 : atI ((sgN (2 * n).toNat j).map V.int) (2 * (0 + (i : Nat)) + 1) = some (V.int (one (decide (((2 * i + 1 : Nat) : Int) = j)))) := by
          have e : (2 * (0 + ((i : Nat) : Int)) + 1) = ((2 * i + 1 : Nat) : Int) := by omega
          rw [e]
          exact atI_nat (sgN_get (by omega))
        have eL' := s2.lst eL
        refine ⟨rfl, .ref L, rfl, .int (0 + i), rfl, 2, _, rfl, rfl, .inl ⟨by decide, by decide⟩, L, _, _, _, rfl, rfl, SqL.of eL', g1, ?_⟩
        refine ⟨.ref L, rfl, .int (0 + i), rfl, 2, _, rfl, rfl, .inl ⟨by decide, by decide⟩, _, _, rfl, rfl, L, _, _, _, rfl, rfl, SqL.of eL', g2, (by show 2 ≤ sizeLine; decide), fun t ht => ?_⟩
        have nt : L2 ≠ t := ne_of_none eL2 ht
        have lx := hp.len
        rw [sgR_len] at lx
        have e3 : upd H2 t (.tup [V.int (one (decide (((2 * i : Nat) : Int) = j))), V.int (one (decide (((2 * i + 1 : Nat) : Int) = j)))]) L2 = some (.lst xs) := by
          rw [upd_ne nt]
          exact eL2
        refine ⟨xs, e3, small (by omega), (s2.trans (.new ht)).put hL2, _, upd_same, ?_⟩
        rw [sgR_succ]
        exact ((hp.sm (.new ht)).snoc (u := (one (decide (((2 * i : Nat) : Int) = j)), one (decide (((2 * i + 1 : Nat) : Int) = j)))) ⟨t, rfl, upd_same⟩).put e3
      · rintro H2 ⟨s2, xs, eL2, hp⟩
        refine ⟨L2, _, rfl, .inl ⟨SqL.of eL2, fun t ht => ?_⟩⟩
        exact q t _ ((s1.trans s2).trans (.new ht)) ⟨xs, upd_same, hp.sm (.new ht)⟩
/-! ### the law's looks -/
structure Rk (p : Int) (n : Nat) (H : Hp) (t : Addr) (r : Row) : Prop where
  rw : Rw H t r
  inp : In p r
  len : r.length = n
theorem Rk.sm {p : Int} {n : Nat} {H H' : Hp} {t : Addr} {r : Row} (h : Rk p n H t r) (s : Sm H H') : Rk p n H' t r := ⟨h.rw.sm s, h.inp, h.len⟩
theorem Rk.fit {p : Int} {n : Nat} {H : Hp} {t : Addr} {r : Row} (h : Rk p n H t r) (h2 : p ≤ 13) (h3 : n ≤ 20) : Fit r := h.inp.fit h2 (by rw [h.len]; exact h3)
theorem md {p : Int} (h : 0 < p) (a : Int) : 0 ≤ a % p ∧ a % p < p := ⟨Int.emod_nonneg a (by omega), Int.emod_lt_of_pos a h⟩
theorem in_tim {p n : Int} (h : 0 < p) (r : Row) : In p (timR p n r) := fun u hu => by
  obtain ⟨v, _, rfl⟩ := List.mem_map.mp hu
  exact ⟨md h _, md h _⟩
theorem in_add {p : Int} (h : 0 < p) : ∀ r s : Row, In p (addR p r s)
  | [], _ => fun u hu => by simp [addR] at hu
  | _ :: _, [] => fun u hu => by simp [addR] at hu
  | v :: r, w :: s => fun u hu => by
    have e : addR p (v :: r) (w :: s) = ((v.1 + w.1) % p, (v.2 + w.2) % p) :: addR p r s := rfl
    rw [e] at hu
    rcases List.mem_cons.mp hu with rfl | hu
    · exact ⟨md h _, md h _⟩
    · exact in_add h r s u hu
theorem len_tim {p n : Int} {r : Row} : (timR p n r).length = r.length := by unfold timR; rw [List.length_map]
theorem len_add {p : Int} {r s : Row} (h : r.length = s.length) : (addR p r s).length = r.length := by unfold addR; rw [List.length_zipWith]; omega
theorem in_sg {p : Int} (h : 2 ≤ p) (n : Nat) (j : Int) : In p (sgR n j) := fun u hu => by
  obtain ⟨v, _, rfl⟩ := List.mem_map.mp hu
  have z : ∀ b : Bool, 0 ≤ one b ∧ one b < p := fun b => by
    cases b
    · exact ⟨by decide, by show (0 : Int) < p; omega⟩
    · exact ⟨by decide, by show (1 : Int) < p; omega⟩
  exact ⟨z _, z _⟩
def Tbs (C : Cd) (H : Hp) : Prop := GxR.TabG H C.p_added ∧ GxR.TabG H C.p_times ∧ GxR.TabG H C.p_part
theorem Tbs.sm {C : Cd} {H H' : Hp} (h : Tbs C H) (s : Sm H H') : Tbs C H' := ⟨s.tb _ h.1, s.tb _ h.2.1, s.tb _ h.2.2⟩
def spStraight (C : Cd) : Sp := fun vs H Q _ => ∃ (p : Int) (a b c : Addr) (n k : Int) (m : Nat) (r s t : Row), vs = [.int p, .ref a, .ref b, .ref c, .int n, .int k] ∧ 2 ≤ p ∧ p ≤ 13 ∧ 0 ≤ n ∧ n < p ∧ 0 ≤ k ∧ k < p ∧ m ≤ 20 ∧
  Rk p m H a r ∧ Rk p m H b s ∧ Rk p m H c t ∧ Tbs C H ∧ ∀ H', Sm H H' → Q (.bl true) H'
theorem ok__law_straight (T : Tx K mg A) (B : Tb K mg base A C) : FnOk P w K mg base CX0 7 A.f__law_straight A.d__law_straight ["_law_p", "_law_one", "_law_other", "_law_third", "_law_number", "_law_by"] (spStraight C) := by
  have G_added : FnOk P w K mg base CX0 6 A.f_added A.d_added ["p", "one", "other"] (spAdded C.p_added) := ok_added T B
  have G_times : FnOk P w K mg base CX0 6 A.f_times A.d_times ["p", "number", "row"] (spTimes C.p_times) := ok_times T B
  have G_meet : FnOk P w K mg base CX0 1 A.f_meet A.d_meet ["p", "one", "other"] spMeet := ok_meet T
  refine T.d__law_straight.F.ok sc__law_straight (fun vs H Q E h => ?_) (fun cdv A outer s H vs Q E hr h => ?_)
  · obtain ⟨p, a, b, c, n, k, m, r, s, t, rfl, _⟩ := h
    rfl
  · obtain ⟨p, a, b, c, n, k, m, r, s', t, rfl, p2, p13, n0, n1, k0, k1, hm, ha, hb, hc, tb, q⟩ := h
    have p0 : 0 < p := by omega
    have l1 : r.length = s'.length := by rw [ha.len, hb.len]
    have l2 : s'.length = t.length := by rw [hb.len, hc.len]
    refine ⟨_, (pss_cons (ps_set (i := 6) sc__law_straight.nd rfl (.inl rfl) (pe_call G_added hr (by rfl) T.d_added.g T.d_added.F.kp T.d_added.b .nil pass0 (pa_cons (pv 0) (pa_cons (pe_call G_times hr (by rfl) T.d_times.g T.d_times.F.kp T.d_times.b .nil pass0 (pa_cons (pv 0) (pa_cons (pv 4) (pa_cons (pv 1) pa_nil)))) (pa_cons (pe_call G_times hr (by rfl) T.d_times.g T.d_times.F.kp T.d_times.b .nil pass0 (pa_cons (pv 0) (pa_cons (pv 5) (pa_cons (pv 2) pa_nil)))) pa_nil)))))
        (pss_cons (ps_set (i := 7) sc__law_straight.nd rfl (.inl rfl) (pe_op op_mod (pe_op op_add (pe_op op_mul (pv 4) (pe_call G_meet (hr.mono (by decide)) (by rfl) T.d_meet.g T.d_meet.F.kp T.d_meet.b .nil pass0 (pa_cons (pv 0) (pa_cons (pv 1) (pa_cons (pv 3) pa_nil))))) (pe_op op_mul (pv 5) (pe_call G_meet (hr.mono (by decide)) (by rfl) T.d_meet.g T.d_meet.F.kp T.d_meet.b .nil pass0 (pa_cons (pv 0) (pa_cons (pv 2) (pa_cons (pv 3) pa_nil)))))) (pv 0)))
        (pss_cons (ps_set (i := 8) sc__law_straight.nd rfl (.inl rfl) (pe_op op_mod (pe_op op_add (pe_op op_mul (pv 4) (pe_call G_meet (hr.mono (by decide)) (by rfl) T.d_meet.g T.d_meet.F.kp T.d_meet.b .nil pass0 (pa_cons (pv 0) (pa_cons (pv 3) (pa_cons (pv 1) pa_nil))))) (pe_op op_mul (pv 5) (pe_call G_meet (hr.mono (by decide)) (by rfl) T.d_meet.g T.d_meet.F.kp T.d_meet.b .nil pass0 (pa_cons (pv 0) (pa_cons (pv 3) (pa_cons (pv 2) pa_nil)))))) (pv 0)))
        (pss_one (ps_ret (pe_and (pe_cmpR op_eq (pe_call G_meet (hr.mono (by decide)) (by rfl) T.d_meet.g T.d_meet.F.kp T.d_meet.b .nil pass0 (pa_cons (pv 0) (pa_cons (pv 6) (pa_cons (pv 3) pa_nil)))) (pv 7) (nomark _)) (pe_one (pe_cmpR op_eq (pe_call G_meet (hr.mono (by decide)) (by rfl) T.d_meet.g T.d_meet.F.kp T.d_meet.b .nil pass0 (pa_cons (pv 0) (pa_cons (pv 3) (pa_cons (pv 6) pa_nil)))) (pv 8) (nomark _))))))))), ?_⟩
    refine ⟨.int p, rfl, .int p, rfl, .int n, rfl, .ref a, rfl, p, n, a, r, rfl, p0, n0, by omega, ha.rw, ha.fit p13 hm, tb.2.1, fun t1 H1 s1 w1 => ?_⟩
    refine ⟨.int p, rfl, .int k, rfl, .ref b, rfl, p, k, b, s', rfl, p0, k0, by omega, (hb.sm s1).rw, hb.fit p13 hm, (tb.sm s1).2.1, fun t2 H2 s2 w2 => ?_⟩
    have k1 : Rk p m H2 t1 (timR p n r) := ⟨w1.sm s2, in_tim p0 _, by rw [len_tim, ha.len]⟩
    have k2 : Rk p m H2 t2 (timR p k s') := ⟨w2, in_tim p0 _, by rw [len_tim, hb.len]⟩
    refine ⟨p, t1, t2, _, _, rfl, p0, k1.rw, k2.rw, k1.fit p13 hm, by rw [k1.len, k2.len], ((tb.sm s1).sm s2).1, fun t3 H3 s3 w3 => ?_⟩
    have s4 := (s1.trans s2).trans s3
    have k3 : Rk p m H3 t3 (addR p (timR p n r) (timR p k s')) := ⟨w3, in_add p0 _ _, by rw [len_add (by rw [k1.len, k2.len]), k1.len]⟩
    -- due
    have a4 := ha.sm s4
    have b4 := hb.sm s4
    have c4 := hc.sm s4
    refine ⟨.int n, rfl, .int p, rfl, .ref a, rfl, .ref c, rfl, p, a, c, r, t, rfl, p0, a4.rw, c4.rw, a4.fit p13 hm, c4.fit p13 hm, by rw [l1, l2], fun H5 s5 => ?_⟩
    refine ⟨n, _, rfl, rfl, cmul ⟨n0, by omega⟩, .int k, rfl, .int p, rfl, .ref b, rfl, .ref c, rfl, p, b, c, s', t, rfl, p0, (b4.sm s5).rw, (c4.sm s5).rw, b4.fit p13 hm, c4.fit p13 hm, l2, fun H6 s6 => ?_⟩
    refine ⟨k, _, rfl, rfl, cmul ⟨k0, by omega⟩, _, _, rfl, rfl, .int p, rfl, _, p, rfl, rfl, p0, ?_⟩
    have s7 := s5.trans s6
    have a7 := a4.sm s7
    have b7 := b4.sm s7
    have c7 := c4.sm s7
    -- back
    refine ⟨.int n, rfl, .int p, rfl, .ref c, rfl, .ref a, rfl, p, c, a, t, r, rfl, p0, c7.rw, a7.rw, c7.fit p13 hm, a7.fit p13 hm, by rw [l1, l2], fun H8 s8 => ?_⟩
    refine ⟨n, _, rfl, rfl, cmul ⟨n0, by omega⟩, .int k, rfl, .int p, rfl, .ref c, rfl, .ref b, rfl, p, c, b, t, s', rfl, p0, (c7.sm s8).rw, (b7.sm s8).rw, c7.fit p13 hm, b7.fit p13 hm, l2.symm, fun H9 s9 => ?_⟩
    refine ⟨k, _, rfl, rfl, cmul ⟨k0, by omega⟩, _, _, rfl, rfl, .int p, rfl, _, p, rfl, rfl, p0, ?_⟩
    have s10 := s7.trans (s8.trans s9)
    have k10 := k3.sm s10
    have c10 := c4.sm s10
    refine ⟨.int p, rfl, .ref t3, rfl, .ref c, rfl, p, t3, c, _, t, rfl, p0, k10.rw, c10.rw, k10.fit p13 hm, c10.fit p13 hm, by rw [k10.len, c10.len], fun H11 s11 => ?_⟩
    refine ⟨_, rfl, rfl, _, rfl, ite2 (fun _ => ?_) (fun e => absurd (decide_eq_true (congrArg V.int (met_lin l1 l2))) e)⟩
    refine ⟨.int p, rfl, .ref c, rfl, .ref t3, rfl, p, c, t3, t, _, rfl, p0, (c10.sm s11).rw, (k10.sm s11).rw, c10.fit p13 hm, k10.fit p13 hm, by rw [k10.len, c10.len], fun H12 s12 => ?_⟩
    refine ⟨_, rfl, rfl, ?_⟩
    rw [bl_t (congrArg V.int (met_lin2 l1 l2))]
    exact q _ (s4.trans (s10.trans (s11.trans s12)))
def spApart (C : Cd) : Sp := fun vs H Q _ => ∃ (p : Int) (a b : Addr) (m : Nat) (c : Int) (r s : Row), vs = [.int p, .int m, .ref a, .ref b, .int c] ∧ 2 ≤ p ∧ p ≤ 13 ∧ m ≤ 20 ∧ 0 ≤ c ∧ c ≤ m ∧
  Rk p m H a r ∧ Rk p m H b s ∧ Tbs C H ∧ ∀ H', Sm H H' → Q (.bl true) H'
theorem in_sub {p : Int} {r s : Row} (h : In p r) (k : ∀ u ∈ s, u ∈ r) : In p s := fun u hu => h u (k u hu)
theorem rg_first (c : Nat) : rgV 0 (c : Int) = (List.range c).map fun j => V.int (j : Nat) := by
  unfold rgV
  rw [Int.sub_zero, Int.toNat_natCast]
  apply List.map_congr_left
  intro j _
  rw [Int.zero_add]
theorem rg_last (c m : Nat) (h : c ≤ m) : rgV (c : Int) (m : Int) = ((List.range (m - c)).map (c + ·)).map fun j => V.int (j : Nat) := by
  unfold rgV
  rw [List.map_map, show ((m : Int) - (c : Int)).toNat = m - c by omega]
  apply List.map_congr_left
  intro j _
  show V.int ((c : Int) + (j : Int)) = V.int ((c + j : Nat) : Int)
  rw [Int.natCast_add]
theorem ok__law_apart (T : Tx K mg A) (B : Tb K mg base A C) : FnOk P w K mg base CX0 7 A.f__law_apart A.d__law_apart ["_law_p", "_law_posts", "_law_one", "_law_other", "_law_cut"] (spApart C) := by
  have G_part : FnOk P w K mg base CX0 6 A.f_part A.d_part ["row", "posts"] (spPart C.p_part) := ok_part T B
  have G_meet : FnOk P w K mg base CX0 1 A.f_meet A.d_meet ["p", "one", "other"] spMeet := ok_meet T
  refine T.d__law_apart.F.ok sc__law_apart (fun vs H Q E h => ?_) (fun cdv A outer s H vs Q E hr h => ?_)
  · obtain ⟨p, a, b, m, c, r, s, rfl, _⟩ := h
    rfl
  · obtain ⟨p, a, b, m, c0, r, s', rfl, p2, p13, hm, h0, h1, ha, hb, tb, q⟩ := h
    obtain ⟨c, rfl⟩ := Int.eq_ofNat_of_zero_le h0
    have hc : c ≤ m := by omega
    have p0 : 0 < p := by omega
    refine ⟨_, (pss_cons (ps_par (i := 6) (j := 7) rfl sc__law_apart.nd rfl rfl (by decide) rfl rfl (pa_cons (pe_tupRg rfl (by rfl) T.b_tuple (prg_1 (by rfl) T.b_range (pv 4))) (pa_cons (pe_tupRg rfl (by rfl) T.b_tuple (prg_2 (by rfl) T.b_range (pv 4) (pv 1))) pa_nil)) rfl)
        (pss_cons (ps_set (i := 5) sc__law_apart.nd rfl (.inl rfl) (pe_call G_meet (hr.mono (by decide)) (by rfl) T.d_meet.g T.d_meet.F.kp T.d_meet.b .nil pass0 (pa_cons (pv 0) (pa_cons (pe_call G_part hr (by rfl) T.d_part.g T.d_part.F.kp T.d_part.b .nil pass0 (pa_cons (pv 2) (pa_cons (pv 6) pa_nil))) (pa_cons (pe_call G_part hr (by rfl) T.d_part.g T.d_part.F.kp T.d_part.b .nil pass0 (pa_cons (pv 3) (pa_cons (pv 6) pa_nil))) pa_nil)))))
        (pss_one (ps_ret (pe_cmpR op_eq (pe_op op_mod (pe_op op_add (pv 5) (pe_call G_meet (hr.mono (by decide)) (by rfl) T.d_meet.g T.d_meet.F.kp T.d_meet.b .nil pass0 (pa_cons (pv 0) (pa_cons (pe_call G_part hr (by rfl) T.d_part.g T.d_part.F.kp T.d_part.b .nil pass0 (pa_cons (pv 2) (pa_cons (pv 7) pa_nil))) (pa_cons (pe_call G_part hr (by rfl) T.d_part.g T.d_part.F.kp T.d_part.b .nil pass0 (pa_cons (pv 3) (pa_cons (pv 7) pa_nil))) pa_nil))))) (pv 0)) (pe_call G_meet (hr.mono (by decide)) (by rfl) T.d_meet.g T.d_meet.F.kp T.d_meet.b .nil pass0 (pa_cons (pv 0) (pa_cons (pv 2) (pa_cons (pv 3) pa_nil)))) (nomark _)))))), ?_⟩
    refine ⟨.int c, rfl, _, rfl, RgOk.of_le (by omega) (by omega) (by omega) (by omega), fun t1 h1 => ⟨.int c, rfl, .int m, rfl, _, _, rfl, rfl, RgOk.of_le (by omega) (by omega) (by omega) (by omega), fun t2 h2 => ?_⟩⟩
    rw [rg_first, rg_last c m hc]
    have e1 : upd (upd H t1 (.tup ((List.range c).map fun j => V.int (j : Nat)))) t2 (.tup (((List.range (m - c)).map (c + ·)).map fun j => V.int (j : Nat))) t1 = some (.tup ((List.range c).map fun j => V.int (j : Nat))) := by
      rw [rg_first] at h2
      rw [upd_ne (ne_of_none upd_same h2)]
      exact upd_same
    have s2 : Sm H (upd (upd H t1 (.tup ((List.range c).map fun j => V.int (j : Nat)))) t2 (.tup (((List.range (m - c)).map (c + ·)).map fun j => V.int (j : Nat)))) := by
      rw [rg_first] at h2
      exact (Sm.new h1).trans (.new h2)
    have e2 : upd (upd H t1 (.tup ((List.range c).map fun j => V.int (j : Nat)))) t2 (.tup (((List.range (m - c)).map (c + ·)).map fun j => V.int (j : Nat))) t2 = some (.tup (((List.range (m - c)).map (c + ·)).map fun j => V.int (j : Nat))) := upd_same
    generalize upd (upd H t1 (.tup ((List.range c).map fun j => V.int (j : Nat)))) t2 (.tup (((List.range (m - c)).map (c + ·)).map fun j => V.int (j : Nat))) = H2 at e1 e2 s2 ⊢
    have a2 := ha.sm s2
    have b2 := hb.sm s2
    have tb2 := tb.sm s2
    have la := ha.len
    have lb := hb.len
    have j1 : ∀ (x : Row), x.length = m → ∀ j ∈ List.range c, j < x.length := fun x hx j hj => by have := List.mem_range.mp hj; omega
    have j2 : ∀ (x : Row), x.length = m → ∀ j ∈ (List.range (m - c)).map (c + ·), j < x.length := fun x hx j hj => by
      obtain ⟨i, hi, rfl⟩ := List.mem_map.mp hj
      have := List.mem_range.mp hi
      show c + i < x.length
      omega
    have n1 : (List.range c).length ≤ 100 := by rw [List.length_range]; omega
    have n2 : ((List.range (m - c)).map (c + ·)).length ≤ 100 := by rw [List.length_map, List.length_range]; omega
    have d1 : ∀ (x : Row), x.length = m → parR x ((List.range (m - c)).map (c + ·)) = x.drop c := fun x hx => by
      rw [← hx]
      exact par_drop x c (by omega)
    refine ⟨.ref t1, .ref t2, rfl, ?_⟩
    refine ⟨.int p, rfl, .ref a, rfl, .ref t1, rfl, a, t1, r, _, rfl, a2.rw, e1, j1 r la, n1, tb2.2.2, fun t3 H3 s3 w3 => ?_⟩
    refine ⟨.ref b, rfl, .ref t1, rfl, b, t1, s', _, rfl, (b2.sm s3).rw, s3.tup e1, j1 s' lb, n1, (tb2.sm s3).2.2, fun t4 H4 s4 w4 => ?_⟩
    rw [par_take r c (by omega)] at w3
    rw [par_take s' c (by omega)] at w4
    have f1 : Rk p c H4 t3 (r.take c) := ⟨w3.sm s4, in_sub ha.inp fun u hu => List.mem_of_mem_take hu, by rw [List.length_take]; omega⟩
    have f2 : Rk p c H4 t4 (s'.take c) := ⟨w4, in_sub hb.inp fun u hu => List.mem_of_mem_take hu, by rw [List.length_take]; omega⟩
    refine ⟨p, t3, t4, _, _, rfl, p0, f1.rw, f2.rw, f1.fit p13 (by omega), f2.fit p13 (by omega), by rw [f1.len, f2.len], fun H5 s5 => ?_⟩
    have s6 := s3.trans (s4.trans s5)
    refine ⟨.int _, rfl, .int p, rfl, .ref a, rfl, .ref t2, rfl, a, t2, r, _, rfl, (a2.sm s6).rw, s6.tup e2, j2 r la, n2, (tb2.sm s6).2.2, fun t7 H7 s7 w7 => ?_⟩
    refine ⟨.ref b, rfl, .ref t2, rfl, b, t2, s', _, rfl, ((b2.sm s6).sm s7).rw, s7.tup (s6.tup e2), j2 s' lb, n2, ((tb2.sm s6).sm s7).2.2, fun t8 H8 s8 w8 => ?_⟩
    rw [d1 r la] at w7
    rw [d1 s' lb] at w8
    have g1 : Rk p (m - c) H8 t7 (r.drop c) := ⟨w7.sm s8, in_sub ha.inp fun u hu => List.mem_of_mem_drop hu, by rw [List.length_drop]; omega⟩
    have g2 : Rk p (m - c) H8 t8 (s'.drop c) := ⟨w8, in_sub hb.inp fun u hu => List.mem_of_mem_drop hu, by rw [List.length_drop]; omega⟩
    refine ⟨p, t7, t8, _, _, rfl, p0, g1.rw, g2.rw, g1.fit p13 (by omega), g2.fit p13 (by omega), by rw [g1.len, g2.len], fun H9 s9 => ?_⟩
    have s10 := s6.trans (s7.trans (s8.trans s9))
    refine ⟨_, _, rfl, rfl, .int p, rfl, _, p, rfl, rfl, p0, .int p, rfl, .ref a, rfl, .ref b, rfl, p, a, b, r, s', rfl, p0, (a2.sm s10).rw, (b2.sm s10).rw, a2.fit p13 hm, b2.fit p13 hm, by rw [la, lb], fun H11 s11 => ⟨rfl, ?_⟩⟩
    rw [bl_t (congrArg V.int (met_parts r s' c))]
    exact q _ (s2.trans (s10.trans s11))
/-! ### seen by singles -/
def pairD (u : Int × Int) : PyData := .tuple [.int u.1, .int u.2]
def rowD (r : Row) : PyData := .tuple (r.map pairD)
theorem dp_prs {H : Hp} : ∀ {xs : List V} {r : Row}, Prs H xs r → DpAll K H xs (r.map pairD)
  | [], [], _ => .nil
  | [], _ :: _, h => by have := h.len; simp at this
  | _ :: _, [], h => by have := h.len; simp at this
  | x :: xs, u :: r, h => by
    obtain ⟨v, e, a, rfl, ha⟩ := h.get (i := 0) (x := x) rfl
    cases e
    refine .cons (.tup (SqT.of ha) (.cons (.int _) (.cons (.int _) .nil))) (dp_prs (xs := xs) (r := r) ⟨by have := h.len; simpa using this, fun {i y} e => h.get (i := i + 1) e⟩)
theorem dp_row {H : Hp} {t : Addr} {r : Row} (h : Rw H t r) : Dp K H (.ref t) (rowD r) := let ⟨_, e, p⟩ := h; .tup (SqT.of e) (dp_prs p)
theorem lay_row : ∀ r : Row, PyData.canLayAll0 (r.map pairD) = true
  | [] => by simp [PyData.canLayAll0]
  | u :: r => by simp [PyData.canLayAll0, PyData.canLay0, pairD, lay_row r]
theorem dep_row : ∀ r : Row, PyData.depthAll (r.map pairD) ≤ 1
  | [] => by simp [PyData.depthAll]
  | u :: r => by
    have := dep_row r
    simp [PyData.depthAll, PyData.depth, pairD]
    omega
theorem sh_row (r : Row) : SeqAt.shaped (rowD r) = true := by
  have h1 := dep_row r
  have h2 : PyData.depth (rowD r) ≤ 64 := by
    simp only [rowD, PyData.depth]
    omega
  show (PyData.canLay0 (rowD r) && decide (PyData.depth (rowD r) ≤ 64)) = true
  rw [Bool.and_eq_true]
  exact ⟨by simp only [rowD, PyData.canLay0]; exact lay_row r, decide_eq_true h2⟩
theorem eqv_rows : ∀ r s : Row, PyData.eqvAll (r.map pairD) (s.map pairD) = decide (r = s)
  | [], [] => rfl
  | [], _ :: _ => by simp [PyData.eqvAll]
  | _ :: _, [] => by simp [PyData.eqvAll]
  | u :: r, v :: s => by
    have ih := eqv_rows r s
    obtain ⟨u1, u2⟩ := u
    obtain ⟨v1, v2⟩ := v
    rw [List.map_cons, List.map_cons, PyData.eqvAll, ih]
    simp [pairD, PyData.eqv, PyData.eqvAll]
    by_cases h : r = s <;> by_cases h1 : u1 = v1 <;> by_cases h2 : u2 = v2 <;> simp [h, h1, h2]
def spSeen : Sp := fun vs H Q _ => ∃ (p : Int) (a : Addr) (m : Nat) (r : Row), vs = [.int p, .int m, .ref a] ∧ 2 ≤ p ∧ p ≤ 13 ∧ m ≤ 20 ∧ Rk p m H a r ∧ ∀ H', Sm H H' → Q (.bl true) H'
theorem ok__law_seen (T : Tx K mg A) : FnOk P w K mg base CX0 2 A.f__law_seen A.d__law_seen ["_law_p", "_law_posts", "_law_row_here"] spSeen := by
  have G_nought : FnOk P w K mg base CX0 1 A.f_nought A.d_nought ["posts"] spNought := ok_nought T
  have G_meet : FnOk P w K mg base CX0 1 A.f_meet A.d_meet ["p", "one", "other"] spMeet := ok_meet T
  have G__law_single : FnOk P w K mg base CX0 1 A.f__law_single A.d__law_single ["_law_posts", "_law_place"] spSingle := ok__law_single T
  refine T.d__law_seen.F.ok sc__law_seen (fun vs H Q E h => ?_) (fun cdv A outer s H vs Q E hr h => ?_)
  · obtain ⟨p, a, m, r, rfl, _⟩ := h
    rfl
  · obtain ⟨p, a, m, r, rfl, p2, p13, hm, ha, q⟩ := h
    have p0 : 0 < p := by omega
    have la := ha.len
    subst la
    refine ⟨_, (pss_cons (ps_setLc (i := 3) (own := [("_law_place", 4)]) rfl sc__law_seen.nd rfl rfl (sw_true rfl rfl rfl (by decide +kernel)) (pi_range1 (by rfl) T.b_range (pa_cons (pe_op op_mul pe_int (pv 1)) pa_nil)) (blkOk_by (N := N__law_seen) (sc := defScope s__law_seen) (by decide +kernel)) (fun _ _ _ _ _ => (pg_name (i := 4) sc__law_seen.nd rfl (.inl rfl))) (fun _ _ _ _ _ => pts_nil) (fun _ _ _ _ _ => (pe_call G_meet hr (by rfl) T.d_meet.g T.d_meet.F.kp T.d_meet.b .nil pass0 (pa_cons (pv 0) (pa_cons (pv 2) (pa_cons (pe_call G__law_single hr (by rfl) T.d__law_single.g T.d__law_single.F.kp T.d__law_single.b .nil pass0 (pa_cons (pv 1) (pa_cons (pv 4) pa_nil))) pa_nil))))))
        (pss_one (ps_ret (pe_cmpR op_eq (pe_cmpR (op_neD hr.units) (pe_lc (own := [("_law_one", 5)]) rfl sc__law_seen.nd (pi_list (pv 3)) (blkOk_by (N := N__law_seen) (sc := defScope s__law_seen) (by decide +kernel)) (fun _ _ _ _ _ => (pg_name (i := 5) sc__law_seen.nd rfl (.inl rfl))) (fun _ _ _ _ _ => (pts_one (pt_cmpR op_ne (pv 5) pe_int (nomark _)))) (fun _ _ _ _ _ => (pv 5))) (pe_lst pa_nil) (nomark _)) (pe_cmpR (op_neD hr.units) (pv 2) (pe_call G_nought hr (by rfl) T.d_nought.g T.d_nought.F.kp T.d_nought.b .nil pass0 (pa_cons (pv 1) pa_nil)) (nomark _)) (nomark _))))), ?_⟩
    refine ⟨.int _, rfl, 2, _, rfl, rfl, .inl ⟨by decide, by decide⟩, _, rfl, by omega, by omega, fun L hL => lc_range (fun i H' => Sm H H' ∧ H' L = some (.lst ((told p r i).map V.int))) ⟨.new hL, upd_same⟩ ?_ ?_⟩
    · rintro i H1 hi ⟨s1, eL⟩
      have a1 := ha.sm s1
      refine ⟨rfl, .int p, rfl, .ref a, rfl, .int _, rfl, .int (0 + i), rfl, _, _, rfl, by omega, by omega, fun t2 H2 s2 w2 => ?_⟩
      rw [Int.toNat_natCast, Int.zero_add] at w2
      have k2 : Rk p r.length H2 t2 (sgR r.length (i : Nat)) := ⟨w2, in_sg p2 _ _, sgR_len⟩
      refine ⟨p, a, t2, r, _, rfl, p0, (a1.sm s2).rw, k2.rw, a1.fit p13 hm, k2.fit p13 hm, by rw [sgR_len], fun H3 s3 => ?_⟩
      have s4 := s2.trans s3
      refine ⟨_, s4.lst eL, by rw [List.length_map, told_len]; exact small (by omega), (s1.trans s4).put hL, ?_⟩
      rw [upd_same, told_succ, List.map_append]
      rfl
    · rintro H1 ⟨s1, eL⟩
      have e0 : (2 * ((r.length : Nat) : Int)).toNat = 2 * r.length := by omega
      rw [e0] at eL
      refine ⟨.ref L, rfl, L, rfl, ⟨_, SqL.of eL⟩, fun G hG => lc_list (xs := (told p r (2 * r.length)).map V.int) (fun i H' => Sm H1 H' ∧ H' G = some (.lst ((rest ((told p r (2 * r.length)).take i)).map V.int))) ⟨.new hG, upd_same⟩ (fun i H' _ h => SqL.of (h.1.lst eL)) ?_ ?_⟩
      · rintro i x H2 hi ⟨s2, eG⟩
        rw [List.getElem?_map] at hi
        obtain ⟨u, eu, rfl⟩ := Option.map_eq_some_iff.mp hi
        have hlen : (rest ((told p r (2 * r.length)).take i)).length ≤ 40 := by
          have z := List.length_filter_le (fun x : Int => !decide (x = 0)) ((told p r (2 * r.length)).take i)
          rw [List.length_take, told_len] at z
          unfold rest
          omega
        have er : rest ((told p r (2 * r.length)).take (i + 1)) = rest ((told p r (2 * r.length)).take i) ++ rest [u] := by
          rw [take_snoc eu]
          unfold rest
          rw [List.filter_append]
        refine ⟨rfl, .int u, rfl, rfl, _, rfl, ite2 (fun e => ?_) (fun e => ?_)⟩
        · have hu : u ≠ 0 := fun z => by
            subst z
            simp at e
          have e3 : rest [u] = [u] := by simp [rest, hu]
          refine ⟨.int u, rfl, _, eG, by rw [List.length_map]; exact small (by omega), s2.put hG, ?_⟩
          rw [upd_same, er, e3, List.map_append]
          rfl
        · have hu : u = 0 := by
            by_cases z : u = 0
            · exact z
            · exact absurd (by simp [z]) e
          have e3 : rest [u] = [] := by simp [rest, hu]
          refine ⟨s2, ?_⟩
          rw [er, e3, List.append_nil]
          exact eG
      · rintro H2 ⟨s2, eG⟩
        rw [List.length_map, List.take_length] at eG
        refine ⟨Nat.zero_le _, fun t3 h3 => ?_⟩
        have eG3 : upd H2 t3 (.lst []) G = some (.lst ((rest (told p r (2 * r.length))).map V.int)) := by
          rw [upd_ne (ne_of_none eG h3)]
          exact eG
        refine ⟨.list ((rest (told p r (2 * r.length))).map PyData.int), .list ([].map PyData.int), .lst (SqL.of eG3) (dp_ints _), .lst (SqL.of upd_same) .nil, sh_ints _, sh_ints [], ?_⟩
        have s3 := (s1.trans s2).trans (.new (o := .lst []) h3)
        refine ⟨.ref a, rfl, .int _, rfl, _, rfl, by omega, by omega, fun t4 H4 s4 w4 => ?_⟩
        rw [Int.toNat_natCast] at w4
        refine ⟨rowD r, rowD (noR r.length), dp_row (((ha.sm s3).sm s4).rw), dp_row w4, sh_row _, sh_row _, rfl, ?_⟩
        have e5 : PyData.eqv (.list ((rest (told p r (2 * r.length))).map PyData.int)) (.list ([].map PyData.int)) = PyData.eqv (rowD r) (rowD (noR r.length)) := by
          have e6 : PyData.eqv (rowD r) (rowD (noR r.length)) = decide (r = noR r.length) := by
            rw [← eqv_rows]
            simp [rowD, PyData.eqv]
          rw [e6, ← rest_told p0 ha.inp]
          exact neqv_nil _
        rw [e5, bl_t rfl]
        exact q _ (s3.trans s4)
/-! ### the law -/
theorem Rk.fr {p : Int} {n : Nat} {H H' : Hp} {t d g c : Addr} {k : Int} {r : Row} (h : Rk p n H t r) (D : Dk d g c k H) (f : Fr d g H H') : Rk p n H' t r := ⟨h.rw.fr D f, h.inp, h.len⟩
theorem Rk.put {p : Int} {n : Nat} {H : Hp} {t L : Addr} {r : Row} {ys : List V} {o : HO} (h : Rk p n H t r) (e : H L = some (.lst ys)) : Rk p n (upd H L o) t r := by
  obtain ⟨⟨xs, h1, h2⟩, h3, h4⟩ := h
  exact ⟨⟨xs, by rw [upd_ne (ne_of h1 e (by intro z; cases z))]; exact h1, h2.put e⟩, h3, h4⟩
theorem Tbs.fr {C : Cd} {H H' : Hp} {d g c : Addr} {k : Int} (h : Tbs C H) (D : Dk d g c k H) (f : Fr d g H H') : Tbs C H' := ⟨f.tab D h.1, f.tab D h.2.1, f.tab D h.2.2⟩
def spLawT (K : PySem.W.Frag) (C : Cd) : Sp := fun vs H Q _ => ∃ (a : Addr) (ns : List Int), vs = [.ref a] ∧ SqL K H a (ns.map V.int) ∧ ns.length ≤ 63 ∧ Tbs C H ∧ ∀ H', Q (.bl true) H'
theorem three {α : Type} {ts : List α} (h : ts.length = 3) : ∃ x y z, ts = [x, y, z] := by
  match ts, h with
  | [x, y, z], _ => exact ⟨x, y, z, rfl⟩
theorem ok_law (T : Tx K mg A) (B : Tb K mg base A C) : FnOk P w K mg base CX0 8 A.f_law A.d_law ["_law_script"] (spLawT K C) := by
  have G_nought : FnOk P w K mg base CX0 1 A.f_nought A.d_nought ["posts"] spNought := ok_nought T
  have G_meet : FnOk P w K mg base CX0 1 A.f_meet A.d_meet ["p", "one", "other"] spMeet := ok_meet T
  have G__law_deck : FnOk P w K mg base CX0 1 A.f__law_deck A.d__law_deck ["_law_script"] (spDeck K) := ok__law_deck T
  have G__law_next : FnOk P w K mg base CX0 1 A.f__law_next A.d__law_next ["_law_deck_here", "_law_many"] spNext := ok__law_next T
  have G__law_prime : FnOk P w K mg base CX0 2 A.f__law_prime A.d__law_prime ["_law_deck_here"] spPrm := ok__law_prime T
  have G__law_row : FnOk P w K mg base CX0 3 A.f__law_row A.d__law_row ["_law_deck_here", "_law_p", "_law_posts"] spDrawR := ok__law_row T
  have G__law_straight : FnOk P w K mg base CX0 7 A.f__law_straight A.d__law_straight ["_law_p", "_law_one", "_law_other", "_law_third", "_law_number", "_law_by"] (spStraight C) := ok__law_straight T B
  have G__law_seen : FnOk P w K mg base CX0 2 A.f__law_seen A.d__law_seen ["_law_p", "_law_posts", "_law_row_here"] spSeen := ok__law_seen T
  have G__law_apart : FnOk P w K mg base CX0 7 A.f__law_apart A.d__law_apart ["_law_p", "_law_posts", "_law_one", "_law_other", "_law_cut"] (spApart C) := ok__law_apart T B
  refine T.d_law.F.ok sc_law (fun vs H Q E h => ?_) (fun cdv A outer s H vs Q E hr h => ?_)
  · obtain ⟨a, ns, rfl, _⟩ := h
    rfl
  · obtain ⟨a, ns, rfl, hS, hlen, tb, q⟩ := h
    refine ⟨_, (pss_cons (ps_set (i := 1) sc_law.nd rfl (.inr rfl) (pe_call G__law_deck (hr.mono (by decide)) (by rfl) T.d__law_deck.g T.d__law_deck.F.kp T.d__law_deck.b .nil pass0 (pa_cons (pv 0) pa_nil)))
        (pss_cons (ps_for PassesOwn.never rfl (pi_range1 (by rfl) T.b_range (pa_cons pe_int pa_nil)) (pg_name (i := 2) sc_law.nd rfl (.inl rfl))
        (pss_cons (ps_set (i := 3) sc_law.nd rfl (.inr rfl) (pe_call G__law_prime (hr.mono (by decide)) (by rfl) T.d__law_prime.g T.d__law_prime.F.kp T.d__law_prime.b .nil pass0 (pa_cons (pv 1) pa_nil)))
        (pss_cons (ps_set (i := 4) sc_law.nd rfl (.inr rfl) (pe_ix ix_list (pe_lst (pa_cons (pe_call G__law_next (hr.mono (by decide)) (by rfl) T.d__law_next.g T.d__law_next.F.kp T.d__law_next.b .nil pass0 (pa_cons (pv 1) (pa_cons pe_int pa_nil))) (pa_cons (pe_call G__law_next (hr.mono (by decide)) (by rfl) T.d__law_next.g T.d__law_next.F.kp T.d__law_next.b .nil pass0 (pa_cons (pv 1) (pa_cons pe_int pa_nil))) pa_nil))) (pe_call G__law_next (hr.mono (by decide)) (by rfl) T.d__law_next.g T.d__law_next.F.kp T.d__law_next.b .nil pass0 (pa_cons (pv 1) (pa_cons pe_int pa_nil))) (fun _ _ => rfl)))
        (pss_cons (ps_asg (pe_lc (own := [("_law_k", 10)]) rfl sc_law.nd (pi_range1 (by rfl) T.b_range (pa_cons pe_int pa_nil)) (blkOk_by (N := N_law) (sc := defScope s_law) (by decide +kernel)) (fun _ _ _ _ _ => (pg_name (i := 10) sc_law.nd rfl (.inl rfl))) (fun _ _ _ _ _ => pts_nil) (fun _ _ _ _ _ => (pe_call G__law_row (hr.mono (by decide)) (by rfl) T.d__law_row.g T.d__law_row.F.kp T.d__law_row.b .nil pass0 (pa_cons (pv 1) (pa_cons (pv 3) (pa_cons (pv 4) pa_nil)))))) (pg_lst rfl (pgs_cons (pg_name (i := 5) sc_law.nd rfl (.inl rfl)) (pgs_cons (pg_name (i := 6) sc_law.nd rfl (.inl rfl)) (pgs_cons (pg_name (i := 7) sc_law.nd rfl (.inl rfl)) pgs_nil)))))
        (pss_cons (ps_par (i := 8) (j := 9) rfl sc_law.nd rfl rfl (by decide) rfl rfl (pa_cons (pe_call G__law_next (hr.mono (by decide)) (by rfl) T.d__law_next.g T.d__law_next.F.kp T.d__law_next.b .nil pass0 (pa_cons (pv 1) (pa_cons (pv 3) pa_nil))) (pa_cons (pe_call G__law_next (hr.mono (by decide)) (by rfl) T.d__law_next.g T.d__law_next.F.kp T.d__law_next.b .nil pass0 (pa_cons (pv 1) (pa_cons (pv 3) pa_nil))) pa_nil)) rfl)
        (pss_cons (ps_if (PW.pt (pw_or (pt_cmpR op_ne (pe_call G_meet (hr.mono (by decide)) (by rfl) T.d_meet.g T.d_meet.F.kp T.d_meet.b .nil pass0 (pa_cons (pv 3) (pa_cons (pv 5) (pa_cons (pv 5) pa_nil)))) pe_int (nomark _)) (pw_or1 (pt_cmpR op_ne (pe_call G_meet (hr.mono (by decide)) (by rfl) T.d_meet.g T.d_meet.F.kp T.d_meet.b .nil pass0 (pa_cons (pv 3) (pa_cons (pe_call G_nought (hr.mono (by decide)) (by rfl) T.d_nought.g T.d_nought.F.kp T.d_nought.b .nil pass0 (pa_cons (pv 4) pa_nil)) (pa_cons (pv 6) pa_nil)))) pe_int (nomark _)))))
        (pss_one (ps_ret pe_bl))
        pss_nil)
        (pss_cons (ps_if (pt_cmpR op_ne (pe_op op_mod (pe_op op_add (pe_call G_meet (hr.mono (by decide)) (by rfl) T.d_meet.g T.d_meet.F.kp T.d_meet.b .nil pass0 (pa_cons (pv 3) (pa_cons (pv 5) (pa_cons (pv 6) pa_nil)))) (pe_call G_meet (hr.mono (by decide)) (by rfl) T.d_meet.g T.d_meet.F.kp T.d_meet.b .nil pass0 (pa_cons (pv 3) (pa_cons (pv 6) (pa_cons (pv 5) pa_nil))))) (pv 3)) pe_int (nomark _))
        (pss_one (ps_ret pe_bl))
        pss_nil)
        (pss_cons (ps_if (PW.pt (pw_or (pt_not (pt_val (pe_call G__law_straight hr (by rfl) T.d__law_straight.g T.d__law_straight.F.kp T.d__law_straight.b .nil pass0 (pa_cons (pv 3) (pa_cons (pv 5) (pa_cons (pv 6) (pa_cons (pv 7) (pa_cons (pv 8) (pa_cons (pv 9) pa_nil))))))))) (pw_or1 (pt_not (pt_val (pe_call G__law_seen (hr.mono (by decide)) (by rfl) T.d__law_seen.g T.d__law_seen.F.kp T.d__law_seen.b .nil pass0 (pa_cons (pv 3) (pa_cons (pv 4) (pa_cons (pv 5) pa_nil)))))))))
        (pss_one (ps_ret pe_bl))
        pss_nil)
        (pss_one (ps_if (PW.pt (pw_or (pt_not (pt_val (pe_call G__law_seen (hr.mono (by decide)) (by rfl) T.d__law_seen.g T.d__law_seen.F.kp T.d__law_seen.b .nil pass0 (pa_cons (pv 3) (pa_cons (pv 4) (pa_cons (pe_call G_nought (hr.mono (by decide)) (by rfl) T.d_nought.g T.d_nought.F.kp T.d_nought.b .nil pass0 (pa_cons (pv 4) pa_nil)) pa_nil)))))) (pw_or1 (pt_not (pt_val (pe_call G__law_apart hr (by rfl) T.d__law_apart.g T.d__law_apart.F.kp T.d__law_apart.b .nil pass0 (pa_cons (pv 3) (pa_cons (pv 4) (pa_cons (pv 5) (pa_cons (pv 6) (pa_cons (pe_call G__law_next (hr.mono (by decide)) (by rfl) T.d__law_next.g T.d__law_next.F.kp T.d__law_next.b .nil pass0 (pa_cons (pv 1) (pa_cons (pe_op op_add (pv 4) pe_int) pa_nil))) pa_nil)))))))))))
        (pss_one (ps_ret pe_bl))
        pss_nil))))))))))
        (pss_one (ps_ret pe_bl)))), ?_⟩
    refine ⟨.ref a, rfl, a, ns, rfl, hS, hlen, fun d g c H0 s0 nd ng nc D0 => ?_⟩
    have tb0 := tb.sm (.of_same s0)
    refine ⟨6, rfl, by decide, by decide, for_range (n := 6) (fun j σ H' => ∃ v2 v3 v4 v5 v6 v7 v8 v9 v10, σ = [some (.ref a), some (.ref d), v2, v3, v4, v5, v6, v7, v8, v9, v10] ∧ Dk d g c (300 * j) H' ∧ Tbs C H') ⟨_, _, _, _, _, _, _, _, _, rfl, D0.mono (by omega), tb0⟩ ?_ ?_⟩
    · rintro j σ H1 hj ⟨v2, v3, v4, v5, v6, v7, v8, v9, v10, rfl, D1, tb1⟩
      refine ⟨.ref d, rfl, d, g, c, _, rfl, D1, by omega, fun p H2 hp D2 f2 => ?_⟩
      obtain ⟨p2, p13⟩ := prs_bd p hp
      have p0 : 0 < p := by omega
      have tb2 := tb1.fr D1 f2
      refine ⟨.ref d, rfl, d, g, c, _, 4, rfl, by decide, by decide, D2, by omega, fun x1 H3 x10 x11 D3 f3 => ?_⟩
      refine ⟨.ref d, rfl, d, g, c, _, 21, rfl, by decide, by decide, D3, by omega, fun x2 H4 x20 x21 D4 f4 => ?_⟩
      refine ⟨(by show 2 ≤ sizeLine; decide), fun M hM => ?_⟩
      have D4' := D4.same (same_upd (o := .lst [V.int x1, V.int x2]) hM)
      have nM := D4.nd hM
      refine ⟨.ref d, rfl, d, g, c, _, 2, rfl, by decide, by decide, D4', by omega, fun x3 H5 x30 x31 D5 f5 => ?_⟩
      obtain ⟨v, hv, ev⟩ := ints_mem (cs := [x1, x2]) x30 x31
      have hv2 : 0 ≤ v ∧ v ≤ 20 := by
        rcases List.mem_cons.mp hv with rfl | hv
        · exact ⟨x10, by omega⟩
        · rw [List.mem_singleton.mp hv]
          exact ⟨x20, by omega⟩
      obtain ⟨m, rfl⟩ := Int.eq_ofNat_of_zero_le hv2.1
      have hm : m ≤ 20 := by omega
      have tb5 : Tbs C H5 := (((tb2.fr D2 f3).fr D3 f4).sm (.new hM)).fr D4' f5
      refine ⟨M, _, x3, .int m, rfl, rfl, SqL.of (f5 M _ nM.1 nM.2.1 upd_same), ev, ?_⟩
      -- the three rows
      refine ⟨3, rfl, by decide, by decide, fun L hL => lc_range (n := 3) (fun i H' => Dk d g c (300 * j + 4 + 80 * i) H' ∧ Fr d g H5 H' ∧ ∃ ts : List (Addr × Row), ts.length = i ∧ H' L = some (.lst (ts.map fun x => V.ref x.1)) ∧ ∀ x ∈ ts, Rk p m H' x.1 x.2)
        ⟨(D5.same (same_upd hL)).mono (by omega), .new hL, [], rfl, upd_same, fun x hx => by cases hx⟩ ?_ ?_⟩
      · rintro i H6 hi ⟨D6, f6, ts, tl, eL, hts⟩
        have nL := D5.nd hL
        refine ⟨rfl, .ref d, rfl, .int p, rfl, .int m, rfl, d, g, c, _, p, m, rfl, D6, by omega, p2, p13, by omega, by omega, fun t r H7 w7 in7 l7 D7 f7 => ?_⟩
        have eL7 := f7 L _ nL.1 nL.2.1 eL
        rw [Int.toNat_natCast] at l7
        refine ⟨_, eL7, by rw [List.length_map]; exact small (by omega), (D7.put nL.1 nL.2.1 nL.2.2).mono (by omega), fun b o e1 e2 e => ?_, ts ++ [(t, r)], by rw [List.length_append, tl]; rfl, by rw [upd_same, List.map_append]; rfl, ?_⟩
        · rw [upd_ne (ne_of_none e hL)]
          exact f7 _ _ e1 e2 (f6 _ _ e1 e2 e)
        · intro x hx
          rcases List.mem_append.mp hx with hx | hx
          · exact ((hts x hx).fr D6 f7).put eL7
          · rw [List.mem_singleton.mp hx]
            exact (show Rk p m H7 t r from ⟨w7, in7, l7⟩).put eL7
      · rintro H6 ⟨D6, f6, ts, tl, eL, hts⟩
        obtain ⟨⟨a1, r1⟩, ⟨a2, r2⟩, ⟨a3, r3⟩, rfl⟩ := three tl
        have k1 : Rk p m H6 a1 r1 := hts (a1, r1) (by simp)
        have k2 : Rk p m H6 a2 r2 := hts (a2, r2) (by simp)
        have k3 : Rk p m H6 a3 r3 := hts (a3, r3) (by simp)
        have tb6 := tb5.fr D5 f6
        refine ⟨L, [.ref a1, .ref a2, .ref a3], rfl, SqL.of eL, rfl, .ref a1, [.ref a2, .ref a3], rfl, .ref a2, [.ref a3], rfl, .ref a3, [], rfl, rfl, ?_⟩
        -- two numbers
        refine ⟨.ref d, rfl, .int p, rfl, d, g, c, _, p, rfl, p0, by omega, D6, by omega, fun n1 H7 n10 n11 D7 f7 => ?_⟩
        refine ⟨.ref d, rfl, .int p, rfl, d, g, c, _, p, rfl, p0, by omega, D7, by omega, fun n2 H8 n20 n21 D8 f8 => ?_⟩
        have f9 := f7.trans f8
        have k1 := k1.fr D6 f9
        have k2 := k2.fr D6 f9
        have k3 := k3.fr D6 f9
        have tb8 := tb6.fr D6 f9
        have e12 : r1.length = r2.length := by rw [k1.len, k2.len]
        refine ⟨_, _, rfl, ?_⟩
        -- meets itself, and noughts
        refine ⟨.int p, rfl, .ref a1, rfl, .ref a1, rfl, p, a1, a1, r1, r1, rfl, p0, k1.rw, k1.rw, k1.fit p13 hm, k1.fit p13 hm, rfl, fun H10 s10 => ?_⟩
        refine ⟨rfl, false, nb_f (congrArg V.int (met_self r1)), ?_⟩
        refine ⟨.int p, rfl, .int m, rfl, _, rfl, by omega, by omega, fun t11 H11 s11 w11 => ?_⟩
        rw [Int.toNat_natCast] at w11
        have s12 := s10.trans s11
        have k0 : Rk p m H11 t11 (noR m) := ⟨w11, (fun u hu => by rw [(List.mem_replicate.mp hu).2]; exact ⟨⟨by decide, p0⟩, by decide, p0⟩), List.length_replicate⟩
        refine ⟨.ref a2, rfl, p, t11, a2, _, r2, rfl, p0, k0.rw, (k2.sm s12).rw, k0.fit p13 hm, k2.fit p13 hm, by rw [k0.len, k2.len], fun H13 s13 => ?_⟩
        refine ⟨rfl, false, nb_f (congrArg V.int (met_no m r2)), ?_⟩
        have s14 := s12.trans s13
        have k1 := k1.sm s14
        have k2 := k2.sm s14
        have k3 := k3.sm s14
        have tb14 := tb8.sm s14
        -- the other kind about
        refine ⟨.int p, rfl, .ref a1, rfl, .ref a2, rfl, p, a1, a2, r1, r2, rfl, p0, k1.rw, k2.rw, k1.fit p13 hm, k2.fit p13 hm, e12, fun H15 s15 => ?_⟩
        refine ⟨.int p, rfl, .ref a2, rfl, .ref a1, rfl, p, a2, a1, r2, r1, rfl, p0, (k2.sm s15).rw, (k1.sm s15).rw, k2.fit p13 hm, k1.fit p13 hm, e12.symm, fun H16 s16 => ?_⟩
        refine ⟨_, _, rfl, rfl, .int p, rfl, _, p, rfl, rfl, p0, rfl, false, nb_f (congrArg V.int (met_anti r1 r2)), ?_⟩
        have s17 := s15.trans s16
        have k1 := k1.sm s17
        have k2 := k2.sm s17
        have k3 := k3.sm s17
        have tb17 := tb14.sm s17
        refine ⟨.int p, rfl, .ref a1, rfl, .ref a2, rfl, .ref a3, rfl, .int n1, rfl, .int n2, rfl, p, a1, a2, a3, n1, n2, m, r1, r2, r3, rfl, p2, p13, n10, n11, n20, n21, hm, k1, k2, k3, tb17, fun H18 s18 => ⟨true, rfl, ?_⟩⟩
        refine ⟨.int p, rfl, .int m, rfl, .ref a1, rfl, p, a1, m, r1, rfl, p2, p13, hm, k1.sm s18, fun H19 s19 => ⟨true, rfl, ?_⟩⟩
        have s20 := s18.trans s19
        refine ⟨.int p, rfl, .int m, rfl, .int m, rfl, _, rfl, by omega, by omega, fun t21 H21 s21 w21 => ?_⟩
        rw [Int.toNat_natCast] at w21
        refine ⟨p, t21, m, noR m, rfl, p2, p13, hm, ⟨w21, k0.inp, k0.len⟩, fun H22 s22 => ⟨true, rfl, ?_⟩⟩
        have s23 := s20.trans (s21.trans s22)
        have D23 := ((D8.sm s14).sm s17).sm s23
        have tb23 := tb17.sm s23
        refine ⟨.int p, rfl, .int m, rfl, .ref a1, rfl, .ref a2, rfl, .ref d, rfl, .int m, rfl, _, _, rfl, rfl, d, g, c, _, _, rfl, by omega, by omega, D23, by omega, fun cc H24 c0 c1 D24 f24 => ?_⟩
        refine ⟨p, a1, a2, m, cc, r1, r2, rfl, p2, p13, hm, c0, by omega, (k1.sm s23).fr D23 f24, (k2.sm s23).fr D23 f24, tb23.fr D23 f24, fun H25 s25 => ⟨true, rfl, ?_⟩⟩
        exact ⟨_, _, _, _, _, _, _, _, _, rfl, (D24.sm s25).mono (by omega), (tb23.fr D23 f24).sm s25⟩
    · rintro σ H1 ⟨v2, v3, v4, v5, v6, v7, v8, v9, v10, rfl, D1, tb1⟩
      exact q _
end
/-! ### the end of a law with tables -/
open PySem.Spec PyProof.Rows in
def OwnTabs (names : List Str) (mg : Str → Option Value) (h : Heap) : Prop := ∀ x ∈ names, ∃ (a : Addr) (o : Obj) (fd : FuncData) (c P : Addr), mg x = some (.ref a) ∧ h.get? a = some o ∧ o.data = .func fd ∧ fd.code = .ref c ∧ PySem.W.CodeHd h c P ∧ h.get? P = some { cls := .none, data := .fields #[] }
open PySem.Spec PyProof.Rows in
theorem own_at {names : List Str} {mg : Str → Option Value} {h : Heap} {K : PySem.W.Frag} {x : Str} {f q p : Addr} {oc e : Value} {od dd : Option Addr} {fd : FuncData} {sl us : Array (Option Value)} {vs : Array Value} (own : OwnTabs names mg h) (hx : x ∈ names) (X : K.In h) (m : mg x = some (.ref f))
    (l : K.lookup f = some ⟨oc, od, .func fd, sl⟩) (hc : fd.code = .ref q) (u : K.lookup q = some ⟨e, dd, .fields vs, us⟩) (g : vs[11]? = some (.ref p)) : PySem.W.CodeHd h q p ∧ h.get? p = some { cls := .none, data := .fields #[] } := by
  obtain ⟨a, o, fd', c, P, h1, h2, h3, h4, h5, h6⟩ := own x hx
  rw [m] at h1
  cases h1
  rw [X _ _ l] at h2
  cases h2
  cases h3
  rw [hc] at h4
  cases h4
  have h5' := h5
  obtain ⟨o, vs', file, tf, flags, tg, inF, text, tt, e1, r1, r2, r3, _⟩ := h5
  rw [X _ _ u] at e1
  cases e1
  cases r2
  rw [g] at r3
  cases r3
  exact ⟨h5', h6⟩
theorem tb_conv {base : Heap} {mg : Str → Option Value} {c P : Addr} (t : LamX.TabB base mg c P) : GxR.TabB base mg c P := ⟨t.code, t.bm, t.gP⟩
theorem tab0 {H : Hp} {P : Addr} (h : H P = some (.tbl #[])) : GxR.TabG H P := ⟨#[], h, trivial⟩
open PySem.Spec PyProof.Rows in
theorem walkT {l : PySem.W.OpenLaw} {k : Nat} {x : Str} {q : Program} {loose : List Str} {XP : (Str → Option Value) → Heap → Prop} {YP : World → Heap → Prop} {d : DefRec} {K : Params → PySem.W.Frag} (names : List Str) (hn : l.most = some 63) (hdf : d.params.defaults = []) (hr : Room k callerA)
    (hrec : (names.all fun y => (recsOf q).any fun e => e.name == y) = true) (hY : ∀ (w : World) (h : Heap), YP w h → (K w.params).In h)
    (F : ∀ (w : World) (mg : Str → Option Value) (fa : Addr) (h : Heap), (K w.params).In h → h.Ns mainGlobals mg → mg d.name = some (.ref fa) → OwnTabs names mg h → LamX.LawAtS l w (K w.params) CX0 k 63 x mg fa h) :
    PySem.W.WalkO q loose XP YP l.row.toRowW d [] (fun f vs => PySem.call f vs) := by
  refine Att.attach_callB hn hdf fun w s₀ s₁ mg mb fa o pm cd doc a vs ns G Y ho hd hcd hmg hobj hints hlen hbits hg => ?_
  have KX := hY w _ Y
  have own : OwnTabs names mg s₁.heap := fun y hy => by
    obtain ⟨dL, hm, hn1⟩ := List.any_eq_true.mp (List.all_eq_true.mp hrec y hy)
    have hn2 : dL.name = y := beq_iff_eq.mp hn1
    obtain ⟨a', o', fd', c', P', h1, h2, h3, h4, h5, h6⟩ := G.T.tab dL hm
    rw [hn2] at h1
    exact ⟨a', o', fd', c', P', h1, h2, h3, h4, PySem.W.CodeHd.of h5 h6, h6.2⟩
  obtain ⟨fd, cs, sp, hT, nT, C, hb, hsp, hF⟩ := F w mg fa _ KX G.T.g hmg own
  exact LamX.law_callTs KX G.T.g G.T.b G.T.builtins G.T.nolimit hg hT nT C G.T.bmain hobj hints (Nat.le_trans hlen (by decide)) hr hF hb (fun H hH hS => hsp H a ns hlen hbits hH hS) fun H e s' z => z
/-! what the top has written -/
theorem all_mk {l : PySem.W.OpenLaw} {w : World} {K : PySem.W.Frag} {h : Heap} {mg : Str → Option Value} {fa : Addr} (X : K.In h) (G : h.Ns mainGlobals mg) (hfa : mg "law" = some (.ref fa)) (own : OwnTabs ["added", "times", "part"] mg h)
    {f_nought : Addr} {od_nought an_nought : Option Addr} {sl_nought : Array (Option Value)} {oc_nought kV_nought dc_nought pm_nought cd_nought ct_nought : Value}
    {f_added : Addr} {od_added an_added : Option Addr} {sl_added : Array (Option Value)} {oc_added kV_added dc_added pm_added ct_added : Value}
    {q_added p_added : Addr} {e_added : Value} {dd_added : Option Addr} {vs_added : Array Value} {us_added : Array (Option Value)}
    {f_times : Addr} {od_times an_times : Option Addr} {sl_times : Array (Option Value)} {oc_times kV_times dc_times pm_times ct_times : Value}
    {q_times p_times : Addr} {e_times : Value} {dd_times : Option Addr} {vs_times : Array Value} {us_times : Array (Option Value)}
    {f_meet : Addr} {od_meet an_meet : Option Addr} {sl_meet : Array (Option Value)} {oc_meet kV_meet dc_meet pm_meet cd_meet ct_meet : Value}
    {f_part : Addr} {od_part an_part : Option Addr} {sl_part : Array (Option Value)} {oc_part kV_part dc_part pm_part ct_part : Value}
    {q_part p_part : Addr} {e_part : Value} {dd_part : Option Addr} {vs_part : Array Value} {us_part : Array (Option Value)}
    {f__law_deck : Addr} {od__law_deck an__law_deck : Option Addr} {sl__law_deck : Array (Option Value)} {oc__law_deck kV__law_deck dc__law_deck pm__law_deck cd__law_deck ct__law_deck : Value}
    {f__law_next : Addr} {od__law_next an__law_next : Option Addr} {sl__law_next : Array (Option Value)} {oc__law_next kV__law_next dc__law_next pm__law_next cd__law_next ct__law_next : Value}
    {f__law_prime : Addr} {od__law_prime an__law_prime : Option Addr} {sl__law_prime : Array (Option Value)} {oc__law_prime kV__law_prime dc__law_prime pm__law_prime cd__law_prime ct__law_prime : Value}
    {f__law_numbers : Addr} {od__law_numbers an__law_numbers : Option Addr} {sl__law_numbers : Array (Option Value)} {oc__law_numbers kV__law_numbers dc__law_numbers pm__law_numbers cd__law_numbers ct__law_numbers : Value}
    {f__law_row : Addr} {od__law_row an__law_row : Option Addr} {sl__law_row : Array (Option Value)} {oc__law_row kV__law_row dc__law_row pm__law_row cd__law_row ct__law_row : Value}
    {f__law_single : Addr} {od__law_single an__law_single : Option Addr} {sl__law_single : Array (Option Value)} {oc__law_single kV__law_single dc__law_single pm__law_single cd__law_single ct__law_single : Value}
    {f__law_straight : Addr} {od__law_straight an__law_straight : Option Addr} {sl__law_straight : Array (Option Value)} {oc__law_straight kV__law_straight dc__law_straight pm__law_straight cd__law_straight ct__law_straight : Value}
    {f__law_seen : Addr} {od__law_seen an__law_seen : Option Addr} {sl__law_seen : Array (Option Value)} {oc__law_seen kV__law_seen dc__law_seen pm__law_seen cd__law_seen ct__law_seen : Value}
    {f__law_apart : Addr} {od__law_apart an__law_apart : Option Addr} {sl__law_apart : Array (Option Value)} {oc__law_apart kV__law_apart dc__law_apart pm__law_apart cd__law_apart ct__law_apart : Value}
    {f_law : Addr} {od_law an_law : Option Addr} {sl_law : Array (Option Value)} {oc_law kV_law dc_law pm_law cd_law ct_law : Value}
    (a_nought : PySem.W.nsIn K mainGlobals "nought" = some (some (.ref f_nought))) (l_nought : K.lookup f_nought = some ⟨oc_nought, od_nought, .func (PySem.W.fnOf "nought" "nought" (defArgs s_nought) (defBody s_nought) (defScope s_nought) .none kV_nought dc_nought pm_nought an_nought cd_nought ct_nought), sl_nought⟩) (c_nought : PySem.W.codeIn K cd_nought "nought" = true) (k_nought : PySem.W.keepIn K (.ref f_nought) = true)
    (a_added : PySem.W.nsIn K mainGlobals "added" = some (some (.ref f_added))) (l_added : K.lookup f_added = some ⟨oc_added, od_added, .func (PySem.W.fnOf "added" "added" (defArgs s_added) (defBody s_added) (defScope s_added) .none kV_added dc_added pm_added an_added (.ref q_added) ct_added), sl_added⟩) (c_added : PySem.W.codeIn K (.ref q_added) "added" = true) (k_added : PySem.W.keepIn K (.ref f_added) = true)
    (u_added : K.lookup q_added = some ⟨e_added, dd_added, .fields vs_added, us_added⟩) (g_added : vs_added[11]? = some (.ref p_added)) (n_added : K.lookup p_added = none)
    (a_times : PySem.W.nsIn K mainGlobals "times" = some (some (.ref f_times))) (l_times : K.lookup f_times = some ⟨oc_times, od_times, .func (PySem.W.fnOf "times" "times" (defArgs s_times) (defBody s_times) (defScope s_times) .none kV_times dc_times pm_times an_times (.ref q_times) ct_times), sl_times⟩) (c_times : PySem.W.codeIn K (.ref q_times) "times" = true) (k_times : PySem.W.keepIn K (.ref f_times) = true)
    (u_times : K.lookup q_times = some ⟨e_times, dd_times, .fields vs_times, us_times⟩) (g_times : vs_times[11]? = some (.ref p_times)) (n_times : K.lookup p_times = none)
    (a_meet : PySem.W.nsIn K mainGlobals "meet" = some (some (.ref f_meet))) (l_meet : K.lookup f_meet = some ⟨oc_meet, od_meet, .func (PySem.W.fnOf "meet" "meet" (defArgs s_meet) (defBody s_meet) (defScope s_meet) .none kV_meet dc_meet pm_meet an_meet cd_meet ct_meet), sl_meet⟩) (c_meet : PySem.W.codeIn K cd_meet "meet" = true) (k_meet : PySem.W.keepIn K (.ref f_meet) = true)
    (a_part : PySem.W.nsIn K mainGlobals "part" = some (some (.ref f_part))) (l_part : K.lookup f_part = some ⟨oc_part, od_part, .func (PySem.W.fnOf "part" "part" (defArgs s_part) (defBody s_part) (defScope s_part) .none kV_part dc_part pm_part an_part (.ref q_part) ct_part), sl_part⟩) (c_part : PySem.W.codeIn K (.ref q_part) "part" = true) (k_part : PySem.W.keepIn K (.ref f_part) = true)
    (u_part : K.lookup q_part = some ⟨e_part, dd_part, .fields vs_part, us_part⟩) (g_part : vs_part[11]? = some (.ref p_part)) (n_part : K.lookup p_part = none)
    (a__law_deck : PySem.W.nsIn K mainGlobals "_law_deck" = some (some (.ref f__law_deck))) (l__law_deck : K.lookup f__law_deck = some ⟨oc__law_deck, od__law_deck, .func (PySem.W.fnOf "_law_deck" "_law_deck" (defArgs s__law_deck) (defBody s__law_deck) (defScope s__law_deck) .none kV__law_deck dc__law_deck pm__law_deck an__law_deck cd__law_deck ct__law_deck), sl__law_deck⟩) (c__law_deck : PySem.W.codeIn K cd__law_deck "_law_deck" = true) (k__law_deck : PySem.W.keepIn K (.ref f__law_deck) = true)
    (a__law_next : PySem.W.nsIn K mainGlobals "_law_next" = some (some (.ref f__law_next))) (l__law_next : K.lookup f__law_next = some ⟨oc__law_next, od__law_next, .func (PySem.W.fnOf "_law_next" "_law_next" (defArgs s__law_next) (defBody s__law_next) (defScope s__law_next) .none kV__law_next dc__law_next pm__law_next an__law_next cd__law_next ct__law_next), sl__law_next⟩) (c__law_next : PySem.W.codeIn K cd__law_next "_law_next" = true) (k__law_next : PySem.W.keepIn K (.ref f__law_next) = true)
    (a__law_prime : PySem.W.nsIn K mainGlobals "_law_prime" = some (some (.ref f__law_prime))) (l__law_prime : K.lookup f__law_prime = some ⟨oc__law_prime, od__law_prime, .func (PySem.W.fnOf "_law_prime" "_law_prime" (defArgs s__law_prime) (defBody s__law_prime) (defScope s__law_prime) .none kV__law_prime dc__law_prime pm__law_prime an__law_prime cd__law_prime ct__law_prime), sl__law_prime⟩) (c__law_prime : PySem.W.codeIn K cd__law_prime "_law_prime" = true) (k__law_prime : PySem.W.keepIn K (.ref f__law_prime) = true)
    (a__law_numbers : PySem.W.nsIn K mainGlobals "_law_numbers" = some (some (.ref f__law_numbers))) (l__law_numbers : K.lookup f__law_numbers = some ⟨oc__law_numbers, od__law_numbers, .func (PySem.W.fnOf "_law_numbers" "_law_numbers" (defArgs s__law_numbers) (defBody s__law_numbers) (defScope s__law_numbers) .none kV__law_numbers dc__law_numbers pm__law_numbers an__law_numbers cd__law_numbers ct__law_numbers), sl__law_numbers⟩) (c__law_numbers : PySem.W.codeIn K cd__law_numbers "_law_numbers" = true) (k__law_numbers : PySem.W.keepIn K (.ref f__law_numbers) = true)
    (a__law_row : PySem.W.nsIn K mainGlobals "_law_row" = some (some (.ref f__law_row))) (l__law_row : K.lookup f__law_row = some ⟨oc__law_row, od__law_row, .func (PySem.W.fnOf "_law_row" "_law_row" (defArgs s__law_row) (defBody s__law_row) (defScope s__law_row) .none kV__law_row dc__law_row pm__law_row an__law_row cd__law_row ct__law_row), sl__law_row⟩) (c__law_row : PySem.W.codeIn K cd__law_row "_law_row" = true) (k__law_row : PySem.W.keepIn K (.ref f__law_row) = true)
    (a__law_single : PySem.W.nsIn K mainGlobals "_law_single" = some (some (.ref f__law_single))) (l__law_single : K.lookup f__law_single = some ⟨oc__law_single, od__law_single, .func (PySem.W.fnOf "_law_single" "_law_single" (defArgs s__law_single) (defBody s__law_single) (defScope s__law_single) .none kV__law_single dc__law_single pm__law_single an__law_single cd__law_single ct__law_single), sl__law_single⟩) (c__law_single : PySem.W.codeIn K cd__law_single "_law_single" = true) (k__law_single : PySem.W.keepIn K (.ref f__law_single) = true)
    (a__law_straight : PySem.W.nsIn K mainGlobals "_law_straight" = some (some (.ref f__law_straight))) (l__law_straight : K.lookup f__law_straight = some ⟨oc__law_straight, od__law_straight, .func (PySem.W.fnOf "_law_straight" "_law_straight" (defArgs s__law_straight) (defBody s__law_straight) (defScope s__law_straight) .none kV__law_straight dc__law_straight pm__law_straight an__law_straight cd__law_straight ct__law_straight), sl__law_straight⟩) (c__law_straight : PySem.W.codeIn K cd__law_straight "_law_straight" = true) (k__law_straight : PySem.W.keepIn K (.ref f__law_straight) = true)
    (a__law_seen : PySem.W.nsIn K mainGlobals "_law_seen" = some (some (.ref f__law_seen))) (l__law_seen : K.lookup f__law_seen = some ⟨oc__law_seen, od__law_seen, .func (PySem.W.fnOf "_law_seen" "_law_seen" (defArgs s__law_seen) (defBody s__law_seen) (defScope s__law_seen) .none kV__law_seen dc__law_seen pm__law_seen an__law_seen cd__law_seen ct__law_seen), sl__law_seen⟩) (c__law_seen : PySem.W.codeIn K cd__law_seen "_law_seen" = true) (k__law_seen : PySem.W.keepIn K (.ref f__law_seen) = true)
    (a__law_apart : PySem.W.nsIn K mainGlobals "_law_apart" = some (some (.ref f__law_apart))) (l__law_apart : K.lookup f__law_apart = some ⟨oc__law_apart, od__law_apart, .func (PySem.W.fnOf "_law_apart" "_law_apart" (defArgs s__law_apart) (defBody s__law_apart) (defScope s__law_apart) .none kV__law_apart dc__law_apart pm__law_apart an__law_apart cd__law_apart ct__law_apart), sl__law_apart⟩) (c__law_apart : PySem.W.codeIn K cd__law_apart "_law_apart" = true) (k__law_apart : PySem.W.keepIn K (.ref f__law_apart) = true)
    (a_law : PySem.W.nsIn K mainGlobals "law" = some (some (.ref f_law))) (l_law : K.lookup f_law = some ⟨oc_law, od_law, .func (PySem.W.fnOf "law" "law" (defArgs s_law) (defBody s_law) (defScope s_law) .none kV_law dc_law pm_law an_law cd_law ct_law), sl_law⟩) (c_law : PySem.W.codeIn K cd_law "law" = true) (k_law : PySem.W.keepIn K (.ref f_law) = true)
    (z_abs : PySem.W.nsIn K mainGlobals "abs" = some none)
    (z_int : PySem.W.nsIn K mainGlobals "int" = some none)
    (z_len : PySem.W.nsIn K mainGlobals "len" = some none)
    (z_range : PySem.W.nsIn K mainGlobals "range" = some none)
    (z_sum : PySem.W.nsIn K mainGlobals "sum" = some none)
    (z_tuple : PySem.W.nsIn K mainGlobals "tuple" = some none)
    (z_zip : PySem.W.nsIn K mainGlobals "zip" = some none) :
    LamX.LawAtS l w K CX0 8 63 "_law_script" mg fa h := by
  have e := hfa.symm.trans (PySem.W.mg_of X G a_law)
  cases e
  have F_nought := fun_mk (st := s_nought) l_nought c_nought k_nought
  have b_nought := F_nought.binds (ps := ["posts"]) fun _ _ _ _ _ _ us hl => match us, hl with | [_], _ => rfl
  have F_added := fun_mk (st := s_added) l_added c_added k_added
  have b_added := F_added.binds (ps := ["p", "one", "other"]) fun _ _ _ _ _ _ us hl => match us, hl with | [_, _, _], _ => rfl
  have F_times := fun_mk (st := s_times) l_times c_times k_times
  have b_times := F_times.binds (ps := ["p", "number", "row"]) fun _ _ _ _ _ _ us hl => match us, hl with | [_, _, _], _ => rfl
  have F_meet := fun_mk (st := s_meet) l_meet c_meet k_meet
  have b_meet := F_meet.binds (ps := ["p", "one", "other"]) fun _ _ _ _ _ _ us hl => match us, hl with | [_, _, _], _ => rfl
  have F_part := fun_mk (st := s_part) l_part c_part k_part
  have b_part := F_part.binds (ps := ["row", "posts"]) fun _ _ _ _ _ _ us hl => match us, hl with | [_, _], _ => rfl
  have F__law_deck := fun_mk (st := s__law_deck) l__law_deck c__law_deck k__law_deck
  have b__law_deck := F__law_deck.binds (ps := ["_law_script"]) fun _ _ _ _ _ _ us hl => match us, hl with | [_], _ => rfl
  have F__law_next := fun_mk (st := s__law_next) l__law_next c__law_next k__law_next
  have b__law_next := F__law_next.binds (ps := ["_law_deck_here", "_law_many"]) fun _ _ _ _ _ _ us hl => match us, hl with | [_, _], _ => rfl
  have F__law_prime := fun_mk (st := s__law_prime) l__law_prime c__law_prime k__law_prime
  have b__law_prime := F__law_prime.binds (ps := ["_law_deck_here"]) fun _ _ _ _ _ _ us hl => match us, hl with | [_], _ => rfl
  have F__law_numbers := fun_mk (st := s__law_numbers) l__law_numbers c__law_numbers k__law_numbers
  have b__law_numbers := F__law_numbers.binds (ps := ["_law_deck_here", "_law_p", "_law_many"]) fun _ _ _ _ _ _ us hl => match us, hl with | [_, _, _], _ => rfl
  have F__law_row := fun_mk (st := s__law_row) l__law_row c__law_row k__law_row
  have b__law_row := F__law_row.binds (ps := ["_law_deck_here", "_law_p", "_law_posts"]) fun _ _ _ _ _ _ us hl => match us, hl with | [_, _, _], _ => rfl
  have F__law_single := fun_mk (st := s__law_single) l__law_single c__law_single k__law_single
  have b__law_single := F__law_single.binds (ps := ["_law_posts", "_law_place"]) fun _ _ _ _ _ _ us hl => match us, hl with | [_, _], _ => rfl
  have F__law_straight := fun_mk (st := s__law_straight) l__law_straight c__law_straight k__law_straight
  have b__law_straight := F__law_straight.binds (ps := ["_law_p", "_law_one", "_law_other", "_law_third", "_law_number", "_law_by"]) fun _ _ _ _ _ _ us hl => match us, hl with | [_, _, _, _, _, _], _ => rfl
  have F__law_seen := fun_mk (st := s__law_seen) l__law_seen c__law_seen k__law_seen
  have b__law_seen := F__law_seen.binds (ps := ["_law_p", "_law_posts", "_law_row_here"]) fun _ _ _ _ _ _ us hl => match us, hl with | [_, _, _], _ => rfl
  have F__law_apart := fun_mk (st := s__law_apart) l__law_apart c__law_apart k__law_apart
  have b__law_apart := F__law_apart.binds (ps := ["_law_p", "_law_posts", "_law_one", "_law_other", "_law_cut"]) fun _ _ _ _ _ _ us hl => match us, hl with | [_, _, _, _, _], _ => rfl
  have F_law := fun_mk (st := s_law) l_law c_law k_law
  have b_law := F_law.binds (ps := ["_law_script"]) fun _ _ _ _ _ _ us hl => match us, hl with | [_], _ => rfl
  let A : Ad := ⟨f_nought, PySem.W.fnOf "nought" "nought" (defArgs s_nought) (defBody s_nought) (defScope s_nought) .none kV_nought dc_nought pm_nought an_nought cd_nought ct_nought, f_added, PySem.W.fnOf "added" "added" (defArgs s_added) (defBody s_added) (defScope s_added) .none kV_added dc_added pm_added an_added (.ref q_added) ct_added, f_times, PySem.W.fnOf "times" "times" (defArgs s_times) (defBody s_times) (defScope s_times) .none kV_times dc_times pm_times an_times (.ref q_times) ct_times, f_meet, PySem.W.fnOf "meet" "meet" (defArgs s_meet) (defBody s_meet) (defScope s_meet) .none kV_meet dc_meet pm_meet an_meet cd_meet ct_meet, f_part, PySem.W.fnOf "part" "part" (defArgs s_part) (defBody s_part) (defScope s_part) .none kV_part dc_part pm_part an_part (.ref q_part) ct_part, f__law_deck, PySem.W.fnOf "_law_deck" "_law_deck" (defArgs s__law_deck) (defBody s__law_deck) (defScope s__law_deck) .none kV__law_deck dc__law_deck pm__law_deck an__law_deck cd__law_deck ct__law_deck, f__law_next, PySem.W.fnOf "_law_next" "_law_next" (defArgs s__law_next) (defBody s__law_next) (defScope s__law_next) .none kV__law_next dc__law_next pm__law_next an__law_next cd__law_next ct__law_next, f__law_prime, PySem.W.fnOf "_law_prime" "_law_prime" (defArgs s__law_prime) (defBody s__law_prime) (defScope s__law_prime) .none kV__law_prime dc__law_prime pm__law_prime an__law_prime cd__law_prime ct__law_prime, f__law_numbers, PySem.W.fnOf "_law_numbers" "_law_numbers" (defArgs s__law_numbers) (defBody s__law_numbers) (defScope s__law_numbers) .none kV__law_numbers dc__law_numbers pm__law_numbers an__law_numbers cd__law_numbers ct__law_numbers, f__law_row, PySem.W.fnOf "_law_row" "_law_row" (defArgs s__law_row) (defBody s__law_row) (defScope s__law_row) .none kV__law_row dc__law_row pm__law_row an__law_row cd__law_row ct__law_row, f__law_single, PySem.W.fnOf "_law_single" "_law_single" (defArgs s__law_single) (defBody s__law_single) (defScope s__law_single) .none kV__law_single dc__law_single pm__law_single an__law_single cd__law_single ct__law_single, f__law_straight, PySem.W.fnOf "_law_straight" "_law_straight" (defArgs s__law_straight) (defBody s__law_straight) (defScope s__law_straight) .none kV__law_straight dc__law_straight pm__law_straight an__law_straight cd__law_straight ct__law_straight, f__law_seen, PySem.W.fnOf "_law_seen" "_law_seen" (defArgs s__law_seen) (defBody s__law_seen) (defScope s__law_seen) .none kV__law_seen dc__law_seen pm__law_seen an__law_seen cd__law_seen ct__law_seen, f__law_apart, PySem.W.fnOf "_law_apart" "_law_apart" (defArgs s__law_apart) (defBody s__law_apart) (defScope s__law_apart) .none kV__law_apart dc__law_apart pm__law_apart an__law_apart cd__law_apart ct__law_apart, fa, PySem.W.fnOf "law" "law" (defArgs s_law) (defBody s_law) (defScope s_law) .none kV_law dc_law pm_law an_law cd_law ct_law⟩
  let C : Cd := ⟨q_added, p_added, q_times, p_times, q_part, p_part⟩
  have T : Tx K mg A := ⟨⟨F_nought, b_nought, PySem.W.mg_of X G a_nought⟩, ⟨F_added, b_added, PySem.W.mg_of X G a_added⟩, ⟨F_times, b_times, PySem.W.mg_of X G a_times⟩, ⟨F_meet, b_meet, PySem.W.mg_of X G a_meet⟩, ⟨F_part, b_part, PySem.W.mg_of X G a_part⟩, ⟨F__law_deck, b__law_deck, PySem.W.mg_of X G a__law_deck⟩, ⟨F__law_next, b__law_next, PySem.W.mg_of X G a__law_next⟩, ⟨F__law_prime, b__law_prime, PySem.W.mg_of X G a__law_prime⟩, ⟨F__law_numbers, b__law_numbers, PySem.W.mg_of X G a__law_numbers⟩, ⟨F__law_row, b__law_row, PySem.W.mg_of X G a__law_row⟩, ⟨F__law_single, b__law_single, PySem.W.mg_of X G a__law_single⟩, ⟨F__law_straight, b__law_straight, PySem.W.mg_of X G a__law_straight⟩, ⟨F__law_seen, b__law_seen, PySem.W.mg_of X G a__law_seen⟩, ⟨F__law_apart, b__law_apart, PySem.W.mg_of X G a__law_apart⟩, ⟨F_law, b_law, PySem.W.mg_of X G a_law⟩, PySem.W.mg_none_of X G z_abs, PySem.W.mg_none_of X G z_int, PySem.W.mg_none_of X G z_len, PySem.W.mg_none_of X G z_range, PySem.W.mg_none_of X G z_sum, PySem.W.mg_none_of X G z_tuple, PySem.W.mg_none_of X G z_zip⟩
  have w_added := own_at own (by simp) X (PySem.W.mg_of X G a_added) l_added rfl u_added g_added
  have w_times := own_at own (by simp) X (PySem.W.mg_of X G a_times) l_times rfl u_times g_times
  have w_part := own_at own (by simp) X (PySem.W.mg_of X G a_part) l_part rfl u_part g_part
  refine ⟨_, [(q_added, p_added), (q_times, p_times), (q_part, p_part)], spLawT K C, List.forall_mem_cons.mpr ⟨w_added.2, List.forall_mem_cons.mpr ⟨w_times.2, List.forall_mem_cons.mpr ⟨w_part.2, fun _ z => by cases z⟩⟩⟩, List.forall_mem_cons.mpr ⟨n_added, List.forall_mem_cons.mpr ⟨n_times, List.forall_mem_cons.mpr ⟨n_part, fun _ z => by cases z⟩⟩⟩, List.forall_mem_cons.mpr ⟨w_added.1, List.forall_mem_cons.mpr ⟨w_times.1, List.forall_mem_cons.mpr ⟨w_part.1, fun _ z => by cases z⟩⟩⟩, fun s v => .of_eq rfl, fun H a ns hlen _ hH hS => ⟨a, ns, rfl, hS, hlen, ⟨tab0 (hH (q_added, p_added) (by simp)), tab0 (hH (q_times, p_times) (by simp)), tab0 (hH (q_part, p_part) (by simp))⟩, fun _ => rfl⟩, fun base _ _ TB => ok_law T (C := C) ?_⟩
  exact ⟨tb_conv (TB (q_added, p_added) (by simp)), ⟨_, _, _, _, _, _, _, _, rfl, l_added, c_added⟩, tb_conv (TB (q_times, p_times) (by simp)), ⟨_, _, _, _, _, _, _, _, rfl, l_times, c_times⟩, tb_conv (TB (q_part, p_part) (by simp)), ⟨_, _, _, _, _, _, _, _, rfl, l_part, c_part⟩⟩
end Kp

open PySem PySem.W PyProof.Rows in
set_option maxRecDepth 100000 in
set_option maxHeartbeats 0 in
theorem PySem.Challenge.cw_fairposts_k05_whole_meets_holds : PySem.Challenge.rw_fairposts_k05_whole_meets.Holds := by
  w_on; o_law; k_head; (case hw => w_witness2)
  k_fill
  refine Kp.walkT (l := PySem.Challenge.rw_fairposts_k05_whole_meets) (k := 8) (x := "_law_script") ["added", "times", "part"] rfl rfl ⟨rfl, by decide, by decide⟩ (by decide +kernel) (fun w h Y => PySem.W.kIn_of Y) ?F
  case F =>
    intro w mg fa h KX G hmg own
    refine' Kp.all_mk KX G hmg own ?a_nought ?l_nought ?c_nought ?k_nought ?a_added ?l_added ?c_added ?k_added ?u_added ?g_added ?n_added ?a_times ?l_times ?c_times ?k_times ?u_times ?g_times ?n_times ?a_meet ?l_meet ?c_meet ?k_meet ?a_part ?l_part ?c_part ?k_part ?u_part ?g_part ?n_part ?a__law_deck ?l__law_deck ?c__law_deck ?k__law_deck ?a__law_next ?l__law_next ?c__law_next ?k__law_next ?a__law_prime ?l__law_prime ?c__law_prime ?k__law_prime ?a__law_numbers ?l__law_numbers ?c__law_numbers ?k__law_numbers ?a__law_row ?l__law_row ?c__law_row ?k__law_row ?a__law_single ?l__law_single ?c__law_single ?k__law_single ?a__law_straight ?l__law_straight ?c__law_straight ?k__law_straight ?a__law_seen ?l__law_seen ?c__law_seen ?k__law_seen ?a__law_apart ?l__law_apart ?c__law_apart ?k__law_apart ?a_law ?l_law ?c_law ?k_law ?z_abs ?z_int ?z_len ?z_range ?z_sum ?z_tuple ?z_zip
    (case a_nought => k_is)
    (case l_nought => k_is)
    (case c_nought => k_is)
    (case k_nought => k_is)
    (case a_added => k_is)
    (case l_added => k_is)
    (case c_added => k_is)
    (case k_added => k_is)
    (case u_added => k_is)
    (case g_added => rfl)
    (case n_added => rfl)
    (case a_times => k_is)
    (case l_times => k_is)
    (case c_times => k_is)
    (case k_times => k_is)
    (case u_times => k_is)
    (case g_times => rfl)
    (case n_times => rfl)
    (case a_meet => k_is)
    (case l_meet => k_is)
    (case c_meet => k_is)
    (case k_meet => k_is)
    (case a_part => k_is)
    (case l_part => k_is)
    (case c_part => k_is)
    (case k_part => k_is)
    (case u_part => k_is)
    (case g_part => rfl)
    (case n_part => rfl)
    (case a__law_deck => k_is)
    (case l__law_deck => k_is)
    (case c__law_deck => k_is)
    (case k__law_deck => k_is)
    (case a__law_next => k_is)
    (case l__law_next => k_is)
    (case c__law_next => k_is)
    (case k__law_next => k_is)
    (case a__law_prime => k_is)
    (case l__law_prime => k_is)
    (case c__law_prime => k_is)
    (case k__law_prime => k_is)
    (case a__law_numbers => k_is)
    (case l__law_numbers => k_is)
    (case c__law_numbers => k_is)
    (case k__law_numbers => k_is)
    (case a__law_row => k_is)
    (case l__law_row => k_is)
    (case c__law_row => k_is)
    (case k__law_row => k_is)
    (case a__law_single => k_is)
    (case l__law_single => k_is)
    (case c__law_single => k_is)
    (case k__law_single => k_is)
    (case a__law_straight => k_is)
    (case l__law_straight => k_is)
    (case c__law_straight => k_is)
    (case k__law_straight => k_is)
    (case a__law_seen => k_is)
    (case l__law_seen => k_is)
    (case c__law_seen => k_is)
    (case k__law_seen => k_is)
    (case a__law_apart => k_is)
    (case l__law_apart => k_is)
    (case c__law_apart => k_is)
    (case k__law_apart => k_is)
    (case a_law => k_is)
    (case l_law => k_is)
    (case c_law => k_is)
    (case k_law => k_is)
    (case z_abs => k_is)
    (case z_int => k_is)
    (case z_len => k_is)
    (case z_range => k_is)
    (case z_sum => k_is)
    (case z_tuple => k_is)
    (case z_zip => k_is)
#print axioms PySem.Challenge.cw_fairposts_k05_whole_meets_holds
