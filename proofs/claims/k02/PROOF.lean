import PyProof.Rows.All
import Wide.All
import OpenK.AllK
import Wide.FinOn
import HandS.ForMost
import HandS.Wide
import HandS.WideMore
import HandS.IsInst
import HandS.Rev
import PySem.Challenge.RW_fairposts_k02_inverses_and_figures
set_option Elab.async false
set_option maxRecDepth 100000
namespace Kp
open PySem L2
def top (i : Nat) : Stmt := PySem.Challenge.pw_fairposts_k02_inverses_and_figures.main.body.getD i (.Pass ⟨0, 0, 0, 0⟩)
abbrev s_inverse : Stmt := top 1
def N_inverse : List Str := ["p", "number", "worth", "step"]
theorem sc_inverse : FnScope ["p", "number", "worth", "step"] ["p", "number"] (defScope s_inverse) := ⟨rfl, rfl, rfl, by decide +kernel, rfl, by decide +kernel, by decide +kernel⟩
abbrev s_chosen : Stmt := top 2
def N_chosen : List Str := ["p", "many", "number", "figures", "step"]
theorem sc_chosen : FnScope ["p", "many", "number", "figures", "step"] ["p", "many", "number"] (defScope s_chosen) := ⟨rfl, rfl, rfl, by decide +kernel, rfl, by decide +kernel, by decide +kernel⟩
abbrev s__law_deck : Stmt := top 4
def N__law_deck : List Str := ["_law_script", "_law_cells", "_law_cell"]
theorem sc__law_deck : FnScope ["_law_script", "_law_cells", "_law_cell"] ["_law_script"] (defScope s__law_deck) := ⟨rfl, rfl, rfl, by decide +kernel, rfl, by decide +kernel, by decide +kernel⟩
abbrev s__law_next : Stmt := top 5
def N__law_next : List Str := ["_law_deck_here", "_law_many", "_law_cell", "_law_mixed", "_law_rest"]
theorem sc__law_next : FnScope ["_law_deck_here", "_law_many", "_law_cell", "_law_mixed", "_law_rest"] ["_law_deck_here", "_law_many"] (defScope s__law_next) := ⟨rfl, rfl, rfl, by decide +kernel, rfl, by decide +kernel, by decide +kernel⟩
abbrev s__law_is_whole : Stmt := top 6
def N__law_is_whole : List Str := ["_law_thing"]
theorem sc__law_is_whole : FnScope ["_law_thing"] ["_law_thing"] (defScope s__law_is_whole) := ⟨rfl, rfl, rfl, by decide +kernel, rfl, by decide +kernel, by decide +kernel⟩
abbrev s__law_power : Stmt := top 7
def N__law_power : List Str := ["_law_p", "_law_many", "_law_found", "_law_turn"]
theorem sc__law_power : FnScope ["_law_p", "_law_many", "_law_found", "_law_turn"] ["_law_p", "_law_many"] (defScope s__law_power) := ⟨rfl, rfl, rfl, by decide +kernel, rfl, by decide +kernel, by decide +kernel⟩
abbrev s__law_figures_right : Stmt := top 8
def N__law_figures_right : List Str := ["_law_p", "_law_many", "_law_number", "_law_found", "_law_total", "_law_figure"]
theorem sc__law_figures_right : FnScope ["_law_p", "_law_many", "_law_number", "_law_found", "_law_total", "_law_figure"] ["_law_p", "_law_many", "_law_number"] (defScope s__law_figures_right) := ⟨rfl, rfl, rfl, by decide +kernel, rfl, by decide +kernel, by decide +kernel⟩
abbrev s_law : Stmt := top 9
def N_law : List Str := ["_law_script", "_law_deck_here", "_law_p", "_law_number", "_law_turn", "_law_found", "_law_many", "_law_most", "_law_one"]
theorem sc_law : FnScope ["_law_script", "_law_deck_here", "_law_p", "_law_number", "_law_turn", "_law_found", "_law_many", "_law_most", "_law_one"] ["_law_script"] (defScope s_law) := ⟨rfl, rfl, rfl, by decide +kernel, rfl, by decide +kernel, by decide +kernel⟩
structure Df (K : PySem.W.Frag) (mg : Str → Option Value) (x : Str) (st : Stmt) (ps : List Str) (f : Addr) (fd : FuncData) : Prop where
  F : Fun K x x st f fd
  b : Binds K fd ps []
  g : mg x = some (.ref f)
structure Ad where
  f_inverse : Addr
  d_inverse : FuncData
  f_chosen : Addr
  d_chosen : FuncData
  f__law_deck : Addr
  d__law_deck : FuncData
  f__law_next : Addr
  d__law_next : FuncData
  f__law_is_whole : Addr
  d__law_is_whole : FuncData
  f__law_power : Addr
  d__law_power : FuncData
  f__law_figures_right : Addr
  d__law_figures_right : FuncData
  f_law : Addr
  d_law : FuncData
structure Tx (K : PySem.W.Frag) (mg : Str → Option Value) (A : Ad) : Prop where
  d_inverse : Df K mg "inverse" s_inverse ["p", "number"] A.f_inverse A.d_inverse
  d_chosen : Df K mg "chosen" s_chosen ["p", "many", "number"] A.f_chosen A.d_chosen
  d__law_deck : Df K mg "_law_deck" s__law_deck ["_law_script"] A.f__law_deck A.d__law_deck
  d__law_next : Df K mg "_law_next" s__law_next ["_law_deck_here", "_law_many"] A.f__law_next A.d__law_next
  d__law_is_whole : Df K mg "_law_is_whole" s__law_is_whole ["_law_thing"] A.f__law_is_whole A.d__law_is_whole
  d__law_power : Df K mg "_law_power" s__law_power ["_law_p", "_law_many"] A.f__law_power A.d__law_power
  d__law_figures_right : Df K mg "_law_figures_right" s__law_figures_right ["_law_p", "_law_many", "_law_number"] A.f__law_figures_right A.d__law_figures_right
  d_law : Df K mg "law" s_law ["_law_script"] A.f_law A.d_law
  b_abs : mg "abs" = none
  b_bool : mg "bool" = none
  b_int : mg "int" = none
  b_isinstance : mg "isinstance" = none
  b_len : mg "len" = none
  b_range : mg "range" = none
  b_reversed : mg "reversed" = none
  b_tuple : mg "tuple" = none
/-! ### heaps -/
theorem same_upd {H : Hp} {p : Addr} {o : HO} (h : H p = none) : Same H (upd H p o) := fun b x e => by
  rw [upd_ne (ne_of_none e h)]
  exact e
/-- all but the deck's two lists that change stays -/
def Fr (d g : Addr) (H H' : Hp) : Prop := ∀ a o, a ≠ d → a ≠ g → H a = some o → H' a = some o
theorem Fr.refl (d g : Addr) (H : Hp) : Fr d g H H := fun _ _ _ _ h => h
theorem Fr.trans {d g : Addr} {H H1 H2 : Hp} (x : Fr d g H H1) (y : Fr d g H1 H2) : Fr d g H H2 := fun a o hd hg h => y a o hd hg (x a o hd hg h)
theorem Fr.of_same {d g : Addr} {H H1 : Hp} (x : Same H H1) : Fr d g H H1 := fun a o _ _ h => x a o h
theorem Fr.new {d g : Addr} {H : Hp} {p : Addr} {o : HO} (h : H p = none) : Fr d g H (upd H p o) := .of_same (same_upd h)
theorem Fr.atd {d g : Addr} {H : Hp} {o : HO} : Fr d g H (upd H d o) := fun a x hd _ h => by
  rw [upd_ne hd]
  exact h
theorem Fr.atg {d g : Addr} {H : Hp} {o : HO} : Fr d g H (upd H g o) := fun a x _ hg h => by
  rw [upd_ne hg]
  exact h
/-- the deck: a list of great cells, of cells, and a count that is at most k -/
structure Dk (d g c : Addr) (k : Int) (H : Hp) : Prop where
  ex : ∃ (gs cs : List Int) (n : Int), H d = some (.lst [.ref g, .ref c, .int n]) ∧ H g = some (.lst (gs.map V.int)) ∧ H c = some (.lst (cs.map V.int)) ∧ 0 < cs.length ∧ cs.length ≤ 100 ∧ 0 ≤ n ∧ n ≤ k
  dg : d ≠ g
  dc : d ≠ c
  gc : g ≠ c
theorem Dk.mono {d g c : Addr} {k j : Int} {H : Hp} (D : Dk d g c k H) (h : k ≤ j) : Dk d g c j H := by
  obtain ⟨gs, cs, n, h1, h2, h3, h4, h5, h6, h7⟩ := D.ex
  exact ⟨⟨gs, cs, n, h1, h2, h3, h4, h5, h6, by omega⟩, D.dg, D.dc, D.gc⟩
theorem Dk.same {d g c : Addr} {k : Int} {H H' : Hp} (D : Dk d g c k H) (s : Same H H') : Dk d g c k H' := by
  obtain ⟨gs, cs, n, h1, h2, h3, h4, h5, h6, h7⟩ := D.ex
  exact ⟨⟨gs, cs, n, s _ _ h1, s _ _ h2, s _ _ h3, h4, h5, h6, h7⟩, D.dg, D.dc, D.gc⟩
theorem Dk.hd {d g c : Addr} {k : Int} {H : Hp} (D : Dk d g c k H) : ∃ o, H d = some o := by
  obtain ⟨gs, cs, n, h1, _⟩ := D.ex
  exact ⟨_, h1⟩
theorem Dk.nd {d g c p : Addr} {k : Int} {H : Hp} (D : Dk d g c k H) (h : H p = none) : p ≠ d ∧ p ≠ g ∧ p ≠ c := by
  obtain ⟨gs, cs, n, h1, h2, h3, _⟩ := D.ex
  exact ⟨(ne_of_none h1 h).symm, (ne_of_none h2 h).symm, (ne_of_none h3 h).symm⟩
theorem neqv_nil : ∀ gs : List Int, PyData.eqv (.list (gs.map PyData.int)) (.list []) = gs.isEmpty
  | [] => rfl
  | _ :: _ => rfl
theorem dp_ints {K : PySem.W.Frag} {H : Hp} : ∀ gs : List Int, DpAll K H (gs.map V.int) (gs.map PyData.int)
  | [] => .nil
  | i :: r => .cons (.int i) (dp_ints r)
theorem lay_ints : ∀ gs : List Int, PyData.canLayAll0 (gs.map PyData.int) = true
  | [] => by simp [PyData.canLayAll0]
  | z :: zs => by simp [PyData.canLayAll0, PyData.canLay0, lay_ints zs]
theorem dep_ints : ∀ gs : List Int, PyData.depthAll (gs.map PyData.int) = 0
  | [] => by simp [PyData.depthAll]
  | z :: zs => by simp [PyData.depthAll, PyData.depth, dep_ints zs]
theorem sh_ints (gs : List Int) : SeqAt.shaped (.list (gs.map PyData.int)) = true := by
  have h1 := dep_ints gs
  have h2 : PyData.depth (.list (gs.map PyData.int)) ≤ 64 := by
    simp only [PyData.depth]
    omega
  show (PyData.canLay0 (.list (gs.map PyData.int)) && decide (PyData.depth (.list (gs.map PyData.int)) ≤ 64)) = true
  rw [Bool.and_eq_true]
  exact ⟨by simp only [PyData.canLay0]; exact lay_ints gs, decide_eq_true h2⟩
theorem atI_zero {α : Type} {x : α} {xs : List α} : atI (x :: xs) 0 = some x := atI_nat (j := 0) rfl
theorem ints_at {cs : List Int} {i : Int} (h0 : 0 ≤ i) (h1 : i < cs.length) : ∃ v : Int, atI (cs.map V.int) i = some (V.int v) := by
  obtain ⟨j, rfl⟩ := Int.eq_ofNat_of_zero_le h0
  have hj : j < cs.length := by omega
  refine ⟨cs[j], ?_⟩
  apply atI_nat
  rw [List.getElem?_map, List.getElem?_eq_getElem hj]
  rfl
theorem int_of_map {cs : List Int} {i : Nat} {y : V} (h : (cs.map V.int)[i]? = some y) : ∃ u, y = V.int u := by
  rw [List.getElem?_map] at h
  cases e : cs[i]? with
  | none =>
    rw [e] at h
    cases h
  | some u =>
    rw [e] at h
    exact ⟨u, (Option.some.inj h).symm⟩
theorem ixN_zero {n : Nat} (h : 0 < n) : ixN n 0 = some 0 := by
  unfold ixN
  rw [if_pos (Int.le_refl 0), if_pos (by omega)]
  rfl
theorem ixN_seq0 {n : Nat} (h : 0 < n) : seqIndex? 0 n = some 0 := (ixN_seq (ixN_zero h)).1
theorem mod_in {a m : Int} (h0 : 0 < m) (h1 : m ≤ 2 ^ 64) : -(2 ^ 64) < a % m ∧ a % m < 2 ^ 64 := by
  have x := Int.emod_nonneg a (b := m) (by omega)
  have y := Int.emod_lt_of_pos a h0
  exact ⟨by omega, by omega⟩
theorem bl_t {c : Prop} [Decidable c] (h : c) : V.bl (decide c) = V.bl true := by rw [decide_eq_true h]
theorem bl_f {c : Prop} [Decidable c] (h : ¬ c) : V.bl (decide c) = V.bl false := by rw [decide_eq_false h]
theorem nb_f {c : Prop} [Decidable c] (h : c) : V.bl (!decide c) = V.bl false := by rw [decide_eq_true h]; rfl
theorem nb_t {c : Prop} [Decidable c] (h : ¬ c) : V.bl (!decide c) = V.bl true := by rw [decide_eq_false h]; rfl
/-! ### isinstance -/
def isB (T U : String) : Bool := (kitB T U).getD false
/-- the built-in type of a value -/
def TyB1 (K : PySem.W.Frag) (H : Hp) (x : V) (T : String) : Prop := TyX K H x (.type T) ∧ (T = "int" ∨ T = "bool" ∨ T = "NoneType" ∨ T = "str" ∨ T = "list" ∨ T = "tuple" ∨ T = "dict")
theorem isi_of {K : PySem.W.Frag} {T : String} (U : String) (hT : T = "int" ∨ T = "bool" ∨ T = "NoneType" ∨ T = "str" ∨ T = "list" ∨ T = "tuple" ∨ T = "dict") (hU : U = "int" ∨ U = "bool" ∨ U = "tuple" ∨ U = "list" ∨ U = "str") : PySem.W.kitOne K (.type T) (.type U) = some (isB T U) := by
  rcases hT with rfl | rfl | rfl | rfl | rfl | rfl | rfl <;> rcases hU with rfl | rfl | rfl | rfl | rfl <;> exact kit_ty (by decide +kernel)
theorem isB_ii : isB "int" "int" = true := by decide +kernel
theorem isB_ib : isB "int" "bool" = false := by decide +kernel
theorem isB_bi : isB "bool" "int" = true := by decide +kernel
theorem isB_bb : isB "bool" "bool" = true := by decide +kernel
theorem isB_tt : isB "tuple" "tuple" = true := by decide +kernel
def spLaw (K : PySem.W.Frag) : Sp := fun vs H Q _ => ∃ (a : Addr) (ns : List Int), vs = [.ref a] ∧ SqL K H a (ns.map V.int) ∧ ns.length ≤ 63 ∧ ∀ H', Q (.bl true) H'
/-! ### the mathematics -/
def pw (p n : Int) : Nat → Int
  | 0 => 1
  | i + 1 => pw p n i * n % p
theorem pw_ok : ∀ p ∈ ([2, 3, 5, 7, 11, 13] : List Int), ∀ i ∈ List.range 12, (i : Int) + 1 < p → 0 < pw p (1 + (i : Nat)) (p - 2).toNat ∧ pw p (1 + (i : Nat)) (p - 2).toNat < p ∧ pw p (1 + (i : Nat)) (p - 2).toNat * (1 + (i : Nat)) % p = 1 := by decide +kernel
def pwr (p : Int) : Nat → Int
  | 0 => 1
  | i + 1 => pwr p i * p
theorem pwr_ok : ∀ p ∈ ([2, 3, 5, 7, 11, 13] : List Int), ∀ i ∈ List.range 21, 0 < pwr p i ∧ pwr p i < 1208925819614629174706176 := by decide +kernel
def qt (p n : Int) : Nat → Int
  | 0 => n
  | i + 1 => qt p n i / p
def ds (p n : Int) : Nat → List Int
  | 0 => []
  | i + 1 => ds p n i ++ [qt p n i % p]
theorem ds_len (p n : Int) : ∀ i, (ds p n i).length = i
  | 0 => rfl
  | i + 1 => by
    show (ds p n i ++ [qt p n i % p]).length = i + 1
    rw [List.length_append, ds_len p n i]
    rfl
theorem ds_get (p n : Int) : ∀ i j, j < i → (ds p n i)[j]? = some (qt p n j % p)
  | 0, _, h => absurd h (Nat.not_lt_zero _)
  | i + 1, j, h => by
    show (ds p n i ++ [qt p n i % p])[j]? = _
    by_cases e : j < i
    · rw [List.getElem?_append_left (by rw [ds_len]; exact e)]
      exact ds_get p n i j e
    · have e2 : j = i := by omega
      subst e2
      rw [List.getElem?_append_right (by rw [ds_len]; exact Nat.le_refl _), ds_len, Nat.sub_self]
      rfl
theorem ds_rev (p n : Int) {i m : Nat} (h : i < m) : ((ds p n m).reverse.map V.int)[i]? = some (V.int (qt p n (m - 1 - i) % p)) := by
  rw [List.getElem?_map, List.getElem?_reverse (by rw [ds_len]; exact h), ds_len, ds_get p n m (m - 1 - i) (by omega)]
  rfl
theorem qt_zero {p : Int} (hp : 2 ≤ p) : ∀ (m : Nat) (n : Int), 0 ≤ n → n < pwr p m → qt p n m = 0
  | 0, n, h0, h1 => by
    show n = 0
    have : n < 1 := h1
    omega
  | m + 1, n, h0, h1 => by
    have e : ∀ j, qt p n (j + 1) = qt p (n / p) j := by
      intro j
      induction j with
      | zero => rfl
      | succ j ih =>
        show qt p n (j + 1) / p = qt p (n / p) j / p
        rw [ih]
    rw [e]
    refine qt_zero hp m _ (Int.ediv_nonneg h0 (by omega)) ?_
    apply Int.ediv_lt_of_lt_mul (by omega)
    exact h1
theorem qt_nonneg {p : Int} (hp : 2 ≤ p) {n : Int} (h : 0 ≤ n) : ∀ m, 0 ≤ qt p n m
  | 0 => h
  | m + 1 => Int.ediv_nonneg (qt_nonneg hp h m) (by omega)
theorem qt_step (p n : Int) (j : Nat) : qt p n (j + 1) * p + qt p n j % p = qt p n j := by
  show qt p n j / p * p + qt p n j % p = qt p n j
  rw [Int.mul_comm]
  exact Int.mul_ediv_add_emod (qt p n j) p
section
variable {P : Program} {w : World} {K : PySem.W.Frag} {mg : Str → Option Value} {base : Heap} {A : Ad}
/-! ### the deck -/
def spDeck (K : PySem.W.Frag) : Sp := fun vs H Q _ => ∃ (a : Addr) (ns : List Int), vs = [.ref a] ∧ SqL K H a (ns.map V.int) ∧ ns.length ≤ 63 ∧
  ∀ (d g c : Addr) (H' : Hp), Same H H' → H d = none → H g = none → H c = none → Dk d g c 0 H' → Q (.ref d) H'
theorem ok__law_deck (T : Tx K mg A) : FnOk P w K mg base CX0 1 A.f__law_deck A.d__law_deck ["_law_script"] (spDeck K) := by
  refine T.d__law_deck.F.ok sc__law_deck (fun vs H Q E h => ?_) (fun cdv A outer s H vs Q E hr h => ?_)
  · obtain ⟨a, ns, rfl, _⟩ := h
    rfl
  · obtain ⟨a, ns, rfl, hS, hlen, k⟩ := h
    refine ⟨_, (pss_cons (ps_setLc (i := 1) (own := [("_law_cell", 2)]) rfl sc__law_deck.nd rfl rfl (sw_true rfl rfl rfl (by decide +kernel)) (pi_list (pv 0)) (blkOk_by (N := N__law_deck) (sc := defScope s__law_deck) (by decide +kernel)) (fun _ _ _ _ _ => (pg_name (i := 2) sc__law_deck.nd rfl (.inl rfl))) (fun _ _ _ _ _ => pts_nil) (fun _ _ _ _ _ => (pe_callB call_abs (by rfl) T.b_abs PyProof.Rows.boot_abs (pa_cons (pv 2) pa_nil))))
        (pss_one (ps_ret (pe_lst (pa_cons (pe_lc (own := [("_law_cell", 2)]) rfl sc__law_deck.nd (pi_list (pv 1)) (blkOk_by (N := N__law_deck) (sc := defScope s__law_deck) (by decide +kernel)) (fun _ _ _ _ _ => (pg_name (i := 2) sc__law_deck.nd rfl (.inl rfl))) (fun _ _ _ _ _ => (pts_one (pt_cmpR op_ge (pv 2) (pe_op op_pow pe_int pe_int) (nomark _)))) (fun _ _ _ _ _ => (pv 2))) (pa_cons (pe_op op_cat (pv 1) (pe_lst (pa_cons (pe_op op_add (pe_callB call_len_seq (by rfl) T.b_len PySem.boot_len (pa_cons (pv 1) pa_nil)) pe_int) pa_nil))) (pa_cons pe_int pa_nil))))))), ?_⟩
    -- cells = [abs(cell) for cell in script]
    refine ⟨.ref a, rfl, a, rfl, ⟨_, hS⟩, fun D hD => lc_list (xs := ns.map V.int) (fun i H' => Same H H' ∧ ∃ cs : List Int, cs.length = i ∧ H' D = some (.lst (cs.map V.int))) ⟨same_upd hD, [], rfl, upd_same⟩ (fun i H' _ h => h.1.seq hS) ?_ ?_⟩
    · rintro i x H' hi ⟨s1, cs, hc, hDs⟩
      obtain ⟨u, rfl⟩ := int_of_map hi
      have hi63 : i < ns.length := by
        have q := (List.getElem?_eq_some_iff.mp hi).1
        rw [List.length_map] at q
        exact q
      refine ⟨rfl, .int u, rfl, u, rfl, cs.map V.int, hDs, by rw [List.length_map]; exact small1000 (by omega), ?_⟩
      refine ⟨fun b o e => ?_, cs ++ [if u < 0 then -u else u], by rw [List.length_append, hc]; rfl, by rw [upd_same, List.map_append]; rfl⟩
      rw [upd_ne (ne_of_none e hD)]
      exact s1 _ _ e
    · rintro H1 ⟨s1, cs, hc, hDs⟩
      rw [List.length_map] at hc
      -- the great ones
      refine ⟨.ref D, rfl, D, rfl, ⟨_, .inl (.inl hDs)⟩, fun G hG => lc_list (xs := cs.map V.int) (fun i H' => Same H1 H' ∧ ∃ gs : List Int, gs.length ≤ i ∧ H' G = some (.lst (gs.map V.int))) ⟨same_upd hG, [], Nat.le_refl _, upd_same⟩ (fun i H' _ h => h.1.seq (.inl (.inl hDs))) ?_ ?_⟩
      · rintro i x H' hi ⟨s2, gs, hg, hGs⟩
        obtain ⟨u, rfl⟩ := int_of_map hi
        have hi63 : i < cs.length := by
          have q := (List.getElem?_eq_some_iff.mp hi).1
          rw [List.length_map] at q
          exact q
        refine ⟨rfl, .int u, rfl, _, _, rfl, rfl, ⟨by decide, by decide, by decide⟩, u, _, rfl, rfl, _, rfl, ite2 (fun _ => ?_) (fun _ => ?_)⟩
        · refine ⟨.int u, rfl, gs.map V.int, hGs, by rw [List.length_map]; exact small1000 (by omega), fun b o e => ?_, gs ++ [u], ?_, by rw [upd_same, List.map_append]; rfl⟩
          · rw [upd_ne (ne_of_none e hG)]
            exact s2 _ _ e
          · rw [List.length_append, List.length_singleton]
            omega
        · exact ⟨s2, gs, by omega, hGs⟩
      · rintro H2 ⟨s2, gs, hg, hGs⟩
        rw [List.length_map] at hg
        have hD2 : H2 D = some (.lst (cs.map V.int)) := s2 _ _ hDs
        -- cells + [len(cells) + 3]
        refine ⟨.ref D, rfl, .ref D, rfl, D, _, rfl, .inl (.inl (.inl hD2)), _, _, rfl, rfl, (by show 1 ≤ sizeLine; decide), fun p hp => ?_⟩
        have npD : D ≠ p := ne_of_none hD2 hp
        have npG : G ≠ p := ne_of_none hGs hp
        refine ⟨D, p, cs.map V.int, _, rfl, rfl, by rw [upd_ne npD]; exact hD2, upd_same, ?_, fun c hc' => ?_⟩
        · rw [List.length_map]
          exact Nat.le_of_lt (small1000 (by show cs.length + 1 ≤ 1000; omega))
        · have ncp : c ≠ p := fun e => by
            rw [e, upd_same] at hc'
            cases hc'
          have hc2 : H2 c = none := by
            rw [upd_ne ncp] at hc'
            exact hc'
          have ncG : G ≠ c := ne_of_none hGs hc2
          refine ⟨(by show 3 ≤ sizeLine; decide), fun d hd => ?_⟩
          have ndc : d ≠ c := fun e => by
            rw [e, upd_same] at hd
            cases hd
          rw [upd_ne ndc] at hd
          have ndp : d ≠ p := fun e => by
            rw [e, upd_same] at hd
            cases hd
          rw [upd_ne ndp] at hd
          have ndG : G ≠ d := ne_of_none hGs hd
          have s3 : Same H H2 := s1.trans s2
          refine k d G c _ (fun b o e => ?_) (s3.free hd) (s1.free hG) (s3.free hc2) ⟨⟨gs, cs ++ [((cs.length : Nat) : Int) + 3], 0, upd_same, ?_, ?_, ?_, ?_, by decide, by decide⟩, ndG.symm, ndc, ncG⟩
          · have e2 := s3 _ _ e
            rw [upd_ne (ne_of_none e2 hd), upd_ne (ne_of_none e2 hc2), upd_ne (ne_of_none e2 hp)]
            exact e2
          · rw [upd_ne ndG, upd_ne ncG, upd_ne npG]
            exact hGs
          · rw [upd_ne ndc.symm, upd_same, List.map_append, List.length_map]
            rfl
          · rw [List.length_append]
            show 0 < cs.length + 1
            omega
          · rw [List.length_append]
            show cs.length + 1 ≤ 100
            omega
def spNext : Sp := fun vs H Q _ => ∃ (d g c : Addr) (k m : Int), vs = [.ref d, .int m] ∧ 0 < m ∧ m < 1208925819614629174706176 ∧ Dk d g c k H ∧ k ≤ 1000000000 ∧
  ∀ (r : Int) (H' : Hp), 0 ≤ r → r < m → Dk d g c (k + 1) H' → Fr d g H H' → Q (.int r) H'
def lenAt (g : Addr) (H : Hp) : Nat := match H g with
  | some (.lst xs) => xs.length
  | _ => 0
theorem lenAt_of {g : Addr} {H : Hp} {xs : List V} (h : H g = some (.lst xs)) : lenAt g H = xs.length := by
  unfold lenAt
  rw [h]
theorem ok__law_next (T : Tx K mg A) : FnOk P w K mg base CX0 1 A.f__law_next A.d__law_next ["_law_deck_here", "_law_many"] spNext := by
  refine T.d__law_next.F.ok sc__law_next (fun vs H Q E h => ?_) (fun cdv A outer s H vs Q E hr h => ?_)
  · obtain ⟨d, g, c, k, m, rfl, _⟩ := h
    rfl
  · obtain ⟨d, g, c, k, m, rfl, hm, hm2, D0, hk, q⟩ := h
    have hW : m.natAbs < 2 ^ 80 := by
      show m.natAbs < 1208925819614629174706176
      omega
    refine ⟨_, (pss_cons (ps_while PassesOwn.never (pt_cmpR (op_neD hr.units) (pe_ix ix_list (pv 0) pe_int (fun _ _ => rfl)) (pe_lst pa_nil) (nomark _))
        (pss_cons (ps_set (i := 4) sc__law_next.nd rfl (.inl rfl) (pe_ix ix_list (pe_ix ix_list (pv 0) pe_int (fun _ _ => rfl)) pe_int (fun _ _ => rfl)))
        (pss_cons (ps_if (pt_cmpR op_gt (pv 4) pe_int (nomark _))
        (pss_cons (ps_asg (pe_op op_fdivW (pv 4) (pv 1)) (pg_sub (pe_ix ix_list (pv 0) pe_int (fun _ _ => rfl)) pe_int set_list))
        (pss_one (ps_ret (pe_op op_mod (pv 4) (pv 1)))))
        pss_nil)
        (pss_one (ps_expr (pe_bm PySem.F.plainAttrs_list PySem.F.slot_list_pop PySem.F.type_list_pop mt_popAt (pe_ix ix_list (pv 0) pe_int (fun _ _ => rfl)) (pa_cons pe_int pa_nil)))))))
        (pss_cons (ps_asg (pe_op op_add (pe_ix ix_list (pv 0) pe_int (fun _ _ => rfl)) pe_int) (pg_sub (pv 0) pe_int set_list))
        (pss_cons (ps_set (i := 2) sc__law_next.nd rfl (.inl rfl) (pe_op op_mod (pe_ix ix_list (pe_ix ix_list (pv 0) pe_int (fun _ _ => rfl)) (pe_op op_mod (pe_ix ix_list (pv 0) pe_int (fun _ _ => rfl)) (pe_callB call_len_seq (by rfl) T.b_len PySem.boot_len (pa_cons (pe_ix ix_list (pv 0) pe_int (fun _ _ => rfl)) pa_nil))) (fun _ _ => rfl)) pe_int))
        (pss_cons (ps_set (i := 3) sc__law_next.nd rfl (.inl rfl) (pe_op op_add (pe_op op_add (pe_op op_mul (pv 2) (pe_op op_add pe_int (pe_op op_mul pe_int (pe_ix ix_list (pv 0) pe_int (fun _ _ => rfl))))) (pe_op op_mul (pe_op op_mul pe_int (pe_ix ix_list (pv 0) pe_int (fun _ _ => rfl))) (pe_ix ix_list (pv 0) pe_int (fun _ _ => rfl)))) pe_int))
        (pss_cons (ps_set (i := 3) sc__law_next.nd rfl (.inl rfl) (pe_op op_mod (pv 3) pe_int))
        (pss_one (ps_ret (pe_op op_mod (pe_op op_fdivW (pe_op op_mod (pe_op op_mul (pv 3) (pv 3)) pe_int) pe_int) (pv 1))))))))), ?_⟩
    refine while_by (fun σ H' => ∃ v2 v3 v4, σ = [some (.ref d), some (.int m), v2, v3, v4] ∧ Dk d g c k H' ∧ Fr d g H H') (fun _ H' => lenAt g H') ⟨none, none, none, rfl, D0, Fr.refl _ _ _⟩ ?_ ?_
    · rintro σ H1 ⟨v2, v3, v4, rfl, D1, f1⟩
      obtain ⟨gs, cs, n, h1, h2, h3, h4, h5, h6, h7⟩ := D1.ex
      refine ⟨.ref d, rfl, d, _, 0, .ref g, rfl, rfl, SqL.of h1, atI_zero, Nat.zero_le _, fun p hp => ?_⟩
      obtain ⟨npd, npg, npc⟩ := D1.nd hp
      have k1 : upd H1 p (.lst []) d = some (.lst [.ref g, .ref c, .int n]) := by
        rw [upd_ne npd.symm]
        exact h1
      have k2 : upd H1 p (.lst []) g = some (.lst (gs.map V.int)) := by
        rw [upd_ne npg.symm]
        exact h2
      have k3 : upd H1 p (.lst []) c = some (.lst (cs.map V.int)) := by
        rw [upd_ne npc.symm]
        exact h3
      have f2 : Fr d g H (upd H1 p (.lst [])) := f1.trans (.new hp)
      have eL : lenAt g H1 = gs.length := by rw [lenAt_of h2, List.length_map]
      have k4 : upd H1 p (.lst []) p = some (.lst []) := upd_same
      generalize upd H1 p (.lst []) = H2 at k1 k2 k3 k4 f2 ⊢
      refine ⟨.list (gs.map PyData.int), .list ([].map PyData.int), .lst (SqL.of k2) (dp_ints gs), .lst (SqL.of k4) .nil, sh_ints gs, sh_ints [], _, rfl, ?_⟩
      cases gs with
      | cons x r =>
        -- rest = deck[0][0]
        refine ⟨.ref d, rfl, d, _, 0, _, rfl, rfl, SqL.of k1, atI_zero, g, _, 0, _, rfl, rfl, SqL.of k2, atI_zero, ?_⟩
        refine ⟨.int x, rfl, x, 0, rfl, rfl, _, rfl, ite2 (fun _ => ?_) (fun _ => ?_)⟩
        · -- deck[0][0] = rest // many; return rest % many
          refine ⟨.int x, rfl, .int m, rfl, x, m, rfl, rfl, wide_div hm hW (by decide) (by decide), .ref d, rfl, d, _, 0, _, rfl, rfl, SqL.of k1, atI_zero, g, _, 0, 0, rfl, rfl, k2, ixN_zero (by simp), ?_⟩
          refine ⟨.int x, rfl, .int m, rfl, x, m, rfl, rfl, hm, ?_⟩
          refine q _ _ (Int.emod_nonneg _ (by omega)) (Int.emod_lt_of_pos _ hm) ⟨⟨(x / m) :: r, cs, n, ?_, ?_, ?_, h4, h5, h6, by omega⟩, D1.dg, D1.dc, D1.gc⟩ (f2.trans .atg)
          · rw [upd_ne D1.dg]
            exact k1
          · rw [upd_same]
            rfl
          · rw [upd_ne D1.gc.symm]
            exact k3
        · -- deck[0].pop(0)
          refine ⟨.ref d, rfl, d, _, 0, _, rfl, rfl, SqL.of k1, atI_zero, .inl ⟨rfl, _, SqL.of k2⟩, g, _, 0, 0, .int x, rfl, rfl, k2, by decide, by decide, ixN_seq0 (by simp), rfl, ?_⟩
          refine ⟨⟨_, _, _, rfl, ⟨⟨r, cs, n, ?_, ?_, ?_, h4, h5, h6, h7⟩, D1.dg, D1.dc, D1.gc⟩, f2.trans .atg⟩, ?_⟩
          · rw [upd_ne D1.dg]
            exact k1
          · rw [upd_same]
            rfl
          · rw [upd_ne D1.gc.symm]
            exact k3
          · show lenAt g (upd H2 g _) < lenAt g H1
            rw [eL, lenAt_of upd_same]
            show (r.map V.int).length < r.length + 1
            rw [List.length_map]
            omega
      | nil =>
        -- deck[2] = deck[2] + 1
        refine ⟨.ref d, rfl, d, _, 2, _, rfl, rfl, SqL.of k1, atI_nat (j := 2) rfl, n, 1, rfl, rfl, .ref d, rfl, d, _, 2, 2, rfl, rfl, k1, rfl, ?_⟩
        have j1 : upd H2 d (.lst ([V.ref g, V.ref c, V.int n].set 2 (V.int (n + 1)))) d = some (.lst [.ref g, .ref c, .int (n + 1)]) := upd_same
        have j2 : upd H2 d (.lst ([V.ref g, V.ref c, V.int n].set 2 (V.int (n + 1)))) g = some (.lst []) := by
          rw [upd_ne D1.dg.symm]
          exact k2
        have j3 : upd H2 d (.lst ([V.ref g, V.ref c, V.int n].set 2 (V.int (n + 1)))) c = some (.lst (cs.map V.int)) := by
          rw [upd_ne D1.dc.symm]
          exact k3
        have f3 : Fr d g H (upd H2 d (.lst ([V.ref g, V.ref c, V.int n].set 2 (V.int (n + 1))))) := f2.trans .atd
        generalize upd H2 d (.lst ([V.ref g, V.ref c, V.int n].set 2 (V.int (n + 1)))) = H3 at j1 j2 j3 f3 ⊢
        have hl : (0 : Int) < (cs.map V.int).length := by
          rw [List.length_map]
          omega
        obtain ⟨v, hv⟩ := ints_at (cs := cs) (i := (n + 1) % ((cs.map V.int).length : Int)) (Int.emod_nonneg _ (by omega)) (by
          have z := Int.emod_lt_of_pos (n + 1) hl
          rw [List.length_map] at z ⊢
          exact z)
        -- the cell
        refine ⟨.ref d, rfl, d, _, 1, _, rfl, rfl, SqL.of j1, atI_nat (j := 1) rfl, .ref d, rfl, d, _, 2, _, rfl, rfl, SqL.of j1, atI_nat (j := 2) rfl, .ref d, rfl, d, _, 1, _, rfl, rfl, SqL.of j1, atI_nat (j := 1) rfl, c, _, rfl, .inl (SqL.of j3), n + 1, _, rfl, rfl, hl, c, _, _, .int v, rfl, rfl, SqL.of j3, hv, v, 2147483647, rfl, rfl, (by show (0 : Int) < 2147483647; decide), ?_⟩
        have q0 : 0 ≤ v % 2147483647 := Int.emod_nonneg _ (by decide)
        have q1 : v % 2147483647 < 2147483647 := Int.emod_lt_of_pos _ (by decide)
        refine ⟨.int (v % 2147483647), rfl, .ref d, rfl, d, _, 2, _, rfl, rfl, SqL.of j1, atI_nat (j := 2) rfl, 69621, n + 1, rfl, rfl, .inl ⟨by decide, by decide⟩, 48271, _, rfl, rfl, v % 2147483647, _, rfl, rfl, .inl ⟨by omega, by omega⟩,
          .ref d, rfl, d, _, 2, _, rfl, rfl, SqL.of j1, atI_nat (j := 2) rfl, 40692, n + 1, rfl, rfl, .inl ⟨by decide, by decide⟩, .ref d, rfl, d, _, 2, _, rfl, rfl, SqL.of j1, atI_nat (j := 2) rfl, _, n + 1, rfl, rfl, .inr ⟨by omega, by omega⟩, _, _, rfl, rfl, _, 11, rfl, rfl, ?_⟩
        refine ⟨_, rfl, _, 2147483629, rfl, rfl, (by show (0 : Int) < 2147483629; decide), ?_⟩
        refine ⟨_, rfl, _, rfl, _, _, rfl, rfl, .inl (mod_in (by decide) (by decide)), _, 2147483587, rfl, rfl, (by show (0 : Int) < 2147483587; decide), _, 16, rfl, rfl, wide_div (b := 5) (by decide) (by decide) (by decide) (by decide), .int m, rfl, _, m, rfl, rfl, hm, ?_⟩
        exact q _ _ (Int.emod_nonneg _ (by omega)) (Int.emod_lt_of_pos _ hm) ⟨⟨[], cs, n + 1, j1, j2, j3, h4, h5, by omega, by omega⟩, D1.dg, D1.dc, D1.gc⟩ f3
    · rintro σ H1 Q1 Q2 hq ⟨v, e, p, xs, i, v', e1, e2, hs, ha, hz, f⟩
      refine ⟨v, e, p, xs, i, v', e1, e2, hs, ha, hz, fun r hr => ?_⟩
      obtain ⟨d1, d2, a1, a2, a3, a4, kk, ek, qk⟩ := f r hr
      exact ⟨d1, d2, a1, a2, a3, a4, kk, ek, hq _ _ qk⟩
/-! ### the program -/
def spInv : Sp := fun vs H Q _ => ∃ (p n : Int), vs = [.int p, .int n] ∧ 2 ≤ p ∧ p ≤ 13 ∧ 0 ≤ n ∧ n < p ∧ Q (.int (pw p n (p - 2).toNat)) H
theorem ok_inverse (T : Tx K mg A) : FnOk P w K mg base CX0 1 A.f_inverse A.d_inverse ["p", "number"] spInv := by
  refine T.d_inverse.F.ok sc_inverse (fun vs H Q E h => ?_) (fun cdv A outer s H vs Q E hr h => ?_)
  · obtain ⟨p, n, rfl, _⟩ := h
    rfl
  · obtain ⟨p, n, rfl, h2, h13, h0, hn, q⟩ := h
    refine ⟨_, (pss_cons (ps_set (i := 2) sc_inverse.nd rfl (.inl rfl) pe_int)
        (pss_cons (ps_for PassesOwn.never rfl (pi_range1 (by rfl) T.b_range (pa_cons (pe_op op_sub (pv 0) pe_int) pa_nil)) (pg_name (i := 3) sc_inverse.nd rfl (.inl rfl))
        (pss_one (ps_set (i := 2) sc_inverse.nd rfl (.inl rfl) (pe_op op_mod (pe_op op_mul (pv 2) (pv 1)) (pv 0)))))
        (pss_one (ps_ret (pv 2))))), ?_⟩
    refine ⟨.int p, rfl, p, 2, rfl, rfl, p - 2, rfl, by omega, by omega, for_range (fun i σ H' => ∃ v, σ = [some (.int p), some (.int n), some (.int (pw p n i)), v] ∧ H' = H) ⟨none, rfl, rfl⟩ ?_ ?_⟩
    · rintro i σ H' hi ⟨v, rfl, rfl⟩
      exact ⟨.int (pw p n i), rfl, .int n, rfl, _, n, rfl, rfl, .inr ⟨by omega, by omega⟩, .int p, rfl, _, p, rfl, rfl, (by show 0 < p; omega), _, rfl, rfl⟩
    · rintro σ H' ⟨v, rfl, rfl⟩
      exact ⟨_, rfl, q⟩
def spChosen : Sp := fun vs H Q _ => ∃ (p m n : Int), vs = [.int p, .int m, .int n] ∧ 2 ≤ p ∧ p ≤ 13 ∧ 0 ≤ m ∧ m ≤ 20 ∧ ∀ (q : Addr) (H' : Hp), Same H H' → H q = none → H' q = some (.tup ((ds p n m.toNat).reverse.map V.int)) → Q (.ref q) H'
theorem ok_chosen (T : Tx K mg A) : FnOk P w K mg base CX0 1 A.f_chosen A.d_chosen ["p", "many", "number"] spChosen := by
  refine T.d_chosen.F.ok sc_chosen (fun vs H Q E h => ?_) (fun cdv A outer s H vs Q E hr h => ?_)
  · obtain ⟨p, m, n, rfl, _⟩ := h
    rfl
  · obtain ⟨p, m, n, rfl, h2, h13, h0, h20, q⟩ := h
    refine ⟨_, (pss_cons (ps_set (i := 3) sc_chosen.nd rfl (.inl rfl) (pe_lst pa_nil))
        (pss_cons (ps_for PassesOwn.never rfl (pi_range1 (by rfl) T.b_range (pa_cons (pv 1) pa_nil)) (pg_name (i := 4) sc_chosen.nd rfl (.inl rfl))
        (pss_cons (ps_expr (pe_bm PySem.F.plainAttrs_list PySem.F.slot_list_append PySem.F.type_list_append mt_append (pv 3) (pa_cons (pe_op op_mod (pv 2) (pv 0)) pa_nil)))
        (pss_one (ps_aug (i := 2) sc_chosen.nd rfl (.inl rfl) (pv 0) iop_fdivW))))
        (pss_one (ps_ret (RT.pe_tupRev rfl (by rfl) T.b_tuple (by rfl) T.b_reversed (pv 3)))))), ?_⟩
    refine ⟨Nat.zero_le _, fun l hl => ?_⟩
    refine ⟨.int m, rfl, m, rfl, by omega, by omega, for_range (fun i σ H' => ∃ v, σ = [some (.int p), some (.int m), some (.int (qt p n i)), some (.ref l), v] ∧ Same H H' ∧ H' l = some (.lst ((ds p n i).map V.int))) ⟨none, rfl, same_upd hl, upd_same⟩ ?_ ?_⟩
    · rintro i σ H' hi ⟨v, rfl, s1, hL⟩
      refine ⟨.ref l, rfl, .inl ⟨rfl, _, SqL.of hL⟩, .int (qt p n i), rfl, .int p, rfl, _, p, rfl, rfl, (by show 0 < p; omega), l, _, _, rfl, rfl, hL, ?_, ?_⟩
      · rw [List.length_map, ds_len]
        exact small1000 (by omega)
      · refine ⟨.int (qt p n i), rfl, .int p, rfl, _, p, rfl, rfl, wide_div (b := 5) (by omega) (by omega) (by decide) (by decide), _, rfl, fun b o e => ?_, ?_⟩
        · rw [upd_ne (ne_of_none e hl)]
          exact s1 _ _ e
        · rw [upd_same]
          show some (HO.lst (_ ++ [V.int _])) = some (HO.lst ((ds p n i ++ [qt p n i % p]).map V.int))
          rw [List.map_append]
          rfl
    · rintro σ H' ⟨v, rfl, s1, hL⟩
      refine ⟨.ref l, rfl, l, _, rfl, SqL.of hL, fun r hr => ?_⟩
      refine q r _ (fun b o e => ?_) (s1.free hr) ?_
      · have e2 := s1 _ _ e
        rw [upd_ne (ne_of_none e2 hr)]
        exact e2
      · rw [upd_same, List.map_reverse]
/-! ### the law's own -/
def spIsWhole (K : PySem.W.Frag) : Sp := fun vs H Q _ => ∃ (x : V) (t : String), vs = [x] ∧ TyB1 K H x t ∧ Q (.bl (isB t "int" && !isB t "bool")) H
theorem ok__law_is_whole (T : Tx K mg A) : FnOk P w K mg base CX0 1 A.f__law_is_whole A.d__law_is_whole ["_law_thing"] (spIsWhole K) := by
  refine T.d__law_is_whole.F.ok sc__law_is_whole (fun vs H Q E h => ?_) (fun cdv A outer s H vs Q E hr h => ?_)
  · obtain ⟨x, t, rfl, _⟩ := h
    rfl
  · obtain ⟨x, t, rfl, ⟨ty, ht⟩, q⟩ := h
    refine ⟨_, (pss_one (ps_ret (pe_and (pe_callB call_isi (by rfl) T.b_isinstance PyProof.Rows.boot_isinstance (pa_cons (pv 0) (pa_cons (pe_bltn (v := .ty "int") (by rfl) T.b_int PyProof.Rows.boot_int rfl) pa_nil))) (pe_one (pe_not (pe_callB call_isi (by rfl) T.b_isinstance PyProof.Rows.boot_isinstance (pa_cons (pv 0) (pa_cons (pe_bltn (v := .ty "bool") (by rfl) T.b_bool PyProof.Rows.boot_bool rfl) pa_nil)))))))), ?_⟩
    refine ⟨x, rfl, x, _, _, _, _, rfl, .ty "int", ty, isi_of "int" ht (.inl rfl), _, rfl, ite2 (fun e => ?_) (fun e => ?_)⟩
    · refine ⟨x, rfl, x, _, _, _, _, rfl, .ty "bool", ty, isi_of "bool" ht (.inr (.inl rfl)), _, rfl, ?_⟩
      rw [e] at q
      exact q
    · have e2 : isB t "int" = false := Bool.eq_false_iff.mpr e
      rw [e2] at q
      exact q
def spPower : Sp := fun vs H Q _ => ∃ (p m : Int), vs = [.int p, .int m] ∧ 2 ≤ p ∧ p ≤ 13 ∧ 0 ≤ m ∧ m ≤ 20 ∧ Q (.int (pwr p m.toNat)) H
theorem ok__law_power (T : Tx K mg A) : FnOk P w K mg base CX0 1 A.f__law_power A.d__law_power ["_law_p", "_law_many"] spPower := by
  refine T.d__law_power.F.ok sc__law_power (fun vs H Q E h => ?_) (fun cdv A outer s H vs Q E hr h => ?_)
  · obtain ⟨p, m, rfl, _⟩ := h
    rfl
  · obtain ⟨p, m, rfl, h2, h13, h0, hn, q⟩ := h
    refine ⟨_, (pss_cons (ps_set (i := 2) sc__law_power.nd rfl (.inl rfl) pe_int)
        (pss_cons (ps_for PassesOwn.never rfl (pi_range1 (by rfl) T.b_range (pa_cons (pv 1) pa_nil)) (pg_name (i := 3) sc__law_power.nd rfl (.inl rfl))
        (pss_one (ps_set (i := 2) sc__law_power.nd rfl (.inl rfl) (pe_op op_mul (pv 2) (pv 0)))))
        (pss_one (ps_ret (pv 2))))), ?_⟩
    refine ⟨.int m, rfl, m, rfl, by omega, by omega, for_range (fun i σ H' => ∃ v, σ = [some (.int p), some (.int m), some (.int (pwr p i)), v] ∧ H' = H) ⟨none, rfl, rfl⟩ ?_ ?_⟩
    · rintro i σ H' hi ⟨v, rfl, rfl⟩
      exact ⟨.int (pwr p i), rfl, .int p, rfl, _, p, rfl, rfl, .inr ⟨by omega, by omega⟩, _, rfl, rfl⟩
    · rintro σ H' ⟨v, rfl, rfl⟩
      exact ⟨_, rfl, q⟩
def spFig : Sp := fun vs H Q _ => ∃ (p m n : Int), vs = [.int p, .int m, .int n] ∧ 2 ≤ p ∧ p ≤ 13 ∧ 0 ≤ m ∧ m ≤ 20 ∧ 0 ≤ n ∧ n < pwr p m.toNat ∧ ∀ H', Same H H' → Q (.bl true) H'
theorem ok__law_figures_right (T : Tx K mg A) : FnOk P w K mg base CX0 2 A.f__law_figures_right A.d__law_figures_right ["_law_p", "_law_many", "_law_number"] spFig := by
  have G_chosen : FnOk P w K mg base CX0 1 A.f_chosen A.d_chosen ["p", "many", "number"] spChosen := ok_chosen T
  have G__law_is_whole : FnOk P w K mg base CX0 1 A.f__law_is_whole A.d__law_is_whole ["_law_thing"] (spIsWhole K) := ok__law_is_whole T
  refine T.d__law_figures_right.F.ok sc__law_figures_right (fun vs H Q E h => ?_) (fun cdv A outer s H vs Q E hr h => ?_)
  · obtain ⟨p, m, n, rfl, _⟩ := h
    rfl
  · obtain ⟨p, m, n, rfl, h2, h13, h0, h20, hn0, hn1, q⟩ := h
    refine ⟨_, (pss_cons (ps_set (i := 3) sc__law_figures_right.nd rfl (.inl rfl) (pe_call G_chosen hr (by rfl) T.d_chosen.g T.d_chosen.F.kp T.d_chosen.b .nil pass0 (pa_cons (pv 0) (pa_cons (pv 1) (pa_cons (pv 2) pa_nil)))))
        (pss_cons (ps_if (PW.pt (pw_or (pt_not (pt_val (pe_callB call_isi (by rfl) T.b_isinstance PyProof.Rows.boot_isinstance (pa_cons (pv 3) (pa_cons (pe_bltn (v := .ty "tuple") (by rfl) T.b_tuple PyProof.Rows.boot_tuple rfl) pa_nil))))) (pw_or1 (pt_cmpR op_ne (pe_callB call_len_seq (by rfl) T.b_len PySem.boot_len (pa_cons (pv 3) pa_nil)) (pv 1) (nomark _)))))
        (pss_one (ps_ret pe_bl))
        pss_nil)
        (pss_cons (ps_set (i := 4) sc__law_figures_right.nd rfl (.inl rfl) pe_int)
        (pss_cons (ps_for PassesOwn.never rfl (pi_tup (pv 3)) (pg_name (i := 5) sc__law_figures_right.nd rfl (.inl rfl))
        (pss_cons (ps_if (PW.pt (pw_or (pt_not (pt_val (pe_call G__law_is_whole hr (by rfl) T.d__law_is_whole.g T.d__law_is_whole.F.kp T.d__law_is_whole.b .nil pass0 (pa_cons (pv 5) pa_nil)))) (pw_or1 (pt_not (pt_chain op_le op_lt pe_int (pv 5) (pv 0))))))
        (pss_one (ps_ret pe_bl))
        pss_nil)
        (pss_one (ps_set (i := 4) sc__law_figures_right.nd rfl (.inl rfl) (pe_op op_add (pe_op op_mul (pv 4) (pv 0)) (pv 5))))))
        (pss_one (ps_ret (pe_cmpR op_eq (pv 4) (pv 2) (nomark _)))))))), ?_⟩
    refine ⟨.int p, rfl, .int m, rfl, .int n, rfl, p, m, n, rfl, h2, h13, h0, h20, fun t H1 s1 nt ht => ?_⟩
    have hl : (((ds p n m.toNat).reverse.map V.int).length : Int) = m := by
      rw [List.length_map, List.length_reverse, ds_len]
      omega
    refine ⟨.ref t, rfl, .ref t, _, _, _, _, rfl, .ty "tuple", .base (.tup ht), isi_of "tuple" (by simp) (by simp), _, rfl, ?_⟩
    rw [isB_tt]
    refine ⟨.ref t, rfl, t, _, rfl, .inr (SqT.of ht), .int m, rfl, rfl, _, rfl, ?_⟩
    rw [hl]
    refine iteNS rfl ?_
    refine ⟨.ref t, rfl, t, rfl, ⟨_, SqT.of ht⟩, ?_⟩
    have hz := qt_zero h2 m.toNat n hn0 hn1
    refine for_tup (xs := (ds p n m.toNat).reverse.map V.int) (fun i σ H' => ∃ v, σ = [some (.int p), some (.int m), some (.int n), some (.ref t), some (.int (qt p n (m.toNat - i))), v] ∧ H' = H1) ⟨none, by rw [Nat.sub_zero, hz]; rfl, rfl⟩ (fun i σ H' _ h => by obtain ⟨_, _, rfl⟩ := h; exact SqT.of ht) ?_ ?_
    · rintro i x σ H' hi ⟨v, rfl, rfl⟩
      have hlt : i < m.toNat := by
        have z := (List.getElem?_eq_some_iff.mp hi).1
        rw [List.length_map, List.length_reverse, ds_len] at z
        exact z
      have ex : x = V.int (qt p n (m.toNat - 1 - i) % p) := by
        rw [ds_rev p n hlt] at hi
        exact (Option.some.inj hi).symm
      subst ex
      have r0 : 0 ≤ qt p n (m.toNat - 1 - i) % p := Int.emod_nonneg _ (by omega)
      have r1 : qt p n (m.toNat - 1 - i) % p < p := Int.emod_lt_of_pos _ (by omega)
      refine ⟨_, rfl, _, "int", rfl, ⟨.base (.int _), by simp⟩, _, rfl, ?_⟩
      rw [isB_ii, isB_ib]
      refine ⟨_, rfl, 0, _, rfl, rfl, _, rfl, ?_⟩
      rw [decide_eq_true r0]
      refine ⟨.int p, rfl, _, p, rfl, rfl, _, rfl, ?_⟩
      rw [decide_eq_true r1]
      have e3 : qt p n (m.toNat - i) * p + qt p n (m.toNat - 1 - i) % p = qt p n (m.toNat - (i + 1)) := by
        have e1 : m.toNat - i = (m.toNat - 1 - i) + 1 := by omega
        have e2 : m.toNat - (i + 1) = m.toNat - 1 - i := by omega
        rw [e1, e2, qt_step]
      refine ⟨_, rfl, .int p, rfl, _, p, rfl, rfl, .inr ⟨by omega, by omega⟩, _, rfl, _, _, rfl, rfl, some (.int (qt p n (m.toNat - 1 - i) % p)), ?_, rfl⟩
      rw [← e3]
      rfl
    · rintro σ H' ⟨v, rfl, rfl⟩
      refine ⟨_, rfl, _, rfl, rfl, ?_⟩
      rw [List.length_map, List.length_reverse, ds_len, Nat.sub_self]
      show Q (V.bl (decide (V.int n = V.int n))) _
      rw [decide_eq_true rfl]
      exact q _ s1
/-! ### the law -/
def prs : List Int := [2, 3, 5, 7, 11, 13]
theorem prs_in {i : Nat} {y : V} (h : (prs.map V.int)[i]? = some y) : ∃ p, y = V.int p ∧ p ∈ prs := by
  rw [List.getElem?_map] at h
  cases e : prs[i]? with
  | none =>
    rw [e] at h
    cases h
  | some u =>
    rw [e] at h
    exact ⟨u, (Option.some.inj h).symm, List.mem_of_getElem? e⟩
theorem prs_bd : ∀ p ∈ prs, 2 ≤ p ∧ p ≤ 13 := by decide
theorem ok_law (T : Tx K mg A) : FnOk P w K mg base CX0 3 A.f_law A.d_law ["_law_script"] (spLaw K) := by
  have G_inverse : FnOk P w K mg base CX0 1 A.f_inverse A.d_inverse ["p", "number"] spInv := ok_inverse T
  have G__law_deck : FnOk P w K mg base CX0 1 A.f__law_deck A.d__law_deck ["_law_script"] (spDeck K) := ok__law_deck T
  have G__law_next : FnOk P w K mg base CX0 1 A.f__law_next A.d__law_next ["_law_deck_here", "_law_many"] spNext := ok__law_next T
  have G__law_is_whole : FnOk P w K mg base CX0 1 A.f__law_is_whole A.d__law_is_whole ["_law_thing"] (spIsWhole K) := ok__law_is_whole T
  have G__law_power : FnOk P w K mg base CX0 1 A.f__law_power A.d__law_power ["_law_p", "_law_many"] spPower := ok__law_power T
  have G__law_figures_right : FnOk P w K mg base CX0 2 A.f__law_figures_right A.d__law_figures_right ["_law_p", "_law_many", "_law_number"] spFig := ok__law_figures_right T
  refine T.d_law.F.ok sc_law (fun vs H Q E h => ?_) (fun cdv A outer s H vs Q E hr h => ?_)
  · obtain ⟨a, ns, rfl, _⟩ := h
    rfl
  · obtain ⟨a, ns, rfl, hS, hlen, q⟩ := h
    refine ⟨_, (pss_cons (ps_set (i := 1) sc_law.nd rfl (.inl rfl) (pe_call G__law_deck (hr.mono (by decide)) (by rfl) T.d__law_deck.g T.d__law_deck.F.kp T.d__law_deck.b .nil pass0 (pa_cons (pv 0) pa_nil)))
        (pss_cons (ps_for PassesOwn.never rfl (pi_list (pe_lst (pa_cons pe_int (pa_cons pe_int (pa_cons pe_int (pa_cons pe_int (pa_cons pe_int (pa_cons pe_int pa_nil)))))))) (pg_name (i := 2) sc_law.nd rfl (.inl rfl))
        (pss_cons (ps_for PassesOwn.never rfl (pi_range2 (by rfl) T.b_range (pa_cons pe_int (pa_cons (pv 2) pa_nil))) (pg_name (i := 3) sc_law.nd rfl (.inl rfl))
        (pss_cons (ps_set (i := 5) sc_law.nd rfl (.inl rfl) (pe_call G_inverse (hr.mono (by decide)) (by rfl) T.d_inverse.g T.d_inverse.F.kp T.d_inverse.b .nil pass0 (pa_cons (pv 2) (pa_cons (pv 3) pa_nil))))
        (pss_one (ps_if (PW.pt (pw_or (pt_not (pt_val (pe_call G__law_is_whole (hr.mono (by decide)) (by rfl) T.d__law_is_whole.g T.d__law_is_whole.F.kp T.d__law_is_whole.b .nil pass0 (pa_cons (pv 5) pa_nil)))) (pw_or (pt_not (pt_chain op_lt op_lt pe_int (pv 5) (pv 2))) (pw_or1 (pt_cmpR op_ne (pe_op op_mod (pe_op op_mul (pv 5) (pv 3)) (pv 2)) pe_int (nomark _))))))
        (pss_one (ps_ret pe_bl))
        pss_nil))))
        (pss_one (ps_for PassesOwn.never rfl (pi_range1 (by rfl) T.b_range (pa_cons pe_int pa_nil)) (pg_name (i := 4) sc_law.nd rfl (.inl rfl))
        (pss_cons (ps_set (i := 6) sc_law.nd rfl (.inl rfl) (pe_call G__law_next (hr.mono (by decide)) (by rfl) T.d__law_next.g T.d__law_next.F.kp T.d__law_next.b .nil pass0 (pa_cons (pv 1) (pa_cons pe_int pa_nil))))
        (pss_cons (ps_set (i := 7) sc_law.nd rfl (.inl rfl) (pe_call G__law_power (hr.mono (by decide)) (by rfl) T.d__law_power.g T.d__law_power.F.kp T.d__law_power.b .nil pass0 (pa_cons (pv 2) (pa_cons (pv 6) pa_nil))))
        (pss_cons (ps_set (i := 3) sc_law.nd rfl (.inl rfl) (pe_call G__law_next (hr.mono (by decide)) (by rfl) T.d__law_next.g T.d__law_next.F.kp T.d__law_next.b .nil pass0 (pa_cons (pv 1) (pa_cons (pv 7) pa_nil))))
        (pss_one (ps_for PassesOwn.never rfl (pi_list (pe_lst (pa_cons (pv 3) (pa_cons pe_int (pa_cons (pe_op op_sub (pv 7) pe_int) (pa_cons (pe_op op_fdivW (pv 3) (pv 2)) pa_nil)))))) (pg_name (i := 8) sc_law.nd rfl (.inl rfl))
        (pss_one (ps_if (pt_not (pt_val (pe_call G__law_figures_right hr (by rfl) T.d__law_figures_right.g T.d__law_figures_right.F.kp T.d__law_figures_right.b .nil pass0 (pa_cons (pv 2) (pa_cons (pv 6) (pa_cons (pv 8) pa_nil))))))
        (pss_one (ps_ret pe_bl))
        pss_nil)))))))))))
        (pss_one (ps_ret pe_bl)))), ?_⟩
    refine ⟨.ref a, rfl, a, ns, rfl, hS, hlen, fun d g c H0 s0 nd ng nc D0 => ?_⟩
    -- for p in [2, 3, 5, 7, 11, 13]
    refine ⟨(by show 6 ≤ sizeLine; decide), fun L hL => ?_⟩
    have LD := D0.nd hL
    refine ⟨L, rfl, ⟨_, SqL.of upd_same⟩, for_list (xs := prs.map V.int) (fun i σ H' => ∃ v2 v3 v4 v5 v6 v7 v8, σ = [some (.ref a), some (.ref d), v2, v3, v4, v5, v6, v7, v8] ∧ Dk d g c (8 * i) H' ∧ H' L = some (.lst (prs.map V.int)))
      ⟨_, _, _, _, _, _, _, rfl, (D0.same (same_upd hL)).mono (by omega), upd_same⟩ (fun i σ H' _ h => by obtain ⟨_, _, _, _, _, _, _, _, _, h⟩ := h; exact SqL.of h) ?_ ?_⟩
    · rintro i x σ H1 hi ⟨v2, v3, v4, v5, v6, v7, v8, rfl, D1, hL1⟩
      obtain ⟨p, rfl, hp⟩ := prs_in hi
      obtain ⟨p2, p13⟩ := prs_bd p hp
      have hi6 : i < 6 := by
        have z := (List.getElem?_eq_some_iff.mp hi).1
        rw [List.length_map] at z
        exact z
      -- for number in range(1, p)
      refine ⟨.int p, rfl, 1, p, rfl, ⟨by omega, by omega, by omega, by omega⟩, for_range (fun j σ H' => ∃ v3 v5, σ = [some (.ref a), some (.ref d), some (.int p), v3, v4, v5, v6, v7, v8] ∧ H' = H1) ⟨_, _, rfl, rfl⟩ ?_ ?_⟩
      · rintro j σ H' hj ⟨v3, v5, rfl, rfl⟩
        obtain ⟨w0, w1, w2⟩ := pw_ok p hp j (List.mem_range.mpr (by omega)) (by omega)
        refine ⟨.int p, rfl, .int (1 + (j : Nat)), rfl, p, 1 + (j : Nat), rfl, p2, p13, by omega, by omega, ?_⟩
        refine ⟨_, rfl, _, "int", rfl, ⟨.base (.int _), by simp⟩, _, rfl, ?_⟩
        rw [isB_ii, isB_ib]
        refine ⟨_, rfl, 0, _, rfl, rfl, _, rfl, ?_⟩
        rw [decide_eq_true w0]
        refine ⟨.int p, rfl, _, p, rfl, rfl, _, rfl, ?_⟩
        rw [decide_eq_true w1]
        refine ⟨_, rfl, _, rfl, _, _, rfl, rfl, .inl ⟨by omega, by omega⟩, .int p, rfl, _, p, rfl, rfl, (by show 0 < p; omega), rfl, false, nb_f (congrArg V.int w2), _, _, rfl, rfl⟩
      · rintro σ H' ⟨v3, v5, rfl, rfl⟩
        -- for turn in range(4)
        refine ⟨4, rfl, by decide, by decide, for_range (n := 4) (fun j σ H' => ∃ v3 v4 v6 v7 v8, σ = [some (.ref a), some (.ref d), some (.int p), v3, v4, v5, v6, v7, v8] ∧ Dk d g c (8 * i + 2 * j) H' ∧ H' L = some (.lst (prs.map V.int))) ⟨_, _, _, _, _, rfl, D1.mono (by omega), hL1⟩ ?_ ?_⟩
        · rintro j σ H2 hj ⟨v3, v4, v6, v7, v8, rfl, D2, hL2⟩
          refine ⟨.ref d, rfl, d, g, c, _, 21, rfl, by decide, by decide, D2, by omega, fun m H3 m0 m1 D3 f3 => ?_⟩
          refine ⟨.int p, rfl, .int m, rfl, p, m, rfl, p2, p13, m0, by omega, ?_⟩
          obtain ⟨y0, y1⟩ := pwr_ok p hp m.toNat (List.mem_range.mpr (by omega))
          refine ⟨.ref d, rfl, .int _, rfl, d, g, c, _, pwr p m.toNat, rfl, y0, y1, D3, by omega, fun n H4 n0 n1 D4 f4 => ?_⟩
          have hL4 : H4 L = some (.lst (prs.map V.int)) := (f3.trans f4) L _ LD.1 LD.2.1 hL2
          refine ⟨.int n, rfl, .int _, rfl, _, 1, rfl, rfl, .int n, rfl, .int p, rfl, n, p, rfl, rfl, wide_div (b := 5) (by omega) (by omega) (by decide) (by decide), (by show 4 ≤ sizeLine; decide), fun M hM => ?_⟩
          have hLM : L ≠ M := ne_of_none hL4 hM
          refine ⟨M, rfl, ⟨_, SqL.of upd_same⟩, for_list (xs := [n, 0, pwr p m.toNat - 1, n / p].map V.int) (fun k σ H' => ∃ v8, σ = [some (.ref a), some (.ref d), some (.int p), some (.int n), some (.int (0 + (j : Nat))), v5, some (.int m), some (.int (pwr p m.toNat)), v8] ∧ Same (upd H4 M (.lst ([n, 0, pwr p m.toNat - 1, n / p].map V.int))) H') ⟨_, rfl, Same.refl _⟩ (fun k σ H' _ h => by obtain ⟨_, _, h⟩ := h; exact SqL.of (h _ _ upd_same)) ?_ ?_⟩
          · rintro k x σ H' hk ⟨v8, rfl, s5⟩
            obtain ⟨u, rfl, u0, u1⟩ : ∃ u, x = V.int u ∧ 0 ≤ u ∧ u < pwr p m.toNat := by
              rw [List.getElem?_map] at hk
              have hd0 : 0 ≤ n / p := Int.ediv_nonneg n0 (by omega)
              have hd1 : n / p ≤ n := Int.ediv_le_self _ n0
              match k, hk with
              | 0, hk => exact ⟨_, (Option.some.inj hk).symm, n0, n1⟩
              | 1, hk => exact ⟨_, (Option.some.inj hk).symm, by omega, y0⟩
              | 2, hk => exact ⟨_, (Option.some.inj hk).symm, by omega, by omega⟩
              | 3, hk => exact ⟨_, (Option.some.inj hk).symm, by omega, by omega⟩
              | k + 4, hk => cases hk
            refine ⟨.int p, rfl, .int m, rfl, .int u, rfl, p, m, u, rfl, p2, p13, m0, by omega, u0, u1, fun H6 s6 => ?_⟩
            exact ⟨_, rfl, _, rfl, s5.trans s6⟩
          · rintro σ H' ⟨v8, rfl, s5⟩
            have s7 : Same H4 H' := (same_upd hM).trans s5
            exact ⟨_, _, _, _, _, rfl, (D4.same s7).mono (by omega), s7 _ _ hL4⟩
        · rintro σ H' ⟨v3, v4, v6, v7, v8, rfl, D2, hL2⟩
          exact ⟨_, _, _, _, _, _, _, rfl, D2.mono (by omega), hL2⟩
    · rintro σ H' ⟨v2, v3, v4, v5, v6, v7, v8, rfl, D1, hL1⟩
      exact q _
end
/-! what the top has written -/
theorem all_mk {l : PySem.W.OpenLaw} {w : World} {K : PySem.W.Frag} {h : Heap} {mg : Str → Option Value} {fa : Addr} (X : K.In h) (G : h.Ns mainGlobals mg) (hfa : mg "law" = some (.ref fa))
    {f_inverse : Addr} {od_inverse an_inverse : Option Addr} {sl_inverse : Array (Option Value)} {oc_inverse kV_inverse dc_inverse pm_inverse cd_inverse ct_inverse : Value}
    {f_chosen : Addr} {od_chosen an_chosen : Option Addr} {sl_chosen : Array (Option Value)} {oc_chosen kV_chosen dc_chosen pm_chosen cd_chosen ct_chosen : Value}
    {f__law_deck : Addr} {od__law_deck an__law_deck : Option Addr} {sl__law_deck : Array (Option Value)} {oc__law_deck kV__law_deck dc__law_deck pm__law_deck cd__law_deck ct__law_deck : Value}
    {f__law_next : Addr} {od__law_next an__law_next : Option Addr} {sl__law_next : Array (Option Value)} {oc__law_next kV__law_next dc__law_next pm__law_next cd__law_next ct__law_next : Value}
    {f__law_is_whole : Addr} {od__law_is_whole an__law_is_whole : Option Addr} {sl__law_is_whole : Array (Option Value)} {oc__law_is_whole kV__law_is_whole dc__law_is_whole pm__law_is_whole cd__law_is_whole ct__law_is_whole : Value}
    {f__law_power : Addr} {od__law_power an__law_power : Option Addr} {sl__law_power : Array (Option Value)} {oc__law_power kV__law_power dc__law_power pm__law_power cd__law_power ct__law_power : Value}
    {f__law_figures_right : Addr} {od__law_figures_right an__law_figures_right : Option Addr} {sl__law_figures_right : Array (Option Value)} {oc__law_figures_right kV__law_figures_right dc__law_figures_right pm__law_figures_right cd__law_figures_right ct__law_figures_right : Value}
    {f_law : Addr} {od_law an_law : Option Addr} {sl_law : Array (Option Value)} {oc_law kV_law dc_law pm_law cd_law ct_law : Value}
    (a_inverse : PySem.W.nsIn K mainGlobals "inverse" = some (some (.ref f_inverse))) (l_inverse : K.lookup f_inverse = some ⟨oc_inverse, od_inverse, .func (PySem.W.fnOf "inverse" "inverse" (defArgs s_inverse) (defBody s_inverse) (defScope s_inverse) .none kV_inverse dc_inverse pm_inverse an_inverse cd_inverse ct_inverse), sl_inverse⟩) (c_inverse : PySem.W.codeIn K cd_inverse "inverse" = true) (k_inverse : PySem.W.keepIn K (.ref f_inverse) = true)
    (a_chosen : PySem.W.nsIn K mainGlobals "chosen" = some (some (.ref f_chosen))) (l_chosen : K.lookup f_chosen = some ⟨oc_chosen, od_chosen, .func (PySem.W.fnOf "chosen" "chosen" (defArgs s_chosen) (defBody s_chosen) (defScope s_chosen) .none kV_chosen dc_chosen pm_chosen an_chosen cd_chosen ct_chosen), sl_chosen⟩) (c_chosen : PySem.W.codeIn K cd_chosen "chosen" = true) (k_chosen : PySem.W.keepIn K (.ref f_chosen) = true)
    (a__law_deck : PySem.W.nsIn K mainGlobals "_law_deck" = some (some (.ref f__law_deck))) (l__law_deck : K.lookup f__law_deck = some ⟨oc__law_deck, od__law_deck, .func (PySem.W.fnOf "_law_deck" "_law_deck" (defArgs s__law_deck) (defBody s__law_deck) (defScope s__law_deck) .none kV__law_deck dc__law_deck pm__law_deck an__law_deck cd__law_deck ct__law_deck), sl__law_deck⟩) (c__law_deck : PySem.W.codeIn K cd__law_deck "_law_deck" = true) (k__law_deck : PySem.W.keepIn K (.ref f__law_deck) = true)
    (a__law_next : PySem.W.nsIn K mainGlobals "_law_next" = some (some (.ref f__law_next))) (l__law_next : K.lookup f__law_next = some ⟨oc__law_next, od__law_next, .func (PySem.W.fnOf "_law_next" "_law_next" (defArgs s__law_next) (defBody s__law_next) (defScope s__law_next) .none kV__law_next dc__law_next pm__law_next an__law_next cd__law_next ct__law_next), sl__law_next⟩) (c__law_next : PySem.W.codeIn K cd__law_next "_law_next" = true) (k__law_next : PySem.W.keepIn K (.ref f__law_next) = true)
    (a__law_is_whole : PySem.W.nsIn K mainGlobals "_law_is_whole" = some (some (.ref f__law_is_whole))) (l__law_is_whole : K.lookup f__law_is_whole = some ⟨oc__law_is_whole, od__law_is_whole, .func (PySem.W.fnOf "_law_is_whole" "_law_is_whole" (defArgs s__law_is_whole) (defBody s__law_is_whole) (defScope s__law_is_whole) .none kV__law_is_whole dc__law_is_whole pm__law_is_whole an__law_is_whole cd__law_is_whole ct__law_is_whole), sl__law_is_whole⟩) (c__law_is_whole : PySem.W.codeIn K cd__law_is_whole "_law_is_whole" = true) (k__law_is_whole : PySem.W.keepIn K (.ref f__law_is_whole) = true)
    (a__law_power : PySem.W.nsIn K mainGlobals "_law_power" = some (some (.ref f__law_power))) (l__law_power : K.lookup f__law_power = some ⟨oc__law_power, od__law_power, .func (PySem.W.fnOf "_law_power" "_law_power" (defArgs s__law_power) (defBody s__law_power) (defScope s__law_power) .none kV__law_power dc__law_power pm__law_power an__law_power cd__law_power ct__law_power), sl__law_power⟩) (c__law_power : PySem.W.codeIn K cd__law_power "_law_power" = true) (k__law_power : PySem.W.keepIn K (.ref f__law_power) = true)
    (a__law_figures_right : PySem.W.nsIn K mainGlobals "_law_figures_right" = some (some (.ref f__law_figures_right))) (l__law_figures_right : K.lookup f__law_figures_right = some ⟨oc__law_figures_right, od__law_figures_right, .func (PySem.W.fnOf "_law_figures_right" "_law_figures_right" (defArgs s__law_figures_right) (defBody s__law_figures_right) (defScope s__law_figures_right) .none kV__law_figures_right dc__law_figures_right pm__law_figures_right an__law_figures_right cd__law_figures_right ct__law_figures_right), sl__law_figures_right⟩) (c__law_figures_right : PySem.W.codeIn K cd__law_figures_right "_law_figures_right" = true) (k__law_figures_right : PySem.W.keepIn K (.ref f__law_figures_right) = true)
    (a_law : PySem.W.nsIn K mainGlobals "law" = some (some (.ref f_law))) (l_law : K.lookup f_law = some ⟨oc_law, od_law, .func (PySem.W.fnOf "law" "law" (defArgs s_law) (defBody s_law) (defScope s_law) .none kV_law dc_law pm_law an_law cd_law ct_law), sl_law⟩) (c_law : PySem.W.codeIn K cd_law "law" = true) (k_law : PySem.W.keepIn K (.ref f_law) = true)
    (z_abs : PySem.W.nsIn K mainGlobals "abs" = some none)
    (z_bool : PySem.W.nsIn K mainGlobals "bool" = some none)
    (z_int : PySem.W.nsIn K mainGlobals "int" = some none)
    (z_isinstance : PySem.W.nsIn K mainGlobals "isinstance" = some none)
    (z_len : PySem.W.nsIn K mainGlobals "len" = some none)
    (z_range : PySem.W.nsIn K mainGlobals "range" = some none)
    (z_reversed : PySem.W.nsIn K mainGlobals "reversed" = some none)
    (z_tuple : PySem.W.nsIn K mainGlobals "tuple" = some none) :
    ∃ fd : FuncData, (∀ (s : Shared) (v : Value), BindsTo s fd ⟨[v], []⟩ [("_law_script", v)]) ∧ ∀ base : Heap, K.In base → base.Ns mainGlobals mg → FnOk l.prog w K mg base CX0 3 fa fd ["_law_script"] (spLaw K) := by
  have e := hfa.symm.trans (PySem.W.mg_of X G a_law)
  cases e
  have F_inverse := fun_mk (st := s_inverse) l_inverse c_inverse k_inverse
  have b_inverse := F_inverse.binds (ps := ["p", "number"]) fun _ _ _ _ _ _ us hl => match us, hl with | [_, _], _ => rfl
  have F_chosen := fun_mk (st := s_chosen) l_chosen c_chosen k_chosen
  have b_chosen := F_chosen.binds (ps := ["p", "many", "number"]) fun _ _ _ _ _ _ us hl => match us, hl with | [_, _, _], _ => rfl
  have F__law_deck := fun_mk (st := s__law_deck) l__law_deck c__law_deck k__law_deck
  have b__law_deck := F__law_deck.binds (ps := ["_law_script"]) fun _ _ _ _ _ _ us hl => match us, hl with | [_], _ => rfl
  have F__law_next := fun_mk (st := s__law_next) l__law_next c__law_next k__law_next
  have b__law_next := F__law_next.binds (ps := ["_law_deck_here", "_law_many"]) fun _ _ _ _ _ _ us hl => match us, hl with | [_, _], _ => rfl
  have F__law_is_whole := fun_mk (st := s__law_is_whole) l__law_is_whole c__law_is_whole k__law_is_whole
  have b__law_is_whole := F__law_is_whole.binds (ps := ["_law_thing"]) fun _ _ _ _ _ _ us hl => match us, hl with | [_], _ => rfl
  have F__law_power := fun_mk (st := s__law_power) l__law_power c__law_power k__law_power
  have b__law_power := F__law_power.binds (ps := ["_law_p", "_law_many"]) fun _ _ _ _ _ _ us hl => match us, hl with | [_, _], _ => rfl
  have F__law_figures_right := fun_mk (st := s__law_figures_right) l__law_figures_right c__law_figures_right k__law_figures_right
  have b__law_figures_right := F__law_figures_right.binds (ps := ["_law_p", "_law_many", "_law_number"]) fun _ _ _ _ _ _ us hl => match us, hl with | [_, _, _], _ => rfl
  have F_law := fun_mk (st := s_law) l_law c_law k_law
  have b_law := F_law.binds (ps := ["_law_script"]) fun _ _ _ _ _ _ us hl => match us, hl with | [_], _ => rfl
  let A : Ad := ⟨f_inverse, PySem.W.fnOf "inverse" "inverse" (defArgs s_inverse) (defBody s_inverse) (defScope s_inverse) .none kV_inverse dc_inverse pm_inverse an_inverse cd_inverse ct_inverse, f_chosen, PySem.W.fnOf "chosen" "chosen" (defArgs s_chosen) (defBody s_chosen) (defScope s_chosen) .none kV_chosen dc_chosen pm_chosen an_chosen cd_chosen ct_chosen, f__law_deck, PySem.W.fnOf "_law_deck" "_law_deck" (defArgs s__law_deck) (defBody s__law_deck) (defScope s__law_deck) .none kV__law_deck dc__law_deck pm__law_deck an__law_deck cd__law_deck ct__law_deck, f__law_next, PySem.W.fnOf "_law_next" "_law_next" (defArgs s__law_next) (defBody s__law_next) (defScope s__law_next) .none kV__law_next dc__law_next pm__law_next an__law_next cd__law_next ct__law_next, f__law_is_whole, PySem.W.fnOf "_law_is_whole" "_law_is_whole" (defArgs s__law_is_whole) (defBody s__law_is_whole) (defScope s__law_is_whole) .none kV__law_is_whole dc__law_is_whole pm__law_is_whole an__law_is_whole cd__law_is_whole ct__law_is_whole, f__law_power, PySem.W.fnOf "_law_power" "_law_power" (defArgs s__law_power) (defBody s__law_power) (defScope s__law_power) .none kV__law_power dc__law_power pm__law_power an__law_power cd__law_power ct__law_power, f__law_figures_right, PySem.W.fnOf "_law_figures_right" "_law_figures_right" (defArgs s__law_figures_right) (defBody s__law_figures_right) (defScope s__law_figures_right) .none kV__law_figures_right dc__law_figures_right pm__law_figures_right an__law_figures_right cd__law_figures_right ct__law_figures_right, fa, PySem.W.fnOf "law" "law" (defArgs s_law) (defBody s_law) (defScope s_law) .none kV_law dc_law pm_law an_law cd_law ct_law⟩
  have T : Tx K mg A := ⟨⟨F_inverse, b_inverse, PySem.W.mg_of X G a_inverse⟩, ⟨F_chosen, b_chosen, PySem.W.mg_of X G a_chosen⟩, ⟨F__law_deck, b__law_deck, PySem.W.mg_of X G a__law_deck⟩, ⟨F__law_next, b__law_next, PySem.W.mg_of X G a__law_next⟩, ⟨F__law_is_whole, b__law_is_whole, PySem.W.mg_of X G a__law_is_whole⟩, ⟨F__law_power, b__law_power, PySem.W.mg_of X G a__law_power⟩, ⟨F__law_figures_right, b__law_figures_right, PySem.W.mg_of X G a__law_figures_right⟩, ⟨F_law, b_law, PySem.W.mg_of X G a_law⟩, PySem.W.mg_none_of X G z_abs, PySem.W.mg_none_of X G z_bool, PySem.W.mg_none_of X G z_int, PySem.W.mg_none_of X G z_isinstance, PySem.W.mg_none_of X G z_len, PySem.W.mg_none_of X G z_range, PySem.W.mg_none_of X G z_reversed, PySem.W.mg_none_of X G z_tuple⟩
  exact ⟨_, fun s v => .of_eq rfl, fun base _ _ => ok_law T⟩
theorem walk {l : PySem.W.OpenLaw} {q : Program} {loose : List Str} {XP : (Str → Option Value) → Heap → Prop} {YP : World → Heap → Prop} {d : DefRec} {K : Params → PySem.W.Frag} (hn : l.most = some 63) (hdf : d.params.defaults = [])
    (hY : ∀ (w : World) (h : Heap), YP w h → (K w.params).In h)
    (F : ∀ (w : World) (mg : Str → Option Value) (fa : Addr) (h : Heap), (K w.params).In h → h.Ns mainGlobals mg → mg d.name = some (.ref fa) →
      ∃ fd : FuncData, (∀ (s : Shared) (u : Value), BindsTo s fd ⟨[u], []⟩ [("_law_script", u)]) ∧ ∀ base : Heap, (K w.params).In base → base.Ns mainGlobals mg → FnOk l.prog w (K w.params) mg base CX0 3 fa fd ["_law_script"] (spLaw (K w.params))) :
    PySem.W.WalkO q loose XP YP l.row.toRowW d [] (fun f vs => PySem.call f vs) :=
  L2.walk_of (n := 63) (k := 3) (x := "_law_script") (CX := fun _ => CX0) (sp := fun w => spLaw (K w.params)) hn (by decide) hdf ⟨rfl, by decide, by decide⟩ hY F (fun _ _ a ns hl _ hS => ⟨a, ns, rfl, hS, hl, fun _ => rfl⟩) fun _ _ _ _ _ z => z
end Kp

open PySem PySem.W PyProof.Rows in
set_option maxRecDepth 100000 in
set_option maxHeartbeats 0 in
theorem PySem.Challenge.cw_fairposts_k02_inverses_and_figures_holds : PySem.Challenge.rw_fairposts_k02_inverses_and_figures.Holds := by
  w_on; o_law; k_head; (case hw => w_witness2)
  k_fill
  refine Kp.walk (l := PySem.Challenge.rw_fairposts_k02_inverses_and_figures) rfl rfl (fun w h Y => PySem.W.kIn_of Y) ?F
  case F =>
    intro w mg fa h KX G hmg
    refine' Kp.all_mk KX G hmg ?a_inverse ?l_inverse ?c_inverse ?k_inverse ?a_chosen ?l_chosen ?c_chosen ?k_chosen ?a__law_deck ?l__law_deck ?c__law_deck ?k__law_deck ?a__law_next ?l__law_next ?c__law_next ?k__law_next ?a__law_is_whole ?l__law_is_whole ?c__law_is_whole ?k__law_is_whole ?a__law_power ?l__law_power ?c__law_power ?k__law_power ?a__law_figures_right ?l__law_figures_right ?c__law_figures_right ?k__law_figures_right ?a_law ?l_law ?c_law ?k_law ?z_abs ?z_bool ?z_int ?z_isinstance ?z_len ?z_range ?z_reversed ?z_tuple
    (case a_inverse => k_is)
    (case l_inverse => k_is)
    (case c_inverse => k_is)
    (case k_inverse => k_is)
    (case a_chosen => k_is)
    (case l_chosen => k_is)
    (case c_chosen => k_is)
    (case k_chosen => k_is)
    (case a__law_deck => k_is)
    (case l__law_deck => k_is)
    (case c__law_deck => k_is)
    (case k__law_deck => k_is)
    (case a__law_next => k_is)
    (case l__law_next => k_is)
    (case c__law_next => k_is)
    (case k__law_next => k_is)
    (case a__law_is_whole => k_is)
    (case l__law_is_whole => k_is)
    (case c__law_is_whole => k_is)
    (case k__law_is_whole => k_is)
    (case a__law_power => k_is)
    (case l__law_power => k_is)
    (case c__law_power => k_is)
    (case k__law_power => k_is)
    (case a__law_figures_right => k_is)
    (case l__law_figures_right => k_is)
    (case c__law_figures_right => k_is)
    (case k__law_figures_right => k_is)
    (case a_law => k_is)
    (case l_law => k_is)
    (case c_law => k_is)
    (case k_law => k_is)
    (case z_abs => k_is)
    (case z_bool => k_is)
    (case z_int => k_is)
    (case z_isinstance => k_is)
    (case z_len => k_is)
    (case z_range => k_is)
    (case z_reversed => k_is)
    (case z_tuple => k_is)
#print axioms PySem.Challenge.cw_fairposts_k02_inverses_and_figures_holds
