import PyProof.Rows.All
import Wide.All
import OpenK.AllK
import Wide.FinOn
import PyProof.EqLayable
import PyProof.P3Eq
import HandS.ForMost
import HandS.IsInst
import HandS.TupAny
import HandS.Wide
import HandS.Codes
import HandS.Text
import HandS.Style
import HandS.SortKw
import HandS.More
import HandS.Star
import HandS.Walk
import HandS.Iter
import KE.DatumOrd
import PySem.Challenge.RW_lazywebs_k46_cells_named
set_option Elab.async false
set_option linter.all false
set_option maxRecDepth 100000
set_option maxHeartbeats 4000000
/-! Parts, and what a drawing makes of them: plain Lean. -/
namespace Lz
open PySem

/-! ### data without lists stays what it is -/
mutual
def fz : PyData → Bool
  | .none => true
  | .bool _ => true
  | .int _ => true
  | .str _ => true
  | .tuple xs => fzAll xs
  | .list _ => false
  | .dict _ => false
def fzAll : List PyData → Bool
  | [] => true
  | x :: xs => fz x && fzAll xs
end
theorem fzAll_iff : ∀ {ds : List PyData}, fzAll ds = true ↔ ∀ d, d ∈ ds → fz d = true
  | [] => ⟨fun _ _ h => (nomatch h), fun _ => rfl⟩
  | x :: xs => by
    show (fz x && fzAll xs) = true ↔ _
    rw [Bool.and_eq_true, fzAll_iff]
    refine ⟨fun h d m => ?_, fun h => ⟨h x List.mem_cons_self, fun d m => h d (List.mem_cons_of_mem _ m)⟩⟩
    rcases List.mem_cons.mp m with e | m
    · rw [e]; exact h.1
    · exact h.2 d m
theorem layAll_iff : ∀ {ds : List PyData}, PyData.canLayAll0 ds = true ↔ ∀ d, d ∈ ds → d.canLay0 = true
  | [] => ⟨fun _ _ h => (nomatch h), fun _ => by simp only [PyData.canLayAll0]⟩
  | x :: xs => by
    have e : PyData.canLayAll0 (x :: xs) = (x.canLay0 && PyData.canLayAll0 xs) := by rw [PyData.canLayAll0]
    rw [e, Bool.and_eq_true, layAll_iff]
    refine ⟨fun h d m => ?_, fun h => ⟨h x List.mem_cons_self, fun d m => h d (List.mem_cons_of_mem _ m)⟩⟩
    rcases List.mem_cons.mp m with e | m
    · rw [e]; exact h.1
    · exact h.2 d m
theorem depthAll_le : ∀ {ds : List PyData} {n : Nat}, (∀ d, d ∈ ds → d.depth ≤ n) → PyData.depthAll ds ≤ n
  | [], n, _ => by simp only [PyData.depthAll, Nat.zero_le]
  | x :: xs, n, h => by
    have h1 := h x List.mem_cons_self
    have h2 := depthAll_le (ds := xs) (n := n) fun d m => h d (List.mem_cons_of_mem _ m)
    simp only [PyData.depthAll]
    omega
theorem depth_mem : ∀ {ds : List PyData} {d : PyData}, d ∈ ds → d.depth ≤ PyData.depthAll ds
  | x :: xs, d, h => by
    have e : PyData.depthAll (x :: xs) = max x.depth (PyData.depthAll xs) := by simp only [PyData.depthAll]
    rw [e]
    rcases List.mem_cons.mp h with e | m
    · subst e
      omega
    · have := depth_mem m
      omega
inductive P where
  | num (i : Int)
  | nam (x : Str)
  | fn (x : Str)
  | op (k : Str) (as : List P)
  | lt (nm : List Str) (as : List P) (b : P)

def kinds : List (Str × Nat) := [("give", 2), ("plus", 2), ("less", 2), ("times", 2), ("below", 2), ("when", 3), ("pair", 2), ("left", 1), ("right", 1)]
def nmOk (x : Str) : Prop := 1 ≤ x.length ∧ x.length ≤ 8 ∧ ∀ c, c ∈ x.cps.toList → 97 ≤ c ∧ c ≤ 122
theorem nmOk.strOk {x : Str} (h : nmOk x) : PyData.strOk x = true := by
  unfold PyData.strOk
  rw [Array.all_eq_true_iff_forall_mem]
  intro c hc
  have := h.2.2 c (by simpa using hc)
  exact decide_eq_true (by omega)

def rowD (x : Str) (d : PyData) : PyData := .tuple [.str x, d]
mutual
def P.data : P → PyData
  | .num i => .tuple [.str "number", .int i]
  | .nam x => .tuple [.str "name", .str x]
  | .fn x => .tuple [.str "fun", .str x]
  | .op k as => .tuple (.str k :: P.datas as)
  | .lt nm as b => .tuple [.str "let", .tuple (List.zipWith rowD nm (P.datas as)), P.data b]
def P.datas : List P → List PyData
  | [] => []
  | a :: as => P.data a :: P.datas as
end
theorem datas_map : ∀ as : List P, P.datas as = as.map P.data
  | [] => rfl
  | a :: as => by
    show P.data a :: P.datas as = P.data a :: as.map P.data
    rw [datas_map as]
theorem datas_len (as : List P) : (P.datas as).length = as.length := by rw [datas_map, List.length_map]

mutual
def P.many : P → Nat
  | .op _ as => 1 + P.manys as
  | .lt _ as b => 1 + (P.manys as + P.many b)
  | _ => 1
def P.manys : List P → Nat
  | [] => 0
  | a :: as => P.many a + P.manys as
end
mutual
def P.deep : P → Nat
  | .op _ as => 1 + P.deeps as
  | .lt _ as b => 1 + max (P.deeps as) (P.deep b)
  | _ => 1
def P.deeps : List P → Nat
  | [] => 0
  | a :: as => max (P.deep a) (P.deeps as)
end
mutual
/-- it is a part: kinds, names -/
def P.ok : P → Prop
  | .num _ => True
  | .nam x => nmOk x
  | .fn x => nmOk x
  | .op k as => (k, as.length) ∈ kinds ∧ P.oks as
  | .lt nm as b => nm.length = as.length ∧ (∀ x, x ∈ nm → nmOk x) ∧ P.oks as ∧ P.ok b
def P.oks : List P → Prop
  | [] => True
  | a :: as => P.ok a ∧ P.oks as
end
def P.inn : P → List P
  | .op _ as => as
  | .lt _ as b => as ++ [b]
  | _ => []

theorem oks_iff : ∀ {as : List P}, P.oks as ↔ ∀ a, a ∈ as → a.ok
  | [] => ⟨fun _ _ h => (nomatch h), fun _ => True.intro⟩
  | x :: xs => by
    show (P.ok x ∧ P.oks xs) ↔ _
    rw [oks_iff]
    refine ⟨fun h d m => ?_, fun h => ⟨h x List.mem_cons_self, fun d m => h d (List.mem_cons_of_mem _ m)⟩⟩
    rcases List.mem_cons.mp m with e | m
    · rw [e]; exact h.1
    · exact h.2 d m
theorem manys_append : ∀ as bs : List P, P.manys (as ++ bs) = P.manys as + P.manys bs
  | [], bs => by
    show P.manys bs = 0 + P.manys bs
    omega
  | a :: as, bs => by
    show P.many a + P.manys (as ++ bs) = P.many a + P.manys as + P.manys bs
    rw [manys_append as bs]
    omega
theorem deeps_append : ∀ as bs : List P, P.deeps (as ++ bs) = max (P.deeps as) (P.deeps bs)
  | [], bs => by
    show P.deeps bs = max 0 (P.deeps bs)
    omega
  | a :: as, bs => by
    show max (P.deep a) (P.deeps (as ++ bs)) = max (max (P.deep a) (P.deeps as)) (P.deeps bs)
    rw [deeps_append as bs]
    omega
theorem deeps_mem : ∀ {as : List P} {a : P}, a ∈ as → a.deep ≤ P.deeps as
  | x :: xs, a, h => by
    show a.deep ≤ max x.deep (P.deeps xs)
    rcases List.mem_cons.mp h with e | m
    · subst e
      omega
    · have := deeps_mem m
      omega
theorem deeps_le : ∀ {as : List P} {n : Nat}, (∀ a, a ∈ as → a.deep ≤ n) → P.deeps as ≤ n
  | [], n, _ => Nat.zero_le _
  | x :: xs, n, h => by
    show max x.deep (P.deeps xs) ≤ n
    have h1 := h x List.mem_cons_self
    have h2 := deeps_le (as := xs) (n := n) fun d m => h d (List.mem_cons_of_mem _ m)
    omega
theorem manys_map : ∀ as : List P, P.manys as = (as.map P.many).sum
  | [] => rfl
  | a :: as => by
    show P.many a + P.manys as = _
    rw [manys_map as, List.map_cons, List.sum_cons]
theorem many_inn : ∀ t : P, t.many = 1 + P.manys t.inn
  | .num _ => rfl
  | .nam _ => rfl
  | .fn _ => rfl
  | .op _ _ => rfl
  | .lt nm as b => by
    show 1 + (P.manys as + P.many b) = 1 + P.manys (as ++ [b])
    rw [manys_append]
    rfl
theorem deep_inn : ∀ t : P, t.deep = 1 + P.deeps t.inn
  | .num _ => rfl
  | .nam _ => rfl
  | .fn _ => rfl
  | .op _ _ => rfl
  | .lt nm as b => by
    show 1 + max (P.deeps as) (P.deep b) = 1 + P.deeps (as ++ [b])
    rw [deeps_append]
    show 1 + max (P.deeps as) (P.deep b) = 1 + max (P.deeps as) (max (P.deep b) 0)
    omega
theorem inn_ok : ∀ {t : P}, t.ok → ∀ a, a ∈ t.inn → a.ok
  | .num _, _, _, m => nomatch m
  | .nam _, _, _, m => nomatch m
  | .fn _, _, _, m => nomatch m
  | .op _ as, h, a, m => oks_iff.mp h.2 a m
  | .lt nm as b, h, a, m => by
    rcases List.mem_append.mp (show a ∈ as ++ [b] from m) with m | m
    · exact oks_iff.mp h.2.2.1 a m
    · rw [List.mem_singleton.mp m]
      exact h.2.2.2
theorem many_pos (t : P) : 1 ≤ t.many := by
  rw [many_inn]
  omega
theorem deep_pos (t : P) : 1 ≤ t.deep := by
  rw [deep_inn]
  omega
theorem inn_deep {t a : P} (m : a ∈ t.inn) : a.deep + 1 ≤ t.deep := by
  have := deeps_mem m
  rw [deep_inn t]
  omega
theorem len_manys : ∀ as : List P, as.length ≤ P.manys as
  | [] => Nat.le_refl _
  | a :: as => by
    show as.length + 1 ≤ P.many a + P.manys as
    have h1 := len_manys as
    have h2 := many_pos a
    omega

/-! ### as data: no list, no strange sign, not too deep -/
theorem zip_mem : ∀ {nm : List Str} {ds : List PyData} {d : PyData}, d ∈ List.zipWith rowD nm ds → ∃ x e, x ∈ nm ∧ e ∈ ds ∧ d = rowD x e
  | [], _, _, h => by simp at h
  | _ :: _, [], _, h => by simp at h
  | x :: nm, e :: ds, d, h => by
    rw [List.zipWith_cons_cons] at h
    rcases List.mem_cons.mp h with q | m
    · exact ⟨x, e, List.mem_cons_self, List.mem_cons_self, q⟩
    · obtain ⟨y, f, h1, h2, h3⟩ := zip_mem m
      exact ⟨y, f, List.mem_cons_of_mem _ h1, List.mem_cons_of_mem _ h2, h3⟩
theorem kind_str {k : Str} {n : Nat} (h : (k, n) ∈ kinds) : PyData.strOk k = true := by
  have h0 : kinds.all (fun p => PyData.strOk p.1) = true := by decide +kernel
  exact List.all_eq_true.mp h0 _ h
mutual
theorem data_fz : ∀ t : P, fz t.data = true
  | .num _ => rfl
  | .nam _ => rfl
  | .fn _ => rfl
  | .op k as => datas_fz as
  | .lt nm as b => by
    show (fz (.tuple (List.zipWith rowD nm (P.datas as))) && (fz b.data && true)) = true
    rw [data_fz b, Bool.and_true, Bool.and_true]
    refine fzAll_iff.mpr fun d m => ?_
    obtain ⟨x, e, _, he, rfl⟩ := zip_mem m
    have := fzAll_iff.mp (datas_fz as) e he
    show (fz e && true) = true
    rw [this]
    rfl
theorem datas_fz : ∀ as : List P, fzAll (P.datas as) = true
  | [] => rfl
  | a :: as => by
    show (fz a.data && fzAll (P.datas as)) = true
    rw [data_fz a, datas_fz as]
    rfl
end
theorem lay_tup (xs : List PyData) : (PyData.tuple xs).canLay0 = PyData.canLayAll0 xs := by rw [PyData.canLay0]
theorem lay_str (x : Str) : (PyData.str x).canLay0 = PyData.strOk x := by rw [PyData.canLay0]
theorem lay_cons (x : PyData) (xs : List PyData) : PyData.canLayAll0 (x :: xs) = (x.canLay0 && PyData.canLayAll0 xs) := by rw [PyData.canLayAll0]
theorem lay_nil : PyData.canLayAll0 [] = true := by rw [PyData.canLayAll0]
mutual
theorem data_lay : ∀ t : P, t.ok → t.data.canLay0 = true
  | .num _, _ => by
    show (PyData.tuple [.str "number", .int _]).canLay0 = true
    rw [lay_tup, lay_cons, lay_cons, lay_nil, lay_str]
    simp only [PyData.canLay0]
    decide +kernel
  | .nam x, h => by
    show (PyData.tuple [.str "name", .str x]).canLay0 = true
    rw [lay_tup, lay_cons, lay_cons, lay_nil, lay_str, lay_str, nmOk.strOk (show nmOk x from h)]
    decide +kernel
  | .fn x, h => by
    show (PyData.tuple [.str "fun", .str x]).canLay0 = true
    rw [lay_tup, lay_cons, lay_cons, lay_nil, lay_str, lay_str, nmOk.strOk (show nmOk x from h)]
    decide +kernel
  | .op k as, h => by
    show (PyData.tuple (.str k :: P.datas as)).canLay0 = true
    have h' : (k, as.length) ∈ kinds ∧ P.oks as := h
    rw [lay_tup, lay_cons, lay_str, kind_str h'.1, datas_lay as h'.2]
    rfl
  | .lt nm as b, h => by
    show (PyData.tuple [.str "let", .tuple (List.zipWith rowD nm (P.datas as)), b.data]).canLay0 = true
    have h' : nm.length = as.length ∧ (∀ x, x ∈ nm → nmOk x) ∧ P.oks as ∧ P.ok b := h
    have hr : PyData.canLayAll0 (List.zipWith rowD nm (P.datas as)) = true := layAll_iff.mpr fun d m => by
      obtain ⟨x, e, hx, he, rfl⟩ := zip_mem m
      have q := layAll_iff.mp (datas_lay as h'.2.2.1) e he
      show (PyData.tuple [.str x, e]).canLay0 = true
      rw [lay_tup, lay_cons, lay_cons, lay_nil, lay_str, nmOk.strOk (h'.2.1 x hx), q]
      rfl
    rw [lay_tup, lay_cons, lay_cons, lay_cons, lay_nil, lay_str, lay_tup, hr, data_lay b h'.2.2.2]
    decide +kernel
theorem datas_lay : ∀ as : List P, P.oks as → PyData.canLayAll0 (P.datas as) = true
  | [], _ => lay_nil
  | a :: as, h => by
    have h' : P.ok a ∧ P.oks as := h
    show PyData.canLayAll0 (a.data :: P.datas as) = true
    rw [lay_cons, data_lay a h'.1, datas_lay as h'.2]
    rfl
end
theorem depth_tup (xs : List PyData) : (PyData.tuple xs).depth = PyData.depthAll xs + 1 := by simp only [PyData.depth]; try omega
theorem depth_str (x : Str) : (PyData.str x).depth = 0 := by simp only [PyData.depth]
theorem depthAll_cons (x : PyData) (xs : List PyData) : PyData.depthAll (x :: xs) = max x.depth (PyData.depthAll xs) := by simp only [PyData.depthAll]
mutual
theorem data_depth : ∀ t : P, t.data.depth ≤ 3 * t.deep
  | .num i => by
    show (PyData.tuple [.str "number", .int i]).depth ≤ 3 * 1
    simp only [PyData.depth, PyData.depthAll]
    try omega
  | .nam x => by
    show (PyData.tuple [.str "name", .str x]).depth ≤ 3 * 1
    simp only [PyData.depth, PyData.depthAll]
    try omega
  | .fn x => by
    show (PyData.tuple [.str "fun", .str x]).depth ≤ 3 * 1
    simp only [PyData.depth, PyData.depthAll]
    try omega
  | .op k as => by
    show (PyData.tuple (.str k :: P.datas as)).depth ≤ 3 * (1 + P.deeps as)
    have h1 := datas_depth as
    have h2 := depth_str k
    rw [depth_tup, depthAll_cons]
    omega
  | .lt nm as b => by
    show (PyData.tuple [.str "let", .tuple (List.zipWith rowD nm (P.datas as)), b.data]).depth ≤ 3 * (1 + max (P.deeps as) b.deep)
    have h1 := datas_depth as
    have h2 := data_depth b
    have h3 := depth_str "let"
    have h4 : PyData.depthAll (List.zipWith rowD nm (P.datas as)) ≤ 3 * P.deeps as + 1 := depthAll_le fun d m => by
      obtain ⟨x, e, hx, he, rfl⟩ := zip_mem m
      have q : e.depth ≤ PyData.depthAll (P.datas as) := depth_mem he
      show (PyData.tuple [.str x, e]).depth ≤ _
      have h5 := depth_str x
      rw [depth_tup, depthAll_cons, depthAll_cons]
      simp only [PyData.depthAll]
      omega
    rw [depth_tup, depthAll_cons, depthAll_cons, depthAll_cons, depth_tup]
    simp only [PyData.depthAll]
    omega
theorem datas_depth : ∀ as : List P, PyData.depthAll (P.datas as) ≤ 3 * P.deeps as
  | [] => by
    show PyData.depthAll [] ≤ _
    simp only [PyData.depthAll]
    try omega
  | a :: as => by
    have h1 := data_depth a
    have h2 := datas_depth as
    show PyData.depthAll (a.data :: P.datas as) ≤ 3 * max a.deep (P.deeps as)
    rw [depthAll_cons]
    omega
end
theorem data_shaped {t : P} (h : t.ok) (hd : t.deep ≤ 20) : SeqAt.shaped t.data = true := by
  have h1 := data_depth t
  unfold SeqAt.shaped
  rw [data_lay t h, Bool.true_and]
  exact decide_eq_true (by omega)
theorem datas_shaped {as : List P} (h : P.oks as) (hd : P.deeps as ≤ 20) : SeqAt.shaped (.list (P.datas as)) = true := by
  have h1 := datas_depth as
  have e : (PyData.list (P.datas as)).depth = PyData.depthAll (P.datas as) + 1 := by simp only [PyData.depth]; try omega
  have e2 : (PyData.list (P.datas as)).canLay0 = PyData.canLayAll0 (P.datas as) := by rw [PyData.canLay0]
  unfold SeqAt.shaped
  rw [e2, datas_lay as h, Bool.true_and]
  exact decide_eq_true (by omega)

/-! ### what a drawing makes -/
def gives (f : P) (as : List P) : P := as.foldl (fun a d => .op "give" [a, d]) f
theorem gives_snoc (f : P) (as : List P) (d : P) : gives f (as ++ [d]) = .op "give" [gives f as, d] := by
  unfold gives
  rw [List.foldl_append]
  rfl
/-- parts drawn one behind the other: of the functions W, the scope, the depth, with n parts and the names ss left ahead, n' and ss' behind -/
inductive Dr (W : List (Str × Int)) : List Str → Int → Int → List Str → Int → List Str → List P → Prop
  | nil {sc : List Str} {dp n : Int} {ss : List Str} : Dr W sc dp n ss n ss []
  | num {sc ss ss' : List Str} {dp n n' i : Int} {ds : List P} : i.natAbs < 10 ^ 60 → Dr W sc dp n ss n' ss' ds → Dr W sc dp n ss n' ss' (.num i :: ds)
  | nam {sc ss ss' : List Str} {dp n n' : Int} {x : Str} {ds : List P} : x ∈ sc → Dr W sc dp n ss n' ss' ds → Dr W sc dp n ss n' ss' (.nam x :: ds)
  | fn {sc ss ss' : List Str} {dp n n' w : Int} {f : Str} {ds : List P} : (f, w) ∈ W → Dr W sc dp n ss n' ss' ds → Dr W sc dp n ss n' ss' (.fn f :: ds)
  | call {sc ss ss1 ss' : List Str} {dp n n1 n' w : Int} {f : Str} {as ds : List P} : (f, w) ∈ W → 6 ≤ dp → as.length ≤ 5 → 2 * (as.length : Int) ≤ n →
      Dr W sc (dp - 1 - as.length) (n - 2 * as.length) ss n1 ss1 as → Dr W sc dp n1 ss1 n' ss' ds → Dr W sc dp n ss n' ss' (gives (.fn f) as :: ds)
  | lt {sc nm ss ss1 ss' : List Str} {dp n n1 n' : Int} {as ds : List P} {b : P} {k : Nat} : 1 ≤ dp → 1 ≤ nm.length → nm.length ≤ 4 → ss.drop k = nm.reverse → k + nm.length = ss.length → nm.length = as.length → (nm.length : Int) + 1 ≤ n →
      Dr W (sc ++ nm) (dp - 1) (n - (nm.length + 1)) (ss.take k) n1 ss1 (as ++ [b]) → Dr W sc dp n1 ss1 n' ss' ds → Dr W sc dp n ss n' ss' (.lt nm as b :: ds)
  | op {sc ss ss1 ss' : List Str} {dp n n1 n' : Int} {k : Str} {as ds : List P} : (k, as.length) ∈ kinds → 1 ≤ dp → (as.length : Int) ≤ n →
      Dr W sc (dp - 1) (n - as.length) ss n1 ss1 as → Dr W sc dp n1 ss1 n' ss' ds → Dr W sc dp n ss n' ss' (.op k as :: ds)

theorem Dr.append {W : List (Str × Int)} {sc ss ss1 ss' : List Str} {dp n n1 n' : Int} {as bs : List P} (h : Dr W sc dp n ss n1 ss1 as) : Dr W sc dp n1 ss1 n' ss' bs → Dr W sc dp n ss n' ss' (as ++ bs) := by
  induction h with
  | nil => exact id
  | num a _ ih => exact fun k => .num a (ih k)
  | nam a _ ih => exact fun k => .nam a (ih k)
  | fn a _ ih => exact fun k => .fn a (ih k)
  | call a b c d e _ _ ih => exact fun k => .call a b c d e (ih k)
  | lt a b c d e f g h _ _ ih => exact fun k => .lt a b c d e f g h (ih k)
  | op a b c d _ _ ih => exact fun k => .op a b c d (ih k)
/-- the names left are those ahead, some at the end gone -/
theorem Dr.names {W : List (Str × Int)} {sc ss ss' : List Str} {dp n n' : Int} {ds : List P} (h : Dr W sc dp n ss n' ss' ds) : ∃ m, ss' = ss.take m := by
  induction h with
  | nil => exact ⟨_, List.take_length.symm⟩
  | num _ _ ih => exact ih
  | nam _ _ ih => exact ih
  | fn _ _ ih => exact ih
  | call _ _ _ _ _ _ i1 i2 =>
    obtain ⟨m1, rfl⟩ := i1
    obtain ⟨m2, rfl⟩ := i2
    exact ⟨_, List.take_take⟩
  | lt _ _ _ _ _ _ _ _ _ i1 i2 =>
    obtain ⟨m1, rfl⟩ := i1
    obtain ⟨m2, rfl⟩ := i2
    exact ⟨_, by rw [List.take_take, List.take_take]⟩
  | op _ _ _ _ _ i1 i2 =>
    obtain ⟨m1, rfl⟩ := i1
    obtain ⟨m2, rfl⟩ := i2
    exact ⟨_, List.take_take⟩
theorem Dr.sub {W : List (Str × Int)} {sc ss ss' : List Str} {dp n n' : Int} {ds : List P} (h : Dr W sc dp n ss n' ss' ds) : ∀ x, x ∈ ss' → x ∈ ss := fun x m => by
  obtain ⟨k, rfl⟩ := h.names
  exact List.mem_of_mem_take m
theorem Dr.len {W : List (Str × Int)} {sc ss ss' : List Str} {dp n n' : Int} {ds : List P} (h : Dr W sc dp n ss n' ss' ds) : ss'.length ≤ ss.length := by
  obtain ⟨k, rfl⟩ := h.names
  rw [List.length_take]
  omega
theorem gives_ok : ∀ {as : List P} {f : P}, f.ok → (∀ a, a ∈ as → a.ok) → (gives f as).ok
  | [], _, h, _ => h
  | a :: as, f, h, k => by
    show (gives (.op "give" [f, a]) as).ok
    refine gives_ok ⟨?_, h, k a List.mem_cons_self, True.intro⟩ fun b m => k b (List.mem_cons_of_mem _ m)
    show (("give" : Str), 2) ∈ kinds
    exact List.mem_cons_self
theorem gives_many : ∀ {as : List P} {f : P}, (gives f as).many = f.many + P.manys as + as.length
  | [], f => by
    show f.many = f.many + 0 + 0
    omega
  | a :: as, f => by
    show (gives (.op "give" [f, a]) as).many = f.many + (a.many + P.manys as) + (as.length + 1)
    rw [gives_many]
    show 1 + (f.many + (a.many + 0)) + _ + _ = _
    omega
theorem gives_deep : ∀ {as : List P} {f : P}, (gives f as).deep ≤ max f.deep (P.deeps as) + as.length
  | [], f => by
    show f.deep ≤ max f.deep 0 + 0
    omega
  | a :: as, f => by
    have h := gives_deep (as := as) (f := .op "give" [f, a])
    have e : (P.op "give" [f, a]).deep = 1 + max f.deep (max a.deep 0) := rfl
    show (gives (.op "give" [f, a]) as).deep ≤ max f.deep (max a.deep (P.deeps as)) + (as.length + 1)
    omega
/-- names of functions, of the scope and those left are names -/
structure Nms (W : List (Str × Int)) (sc ss : List Str) : Prop where
  w : ∀ f, f ∈ W → nmOk f.1
  c : ∀ x, x ∈ sc → nmOk x
  s : ∀ x, x ∈ ss → nmOk x
theorem Dr.ok {W : List (Str × Int)} {sc ss ss' : List Str} {dp n n' : Int} {ds : List P} (h : Dr W sc dp n ss n' ss' ds) : Nms W sc ss → ∀ d, d ∈ ds → d.ok := by
  induction h with
  | nil => exact fun _ _ m => nomatch m
  | num _ _ ih =>
    intro N d m
    rcases List.mem_cons.mp m with e | m
    · rw [e]; exact True.intro
    · exact ih N d m
  | nam hx _ ih =>
    intro N d m
    rcases List.mem_cons.mp m with e | m
    · rw [e]; exact N.c _ hx
    · exact ih N d m
  | fn hf _ ih =>
    intro N d m
    rcases List.mem_cons.mp m with e | m
    · rw [e]; exact N.w _ hf
    · exact ih N d m
  | call hf _ _ _ k1 k2 i1 i2 =>
    intro N d m
    rcases List.mem_cons.mp m with e | m
    · rw [e]
      exact gives_ok (N.w _ hf) (i1 N)
    · exact i2 ⟨N.w, N.c, fun x hx => N.s x (k1.sub x hx)⟩ d m
  | @lt sc nm ss ss1 ss' dp n n1 n' as ds b k _ _ _ e1 e2 e3 _ k1 k2 i1 i2 =>
    intro N d m
    have hnm : ∀ x, x ∈ nm → x ∈ ss := fun x hx => by
      have : x ∈ ss.drop k := by rw [e1]; exact List.mem_reverse.mpr hx
      exact List.mem_of_mem_drop this
    rcases List.mem_cons.mp m with e | m
    · have q := i1 ⟨N.w, fun x hx => (List.mem_append.mp hx).elim (N.c x) fun hx => N.s x (hnm x hx), fun x hx => N.s x (List.mem_of_mem_take hx)⟩
      rw [e]
      exact ⟨e3, fun x hx => N.s x (hnm x hx), oks_iff.mpr fun a ha => q a (List.mem_append_left _ ha), q b (List.mem_append_right _ List.mem_cons_self)⟩
    · exact i2 ⟨N.w, N.c, fun x hx => N.s x (List.mem_of_mem_take (k1.sub x hx))⟩ d m
  | op hk _ _ k1 k2 i1 i2 =>
    intro N d m
    rcases List.mem_cons.mp m with e | m
    · rw [e]
      exact ⟨hk, oks_iff.mpr (i1 N)⟩
    · exact i2 ⟨N.w, N.c, fun x hx => N.s x (k1.sub x hx)⟩ d m
theorem Dr.many {W : List (Str × Int)} {sc ss ss' : List Str} {dp n n' : Int} {ds : List P} (h : Dr W sc dp n ss n' ss' ds) : (P.manys ds : Int) = ds.length + (n - n') := by
  induction h with
  | nil =>
    show ((0 : Nat) : Int) = ((0 : Nat) : Int) + _
    omega
  | @num sc ss ss' dp n n' i ds _ _ ih =>
    show ((1 + P.manys ds : Nat) : Int) = ((ds.length + 1 : Nat) : Int) + (n - n')
    omega
  | @nam sc ss ss' dp n n' i ds _ _ ih =>
    show ((1 + P.manys ds : Nat) : Int) = ((ds.length + 1 : Nat) : Int) + (n - n')
    omega
  | @fn sc ss ss' dp n n' i f ds _ _ ih =>
    show ((1 + P.manys ds : Nat) : Int) = ((ds.length + 1 : Nat) : Int) + (n - n')
    omega
  | @call sc ss ss1 ss' dp n n1 n' w f as ds _ _ _ _ _ _ i1 i2 =>
    have e : (gives (.fn f) as).many = 1 + P.manys as + as.length := gives_many
    show (((gives (.fn f) as).many + P.manys ds : Nat) : Int) = ((ds.length + 1 : Nat) : Int) + (n - n')
    rw [e]
    omega
  | @lt sc nm ss ss1 ss' dp n n1 n' as ds b k _ _ _ e1 e2 e3 _ k1 k2 i1 i2 =>
    rw [manys_append] at i1
    have e : P.manys [b] = b.many + 0 := rfl
    rw [List.length_append] at i1
    show ((1 + (P.manys as + b.many) + P.manys ds : Nat) : Int) = ((ds.length + 1 : Nat) : Int) + (n - n')
    have e5 : [b].length = 1 := rfl
    omega
  | @op sc ss ss1 ss' dp n n1 n' kd as ds _ _ _ _ _ i1 i2 =>
    show ((1 + P.manys as + P.manys ds : Nat) : Int) = ((ds.length + 1 : Nat) : Int) + (n - n')
    omega
theorem Dr.less {W : List (Str × Int)} {sc ss ss' : List Str} {dp n n' : Int} {ds : List P} (h : Dr W sc dp n ss n' ss' ds) : n' ≤ n := by
  have := h.many
  have := len_manys ds
  omega
theorem Dr.nonneg {W : List (Str × Int)} {sc ss ss' : List Str} {dp n n' : Int} {ds : List P} (h : Dr W sc dp n ss n' ss' ds) : 0 ≤ n → 0 ≤ n' := by
  induction h with
  | nil => exact id
  | num _ _ ih => exact ih
  | nam _ _ ih => exact ih
  | fn _ _ ih => exact ih
  | call _ _ _ _ _ _ i1 i2 => exact fun h => i2 (i1 (by omega))
  | lt _ _ _ _ _ _ _ _ _ i1 i2 => exact fun h => i2 (i1 (by omega))
  | op _ _ _ _ _ i1 i2 => exact fun h => i2 (i1 (by omega))
theorem Dr.deep {W : List (Str × Int)} {sc ss ss' : List Str} {dp n n' : Int} {ds : List P} (h : Dr W sc dp n ss n' ss' ds) : P.deeps ds ≤ dp.toNat + 1 := by
  induction h with
  | nil => exact Nat.zero_le _
  | num _ _ ih =>
    show max 1 (P.deeps _) ≤ _
    omega
  | nam _ _ ih =>
    show max 1 (P.deeps _) ≤ _
    omega
  | fn _ _ ih =>
    show max 1 (P.deeps _) ≤ _
    omega
  | @call sc ss ss1 ss' dp n n1 n' w f as ds _ _ _ _ _ _ i1 i2 =>
    have e : (gives (.fn f) as).deep ≤ max 1 (P.deeps as) + as.length := gives_deep
    show max (gives (.fn f) as).deep (P.deeps ds) ≤ _
    omega
  | @lt sc nm ss ss1 ss' dp n n1 n' as ds b k _ _ _ e1 e2 e3 _ k1 k2 i1 i2 =>
    rw [deeps_append] at i1
    have e : P.deeps [b] = max b.deep 0 := rfl
    show max (1 + max (P.deeps as) b.deep) (P.deeps ds) ≤ _
    omega
  | @op sc ss ss1 ss' dp n n1 n' kd as ds _ _ _ _ _ i1 i2 =>
    show max (1 + P.deeps as) (P.deeps ds) ≤ _
    omega
theorem kind_plain {k : Str} {n : Nat} (h : (k, n) ∈ kinds) : k ≠ "let" ∧ k ≠ "number" ∧ k ≠ "name" ∧ k ≠ "fun" := by
  have h0 : kinds.all (fun p => decide (p.1 ≠ "let") && decide (p.1 ≠ "number") && decide (p.1 ≠ "name") && decide (p.1 ≠ "fun")) = true := by decide +kernel
  have q := List.all_eq_true.mp h0 _ h
  simp only [Bool.and_eq_true, decide_eq_true_eq] at q
  exact ⟨q.1.1.1, q.1.1.2, q.1.2, q.2⟩
/-- the greatest of the depths -/
theorem deeps_is : ∀ {as : List P} {m : Int}, m ∈ as.map (fun t => (t.deep : Int)) → (∀ y, y ∈ as.map (fun t => (t.deep : Int)) → y ≤ m) → m = (P.deeps as : Int)
  | as, m, h, k => by
    obtain ⟨t, ht, rfl⟩ := List.mem_map.mp h
    have h1 := deeps_mem ht
    have h2 : P.deeps as ≤ t.deep := deeps_le fun a ha => by
      have := k (a.deep : Int) (List.mem_map.mpr ⟨a, ha, rfl⟩)
      omega
    omega
theorem manys_sum : ∀ as : List P, (as.map (fun t => (t.many : Int))).sum = (P.manys as : Int)
  | [] => rfl
  | a :: as => by
    rw [List.map_cons, List.sum_cons, manys_sum as]
    show (a.many : Int) + (P.manys as : Int) = ((a.many + P.manys as : Nat) : Int)
    omega
theorem arity_le {k : Str} {n : Nat} (h : (k, n) ∈ kinds) : 1 ≤ n ∧ n ≤ 3 := by
  have h0 : kinds.all (fun p => decide (1 ≤ p.2) && decide (p.2 ≤ 3)) = true := by decide +kernel
  have q := List.all_eq_true.mp h0 _ h
  simp only [Bool.and_eq_true, decide_eq_true_eq] at q
  exact q
theorem rows_fz {nm : List Str} {as : List P} : fzAll (List.zipWith rowD nm (P.datas as)) = true := fzAll_iff.mpr fun d m => by
  obtain ⟨x, e, _, he, rfl⟩ := zip_mem m
  have := fzAll_iff.mp (datas_fz as) e he
  show (true && (fz e && true)) = true
  rw [this]
  rfl
end Lz

set_option Elab.async false
set_option linter.all false
set_option maxRecDepth 100000
set_option maxHeartbeats 4000000
/-! What is kept while lists of a few addresses change; parts as data; what a drawing may make. -/
namespace Lz
open PySem PySem.Spec PyProof.Rows L2

/-! ### heaps: all is kept but the lists at the addresses of S -/
def Kp (S : List Addr) (H H' : Hp) : Prop := ∀ b o, H b = some o → (b ∈ S → ∀ xs, o ≠ HO.lst xs) → H' b = some o
section
variable {S T : List Addr} {H H1 H2 H' : Hp} {K : PySem.W.Frag} {a b p : Addr} {xs ys : List V} {o : HO}
theorem Kp.refl (S : List Addr) (H : Hp) : Kp S H H := fun _ _ h _ => h
theorem Kp.trans (h : Kp S H H1) (k : Kp S H1 H2) : Kp S H H2 := fun c o e n => k c o (h c o e n) n
theorem Kp.mono (h : Kp S H H') (m : ∀ x, x ∈ S → x ∈ T) : Kp T H H' := fun c o e n => h c o e fun i => n (m c i)
theorem Kp.same (h : Same H H') : Kp S H H' := fun b o e _ => h b o e
theorem Kp.new (h : H p = none) : Kp S H (upd H p o) := fun b x e _ => by
  rw [upd_ne (ne_of_none e h)]
  exact e
theorem Kp.put (h : H p = some (.lst xs)) (m : p ∈ S) : Kp S H (upd H p o) := fun b x e n => by
  by_cases q : b = p
  · subst q
    exact absurd (Option.some.inj (e.symm.trans h)) (n m xs)
  · rw [upd_ne q]
    exact e
theorem Kp.lst (k : Kp S H H') (h : H a = some (.lst xs)) (n : ¬ a ∈ S) : H' a = some (.lst xs) := k a _ h fun m => absurd m n
theorem Kp.tup (k : Kp S H H') (h : H a = some (.tup xs)) : H' a = some (.tup xs) := k a _ h fun _ _ => fun e => nomatch e
theorem Kp.sqT (k : Kp S H H') (h : SqT K H a xs) : SqT K H' a xs := by
  rcases h with (h | ⟨o, h⟩) | h
  · exact .inl (.inl (k.tup h))
  · exact .inl (.inr ⟨o, k a _ h fun _ _ e => nomatch e⟩)
  · exact .inr h
theorem Kp.sqL (k : Kp S H H') (h : SqL K H a xs) (n : ¬ a ∈ S) : SqL K H' a xs := by
  rcases h with (h | ⟨o, h⟩) | h
  · exact .inl (.inl (k.lst h n))
  · exact .inl (.inr ⟨o, k a _ h fun _ _ e => nomatch e⟩)
  · exact .inr h
theorem Kp.free (k : Kp S H H1) (h : H1 p = none) (n : ¬ p ∈ S) : H p = none := by
  cases e : H p with
  | none => rfl
  | some o =>
    have := k p o e fun m => absurd m n
    rw [h] at this
    cases this
/-- an object that H does not know may change -/
theorem Kp.mut (k : Kp S H H') (h : H p = none) : Kp S H (upd H' p o) := fun b x e n => by
  rw [upd_ne (ne_of_none e h)]
  exact k b x e n
theorem same_new (h : H p = none) : Same H (upd H p o) := fun b u q => by
  rw [upd_ne (ne_of_none q h)]
  exact q
end

end Lz
namespace L2
open PySem PySem.Spec PyProof.Rows Lz
section
variable {S : List Addr} {H H' : Hp} {K : PySem.W.Frag}
mutual
theorem Dp.keep (k : Kp S H H') : ∀ (d : PyData) (v : V), fz d = true → Dp K H v d → Dp K H' v d
  | .none, _, _, h => by cases h; exact .non
  | .bool b, _, _, h => by cases h; exact .bl b
  | .int i, _, _, h => by cases h; exact .int i
  | .str x, _, _, h => by cases h; exact .str x
  | .list ds, _, f, _ => by
    have : false = true := f
    cases this
  | .tuple ds, _, f, h => by
    cases h with
    | tup hs ha => exact .tup (k.sqT hs) (Dp.keepAll k ds _ f ha)
  | .dict _, _, _, h => by cases h
theorem Dp.keepAll (k : Kp S H H') : ∀ (ds : List PyData) (vs : List V), fzAll ds = true → DpAll K H vs ds → DpAll K H' vs ds
  | [], _, _, h => by cases h; exact .nil
  | d :: ds, _, f, h => by
    have f' : fz d = true ∧ fzAll ds = true := by
      have : (fz d && fzAll ds) = true := f
      rwa [Bool.and_eq_true] at this
    cases h with
    | cons h1 h2 => exact .cons (Dp.keep k d _ f'.1 h1) (Dp.keepAll k ds _ f'.2 h2)
end
theorem DpAll.length : ∀ {vs : List V} {ds : List PyData}, DpAll K H vs ds → vs.length = ds.length
  | _, _, .nil => rfl
  | _, _, .cons _ t => by rw [List.length_cons, List.length_cons, DpAll.length t]
theorem DpAll.get : ∀ {vs : List V} {ds : List PyData} {i : Nat} {d : PyData}, DpAll K H vs ds → ds[i]? = some d → ∃ v, vs[i]? = some v ∧ Dp K H v d
  | _, _, _, _, .nil, e => by simp at e
  | _, _, 0, _, .cons h _, e => by
    have e' := Option.some.inj e
    subst e'
    exact ⟨_, rfl, h⟩
  | _, _, i + 1, d, .cons _ t, e => by
    obtain ⟨v, h1, h2⟩ := DpAll.get (i := i) (d := d) t e
    exact ⟨v, h1, h2⟩
theorem DpAll.at : ∀ {vs : List V} {ds : List PyData} {i : Nat} {v : V}, DpAll K H vs ds → vs[i]? = some v → ∃ d, ds[i]? = some d ∧ Dp K H v d
  | _, _, _, _, .nil, e => by simp at e
  | _, _, 0, _, .cons h _, e => by
    have e' := Option.some.inj e
    subst e'
    exact ⟨_, rfl, h⟩
  | _, _, i + 1, d, .cons _ t, e => by
    obtain ⟨v, h1, h2⟩ := DpAll.at (i := i) (v := d) t e
    exact ⟨v, h1, h2⟩
theorem DpAll.append : ∀ {vs ws : List V} {ds es : List PyData}, DpAll K H vs ds → DpAll K H ws es → DpAll K H (vs ++ ws) (ds ++ es)
  | _, _, _, _, .nil, t => t
  | _, _, _, _, .cons h s, t => .cons h (DpAll.append s t)
theorem DpAll.one {v : V} {d : PyData} (h : Dp K H v d) : DpAll K H [v] [d] := .cons h .nil
theorem DpAll.take : ∀ {vs : List V} {ds : List PyData} (n : Nat), DpAll K H vs ds → DpAll K H (vs.take n) (ds.take n)
  | _, _, 0, _ => .nil
  | _, _, _ + 1, .nil => .nil
  | _, _, n + 1, .cons h t => .cons h (DpAll.take n t)
theorem DpAll.drop : ∀ {vs : List V} {ds : List PyData} (n : Nat), DpAll K H vs ds → DpAll K H (vs.drop n) (ds.drop n)
  | _, _, 0, h => h
  | _, _, _ + 1, .nil => .nil
  | _, _, n + 1, .cons _ t => DpAll.drop n t
theorem DpAll.strs : ∀ (xs : List Str), DpAll K H (xs.map V.str) (xs.map PyData.str)
  | [] => .nil
  | x :: xs => .cons (.str x) (DpAll.strs xs)
theorem Dp.tup_of {v : V} {ds : List PyData} (h : Dp K H v (.tuple ds)) : ∃ a xs, v = .ref a ∧ SqT K H a xs ∧ DpAll K H xs ds := by
  cases h with
  | tup hs ha => exact ⟨_, _, rfl, hs, ha⟩
theorem Dp.lst_of {v : V} {ds : List PyData} (h : Dp K H v (.list ds)) : ∃ a xs, v = .ref a ∧ SqL K H a xs ∧ DpAll K H xs ds := by
  cases h with
  | lst hs ha => exact ⟨_, _, rfl, hs, ha⟩
theorem Dp.str_of {v : V} {x : Str} (h : Dp K H v (.str x)) : v = .str x := by cases h; rfl
theorem Dp.int_of {v : V} {i : Int} (h : Dp K H v (.int i)) : v = .int i := by cases h; rfl
/-- a new tuple of data -/
theorem Dp.newT {p : Addr} {xs : List V} {ds : List PyData} (hp : H p = none) (h : DpAll K H xs ds) (f : fzAll ds = true) : Dp K (upd H p (.tup xs)) (.ref p) (.tuple ds) :=
  .tup (.inl (.inl upd_same)) (Dp.keepAll (S := []) (Kp.new hp) ds xs f h)
end
end L2

set_option Elab.async false
set_option linter.all false
set_option maxRecDepth 100000
set_option maxHeartbeats 4000000
/-! Texts: letters, names; small facts of lists as data. -/
namespace Lz
open PySem PySem.Spec PyProof.Rows L2
abbrev letters : Str := "abcdefghijklmnopqrstuvwxyz"
theorem letters_at {r : Int} (h0 : 0 ≤ r) (h1 : r < 26) : atI letters.cps.toList r = some (97 + r.toNat) := by
  have h : ∀ j, j < 26 → letters.cps.toList[j]? = some (97 + j) := by decide +kernel
  have q := atI_nat (xs := letters.cps.toList) (h r.toNat (by omega))
  rwa [Int.toNat_of_nonneg h0] at q
theorem letters_len : letters.length ≤ sizeLine := by decide +kernel
theorem glue_list (sep : Str) (hs : sep.cps = #[]) : ∀ (rest : List Str) (acc : Array Nat), (rest.foldl (fun acc p => acc ++ sep.cps ++ p.cps) acc).toList = acc.toList ++ (rest.map (·.cps.toList)).flatten
  | [], acc => by simp
  | x :: r, acc => by
    rw [List.foldl_cons, glue_list sep hs r, hs]
    simp
theorem join_list (ys : List Str) : (Txt.join ("" : Str) ys).cps.toList = (ys.map (·.cps.toList)).flatten := by
  have hs : ("" : Str).cps = #[] := by decide +kernel
  show ((ys.drop 1).foldl (fun acc p => acc ++ ("" : Str).cps ++ p.cps) (ys.headD Str.empty).cps).toList = _
  rw [glue_list _ hs]
  cases ys with
  | nil => rfl
  | cons x r => simp
def one (c : Nat) : Str := ⟨#[c]⟩
theorem join_ones (cs : List Nat) : (Txt.join ("" : Str) (cs.map one)).cps.toList = cs := by
  rw [join_list, List.map_map]
  induction cs with
  | nil => rfl
  | cons c r ih =>
    rw [List.map_cons, List.flatten_cons, ih]
    rfl
theorem sum_ones : ∀ cs : List Nat, ((cs.map one).map (·.length)).sum = cs.length
  | [] => rfl
  | c :: r => by
    rw [List.map_cons, List.map_cons, List.sum_cons, sum_ones r, List.length_cons]
    show 1 + _ = _
    omega
theorem str_len (z : Str) : z.length = z.cps.toList.length := by
  show z.cps.size = _
  simp
theorem str_ext {a b : Str} (h : a.cps.toList = b.cps.toList) : a = b := by
  cases a
  cases b
  simp only [Str.mk.injEq]
  exact Array.toList_inj.mp h
theorem cat_list (a b : Str) : (a ++ b).cps.toList = a.cps.toList ++ b.cps.toList := by
  show (a.cps ++ b.cps).toList = _
  simp
theorem cut_to (z : Str) (k : Nat) : (cutS z none (some (k : Int))).cps.toList = z.cps.toList.take k := by
  unfold cutS
  rw [HT.sIx_none, HT.sIx_nat, str_len]
  simp
theorem cut_from (z : Str) (k : Nat) : (cutS z (some (k : Int)) none).cps.toList = z.cps.toList.drop k := by
  unfold cutS
  rw [HT.sIx_none, HT.sIx_nat, str_len]
  by_cases h : k ≤ z.cps.toList.length
  · rw [Nat.min_eq_left h]
    exact List.take_of_length_le (by rw [List.length_drop]; exact Nat.le_refl _)
  · rw [List.drop_eq_nil_of_le (by omega : z.cps.toList.length ≤ k), List.drop_eq_nil_of_le (by omega)]
    simp
def nameOf (wd : List Nat) (k : Nat) (c : Nat) : Str := ⟨(wd.take k ++ [c] ++ wd.drop (k + 1)).toArray⟩
theorem nameOf_eq {z : Str} {wd : List Nat} {k : Nat} {c : Nat} (hz : z.cps.toList = wd) : (cutS z none (some (k : Int)) ++ (⟨#[c]⟩ : Str)) ++ cutS z (some ((k : Int) + 1)) none = nameOf wd k c := by
  apply str_ext
  have e : ((k : Int) + 1) = ((k + 1 : Nat) : Int) := by omega
  rw [cat_list, cat_list, cut_to, e, cut_from, hz]
  unfold nameOf
  simp
theorem nameOf_ok {wd : List Nat} {k c : Nat} (h1 : 1 ≤ wd.length) (h8 : wd.length ≤ 8) (hk : k < wd.length) (hw : ∀ c, c ∈ wd → 97 ≤ c ∧ c ≤ 122) (hc : 97 ≤ c ∧ c ≤ 122) : nmOk (nameOf wd k c) := by
  have e : (nameOf wd k c).cps.toList = wd.take k ++ [c] ++ wd.drop (k + 1) := by unfold nameOf; simp
  have el : (nameOf wd k c).length = wd.length := by
    rw [str_len, e, List.length_append, List.length_append, List.length_take, List.length_drop, List.length_singleton]
    omega
  refine ⟨by omega, by omega, fun d hd => ?_⟩
  rw [e] at hd
  rcases List.mem_append.mp hd with hd | hd
  · rcases List.mem_append.mp hd with hd | hd
    · exact hw d (List.mem_of_mem_take hd)
    · rw [List.mem_singleton.mp hd]
      exact hc
  · exact hw d (List.mem_of_mem_drop hd)
theorem nameOf_inj {wd : List Nat} {k c d : Nat} (h : nameOf wd k c = nameOf wd k d) : c = d := by
  unfold nameOf at h
  have h' := congrArg (fun z : Str => z.cps.toList) h
  simp at h'
  exact h'
theorem nodup_map_of {α β : Type} {f : α → β} : ∀ {l : List α}, l.Nodup → (∀ a, a ∈ l → ∀ b, b ∈ l → f a = f b → a = b) → (l.map f).Nodup
  | [], _, _ => List.nodup_nil
  | x :: r, h, k => by
    rw [List.nodup_cons] at h
    rw [List.map_cons, List.nodup_cons]
    refine ⟨fun m => ?_, nodup_map_of h.2 fun a ha b hb => k a (List.mem_cons_of_mem _ ha) b (List.mem_cons_of_mem _ hb)⟩
    obtain ⟨y, hy, e⟩ := List.mem_map.mp m
    have := k y (List.mem_cons_of_mem _ hy) x List.mem_cons_self e
    exact h.1 (this ▸ hy)
/-- the names drawn from a word -/
def namesOf (wd : List Nat) (k fi b m : Nat) : List Str := (List.range m).map fun j => nameOf wd k (97 + (fi + b * j) % 26)
theorem namesOf_len (wd : List Nat) (k fi b m : Nat) : (namesOf wd k fi b m).length = m := by
  unfold namesOf
  rw [List.length_map, List.length_range]
theorem namesOf_ok {wd : List Nat} {k fi b m : Nat} (h1 : 1 ≤ wd.length) (h8 : wd.length ≤ 8) (hk : k < wd.length) (hw : ∀ c, c ∈ wd → 97 ≤ c ∧ c ≤ 122) : ∀ x, x ∈ namesOf wd k fi b m → nmOk x := fun x hx => by
  obtain ⟨j, _, rfl⟩ := List.mem_map.mp hx
  exact nameOf_ok h1 h8 hk hw ⟨by omega, by omega⟩
theorem namesOf_nodup {wd : List Nat} {k fi b m : Nat} (hm : m ≤ 26) (hb : b = 1 ∨ b = 3 ∨ b = 5 ∨ b = 7 ∨ b = 9 ∨ b = 11) : (namesOf wd k fi b m).Nodup := by
  refine nodup_map_of List.nodup_range fun i hi j hj e => ?_
  have e' := nameOf_inj e
  have hi' := List.mem_range.mp hi
  have hj' := List.mem_range.mp hj
  rcases hb with rfl | rfl | rfl | rfl | rfl | rfl <;> omega
/-! ### lists as data -/
theorem eqv_nil (xs : List PyData) : PyData.eqv (.list xs) (.list []) = xs.isEmpty := by
  rw [PyData.eqv]
  cases xs with
  | nil => rfl
  | cons x r => rfl
theorem nil_shaped : SeqAt.shaped (.list []) = true := by decide +kernel
theorem strs_shaped {xs : List Str} (h : ∀ x, x ∈ xs → nmOk x) : SeqAt.shaped (.list (xs.map .str)) = true := by
  have e : (PyData.list (xs.map .str)).depth = PyData.depthAll (xs.map .str) + 1 := by simp only [PyData.depth]
  have e2 : (PyData.list (xs.map .str)).canLay0 = PyData.canLayAll0 (xs.map .str) := by rw [PyData.canLay0]
  have h1 : PyData.depthAll (xs.map .str) ≤ 0 := depthAll_le fun d m => by
    obtain ⟨x, _, rfl⟩ := List.mem_map.mp m
    rw [depth_str]
    exact Nat.le_refl _
  have h2 : PyData.canLayAll0 (xs.map .str) = true := layAll_iff.mpr fun d m => by
    obtain ⟨x, hx, rfl⟩ := List.mem_map.mp m
    rw [lay_str]
    exact (h x hx).strOk
  unfold SeqAt.shaped
  rw [e2, h2, Bool.true_and]
  exact decide_eq_true (by omega)
def wD (f : Str × Int) : PyData := .tuple [.str f.1, .int f.2]
theorem wds_shaped {W : List (Str × Int)} (h : ∀ f, f ∈ W → nmOk f.1) : SeqAt.shaped (.list (W.map wD)) = true := by
  have e : (PyData.list (W.map wD)).depth = PyData.depthAll (W.map wD) + 1 := by simp only [PyData.depth]
  have e2 : (PyData.list (W.map wD)).canLay0 = PyData.canLayAll0 (W.map wD) := by rw [PyData.canLay0]
  have h1 : PyData.depthAll (W.map wD) ≤ 1 := depthAll_le fun d m => by
    obtain ⟨x, _, rfl⟩ := List.mem_map.mp m
    show (PyData.tuple [.str x.1, .int x.2]).depth ≤ 1
    simp only [PyData.depth, PyData.depthAll]
    omega
  have h2 : PyData.canLayAll0 (W.map wD) = true := layAll_iff.mpr fun d m => by
    obtain ⟨x, hx, rfl⟩ := List.mem_map.mp m
    show (PyData.tuple [.str x.1, .int x.2]).canLay0 = true
    rw [lay_tup, lay_cons, lay_cons, lay_nil, lay_str, (h x hx).strOk]
    simp only [PyData.canLay0]
    rfl
  unfold SeqAt.shaped
  rw [e2, h2, Bool.true_and]
  exact decide_eq_true (by omega)
theorem wds_fz : ∀ W : List (Str × Int), fzAll (W.map wD) = true
  | [] => rfl
  | _ :: r => by
    show (true && fzAll (r.map wD)) = true
    rw [wds_fz r]
    rfl
theorem strs_fz : ∀ xs : List Str, fzAll (xs.map .str) = true
  | [] => rfl
  | _ :: r => by
    show (true && fzAll (r.map .str)) = true
    rw [strs_fz r]
    rfl
end Lz

set_option Elab.async false
set_option linter.all false
set_option maxRecDepth 100000
set_option maxHeartbeats 4000000
/-! The rules by a written part that is named: so they serve within a comprehension too. -/
namespace Lz
open PySem PySem.Spec PyProof.Rows L2
section
variable {X : Cx} {K : PySem.W.Frag}
theorem ix_listK (h : X.K = K) : IxR X (rIxL K) := by subst h; exact ix_list
theorem ix_tupK (h : X.K = K) : IxR X (rIxT K) := by subst h; exact ix_tup
theorem sl_listK (h : X.K = K) : SlR X (rSlL K) := by subst h; exact sl_list
theorem sl_tupAK (h : X.K = K) : SlR X (rSlA K) := by subst h; exact sl_tupA
theorem op_eqDK (h : X.K = K) (hu : X.A.units + 64 < cLine) : OpR X (compareOp .Eq) (rEqD K) := by subst h; exact op_eqD hu
theorem op_neDK (h : X.K = K) (hu : X.A.units + 64 < cLine) : OpR X (compareOp .NotEq) (rNeD K) := by subst h; exact op_neD hu
theorem op_catAK (h : X.K = K) : OpR X (binaryOp .Add) (rCatA K) := by subst h; exact op_catA
theorem op_inK (h : X.K = K) : OpR X (compareOp .In) (rIn K false) := by subst h; exact op_in_seq
theorem op_notInK (h : X.K = K) : OpR X (compareOp .NotIn) (rIn K true) := by subst h; exact op_notIn_seq
def rLenS (K : PySem.W.Frag) : List V → Hp → VK → Prop := fun xs H Q => ∃ p ys, xs = [.ref p] ∧ (SqL K H p ys ∨ SqT K H p ys) ∧ Q (.int ys.length) H
theorem call_lenK (h : X.K = K) : CallR X (.builtin "len") (rLenS K) := by subst h; exact call_len_seq
def rListOf (K : PySem.W.Frag) : List V → Hp → VK → Prop := fun xs H Q => ∃ p ys, xs = [.ref p] ∧ (SqL K H p ys ∨ SqT K H p ys) ∧ ∀ l, H l = none → Q (.ref l) (upd H l (.lst ys))
theorem call_listK (h : X.K = K) : CallR X (.type "list") (rListOf K) := by subst h; exact call_list_of
def rTupOf (K : PySem.W.Frag) : List V → Hp → VK → Prop := fun xs H Q => ∃ p ys, xs = [.ref p] ∧ ((SqL K H p ys ∧ ∀ l, H l = none → Q (.ref l) (upd H l (.tup ys))) ∨ (SqT K H p ys ∧ Q (.ref p) H))
theorem call_tupleK (h : X.K = K) : CallR X (.type "tuple") (rTupOf K) := by subst h; exact call_tuple_of
theorem call_isK (h : X.K = K) : CallR X (.builtin "isinstance") (rIsi K) := by subst h; exact call_isi
theorem call_sumK (h : X.K = K) (hc : X.calm = true) : CallR X (.builtin "sum") (rSum K) := by subst h; exact cr_sum hc
theorem call_maxK (h : X.K = K) (hc : X.calm = true) : CallR X (.builtin "max") (rMax K) := by subst h; exact cr_max hc
theorem call_allK (h : X.K = K) (hc : X.calm = true) : CallR X (.builtin "all") (rAll K) := by subst h; exact cr_all hc
def tTruK (K : PySem.W.Frag) (ta : TE) : TT := fun σ H Q => ta σ H fun x H' => ∃ k, TruV K x H' k ∧ Q k H'
theorem pt_truthK {a : Expr} {ta : TE} (h : X.K = K) (ha : PE X a ta) (he : ∀ whole, isTrue a X.env whole = (do let v ← whole; standAt a.pos; holding [v] (truthy v))) : PT X a (tTruK K ta) := by subst h; exact pt_truth ha he
theorem pe_bm0K {T id : String} {name : Str} {r : V → List V → Hp → VK → Prop} {o : Expr} {to : TE} {apos cpos : Pos} (h : X.K = K) (pa : PlainAttrs T) (slot : Slot T name id) (hty : typeOf (.builtin id) = pure (.type "method_descriptor")) (hm : MtR X id r) (ho : PE X o to)
    (hbase : attributeBase o name X.env (eval o X.env) = eval o X.env := by rfl) (hline : (apos.endLine == cpos.line) = true := by rfl) : PE X (.Call (.Attribute o name apos) [] [] cpos) (tBM0 K T r to) := by
  subst h
  exact pe_bm0 pa slot hty hm ho hbase hline
theorem pe_bmK {T id : String} {name : Str} {r : V → List V → Hp → VK → Prop} {o e : Expr} {es : List Expr} {to : TE} {t : TA} {apos cpos : Pos} (h : X.K = K) (pa : PlainAttrs T) (slot : Slot T name id) (hty : typeOf (.builtin id) = pure (.type "method_descriptor")) (hm : MtR X id r) (ho : PE X o to) (ha : PA X (e :: es) t)
    (hbase : attributeBase o name X.env (eval o X.env) = eval o X.env := by rfl)
    (hfew : ((backTo cpos (starEach (e :: es) X.env)).all (fun x => !x.1) && (backToKw cpos (keywordEach [] X.env)).all (fun x => x.1.isSome)
      && decide ((e :: es).length + ([] : List Keyword).length + (if ([] : List Keyword).isEmpty then 0 else 1) < 30)) = true := by rfl)
    (hline : (apos.endLine == cpos.line) = true := by rfl) (hs : starEach (e :: es) X.env = (false, eval e X.env) :: starEach es X.env := by rfl) (hplain : (backTo cpos (starEach es X.env)).any (·.1) = false := by rfl) :
    PE X (.Call (.Attribute o name apos) (e :: es) [] cpos) (tBM K T r to t) := by
  subst h
  exact pe_bm pa slot hty hm ho ha hbase hfew hline hs hplain
theorem pi_listK {tg l : Expr} {tl : TE} (h : X.K = K) (hl : PE X l tl) : PI X tg l (iList K tl) := by subst h; exact pi_list hl
theorem pi_tupK {tg l : Expr} {tl : TE} (h : X.K = K) (hl : PE X l tl) : PI X tg l (iTup K tl) := by subst h; exact pi_tup hl
theorem pg_tupK {es : List Expr} {k : Nat} {t : TGs} {n : Nat} {pos : Pos} (h : X.K = K) (hc : X.calm = true) (hs : PGs X es t)
    (hn : (assignEach es X.env).length = n := by rfl) (hst : (assignEach es X.env).findIdx? (·.1) = none := by rfl) : PG X (.Tuple es k pos) (gTup K n t) := by subst h; exact pg_tup hc hs hn hst
/-- max(l, default=d) of whole numbers -/
def rMaxDef (K : PySem.W.Frag) : List V → List V → Hp → VK → Prop := fun xs zs H Q => ∃ (a : Addr) (ns : List Int) (d : Int), xs = [.ref a] ∧ zs = [.int d] ∧ SqL K H a (ns.map V.int) ∧ (ns = [] → Q (.int d) H) ∧ ∀ m, m ∈ ns → (∀ y, y ∈ ns → y ≤ m) → Q (.int m) H
theorem maxOf_facts : ∀ (ys : List Int) (y : Int), PySem.W.maxOf y ys ∈ y :: ys ∧ ∀ z, z ∈ y :: ys → z ≤ PySem.W.maxOf y ys
  | [], y => ⟨List.mem_cons_self, fun z m => by rw [List.mem_singleton.mp m]; exact Int.le_refl _⟩
  | x :: r, y => by
    have e : PySem.W.maxOf y (x :: r) = PySem.W.maxOf (if y < x then x else y) r := by
      show List.foldl _ (if decide (y < x) = true then x else y) r = _
      by_cases h : y < x
      · rw [if_pos (decide_eq_true h), if_pos h]
        rfl
      · rw [if_neg (fun q => h (of_decide_eq_true q)), if_neg h]
        rfl
    obtain ⟨h1, h2⟩ := maxOf_facts r (if y < x then x else y)
    rw [e]
    have h3 := h2 _ List.mem_cons_self
    generalize PySem.W.maxOf (if y < x then x else y) r = M at h1 h2 h3 ⊢
    refine ⟨?_, fun z m => ?_⟩
    · rcases List.mem_cons.mp h1 with q | q
      · rw [q]
        split
        · exact List.mem_cons_of_mem _ List.mem_cons_self
        · exact List.mem_cons_self
      · exact List.mem_cons_of_mem _ (List.mem_cons_of_mem _ q)
    · rcases List.mem_cons.mp m with q | m
      · rw [q]
        split at h3 <;> omega
      · rcases List.mem_cons.mp m with q | m
        · rw [q]
          split at h3 <;> omega
        · exact h2 z (List.mem_cons_of_mem _ m)
theorem reads_ints {h : Heap} : ∀ {ns : List Int} {us : List Value}, Vals (ns.map V.int) us → ∃ as, ReadsAll h us (ns.map PyData.int) as
  | [], _, r => by cases r; exact ⟨_, .nil⟩
  | n :: ns, _, r => by
    cases r with
    | cons r1 r2 =>
      obtain ⟨t, rfl⟩ := r1
      obtain ⟨as, q⟩ := reads_ints r2
      exact ⟨_, .cons (.int n t) q⟩
theorem cr_maxDef (hc : X.calm = true) (hu : X.A.units + 64 < cLine) : CallRK X (.builtin "max") [Str.ofString "default"] (rMaxDef X.K) := by
  intro pins s σ H xs zs us ws Q I rx rz h
  obtain ⟨a, ns, d, rfl, rfl, hs, h0, h1⟩ := h
  obtain ⟨its, rv, hl, _⟩ := I.list hs
  rw [Vals.ref1 rx]
  cases rz with
  | cons r1 r2 =>
    cases r2
    obtain ⟨t, rfl⟩ := r1
    refine PySem.W.max_list_datum_default (α := Int) (xs := ns) (I.ok.hd hc) hl.isList (reads_ints rv) (by show X.A.units + 1 + 0 < cLine; omega) (fun e h' tk hk => ⟨.int d, H, I.kept hk, ⟨_, rfl⟩, h0 e⟩) fun y ys i v h' tk e hi hh hk => ?_
    obtain ⟨as, hr⟩ := hh
    obtain ⟨f1, f2⟩ := maxOf_facts ys y
    have hv : ∃ t, v = Value.int (PySem.W.maxOf y ys) t := by
      generalize PySem.W.maxOf y ys = m at hr
      have hr' : Reads h' v (.int m) as := hr
      cases hr'
      exact ⟨_, rfl⟩
    obtain ⟨t', rfl⟩ := hv
    exact ⟨.int _, H, I.kept hk, ⟨_, rfl⟩, h1 _ (by rw [e]; exact f1) (by rw [e]; exact f2)⟩
theorem call_maxDefK (h : X.K = K) (hc : X.calm = true) (hu : X.A.units + 64 < cLine) : CallRK X (.builtin "max") [Str.ofString "default"] (rMaxDef K) := by subst h; exact cr_maxDef hc hu
theorem op_in_kdK {d : Addr} {es : Array DictEntry} {n : Nat} (h : X.K = K) (D : KDict X.K X.w d es n) : OpR X (compareOp .In) (fun x y H Q => ∃ (z : Str) (r : Option Value), x = .str z ∧ y = .ref d ∧ PySem.W.nsIn K d z = some r ∧ Q (.bl r.isSome) H) := by subst h; exact op_in_kd D
theorem pi_enumK {e : Expr} {ta : TA} {p pos tpos : Pos} {elts : List Expr} {kk : Nat} (h : X.K = K) (hg : Gl X "enumerate") (hm : X.mg "enumerate" = none) (ha : PA X [e] ta) (hs : starEach [e] X.env = [(false, eval e X.env)] := by rfl) :
    PI X (.Tuple elts kk tpos) (.Call (.Name "enumerate" p) [e] [] pos) (iEnum K ta) := by subst h; exact pi_enum hg hm ha hs
theorem mt_indexK (h : X.K = K) : MtR X "list.index" (rIndex K) := by subst h; exact mt_index
end
end Lz
namespace StX
open PySem L2
theorem pa_starK {X : Cx} {K : PySem.W.Frag} {e : Expr} {es : List Expr} {p : Pos} {te : TE} {t : TA} (h : X.K = K) (he : PE X e te) (hr : PA X es t) (hs : starEach (.Starred e p :: es) X.env = (true, eval e X.env) :: starEach es X.env := by rfl) : PA X (.Starred e p :: es) (tStar K te t) := by subst h; exact pa_star he hr hs
end StX

set_option Elab.async false
set_option linter.all false
set_option maxRecDepth 100000
set_option maxHeartbeats 4000000
namespace Lz
open PySem PySem.Spec PyProof.Rows L2
def topS (i : Nat) : Stmt := PySem.Challenge.pw_lazywebs_k46_cells_named.main.body.getD i (.Pass ⟨0, 0, 0, 0⟩)
/-- the built-ins are still there -/
structure Bt (mg : Str → Option Value) : Prop where
  len : mg "len" = none
  max : mg "max" = none
  min : mg "min" = none
  abs : mg "abs" = none
  range : mg "range" = none
  int : mg "int" = none
  list : mg "list" = none
  tuple : mg "tuple" = none
  sum : mg "sum" = none
  isinstance : mg "isinstance" = none

/-- a pen at p, its cells at a -/
def PenAt (H : Hp) (p a : Addr) : Prop := ∃ (ns : List Int) (t q : Int), H p = some (.lst [.ref a, .int t, .int q]) ∧ H a = some (.lst (ns.map V.int)) ∧ ns.length ≤ 63 ∧ 0 ≤ t ∧ 0 ≤ q
theorem PenAt.ne {H : Hp} {p a : Addr} (h : PenAt H p a) : a ≠ p := by
  obtain ⟨ns, t, q, h1, h2, _⟩ := h
  refine ne_of h2 h1 fun e => ?_
  have e' := HO.lst.inj e
  cases ns with
  | nil => cases e'
  | cons x r => cases e'
theorem PenAt.keep {S : List Addr} {H H' : Hp} {p a : Addr} (h : PenAt H p a) (k : Kp S H H') (hp : ¬ p ∈ S) (ha : ¬ a ∈ S) : PenAt H' p a := by
  obtain ⟨ns, t, q, h1, h2, h3⟩ := h
  exact ⟨ns, t, q, k.lst h1 hp, k.lst h2 ha, h3⟩
theorem PenAt.mut {H : Hp} {p a D : Addr} {o : HO} (h : PenAt H p a) (hp : D ≠ p) (ha : D ≠ a) : PenAt (upd H D o) p a := by
  obtain ⟨ns, t, q, h1, h2, h3⟩ := h
  exact ⟨ns, t, q, by rw [upd_ne hp.symm]; exact h1, by rw [upd_ne ha.symm]; exact h2, h3⟩
theorem PenAt.new {H : Hp} {p a D : Addr} {o : HO} (h : PenAt H p a) (hD : H D = none) : PenAt (upd H D o) p a := h.keep (S := []) (Kp.new hD) (fun h => nomatch h) (fun h => nomatch h)
theorem PenAt.apart {H : Hp} {p a D : Addr} (h : PenAt H p a) (hD : H D = none) : D ≠ p ∧ D ≠ a := by
  obtain ⟨ns, t, q, h1, h2, h3⟩ := h
  exact ⟨(ne_of_none h1 hD).symm, (ne_of_none h2 hD).symm⟩
theorem not1 {p D : Addr} (h : D ≠ p) : ¬ D ∈ [p] := fun m => h (List.mem_singleton.mp m)
theorem cal_mk {P : Program} {w : World} {K : PySem.W.Frag} {mg : Str → Option Value} {base : Heap} {k : Nat} {x : Str} {st : Stmt} {f : Addr} {fd : FuncData} {ps : List Str} {sp : Sp} (F : Fun K x x st f fd) (G : FnOk P w K mg base CX0 k f fd ps sp) (m : mg x = some (.ref f)) (b : Binds K fd ps []) : C8.Cal P w K mg base k x sp [] :=
  ⟨⟨f, fd, ps, [], G, m, F.kp, b, .nil⟩⟩
def spDraw (K : PySem.W.Frag) : Sp := fun vs H Q _ => ∃ (p a : Addr) (m : Int), vs = [.ref p, .int m] ∧ PenAt H p a ∧ 1 ≤ m ∧ m.natAbs < 2 ^ 250 ∧
  ∀ r H', Kp [p] H H' → PenAt H' p a → 0 ≤ r → r < m → Q (.int r) H'
section
variable {P : Program} {w : World} {K : PySem.W.Frag} {mg : Str → Option Value} {base : Heap} {f : Addr} {fd : FuncData}
abbrev sLDraw : Stmt := topS 4
theorem scLDraw : FnScope ["_law_pen_here", "_law_many", "_law_digit", "_law_at", "_law_cell_here", "_law_prime", "_law_number_here"] ["_law_pen_here", "_law_many"] (defScope sLDraw) := ⟨rfl, rfl, rfl, by decide +kernel, rfl, by decide +kernel, by decide +kernel⟩
theorem pen_put {H : Hp} {p a : Addr} {ns : List Int} {t q t' q' : Int} (h1 : H p = some (.lst [.ref a, .int t, .int q])) (h2 : H a = some (.lst (ns.map V.int))) (h3 : ns.length ≤ 63) (ht : 0 ≤ t') (hq : 0 ≤ q') : PenAt (upd H p (.lst [.ref a, .int t', .int q'])) p a := by
  have na : a ≠ p := ne_of h2 h1 fun e => by
    have e' := HO.lst.inj e
    cases ns with
    | nil => cases e'
    | cons x r => cases e'
  exact ⟨ns, t', q', upd_same, by rw [upd_ne na]; exact h2, h3, ht, hq⟩
theorem ok_draw (F : Fun K "_law_draw" "_law_draw" sLDraw f fd) (B : Bt mg) : FnOk P w K mg base CX0 1 f fd ["_law_pen_here", "_law_many"] (spDraw K) := by
  have ml := B.len
  have mmax := B.max
  have mabs := B.abs
  refine F.ok scLDraw (fun vs H Q E h => ?_) (fun cdv A outer s H vs Q E hr h => ?_)
  · obtain ⟨p, a, m, rfl, _⟩ := h
    rfl
  obtain ⟨p, a, m, rfl, hpen, hm1, hm2, k⟩ := h
  obtain ⟨ns, t, q, h1, h2, h3, ht, hq⟩ := id hpen
  have hpos : (0 : Int) < m := by omega
  have hw : CDivW q m := wide_div hpos hm2 (by decide) (by decide)
  refine ⟨_, (pss_cons (ps_if (pt_cmpR op_gt (pe_ix (ix_listK (K := K) rfl) (pv 0) pe_int (fun _ _ => rfl)) pe_int (nomark _)) (pss_cons (ps_set (i := 2) scLDraw.nd rfl (.inl rfl) (pe_op op_mod (pe_ix (ix_listK (K := K) rfl) (pv 0) pe_int (fun _ _ => rfl)) (pv 1)))
    (pss_cons (ps_asg (pe_op op_fdivW (pe_ix (ix_listK (K := K) rfl) (pv 0) pe_int (fun _ _ => rfl)) (pv 1)) (pg_sub (pv 0) pe_int set_list))
    (pss_one (ps_ret (pv 2))))) pss_nil)
    (pss_cons (ps_set (i := 3) scLDraw.nd rfl (.inl rfl) (pe_ix (ix_listK (K := K) rfl) (pv 0) pe_int (fun _ _ => rfl)))
    (pss_cons (ps_asg (pe_op op_add (pv 3) pe_int) (pg_sub (pv 0) pe_int set_list))
    (pss_cons (ps_set (i := 4) scLDraw.nd rfl (.inl rfl) (pe_ix (ix_listK (K := K) rfl) (pe_op op_cat (pe_ix (ix_listK (K := K) rfl) (pv 0) pe_int (fun _ _ => rfl)) (pe_lst (pa_cons pe_int pa_nil))) (pe_op op_mod (pv 3) (pe_callB (call_max2 rfl) (by rfl) mmax (by decide +kernel) (pa_cons pe_int (pa_cons (pe_callB (call_lenK (K := K) rfl) (by rfl) ml PySem.boot_len (pa_cons (pe_ix (ix_listK (K := K) rfl) (pv 0) pe_int (fun _ _ => rfl)) pa_nil)) pa_nil)))) (fun _ _ => rfl)))
    (C8.pss_cut (ps_if (PW.pt (pw_and (pt_cmpR op_lt (pv 3) (pe_callB (call_lenK (K := K) rfl) (by rfl) ml PySem.boot_len (pa_cons (pe_ix (ix_listK (K := K) rfl) (pv 0) pe_int (fun _ _ => rfl)) pa_nil)) (nomark _)) (pw_and1 (pt_cmpR op_ge (pe_callB call_abs (by rfl) mabs (by decide +kernel) (pa_cons (pv 4) pa_nil)) (pe_op op_pow pe_int pe_int) (nomark _))))) (pss_cons (ps_asg (pe_op op_fdivW (pe_callB call_abs (by rfl) mabs (by decide +kernel) (pa_cons (pv 4) pa_nil)) (pv 1)) (pg_sub (pv 0) pe_int set_list))
    (pss_one (ps_ret (pe_op op_mod (pe_callB call_abs (by rfl) mabs (by decide +kernel) (pa_cons (pv 4) pa_nil)) (pv 1))))) pss_nil)
    (pss_cons (ps_set (i := 5) scLDraw.nd rfl (.inl rfl) (pe_ix (ix_listK (K := K) rfl) (pe_lst (pa_cons pe_int (pa_cons pe_int (pa_cons pe_int (pa_cons pe_int (pa_cons pe_int (pa_cons pe_int (pa_cons pe_int pa_nil)))))))) (pe_op op_mod (pv 3) pe_int) (fun _ _ => rfl)))
    (pss_cons (ps_set (i := 6) scLDraw.nd rfl (.inl rfl) (pe_op op_mod (pe_op op_mul (pe_op op_add (pe_op op_add (pe_op op_mod (pv 4) pe_int) (pe_op op_mul pe_int (pv 3))) pe_int) pe_int) (pv 5)))
    (pss_cons (ps_set (i := 6) scLDraw.nd rfl (.inl rfl) (pe_op op_mod (pe_op op_add (pe_op op_add (pe_op op_mul (pv 6) (pv 6)) (pe_op op_mul pe_int (pv 6))) (pv 3)) pe_int))
    (pss_cons (ps_set (i := 6) scLDraw.nd rfl (.inl rfl) (pe_op op_mod (pe_op op_mul (pv 6) pe_int) pe_int))
    (C8.pss_cut (ps_if (pt_cmpR op_gt (pv 1) (pe_op op_pow pe_int pe_int) (nomark _)) (pss_one (ps_set (i := 6) scLDraw.nd rfl (.inl rfl) (pe_op op_pow (pv 6) pe_int))) pss_nil)
    (pss_one (ps_ret (pe_op op_mod (pe_op op_fdiv (pv 6) pe_int) (pv 1)))))))))))))), ?_⟩
  refine ⟨_, rfl, p, _, _, _, rfl, rfl, SqL.of h1, at_of (j := 2) rfl rfl, _, _, rfl, rfl, _, rfl, ?_⟩
  refine ite2 (fun c => ?_) (fun c => ?_)
  · refine ⟨_, rfl, p, _, _, _, rfl, rfl, SqL.of h1, at_of (j := 2) rfl rfl, _, rfl, _, _, rfl, rfl, hpos, ?_⟩
    refine ⟨_, rfl, p, _, _, _, rfl, rfl, SqL.of h1, at_of (j := 2) rfl rfl, _, rfl, _, _, rfl, rfl, hw, ?_⟩
    refine ⟨_, rfl, p, _, _, 2, rfl, rfl, h1, rfl, _, rfl, ?_⟩
    exact k _ _ (Kp.put h1 List.mem_cons_self) (pen_put h1 h2 h3 ht (Int.ediv_nonneg hq (by omega))) (Int.emod_nonneg _ (by omega)) (Int.emod_lt_of_pos _ hpos)
  · have na : a ≠ p := hpen.ne
    -- at = pen[1]; pen[1] = at + 1
    refine ⟨_, rfl, p, _, _, _, rfl, rfl, SqL.of h1, at_of (j := 1) rfl rfl, ?_⟩
    refine ⟨_, rfl, _, _, rfl, rfl, _, rfl, p, _, _, 1, rfl, rfl, h1, rfl, ?_⟩
    have hp1 : (upd H p (.lst [.ref a, .int (t + 1), .int q])) p = some (.lst [.ref a, .int (t + 1), .int q]) := upd_same
    have ha1 : (upd H p (.lst [.ref a, .int (t + 1), .int q])) a = some (.lst (ns.map V.int)) := by rw [upd_ne na]; exact h2
    have k1 : Kp [p] H (upd H p (.lst [.ref a, .int (t + 1), .int q])) := Kp.put h1 List.mem_cons_self
    show tSeq _ _ _ _ (upd H p (.lst [.ref a, .int (t + 1), .int q]))
    generalize upd H p (.lst [.ref a, .int (t + 1), .int q]) = H1 at hp1 ha1 k1
    -- cell
    refine ⟨_, rfl, p, _, _, _, rfl, rfl, SqL.of hp1, at_of (j := 0) rfl rfl, (by show 1 ≤ sizeLine; decide), fun l hl => ?_⟩
    have nla : a ≠ l := ne_of_none ha1 hl
    refine ⟨a, l, _, _, rfl, rfl, by rw [upd_ne nla]; exact ha1, upd_same, (by rw [List.length_map, List.length_singleton]; exact Nat.le_of_lt (small1000 (by omega))), fun l2 hl2 => ?_⟩
    have k2 : Kp [p] H1 (upd (upd H1 l (.lst [.int 7])) l2 (.lst (ns.map V.int ++ [.int 7]))) := (Kp.new hl).trans (Kp.new hl2)
    have hp2 : (upd (upd H1 l (.lst [.int 7])) l2 (.lst (ns.map V.int ++ [.int 7]))) p = some (.lst [.ref a, .int (t + 1), .int q]) := by
      have e1 : p ≠ l := ne_of_none hp1 hl
      have e2 : (upd H1 l (.lst [.int 7])) p = some (.lst [.ref a, .int (t + 1), .int q]) := by rw [upd_ne e1]; exact hp1
      rw [upd_ne (ne_of_none e2 hl2)]
      exact e2
    have ha2 : (upd (upd H1 l (.lst [.int 7])) l2 (.lst (ns.map V.int ++ [.int 7]))) a = some (.lst (ns.map V.int)) := by
      have e2 : (upd H1 l (.lst [.int 7])) a = some (.lst (ns.map V.int)) := by rw [upd_ne nla]; exact ha1
      rw [upd_ne (ne_of_none e2 hl2)]
      exact e2
    have hl3 : (upd (upd H1 l (.lst [.int 7])) l2 (.lst (ns.map V.int ++ [.int 7]))) l2 = some (.lst (ns.map V.int ++ [.int 7])) := upd_same
    show tOp _ _ _ _ (upd (upd H1 l (.lst [.int 7])) l2 (.lst (ns.map V.int ++ [.int 7]))) _
    generalize upd (upd H1 l (.lst [.int 7])) l2 (.lst (ns.map V.int ++ [.int 7])) = H2 at hp2 ha2 hl3 k2
    have hmx : (if (((ns.map V.int).length : Nat) : Int) > 1 then (((ns.map V.int).length : Nat) : Int) else 1) = max 1 (ns.length : Int) := by
      rw [List.length_map]
      omega
    refine ⟨_, rfl, _, rfl, p, _, _, _, rfl, rfl, SqL.of hp2, at_of (j := 0) rfl rfl, a, _, rfl, .inl (SqL.of ha2), _, _, rfl, ?_⟩
    refine ⟨_, _, rfl, rfl, (by show (0 : Int) < (if (((ns.map V.int).length : Nat) : Int) > 1 then _ else 1); rw [hmx]; omega), ?_⟩
    show rIxL _ _ (V.int (t % (if (((ns.map V.int).length : Nat) : Int) > 1 then _ else 1))) _ _
    rw [hmx]
    have hj0 : 0 ≤ t % max 1 (ns.length : Int) := Int.emod_nonneg _ (by omega)
    have hj1 : t % max 1 (ns.length : Int) < max 1 (ns.length : Int) := Int.emod_lt_of_pos _ (by omega)
    obtain ⟨cell, hcell⟩ : ∃ z : Int, (ns ++ [7])[(t % max 1 (ns.length : Int)).toNat]? = some z := by
      have : (t % max 1 (ns.length : Int)).toNat < (ns ++ [7]).length := by
        rw [List.length_append, List.length_singleton]
        omega
      exact ⟨_, List.getElem?_eq_getElem this⟩
    have hcell' : (ns.map V.int ++ [V.int 7])[(t % max 1 (ns.length : Int)).toNat]? = some (.int cell) := by
      have e : ns.map V.int ++ [V.int 7] = (ns ++ [7]).map V.int := by rw [List.map_append]; rfl
      rw [e, List.getElem?_map, hcell]
      rfl
    refine ⟨l2, _, _, _, rfl, rfl, SqL.of hl3, at_of (j := (t % max 1 (ns.length : Int)).toNat) (by omega) hcell', ?_⟩
    have pen2 : PenAt H2 p a := ⟨ns, t + 1, q, hp2, ha2, h3, by omega, hq⟩
    have kk : Kp [p] H H2 := k1.trans k2
    -- the great cells
    refine ⟨fun σ' H' => σ' = [some (.ref p), some (.int m), none, some (.int t), some (.int cell), none, none] ∧ H' = H2, ?_, ?_⟩
    · refine ⟨_, rfl, _, rfl, p, _, _, _, rfl, rfl, SqL.of hp2, at_of (j := 0) rfl rfl, a, _, rfl, .inl (SqL.of ha2), _, _, rfl, rfl, _, rfl, ?_⟩
      refine ite2 (fun c1 => ?_) (fun c1 => ⟨rfl, rfl⟩)
      refine ⟨_, rfl, _, rfl, _, _, rfl, rfl, ⟨by decide, by decide, by decide⟩, _, _, rfl, rfl, _, rfl, ?_⟩
      refine ite2 (fun c2 => ?_) (fun c2 => ⟨rfl, rfl⟩)
      have hab : 0 ≤ (if cell < 0 then -cell else cell) := by split <;> omega
      refine ⟨_, rfl, _, rfl, _, rfl, _, _, rfl, rfl, wide_div hpos hm2 (by decide) (by decide), ?_⟩
      refine ⟨_, rfl, p, _, _, 2, rfl, rfl, hp2, rfl, _, rfl, _, rfl, _, rfl, _, _, rfl, rfl, hpos, ?_⟩
      exact k _ _ (kk.trans (Kp.put hp2 List.mem_cons_self)) (pen_put hp2 ha2 h3 (by omega) (Int.ediv_nonneg hab (by omega))) (Int.emod_nonneg _ (by omega)) (Int.emod_lt_of_pos _ hpos)
    · rintro _ H2 ⟨rfl, rfl⟩
      -- a prime
      refine ⟨by show 7 ≤ sizeLine; decide, fun l3 hl3' => ?_⟩
      have k3 : Kp [p] H2 (upd H2 l3 (.lst [.int 2147483647, .int 2147483629, .int 2147483587, .int 2147483579, .int 2147483563, .int 2147483549, .int 2147483543])) := Kp.new hl3'
      have pen3 : PenAt (upd H2 l3 (.lst [.int 2147483647, .int 2147483629, .int 2147483587, .int 2147483579, .int 2147483563, .int 2147483549, .int 2147483543])) p a := ⟨ns, t + 1, q, by rw [upd_ne (ne_of_none hp2 hl3')]; exact hp2, by rw [upd_ne (ne_of_none ha2 hl3')]; exact ha2, h3, by omega, hq⟩
      obtain ⟨pr, hpr, hpr0, hpr1⟩ : ∃ z : Int, ([.int 2147483647, .int 2147483629, .int 2147483587, .int 2147483579, .int 2147483563, .int 2147483549, .int 2147483543] : List V)[(t % 7).toNat]? = some (.int z) ∧ 0 < z ∧ z < 2 ^ 32 := by
        have h0 : (t % 7).toNat < 7 := by omega
        generalize (t % 7).toNat = j at h0
        match j, h0 with
        | 0, _ => exact ⟨_, rfl, by decide, by decide⟩
        | 1, _ => exact ⟨_, rfl, by decide, by decide⟩
        | 2, _ => exact ⟨_, rfl, by decide, by decide⟩
        | 3, _ => exact ⟨_, rfl, by decide, by decide⟩
        | 4, _ => exact ⟨_, rfl, by decide, by decide⟩
        | 5, _ => exact ⟨_, rfl, by decide, by decide⟩
        | 6, _ => exact ⟨_, rfl, by decide, by decide⟩
      refine ⟨_, rfl, _, _, rfl, rfl, (by show (0 : Int) < 7; decide), l3, _, _, _, rfl, rfl, SqL.of upd_same, at_of (j := (t % 7).toNat) (by show t % 7 = _; omega) hpr, ?_⟩
      -- the number
      refine ⟨_, rfl, _, _, rfl, rfl, (by show (0 : Int) < 2147483497; decide), _, rfl, _, _, rfl, rfl, .inl ⟨by decide, by decide⟩, _, _, rfl, rfl, _, _, rfl, rfl, _, _, rfl, rfl, .inr ⟨by decide, by decide⟩, _, rfl, _, _, rfl, rfl, hpr0, ?_⟩
      show tSeq _ _ _ [some (.ref p), some (.int m), none, some (.int t), some (.int cell), some (.int pr), some (.int ((cell % 2147483497 + 69621 * t + 13) * 48271 % pr))] _
      have n0 : 0 ≤ (cell % 2147483497 + 69621 * t + 13) * 48271 % pr := Int.emod_nonneg _ (by omega)
      have n1 : (cell % 2147483497 + 69621 * t + 13) * 48271 % pr < pr := Int.emod_lt_of_pos _ hpr0
      generalize (cell % 2147483497 + 69621 * t + 13) * 48271 % pr = nu at n0 n1
      refine ⟨_, rfl, _, rfl, _, _, rfl, rfl, .inl ⟨by omega, by omega⟩, _, rfl, _, _, rfl, rfl, .inl ⟨by decide, by decide⟩, _, _, rfl, rfl, _, rfl, _, _, rfl, rfl, _, _, rfl, rfl, (by show (0 : Int) < 2147483489; decide), ?_⟩
      show tSeq _ _ _ [some (.ref p), some (.int m), none, some (.int t), some (.int cell), some (.int pr), some (.int ((nu * nu + 40692 * nu + t) % 2147483489))] _
      generalize (nu * nu + 40692 * nu + t) % 2147483489 = nv
      refine ⟨_, rfl, _, _, rfl, rfl, .inr ⟨by decide, by decide⟩, _, _, rfl, rfl, (by show (0 : Int) < 2147483477; decide), ?_⟩
      show C8.tCut _ _ _ [some (.ref p), some (.int m), none, some (.int t), some (.int cell), some (.int pr), some (.int (nv * 16807 % 2147483477))] _
      have v0 : 0 ≤ nv * 16807 % 2147483477 := Int.emod_nonneg _ (by omega)
      have v1 : nv * 16807 % 2147483477 < 2147483477 := Int.emod_lt_of_pos _ (by omega)
      generalize nv * 16807 % 2147483477 = nw at v0 v1
      have kl := kk.trans k3
      generalize upd H2 l3 _ = H3 at pen3 kl ⊢
      refine ⟨fun σ' H' => (∃ z : Int, σ' = [some (.ref p), some (.int m), none, some (.int t), some (.int cell), some (.int pr), some (.int z)]) ∧ H' = H3, ?_, ?_⟩
      · refine ⟨_, rfl, _, _, rfl, rfl, ⟨by decide, by decide, by decide⟩, _, _, rfl, rfl, _, rfl, ?_⟩
        refine ite2 (fun c1 => ?_) (fun c1 => ⟨⟨_, rfl⟩, rfl⟩)
        exact ⟨_, rfl, _, _, rfl, rfl, ⟨by decide, by decide, (by omega)⟩, ⟨_, rfl⟩, rfl⟩
      · rintro _ H3 ⟨⟨z, rfl⟩, rfl⟩
        refine ⟨_, rfl, _, _, rfl, rfl, ⟨by decide, by decide⟩, _, rfl, _, _, rfl, rfl, hpos, ?_⟩
        exact k _ _ kl pen3 (Int.emod_nonneg _ (by omega)) (Int.emod_lt_of_pos _ hpos)
end
end Lz

set_option Elab.async false
set_option linter.all false
set_option maxRecDepth 100000
set_option maxHeartbeats 4000000
namespace Lz
open PySem PySem.Spec PyProof.Rows L2
def spNames (K : PySem.W.Frag) : Sp := fun vs H Q _ => ∃ (p a : Addr) (m : Nat), vs = [.ref p, .int m] ∧ PenAt H p a ∧ m ≤ 26 ∧
  ∀ (l : Addr) (xs : List Str) (H' : Hp), Kp [p] H H' → PenAt H' p a → H l = none → H' l = some (.lst (xs.map V.str)) → xs.length = m → (∀ x, x ∈ xs → nmOk x) → xs.Nodup → Q (.ref l) H'
section
variable {P : Program} {w : World} {K : PySem.W.Frag} {mg : Str → Option Value} {base : Heap} {f : Addr} {fd : FuncData}
abbrev sLNames : Stmt := topS 5
theorem scLNames : FnScope ["_law_pen_here", "_law_many", "_law_letters", "_law_word", "_law_at", "_law_first", "_law_by", "_law_k"] ["_law_pen_here", "_law_many"] (defScope sLNames) := ⟨rfl, rfl, rfl, by decide +kernel, rfl, by decide +kernel, by decide +kernel⟩
theorem ok_names (F : Fun K "_law_names" "_law_names" sLNames f fd) (B : Bt mg) (CLDraw : C8.Cal P w K mg base 1 "_law_draw" (spDraw K) []) : FnOk P w K mg base CX0 2 f fd ["_law_pen_here", "_law_many"] (spNames K) := by
  have ml := B.len
  have mrange := B.range
  refine F.ok scLNames (fun vs H Q E h => ?_) (fun cdv A outer s H vs Q E hr h => ?_)
  · obtain ⟨p, a, m, rfl, _⟩ := h
    rfl
  obtain ⟨p, a, m, rfl, hpen, hm, k⟩ := h
  refine ⟨_, (pss_cons (ps_set (i := 2) scLNames.nd rfl (.inr rfl) pe_str)
    (pss_cons (ps_set (i := 3) scLNames.nd rfl (.inr rfl) (pe_join pe_str (pe_lc (own := [("_law_k", 7)]) rfl scLNames.nd (pi_range1 (by rfl) mrange (pa_cons (pe_op op_add pe_int (C8.pe_c CLDraw hr (by first | decide | omega) (by rfl) (pa_cons (pv 0) (pa_cons pe_int pa_nil)))) pa_nil)) (blkOk_by (N := ["_law_pen_here", "_law_many", "_law_letters", "_law_word", "_law_at", "_law_first", "_law_by", "_law_k"]) (sc := defScope sLNames) (by decide +kernel)) (fun _ _ _ _ _ => (pg_name (i := 7) scLNames.nd rfl (.inl rfl))) (fun _ _ _ _ _ => pts_nil) (fun _ _ _ _ _ => (pe_ix ix_str (pv 2) (C8.pe_c CLDraw hr (by first | decide | omega) (by rfl) (pa_cons (pv 0) (pa_cons pe_int pa_nil))) (fun _ _ => rfl))))))
    (pss_cons (ps_set (i := 4) scLNames.nd rfl (.inr rfl) (C8.pe_c CLDraw hr (by first | decide | omega) (by rfl) (pa_cons (pv 0) (pa_cons (pe_callB call_len_str (by rfl) ml PySem.boot_len (pa_cons (pv 3) pa_nil)) pa_nil))))
    (pss_cons (ps_set (i := 5) scLNames.nd rfl (.inr rfl) (C8.pe_c CLDraw hr (by first | decide | omega) (by rfl) (pa_cons (pv 0) (pa_cons pe_int pa_nil))))
    (pss_cons (ps_set (i := 6) scLNames.nd rfl (.inr rfl) (pe_ix (ix_listK (K := K) rfl) (pe_lst (pa_cons pe_int (pa_cons pe_int (pa_cons pe_int (pa_cons pe_int (pa_cons pe_int (pa_cons pe_int pa_nil))))))) (C8.pe_c CLDraw hr (by first | decide | omega) (by rfl) (pa_cons (pv 0) (pa_cons pe_int pa_nil))) (fun _ _ => rfl)))
    (pss_one (ps_ret (pe_lc (own := [("_law_k", 7)]) rfl scLNames.nd (pi_range1 (by rfl) mrange (pa_cons (pv 1) pa_nil)) (blkOk_by (N := ["_law_pen_here", "_law_many", "_law_letters", "_law_word", "_law_at", "_law_first", "_law_by", "_law_k"]) (sc := defScope sLNames) (by decide +kernel)) (fun _ _ _ _ _ => (pg_name (i := 7) scLNames.nd rfl (.inl rfl))) (fun _ _ _ _ _ => pts_nil) (fun _ _ _ _ _ => (pe_op op_add_str (pe_op op_add_str (pe_slice sl_str (pv 3) po_none (po_some (pv 4))) (pe_ix ix_str (pv 2) (pe_op op_mod (pe_op op_add (pv 5) (pe_op op_mul (pv 6) (pv 7))) pe_int) (fun _ _ => rfl))) (pe_slice sl_str (pv 3) (po_some (pe_op op_add (pv 4) pe_int)) po_none))))))))))), ?_⟩
  -- letters; the word
  refine ⟨⟨_, rfl⟩, ⟨_, rfl, p, a, 8, rfl, hpen, by decide, by decide, fun r H1 k1 pen1 r0 r1 => ?_⟩⟩
  refine ⟨_, _, rfl, rfl, _, rfl, (by omega), (by omega), fun D hD => ?_⟩
  obtain ⟨hDp, hDa⟩ := pen1.apart hD
  have hD0 : H D = none := k1.free hD (not1 hDp)
  refine lc_range (lo := 0) (n := (1 + r).toNat) (fun i H' => Kp [p] H H' ∧ PenAt H' p a ∧ ∃ cs : List Nat, H' D = some (.lst ((cs.map one).map V.str)) ∧ cs.length = i ∧ ∀ c, c ∈ cs → 97 ≤ c ∧ c ≤ 122)
    ⟨k1.mut hD0, pen1.new hD, [], upd_same, rfl, fun c h => nomatch h⟩ (fun i H2 hi ⟨kk, pn, cs, hc, hl, hcs⟩ => ?_) (fun H2 ⟨kk, pn, cs, hc, hl, hcs⟩ => ?_)
  · refine ⟨rfl, ?_⟩
    refine ⟨_, rfl, _, rfl, p, a, 26, rfl, pn, by decide, by decide, fun r2 H3 k3 pen3 r20 r21 => ?_⟩
    refine ⟨_, _, _, rfl, rfl, letters_len, letters_at r20 r21, ?_⟩
    have hc3 : H3 D = some (.lst ((cs.map one).map V.str)) := k3.lst hc (not1 hDp)
    have hc4 : (cs.map one).map V.str ++ [V.str (one (97 + r2.toNat))] = ((cs ++ [97 + r2.toNat]).map one).map V.str := by
      rw [List.map_append, List.map_append]
      rfl
    refine ⟨_, hc3, (by rw [List.length_map, List.length_map]; exact small1000 (by omega)), (kk.trans k3).mut hD0, pen3.mut hDp hDa, cs ++ [97 + r2.toNat], Eq.trans upd_same (congrArg (fun z => some (HO.lst z)) hc4), by rw [List.length_append, List.length_singleton, hl], fun c hcm => ?_⟩
    rcases List.mem_append.mp hcm with q | q
    · exact hcs c q
    · rw [List.mem_singleton.mp q]
      omega
  · have hz := join_ones cs
    have hlen : cs.length = (1 + r).toNat := hl
    refine ⟨_, D, _, rfl, rfl, .inl (SqL.of hc), (by rw [sum_ones, List.length_map]; show cs.length + cs.length * 0 ≤ _; omega), ?_⟩
    generalize hword : Txt.join ("" : Str) (cs.map one) = word at hz
    have hwl : word.length = cs.length := by rw [str_len, hz]
    have hws : word.length ≤ sizeLine := by rw [hwl]; exact Nat.le_of_lt (small1000 (by omega))
    -- at, first, by
    refine ⟨_, rfl, _, rfl, _, rfl, hws, p, a, _, rfl, pn, (by omega), (by omega), fun kat H3 k3 pen3 q0 q1 => ?_⟩
    refine ⟨_, rfl, p, a, 26, rfl, pen3, (by omega), (by decide), fun fi H4 k4 pen4 f0 f1 => ?_⟩
    refine ⟨(by show 6 ≤ sizeLine; decide), fun lb hlb => ?_⟩
    have hl5 : (upd H4 lb (.lst [.int 1, .int 3, .int 5, .int 7, .int 9, .int 11])) lb = some (.lst [.int 1, .int 3, .int 5, .int 7, .int 9, .int 11]) := upd_same
    have k5 := ((kk.trans k3).trans k4).trans (Kp.new (S := [p]) (o := .lst [.int 1, .int 3, .int 5, .int 7, .int 9, .int 11]) hlb)
    refine ⟨_, rfl, p, a, 6, rfl, pen4.new hlb, (by omega), (by decide), fun bi H6 k6 pen6 b0 b1 => ?_⟩
    have hl6 := k6.lst hl5 (not1 (pen4.apart hlb).1)
    obtain ⟨b, hb, hb6⟩ : ∃ b : Nat, ([.int 1, .int 3, .int 5, .int 7, .int 9, .int 11] : List V)[bi.toNat]? = some (.int (b : Int)) ∧ (b = 1 ∨ b = 3 ∨ b = 5 ∨ b = 7 ∨ b = 9 ∨ b = 11) := by
      have h0 : bi.toNat < 6 := by omega
      generalize bi.toNat = j at h0
      match j, h0 with
      | 0, _ => exact ⟨1, rfl, by omega⟩
      | 1, _ => exact ⟨3, rfl, by omega⟩
      | 2, _ => exact ⟨5, rfl, by omega⟩
      | 3, _ => exact ⟨7, rfl, by omega⟩
      | 4, _ => exact ⟨9, rfl, by omega⟩
      | 5, _ => exact ⟨11, rfl, by omega⟩
    refine ⟨lb, _, _, _, rfl, rfl, SqL.of hl6, at_of (j := bi.toNat) (by omega) hb, ?_⟩
    have k7 := k5.trans k6
    -- the names
    refine ⟨_, rfl, _, rfl, (by omega), (by omega), fun E1 hE => ?_⟩
    obtain ⟨hEp, hEa⟩ := pen6.apart hE
    have hE0 : H E1 = none := k7.free hE (not1 hEp)
    obtain ⟨ka, rfl⟩ : ∃ n : Nat, kat = (n : Int) := ⟨kat.toNat, by omega⟩
    obtain ⟨f, rfl⟩ : ∃ n : Nat, fi = (n : Int) := ⟨fi.toNat, by omega⟩
    refine lc_range (lo := 0) (n := (m : Int).toNat) (fun i H' => Kp [p] H H' ∧ PenAt H' p a ∧ H' E1 = some (.lst ((namesOf cs ka f b i).map V.str)))
      ⟨k7.mut hE0, pen6.new hE, upd_same⟩ (fun i H2 hi ⟨kk, pn, hc⟩ => ?_) (fun H2 ⟨kk, pn, hc⟩ => ?_)
    · refine ⟨rfl, ?_⟩
      refine ⟨_, rfl, _, rfl, _, rfl, _, rfl, hws, _, rfl, _, rfl, _, rfl, _, rfl, _, _, rfl, rfl, .inl ⟨by omega, by omega⟩, _, _, rfl, rfl, _, _, rfl, rfl, (by show (0 : Int) < 26; decide), ?_⟩
      have g0 : 0 ≤ ((f : Int) + (b : Int) * (0 + (i : Int))) % 26 := Int.emod_nonneg _ (by omega)
      have g1 : ((f : Int) + (b : Int) * (0 + (i : Int))) % 26 < 26 := Int.emod_lt_of_pos _ (by omega)
      have gz : (97 + (((f : Int) + (b : Int) * (0 + (i : Int))) % 26).toNat) = 97 + (f + b * i) % 26 := by
        have e : ((f : Int) + (b : Int) * (0 + (i : Int))) % 26 = (((f + b * i) % 26 : Nat) : Int) := by
          rw [Int.zero_add]
          norm_cast
        rw [e]
        omega
      have hw8 : word.length ≤ 8 := by omega
      have c1 := cutS_length word none (some (ka : Int))
      have c2 := cutS_length word (some ((ka : Int) + 1)) none
      have o1 : (⟨#[97 + (((f : Int) + (b : Int) * (0 + (i : Int))) % 26).toNat]⟩ : Str).length = 1 := rfl
      refine ⟨_, _, _, rfl, rfl, letters_len, letters_at g0 g1, _, _, rfl, rfl, (by rw [o1]; exact Nat.le_of_lt (small1000 (by omega))), ?_⟩
      refine ⟨_, rfl, _, rfl, _, _, rfl, rfl, _, rfl, _, rfl, hws, _, _, rfl, rfl, ?_, ?_⟩
      · rw [Str.length_append, o1]
        exact Nat.le_of_lt (small1000 (by omega))
      · refine ⟨_, hc, (by rw [List.length_map, namesOf_len]; exact small1000 (by omega)), kk.mut hE0, pn.mut hEp hEa, ?_⟩
        rw [upd_same, nameOf_eq hz, gz]
        show some (HO.lst (_ ++ [V.str _])) = _
        unfold namesOf
        rw [List.range_succ, List.map_append, List.map_append]
        rfl
    · have e : (m : Int).toNat = m := by omega
      rw [e] at hc
      have hcs1 : 1 ≤ cs.length := by omega
      exact k E1 _ H2 kk pn hE0 hc (namesOf_len _ _ _ _ _) (namesOf_ok hcs1 (by omega) (by omega) hcs) (namesOf_nodup hm hb6)
end
end Lz

set_option Elab.async false
set_option linter.all false
set_option maxRecDepth 100000
set_option maxHeartbeats 8000000
namespace Lz
open PySem PySem.Spec PyProof.Rows L2
def spNumber (K : PySem.W.Frag) : Sp := fun vs H Q _ => ∃ (p a : Addr), vs = [.ref p] ∧ PenAt H p a ∧ ∀ (i : Int) (H' : Hp), Kp [p] H H' → PenAt H' p a → i.natAbs < 10 ^ 60 → Q (.int i) H'
theorem cutV_to (xs : List V) (k : Nat) : cutV xs none (some (k : Int)) = xs.take k := by
  unfold cutV
  rw [HT.sIx_none, HT.sIx_nat, List.drop_zero, Nat.sub_zero]
  by_cases h : k ≤ xs.length
  · rw [Nat.min_eq_left h]
  · rw [Nat.min_eq_right (by omega), List.take_of_length_le (Nat.le_refl _), List.take_of_length_le (by omega)]
theorem cutV_from (xs : List V) (k : Nat) : cutV xs (some (k : Int)) none = xs.drop k := by
  unfold cutV
  rw [HT.sIx_none, HT.sIx_nat]
  by_cases h : k ≤ xs.length
  · rw [Nat.min_eq_left h]
    exact List.take_of_length_le (by rw [List.length_drop]; exact Nat.le_refl _)
  · rw [Nat.min_eq_right (by omega), List.drop_eq_nil_of_le (Nat.le_refl _), List.drop_eq_nil_of_le (by omega)]
    exact List.take_nil
def spPen (K : PySem.W.Frag) : Sp := fun vs H Q _ => ∃ (s : Addr) (ns : List Int), vs = [.ref s] ∧ SqL K H s (ns.map V.int) ∧ ns.length ≤ 63 ∧ ∀ (p a : Addr) (H' : Hp), Same H H' → H p = none → H a = none → PenAt H' p a → Q (.ref p) H'
section
variable {P : Program} {w : World} {K : PySem.W.Frag} {mg : Str → Option Value} {base : Heap} {f : Addr} {fd : FuncData}
abbrev sLNumber : Stmt := topS 6
theorem scLNumber : FnScope ["_law_pen_here", "_law_way"] ["_law_pen_here"] (defScope sLNumber) := ⟨rfl, rfl, rfl, by decide +kernel, rfl, by decide +kernel, by decide +kernel⟩
theorem ok_number (F : Fun K "_law_number" "_law_number" sLNumber f fd) (B : Bt mg) (CLDraw : C8.Cal P w K mg base 1 "_law_draw" (spDraw K) []) : FnOk P w K mg base CX0 2 f fd ["_law_pen_here"] (spNumber K) := by
  refine F.ok scLNumber (fun vs H Q E h => ?_) (fun cdv A outer s H vs Q E hr h => ?_)
  · obtain ⟨p, a, rfl, _⟩ := h
    rfl
  obtain ⟨p, a, rfl, hpen, k⟩ := h
  refine ⟨_, (pss_cons (ps_set (i := 1) scLNumber.nd rfl (.inl rfl) (C8.pe_c CLDraw hr (by first | decide | omega) (by rfl) (pa_cons (pv 0) (pa_cons pe_int pa_nil))))
    (pss_cons (ps_if (pt_cmpR op_eq (pv 1) pe_int (nomark _)) (pss_one (ps_ret (pe_op op_add (pe_op op_sub (C8.pe_c CLDraw hr (by first | decide | omega) (by rfl) (pa_cons (pv 0) (pa_cons (pe_op op_sub (pe_op op_mul pe_int (pe_op op_pow pe_int pe_int)) pe_int) pa_nil))) (pe_op op_pow pe_int pe_int)) pe_int))) pss_nil)
    (pss_cons (ps_if (pt_cmpR op_eq (pv 1) pe_int (nomark _)) (pss_one (ps_ret (pe_op op_sub (C8.pe_c CLDraw hr (by first | decide | omega) (by rfl) (pa_cons (pv 0) (pa_cons (pe_op op_mul pe_int (pe_op op_pow pe_int pe_int)) pa_nil))) (pe_op op_pow pe_int pe_int)))) pss_nil)
    (pss_one (ps_ret (pe_op op_sub (C8.pe_c CLDraw hr (by first | decide | omega) (by rfl) (pa_cons (pv 0) (pa_cons pe_int pa_nil))) (pe_ix (ix_listK (K := K) rfl) (pe_lst (pa_cons pe_int (pa_cons pe_int (pa_cons pe_int (pa_cons pe_int (pa_cons pe_int (pa_cons pe_int (pa_cons pe_int pa_nil)))))))) (pv 1) (fun _ _ => rfl)))))))), ?_⟩
  refine ⟨_, rfl, p, a, 9, rfl, hpen, by decide, by decide, fun way H1 k1 pen1 w0 w1 => ?_⟩
  refine ⟨_, rfl, rfl, _, rfl, ?_⟩
  refine ite2 (fun c => ?_) (fun c => ?_)
  · refine ⟨_, rfl, _, _, rfl, rfl, ⟨by decide, by decide, by decide⟩, _, _, rfl, rfl, .inl ⟨by decide, by decide⟩, _, _, rfl, rfl, p, a, _, rfl, pen1, by decide, by decide, fun r H2 k2 pen2 r0 r1 => ?_⟩
    refine ⟨_, _, rfl, rfl, ⟨by decide, by decide, by decide⟩, _, _, rfl, rfl, _, _, rfl, rfl, ?_⟩
    refine k _ H2 (k1.trans k2) pen2 ?_
    have r1' : r < 2 * 10 ^ 60 - 1 := r1
    show (r - 10 ^ 60 + 1 : Int).natAbs < 10 ^ 60
    omega
  refine ⟨_, rfl, rfl, _, rfl, ?_⟩
  refine ite2 (fun c2 => ?_) (fun c2 => ?_)
  · refine ⟨_, rfl, _, _, rfl, rfl, ⟨by decide, by decide, by decide⟩, _, _, rfl, rfl, .inl ⟨by decide, by decide⟩, p, a, _, rfl, pen1, by decide, by decide, fun r H2 k2 pen2 r0 r1 => ?_⟩
    refine ⟨_, _, rfl, rfl, ⟨by decide, by decide, by decide⟩, _, _, rfl, rfl, ?_⟩
    refine k _ H2 (k1.trans k2) pen2 ?_
    have r1' : r < 2 * 10 ^ 31 := r1
    show (r - 10 ^ 31 : Int).natAbs < 10 ^ 60
    omega
  have hw7 : way < 7 := by
    have e1 : ¬ V.int way = V.int 8 := of_decide_eq_false (Bool.eq_false_iff.mpr c)
    have e2 : ¬ V.int way = V.int 7 := of_decide_eq_false (Bool.eq_false_iff.mpr c2)
    have e1' : way ≠ 8 := fun h => e1 (by rw [h])
    have e2' : way ≠ 7 := fun h => e2 (by rw [h])
    omega
  refine ⟨_, rfl, p, a, 9, rfl, pen1, by decide, by decide, fun r H2 k2 pen2 r0 r1 => ?_⟩
  refine ⟨by show 7 ≤ sizeLine; decide, fun l hl => ?_⟩
  obtain ⟨z, hz, hz4⟩ : ∃ z : Int, ([.int 0, .int 0, .int 0, .int 1, .int 2, .int 4, .int 0] : List V)[way.toNat]? = some (.int z) ∧ 0 ≤ z ∧ z ≤ 4 := by
    have h0 : way.toNat < 7 := by omega
    generalize way.toNat = j at h0
    match j, h0 with
    | 0, _ => exact ⟨0, rfl, by omega⟩
    | 1, _ => exact ⟨0, rfl, by omega⟩
    | 2, _ => exact ⟨0, rfl, by omega⟩
    | 3, _ => exact ⟨1, rfl, by omega⟩
    | 4, _ => exact ⟨2, rfl, by omega⟩
    | 5, _ => exact ⟨4, rfl, by omega⟩
    | 6, _ => exact ⟨0, rfl, by omega⟩
  refine ⟨_, rfl, l, _, _, _, rfl, rfl, SqL.of upd_same, at_of (j := way.toNat) (by omega) hz, _, _, rfl, rfl, ?_⟩
  refine k _ _ ((k1.trans k2).trans (Kp.new hl)) (pen2.new hl) ?_
  show (r - z : Int).natAbs < 10 ^ 60
  omega
abbrev sLPen : Stmt := topS 3
theorem scLPen : FnScope ["_law_script"] ["_law_script"] (defScope sLPen) := ⟨rfl, rfl, rfl, by decide +kernel, rfl, by decide +kernel, by decide +kernel⟩
theorem ok_pen (F : Fun K "_law_pen" "_law_pen" sLPen f fd) (B : Bt mg) : FnOk P w K mg base CX0 1 f fd ["_law_script"] (spPen K) := by
  have mlist := B.list
  refine F.ok scLPen (fun vs H Q E h => ?_) (fun cdv A outer s H vs Q E hr h => ?_)
  · obtain ⟨s, ns, rfl, _⟩ := h
    rfl
  obtain ⟨s0, ns, rfl, hS, hlen, k⟩ := h
  refine ⟨_, (pss_one (ps_ret (pe_lst (pa_cons (pe_callTy (call_listK (K := K) rfl) (by rfl) mlist (by decide +kernel) (pa_cons (pe_slice (sl_listK (K := K) rfl) (pv 0) po_none (po_some pe_int)) pa_nil)) (pa_cons pe_int (pa_cons pe_int pa_nil)))))), ?_⟩
  refine ⟨_, rfl, _, rfl, s0, _, rfl, hS, fun l hl => ?_⟩
  have s1 : Same H (upd H l (.lst (cutV (ns.map V.int) none (some 63)))) := same_new hl
  have ec : cutV (ns.map V.int) none (some 63) = ns.map V.int := by
    have := cutV_to (ns.map V.int) 63
    rw [List.take_of_length_le (by rw [List.length_map]; exact hlen)] at this
    exact this
  refine ⟨l, _, rfl, .inl (SqL.of upd_same), fun a ha => ?_⟩
  have s2 := same_new (o := .lst (cutV (ns.map V.int) none (some 63))) ha
  refine ⟨(by show 3 ≤ sizeLine; decide), fun p hp => ?_⟩
  have s3 := same_new (o := .lst [.ref a, .int 0, .int 0]) hp
  have hap : a ≠ p := fun e => by
    rw [← e, upd_same] at hp
    cases hp
  refine k p a _ (s1.trans (s2.trans s3)) ((s1.trans s2).free hp) (s1.free ha) ⟨ns, 0, 0, upd_same, ?_, hlen, by omega, by omega⟩
  rw [upd_ne hap, upd_same, ec]
end
end Lz

set_option Elab.async false
set_option linter.all false
set_option maxRecDepth 100000
set_option maxHeartbeats 8000000
namespace Lz
open PySem PySem.Spec PyProof.Rows L2
/-- a cell, and the cells that it names -/
inductive CellD : PyData → List Int → Prop
  | num (i : Int) : CellD (.tuple [.str "number", .int i]) []
  | bare : CellD (.tuple [.str "bare"]) []
  | call (x : Str) : CellD (.tuple [.str "call", .str x]) []
  | fn (x : Str) (ns : List Int) : CellD (.tuple [.str "function", .str x, .tuple (ns.map .int)]) ns
  | oth (k : Str) (ns : List Int) : ¬ k ∈ (["function", "number", "call", "bare"] : List Str) → CellD (.tuple (.str k :: ns.map .int)) ns
theorem ints_fz : ∀ ns : List Int, fzAll (ns.map .int) = true
  | [] => rfl
  | n :: ns => ints_fz ns
theorem CellD.fz {d : PyData} {ns : List Int} (h : CellD d ns) : fz d = true := by
  cases h with
  | num i => rfl
  | bare => rfl
  | call x => rfl
  | fn x ns =>
    show (true && (true && (fzAll (ns.map .int) && true))) = true
    rw [ints_fz]; rfl
  | oth k ns _ =>
    show (true && fzAll (ns.map .int)) = true
    rw [ints_fz]; rfl
theorem unconsN {K : PySem.W.Frag} {H : Hp} {vs : List V} {d : PyData} {ds : List PyData} (h : DpAll K H vs (d :: ds)) : ∃ v r, vs = v :: r ∧ Dp K H v d ∧ DpAll K H r ds := by
  cases h with
  | cons h1 h2 => exact ⟨_, _, rfl, h1, h2⟩
theorem nilN {K : PySem.W.Frag} {H : Hp} {vs : List V} (h : DpAll K H vs []) : vs = [] := by cases h; rfl
theorem ints_of {K : PySem.W.Frag} {H : Hp} : ∀ {vs : List V} {ns : List Int}, DpAll K H vs (ns.map .int) → vs = ns.map V.int
  | _, [], h => nilN h
  | _, n :: ns, h => by
    obtain ⟨v, r, rfl, h1, h2⟩ := unconsN h
    rw [h1.int_of, ints_of h2]
    rfl
theorem dp_ints {K : PySem.W.Frag} {H : Hp} : ∀ ns : List Int, DpAll K H (ns.map V.int) (ns.map .int)
  | [] => .nil
  | n :: ns => .cons (.int n) (dp_ints ns)
def spNamed (K : PySem.W.Frag) : Sp := fun vs H Q _ => ∃ (v : V) (d : PyData) (ns : List Int), vs = [v] ∧ Dp K H v d ∧ CellD d ns ∧ ∀ (l : Addr) (H' : Hp), Kp [] H H' → H l = none → H' l = some (.lst (ns.map V.int)) → Q (.ref l) H'
theorem cut_tlN (x : V) (xs : List V) : cutV (x :: xs) (some 1) none = xs := cutV_from (x :: xs) 1
theorem not_wholeN (x : V) (xs : List V) : ¬ (HT.sIx (x :: xs).length 0 (some 1) = 0 ∧ HT.sIx (x :: xs).length (x :: xs).length none = (x :: xs).length) := fun h => by
  have e := h.1
  rw [show HT.sIx (x :: xs).length 0 (some 1) = min 1 (x :: xs).length from HT.sIx_nat _ _ 1, List.length_cons] at e
  omega
theorem inNo {k : Str} {l : List Str} (h : ¬ k ∈ l) : inV (V.str k) (l.map V.str) = false := by
  induction l with
  | nil => rfl
  | cons x r ih =>
    have h1 : k ≠ x := fun e => h (by rw [e]; exact List.mem_cons_self)
    have h2 := ih fun m => h (List.mem_cons_of_mem _ m)
    unfold inV at h2 ⊢
    rw [List.map_cons, List.any_cons, h2]
    have e : eqV (V.str x) (V.str k) = false := decide_eq_false fun e => h1 e.symm
    rw [e]
    rfl
theorem inYes {k : Str} {l : List Str} (h : k ∈ l) : inV (V.str k) (l.map V.str) = true := by
  induction l with
  | nil => exact nomatch h
  | cons x r ih =>
    unfold inV at ih ⊢
    rw [List.map_cons, List.any_cons]
    rcases List.mem_cons.mp h with e | m
    · have e' : eqV (V.str x) (V.str k) = true := decide_eq_true e.symm
      rw [e']; rfl
    · rw [ih m, Bool.or_true]
section
variable {P : Program} {w : World} {K : PySem.W.Frag} {mg : Str → Option Value} {base : Heap} {f : Addr} {fd : FuncData}
abbrev sNamedBy : Stmt := topS 1
theorem scNamedBy : FnScope ["cell", "kind"] ["cell"] (defScope sNamedBy) := ⟨rfl, rfl, rfl, by decide +kernel, rfl, by decide +kernel, by decide +kernel⟩
theorem ok_named (F : Fun K "named_by" "named_by" sNamedBy f fd) (B : Bt mg) : FnOk P w K mg base CX0 1 f fd ["cell"] (spNamed K) := by
  have mlist := B.list
  refine F.ok scNamedBy (fun vs H Q E h => ?_) (fun cdv A outer s H vs Q E hr h => ?_)
  · obtain ⟨v, d, ns, rfl, _⟩ := h
    rfl
  obtain ⟨v, d, ns, rfl, hd, hc, q⟩ := h
  refine ⟨_, (pss_cons (ps_set (i := 1) scNamedBy.nd rfl (.inl rfl) (pe_ix (ix_tupK (K := K) rfl) (pv 0) pe_int (fun _ _ => rfl)))
    (pss_cons (ps_if (pt_cmpR op_eq (pv 1) pe_str (nomark _)) (pss_one (ps_ret (pe_callTy (call_listK (K := K) rfl) (by rfl) mlist (by decide +kernel) (pa_cons (pe_ix (ix_tupK (K := K) rfl) (pv 0) pe_int (fun _ _ => rfl)) pa_nil)))) pss_nil)
    (pss_cons (ps_if (pt_cmpR (op_inK (K := K) rfl) (pv 1) (pe_tup (pa_cons pe_str (pa_cons pe_str (pa_cons pe_str pa_nil)))) rfl) (pss_one (ps_ret (pe_lst pa_nil))) pss_nil)
    (pss_one (ps_ret (pe_callTy (call_listK (K := K) rfl) (by rfl) mlist (by decide +kernel) (pa_cons (pe_slice (sl_tupAK (K := K) rfl) (pv 0) (po_some pe_int) po_none) pa_nil))))))), ?_⟩
  obtain ⟨a, k, xs, rfl, ht, h1, h2, h3⟩ : ∃ (a : Addr) (k : Str) (xs : List V), v = .ref a ∧ SqT K H a (.str k :: xs) ∧ (k = "function" → ∃ t2, xs[1]? = some (.ref t2) ∧ SqT K H t2 (ns.map V.int)) ∧ (k ∈ (["number", "call", "bare"] : List Str) → ns = []) ∧ (k ≠ "function" → ¬ k ∈ (["number", "call", "bare"] : List Str) → xs = ns.map V.int) := by
    cases hc with
    | num i =>
      obtain ⟨a, xs, rfl, ht, hx⟩ := hd.tup_of
      obtain ⟨u, r, rfl, hu, hr⟩ := unconsN hx
      rw [hu.str_of] at ht
      exact ⟨a, _, r, rfl, ht, fun e => absurd e (by decide +kernel), fun _ => rfl, fun _ n => absurd (show ("number" : Str) ∈ _ by decide +kernel) n⟩
    | bare =>
      obtain ⟨a, xs, rfl, ht, hx⟩ := hd.tup_of
      obtain ⟨u, r, rfl, hu, hr⟩ := unconsN hx
      rw [hu.str_of] at ht
      exact ⟨a, _, r, rfl, ht, fun e => absurd e (by decide +kernel), fun _ => rfl, fun _ n => absurd (show ("bare" : Str) ∈ _ by decide +kernel) n⟩
    | call x =>
      obtain ⟨a, xs, rfl, ht, hx⟩ := hd.tup_of
      obtain ⟨u, r, rfl, hu, hr⟩ := unconsN hx
      rw [hu.str_of] at ht
      exact ⟨a, _, r, rfl, ht, fun e => absurd e (by decide +kernel), fun _ => rfl, fun _ n => absurd (show ("call" : Str) ∈ _ by decide +kernel) n⟩
    | fn x ns =>
      obtain ⟨a, xs, rfl, ht, hx⟩ := hd.tup_of
      obtain ⟨u, r, rfl, hu, hr⟩ := unconsN hx
      obtain ⟨u2, r2, rfl, hu2, hr2⟩ := unconsN hr
      obtain ⟨u3, r3, rfl, hu3, hr3⟩ := unconsN hr2
      rw [hu.str_of] at ht
      obtain ⟨t2, ys, rfl, ht2, hy⟩ := hu3.tup_of
      rw [ints_of hy] at ht2
      exact ⟨a, _, _, rfl, ht, fun _ => ⟨t2, rfl, ht2⟩, fun e => absurd e (by decide +kernel), fun e => absurd rfl e⟩
    | oth k ns hk =>
      obtain ⟨a, xs, rfl, ht, hx⟩ := hd.tup_of
      obtain ⟨u, r, rfl, hu, hr⟩ := unconsN hx
      rw [hu.str_of] at ht
      exact ⟨a, _, _, rfl, ht, fun e => absurd (show k ∈ _ by rw [e]; exact List.mem_cons_self) hk, fun m => absurd (List.mem_cons_of_mem _ m) hk, fun _ _ => ints_of hr⟩
  refine ⟨_, rfl, a, _, _, _, rfl, rfl, ht, at_of (j := 0) rfl rfl, ?_⟩
  refine ⟨_, rfl, rfl, _, rfl, ?_⟩
  refine ite2 (fun c => ?_) (fun c => ?_)
  · obtain ⟨t2, e2, ht2⟩ := h1 (V.str.inj (of_decide_eq_true c))
    refine ⟨_, rfl, a, _, _, _, rfl, rfl, ht, at_of (j := 2) rfl (by rw [List.getElem?_cons_succ]; exact e2), t2, _, rfl, .inr ht2, fun l hl => ?_⟩
    exact q l _ (Kp.new hl) hl upd_same
  have hk : k ≠ "function" := fun e => c (decide_eq_true (congrArg V.str e))
  refine ⟨_, rfl, (by show 3 ≤ sizeLine; decide), fun T hT => ?_⟩
  have kT : Kp [] H (upd H T (.tup [.str "number", .str "call", .str "bare"])) := Kp.new hT
  have hT1 : (upd H T (.tup [.str "number", .str "call", .str "bare"])) T = some (.tup [.str "number", .str "call", .str "bare"]) := upd_same
  generalize upd H T (.tup [.str "number", .str "call", .str "bare"]) = H1 at kT hT1 ⊢
  refine ⟨T, _, rfl, .inr (SqT.of hT1), rfl, rfl, _, rfl, ?_⟩
  refine ite2 (fun c2 => ?_) (fun c2 => ?_)
  · have hm : k ∈ (["number", "call", "bare"] : List Str) := by
      by_cases m : k ∈ (["number", "call", "bare"] : List Str)
      · exact m
      · have e := inNo m
        rw [show (["number", "call", "bare"] : List Str).map V.str = [.str "number", .str "call", .str "bare"] from rfl] at e
        rw [e] at c2
        cases c2
    obtain rfl := h2 hm
    refine ⟨Nat.zero_le _, fun l hl => ?_⟩
    exact q l _ (kT.trans (Kp.new hl)) (kT.free hl (fun m => nomatch m)) upd_same
  · have hm : ¬ k ∈ (["number", "call", "bare"] : List Str) := fun m => by
      have e : inV (V.str k) [.str "number", .str "call", .str "bare"] = true := inYes m
      exact c2 e
    obtain rfl := h3 hk hm
    refine ⟨_, rfl, _, rfl, a, _, rfl, kT.sqT ht, fun z => absurd z (not_wholeN _ _), fun _ t2 ht2 => ?_⟩
    refine ⟨t2, _, rfl, .inr (.inl (.inl upd_same)), fun l hl => ?_⟩
    rw [cut_tlN] at hl ⊢
    have k2 : Kp [] H1 (upd H1 t2 (.tup (ns.map V.int))) := Kp.new ht2
    exact q l _ (kT.trans (k2.trans (Kp.new hl))) ((kT.trans k2).free hl (fun m => nomatch m)) upd_same
end
end Lz

set_option Elab.async false
set_option linter.all false
set_option maxRecDepth 100000
set_option maxHeartbeats 8000000
namespace Lz
open PySem PySem.Spec PyProof.Rows L2
def kindsL : List Str := ["number", "call", "bare", "same", "left", "right", "give", "plus", "less", "times", "below", "pair", "when", "function"]
theorem kinds_split : Txt.split "number call bare same left right give plus less times below pair when function" " " = kindsL := by decide +kernel
abbrev mkv : List (Key × V) := mergeK [] [(Sum.inr "number", .int 0), (Sum.inr "call", .int 0), (Sum.inr "bare", .int 0), (Sum.inr "same", .int 1), (Sum.inr "left", .int 1), (Sum.inr "right", .int 1), (Sum.inr "when", .int 3)]
theorem many_of {k : Str} (h : k ∈ kindsL) : ∃ m : Nat, (valV mkv (Sum.inr k)).getD (.int 2) = .int m ∧ m ≤ 3 := by
  unfold kindsL at h
  simp only [List.mem_cons, List.not_mem_nil, or_false] at h
  rcases h with rfl | rfl | rfl | rfl | rfl | rfl | rfl | rfl | rfl | rfl | rfl | rfl | rfl | rfl
  · exact ⟨0, by decide +kernel, by decide⟩
  · exact ⟨0, by decide +kernel, by decide⟩
  · exact ⟨0, by decide +kernel, by decide⟩
  · exact ⟨1, by decide +kernel, by decide⟩
  · exact ⟨1, by decide +kernel, by decide⟩
  · exact ⟨1, by decide +kernel, by decide⟩
  · exact ⟨2, by decide +kernel, by decide⟩
  · exact ⟨2, by decide +kernel, by decide⟩
  · exact ⟨2, by decide +kernel, by decide⟩
  · exact ⟨2, by decide +kernel, by decide⟩
  · exact ⟨2, by decide +kernel, by decide⟩
  · exact ⟨2, by decide +kernel, by decide⟩
  · exact ⟨3, by decide +kernel, by decide⟩
  · exact ⟨2, by decide +kernel, by decide⟩
def spCell (K : PySem.W.Frag) : Sp := fun vs H Q _ => ∃ (p a : Addr), vs = [.ref p] ∧ PenAt H p a ∧ ∀ (t l : Addr) (v : V) (d : PyData) (ns : List Int) (H' : Hp), Kp [p] H H' → PenAt H' p a → H' t = some (.tup [v, .ref l]) → Dp K H' v d → CellD d ns → ns.length ≤ 3 → H' l = some (.lst (ns.map V.int)) → l ≠ p → Q (.ref t) H'
section
variable {P : Program} {w : World} {K : PySem.W.Frag} {mg : Str → Option Value} {base : Heap} {f : Addr} {fd : FuncData}
abbrev sLCell : Stmt := topS 7
theorem scLCell : FnScope ["_law_pen_here", "_law_kinds", "_law_kind", "_law_many", "_law_named", "_law_k"] ["_law_pen_here"] (defScope sLCell) := ⟨rfl, rfl, rfl, by decide +kernel, rfl, by decide +kernel, by decide +kernel⟩
theorem ok_cell (F : Fun K "_law_cell" "_law_cell" sLCell f fd) (B : Bt mg) (CLDraw : C8.Cal P w K mg base 1 "_law_draw" (spDraw K) []) (CLNumber : C8.Cal P w K mg base 2 "_law_number" (spNumber K) []) (CLNames : C8.Cal P w K mg base 2 "_law_names" (spNames K) []) : FnOk P w K mg base CX0 3 f fd ["_law_pen_here"] (spCell K) := by
  have mtup := B.tuple
  have mrange := B.range
  refine F.ok scLCell (fun vs H Q E h => ?_) (fun cdv A outer s H vs Q E hr h => ?_)
  · obtain ⟨p, a, rfl, _⟩ := h
    rfl
  have hu := hu_of hr
  obtain ⟨p, a, rfl, pen0, D⟩ := h
  refine ⟨_, (pss_cons (ps_set (i := 1) scLCell.nd rfl (.inl rfl) (pe_split pe_str pe_str))
    (pss_cons (ps_set (i := 2) scLCell.nd rfl (.inl rfl) (pe_ix (ix_listK (K := K) rfl) (pv 1) (C8.pe_c CLDraw hr (by first | decide | omega) (by rfl) (pa_cons (pv 0) (pa_cons pe_int pa_nil))) (fun _ _ => rfl)))
    (pss_cons (ps_set (i := 3) scLCell.nd rfl (.inl rfl) (pe_dget2 hu (pe_disp (pps_cons pe_str pe_int (pps_cons pe_str pe_int (pps_cons pe_str pe_int (pps_cons pe_str pe_int (pps_cons pe_str pe_int (pps_cons pe_str pe_int (pps_cons pe_str pe_int pps_nil))))))) rfl rfl (by intro q; cases q) (by decide)) (pv 2) pe_int ⟨rfl, rfl, rfl, rfl⟩))
    (pss_cons (ps_setLc (i := 4) (own := [("_law_k", 5)]) rfl scLCell.nd rfl rfl (sw_true rfl rfl rfl (by decide +kernel)) (pi_range1 (by rfl) mrange (pa_cons (pv 3) pa_nil)) (blkOk_by (N := ["_law_pen_here", "_law_kinds", "_law_kind", "_law_many", "_law_named", "_law_k"]) (sc := defScope sLCell) (by decide +kernel)) (fun _ _ _ _ _ => (pg_name (i := 5) scLCell.nd rfl (.inl rfl))) (fun _ _ _ _ _ => pts_nil) (fun _ _ _ _ _ => (C8.pe_c CLDraw hr (by first | decide | omega) (by rfl) (pa_cons (pv 0) (pa_cons pe_int pa_nil)))))
    (pss_cons (ps_if (pt_cmpR op_eq (pv 2) pe_str (nomark _)) (pss_one (ps_ret (pe_tup (pa_cons (pe_tup (pa_cons pe_str (pa_cons (C8.pe_c CLNumber hr (by first | decide | omega) (by rfl) (pa_cons (pv 0) pa_nil)) pa_nil))) (pa_cons (pe_lst pa_nil) pa_nil))))) pss_nil)
    (pss_cons (ps_if (pt_cmpR op_eq (pv 2) pe_str (nomark _)) (pss_one (ps_ret (pe_tup (pa_cons (pe_tup (pa_cons pe_str pa_nil)) (pa_cons (pe_lst pa_nil) pa_nil))))) pss_nil)
    (pss_cons (ps_if (pt_cmpR op_eq (pv 2) pe_str (nomark _)) (pss_one (ps_ret (pe_tup (pa_cons (pe_tup (pa_cons pe_str (pa_cons (pe_ix (ix_listK (K := K) rfl) (pe_lst (pa_cons (pe_ix (ix_listK (K := K) rfl) (C8.pe_c CLNames hr (by first | decide | omega) (by rfl) (pa_cons (pv 0) (pa_cons pe_int pa_nil))) pe_int (fun _ _ => rfl)) (pa_cons pe_str pa_nil))) (C8.pe_c CLDraw hr (by first | decide | omega) (by rfl) (pa_cons (pv 0) (pa_cons pe_int pa_nil))) (fun _ _ => rfl)) pa_nil))) (pa_cons (pe_lst pa_nil) pa_nil))))) pss_nil)
    (pss_cons (ps_if (pt_cmpR op_eq (pv 2) pe_str (nomark _)) (pss_cons (ps_setLc (i := 4) (own := [("_law_k", 5)]) rfl scLCell.nd rfl rfl (sw_true rfl rfl rfl (by decide +kernel)) (pi_range1 (by rfl) mrange (pa_cons (C8.pe_c CLDraw hr (by first | decide | omega) (by rfl) (pa_cons (pv 0) (pa_cons pe_int pa_nil))) pa_nil)) (blkOk_by (N := ["_law_pen_here", "_law_kinds", "_law_kind", "_law_many", "_law_named", "_law_k"]) (sc := defScope sLCell) (by decide +kernel)) (fun _ _ _ _ _ => (pg_name (i := 5) scLCell.nd rfl (.inl rfl))) (fun _ _ _ _ _ => pts_nil) (fun _ _ _ _ _ => (C8.pe_c CLDraw hr (by first | decide | omega) (by rfl) (pa_cons (pv 0) (pa_cons pe_int pa_nil)))))
    (pss_one (ps_ret (pe_tup (pa_cons (pe_tup (pa_cons pe_str (pa_cons (pe_ix (ix_listK (K := K) rfl) (C8.pe_c CLNames hr (by first | decide | omega) (by rfl) (pa_cons (pv 0) (pa_cons pe_int pa_nil))) pe_int (fun _ _ => rfl)) (pa_cons (pe_callTy (call_tupleK (K := K) rfl) (by rfl) mtup (by decide +kernel) (pa_cons (pv 4) pa_nil)) pa_nil)))) (pa_cons (pv 4) pa_nil)))))) pss_nil)
    (pss_one (ps_ret (pe_tup (pa_cons (pe_callTy (call_tupleK (K := K) rfl) (by rfl) mtup (by decide +kernel) (pa_cons (pe_op op_cat (pe_lst (pa_cons (pv 2) pa_nil)) (pv 4)) pa_nil)) (pa_cons (pv 4) pa_nil))))))))))))), ?_⟩
  refine ⟨⟨_, rfl⟩, _, _, rfl, rfl, (by decide +kernel), (by decide +kernel), fun l hl => ?_⟩
  have k1 : Kp [p] H (upd H l (.lst (kindsL.map V.str))) := Kp.new hl
  have pen1 := pen0.new (o := .lst (kindsL.map V.str)) hl
  have hl1 : (upd H l (.lst (kindsL.map V.str))) l = some (.lst (kindsL.map V.str)) := upd_same
  have nlp := (pen0.apart hl).1
  rw [kinds_split]
  generalize upd H l (.lst (kindsL.map V.str)) = H1 at k1 pen1 hl1 ⊢
  refine ⟨_, rfl, _, rfl, p, a, 14, rfl, pen1, (by decide), (by decide), fun z H2 k2 pen2 z0 z1 => ?_⟩
  have hl2 := k2.lst hl1 (not1 nlp)
  have hz : z.toNat < kindsL.length := by show z.toNat < 14; omega
  obtain ⟨k, hk, hkm⟩ : ∃ k : Str, (kindsL.map V.str)[z.toNat]? = some (.str k) ∧ k ∈ kindsL := ⟨kindsL[z.toNat], by rw [List.getElem?_map, List.getElem?_eq_getElem hz]; rfl, List.getElem_mem hz⟩
  refine ⟨l, _, _, _, rfl, rfl, SqL.of hl2, at_of (j := z.toNat) (by omega) hk, ?_⟩
  have kk2 := k1.trans k2
  -- how many
  refine fun dd hdd => ⟨upd_same, [(Sum.inr _, .int _), (Sum.inr _, .int _), (Sum.inr _, .int _), (Sum.inr _, .int _), (Sum.inr _, .int _), (Sum.inr _, .int _), (Sum.inr _, .int _)], rfl, by decide, ?_⟩
  have k3 : Kp [p] H2 (upd (upd H2 dd (.dK [])) dd (.dK mkv)) := by rw [upd_upd]; exact Kp.new hdd
  have pen3 : PenAt (upd (upd H2 dd (.dK [])) dd (.dK mkv)) p a := by rw [upd_upd]; exact pen2.new hdd
  have hd3 : (upd (upd H2 dd (.dK [])) dd (.dK mkv)) dd = some (.dK mkv) := upd_same
  obtain ⟨m, hm, hm3⟩ := many_of hkm
  refine ⟨dd, rfl, .inl ⟨_, .inl hd3⟩, _, rfl, _, DGet.k (k := Sum.inr k) hd3, ?_⟩
  rw [hm]
  generalize upd (upd H2 dd (.dK [])) dd (.dK mkv) = H3 at k3 pen3 ⊢
  have kk3 := kk2.trans k3
  clear hd3 k1 k2 k3 hl1 hl2 pen1 pen2 hdd hl kk2
  refine ⟨_, rfl, _, rfl, (by omega), (by omega), fun E1 hE => ?_⟩
  have hE0 : H E1 = none := kk3.free hE (not1 (pen3.apart hE).1)
  have hEp := (pen3.apart hE).1
  have hEa := (pen3.apart hE).2
  refine lc_range (lo := 0) (n := (m : Int).toNat) (fun i H' => Kp [p] H H' ∧ PenAt H' p a ∧ ∃ ns : List Int, ns.length = i ∧ H' E1 = some (.lst (ns.map V.int)))
      ⟨kk3.mut hE0, pen3.new hE, [], rfl, upd_same⟩ (fun i H2 hi ⟨kk, pn, ns, hl, hc⟩ => ?_) (fun H2 ⟨kk, pn, ns, hl, hc⟩ => ?_)
  · refine ⟨rfl, ?_⟩
    refine ⟨_, rfl, p, a, 4001, rfl, pn, by decide, by decide, fun r H5 k5 pen5 r0 r1 => ?_⟩
    have hc5 : H5 E1 = some (.lst (ns.map V.int)) := k5.lst hc (not1 hEp)
    refine ⟨_, hc5, (by rw [List.length_map]; exact small1000 (by omega)), (kk.trans k5).mut hE0, pen5.mut hEp hEa, ns ++ [r], (by rw [List.length_append, hl]; rfl), ?_⟩
    rw [upd_same, List.map_append]
    rfl
  have hm' : ns.length ≤ 3 := by omega
  have hnp : E1 ≠ p := hEp
  clear hE hE0 hl kk3 pen3 hEp hEa hm
  -- what stands for two new objects behind
  have out : ∀ (H3 : Hp) (q1 l t : Addr) (xs : List V) (ds : List PyData), Kp [p] H H3 → PenAt H3 p a → H3 q1 = none → DpAll K H3 xs ds → fzAll ds = true → CellD (.tuple ds) [] → (upd H3 q1 (.tup xs)) l = none → (upd (upd H3 q1 (.tup xs)) l (.lst [])) t = none → Q (.ref t) (upd (upd (upd H3 q1 (.tup xs)) l (.lst [])) t (.tup [.ref q1, .ref l])) := fun H3 q1 l t xs ds k3 pen3 hq1 hx hf hc hl ht => by
    have k4 : Kp [p] H3 (upd H3 q1 (.tup xs)) := Kp.new hq1
    have k5 : Kp [p] (upd H3 q1 (.tup xs)) (upd (upd H3 q1 (.tup xs)) l (.lst [])) := Kp.new hl
    have k6 : Kp [p] (upd (upd H3 q1 (.tup xs)) l (.lst [])) (upd (upd (upd H3 q1 (.tup xs)) l (.lst [])) t (.tup [.ref q1, .ref l])) := Kp.new ht
    have pen4 := pen3.new (o := .tup xs) hq1
    have pen5 := pen4.new (o := .lst []) hl
    have hfz : fz (.tuple ds) = true := hf
    have hd4 : Dp K (upd H3 q1 (.tup xs)) (.ref q1) (.tuple ds) := Dp.newT hq1 hx hf
    refine D t l (.ref q1) (.tuple ds) [] _ (k3.trans (k4.trans (k5.trans k6))) (pen5.new ht) upd_same (Dp.keep (k5.trans k6) _ _ hfz hd4) hc (Nat.zero_le _) ?_ (pen4.apart hl).1
    rw [upd_ne (ne_of_none (show (upd (upd H3 q1 (.tup xs)) l (.lst [])) l = some (.lst []) from upd_same) ht)]
    exact upd_same
  refine ⟨_, rfl, rfl, _, rfl, ?_⟩
  refine ite2 (fun c => ?_) (fun c1 => ?_)
  · refine ⟨_, rfl, p, a, rfl, pn, fun i H3 k3 pen3 hi => ?_⟩
    refine ⟨(by show 2 ≤ sizeLine; decide), fun q1 hq1 => ⟨Nat.zero_le _, fun l2 hl2 => ⟨(by show 2 ≤ sizeLine; decide), fun t ht => ?_⟩⟩⟩
    exact out H3 q1 l2 t _ [.str "number", .int i] (kk.trans k3) pen3 hq1 (.cons (.str _) (.cons (.int _) .nil)) rfl (.num i) hl2 ht
  refine ⟨_, rfl, rfl, _, rfl, ?_⟩
  refine ite2 (fun c => ?_) (fun c2 => ?_)
  · refine ⟨(by show 1 ≤ sizeLine; decide), fun q1 hq1 => ⟨Nat.zero_le _, fun l2 hl2 => ⟨(by show 2 ≤ sizeLine; decide), fun t ht => ?_⟩⟩⟩
    exact out H2 q1 l2 t _ [.str "bare"] kk pn hq1 (.cons (.str _) .nil) rfl .bare hl2 ht
  refine ⟨_, rfl, rfl, _, rfl, ?_⟩
  refine ite2 (fun c => ?_) (fun c3 => ?_)
  · refine ⟨_, rfl, p, a, 1, rfl, pn, by decide, fun E2 cs H3 k3 pen3 hE2 hc3 hl3 _ _ => ?_⟩
    obtain ⟨x, rfl⟩ : ∃ x, cs = [x] := by
      match cs, hl3 with
      | [x], _ => exact ⟨x, rfl⟩
    refine ⟨E2, _, _, _, rfl, rfl, SqL.of hc3, at_of (j := 0) rfl rfl, (by show 2 ≤ sizeLine; decide), fun lb hlb => ?_⟩
    have pen4 := pen3.new (o := .lst [.str x, .str ""]) hlb
    have hb4 : (upd H3 lb (.lst [.str x, .str ""])) lb = some (.lst [.str x, .str ""]) := upd_same
    have k4 := (kk.trans k3).trans (Kp.new (S := [p]) (o := .lst [.str x, .str ""]) hlb)
    refine ⟨_, rfl, p, a, 2, rfl, pen4, by decide, by decide, fun z2 H5 k5 pen5 z20 z21 => ?_⟩
    have hb5 := k5.lst hb4 (not1 (pen3.apart hlb).1)
    obtain ⟨y, hy⟩ : ∃ y : Str, ([.str x, .str ""] : List V)[z2.toNat]? = some (.str y) := by
      have h0 : z2.toNat < 2 := by omega
      generalize z2.toNat = j at h0
      match j, h0 with
      | 0, _ => exact ⟨_, rfl⟩
      | 1, _ => exact ⟨_, rfl⟩
    refine ⟨lb, _, _, _, rfl, rfl, SqL.of hb5, at_of (j := z2.toNat) (by omega) hy, ?_⟩
    refine ⟨(by show 2 ≤ sizeLine; decide), fun q1 hq1 => ⟨Nat.zero_le _, fun l2 hl2 => ⟨(by show 2 ≤ sizeLine; decide), fun t ht => ?_⟩⟩⟩
    exact out H5 q1 l2 t _ [.str "call", .str y] (k4.trans k5) pen5 hq1 (.cons (.str _) (.cons (.str _) .nil)) rfl (.call y) hl2 ht
  refine ⟨_, rfl, rfl, _, rfl, ?_⟩
  refine ite2 (fun c => ?_) (fun c4 => ?_)
  · refine ⟨_, rfl, p, a, 4, rfl, pn, by decide, by decide, fun m2 H3 k3 pen3 m20 m21 => ?_⟩
    refine ⟨_, rfl, (by omega), (by omega), fun E2 hE => ?_⟩
    have kk3 := kk.trans k3
    have hE0 : H E2 = none := kk3.free hE (not1 (pen3.apart hE).1)
    have hEp := (pen3.apart hE).1
    have hEa := (pen3.apart hE).2
    refine lc_range (lo := 0) (n := m2.toNat) (fun i H' => Kp [p] H H' ∧ PenAt H' p a ∧ ∃ ns : List Int, ns.length = i ∧ H' E2 = some (.lst (ns.map V.int)))
        ⟨kk3.mut hE0, pen3.new hE, [], rfl, upd_same⟩ (fun i H2 hi ⟨kk, pn, ns, hl, hc⟩ => ?_) (fun H2 ⟨kk, pn, ns, hl, hc⟩ => ?_)
    · refine ⟨rfl, ?_⟩
      refine ⟨_, rfl, p, a, 4001, rfl, pn, by decide, by decide, fun r H5 k5 pen5 r0 r1 => ?_⟩
      have hc5 : H5 E2 = some (.lst (ns.map V.int)) := k5.lst hc (not1 hEp)
      refine ⟨_, hc5, (by rw [List.length_map]; exact small1000 (by omega)), (kk.trans k5).mut hE0, pen5.mut hEp hEa, ns ++ [r], (by rw [List.length_append, hl]; rfl), ?_⟩
      rw [upd_same, List.map_append]
      rfl
    have hns3 : ns.length ≤ 3 := by omega
    refine ⟨_, rfl, p, a, 1, rfl, pn, by decide, fun E3 cs H4 k4 pen4 hE3 hc4 hl4 _ _ => ?_⟩
    obtain ⟨x, rfl⟩ : ∃ x, cs = [x] := by
      match cs, hl4 with
      | [x], _ => exact ⟨x, rfl⟩
    have hc5 := k4.lst hc (not1 hEp)
    refine ⟨E3, _, _, _, rfl, rfl, SqL.of hc4, at_of (j := 0) rfl rfl, _, rfl, E2, _, rfl, .inl ⟨SqL.of hc5, fun tt htt => ?_⟩⟩
    have k5 := (kk.trans k4).trans (Kp.new (S := [p]) (o := .tup (ns.map V.int)) htt)
    have pen5 := pen4.new (o := .tup (ns.map V.int)) htt
    have hc6 := (Kp.new (S := [p]) (o := .tup (ns.map V.int)) htt).lst hc5 (not1 hEp)
    have ht5 : Dp K (upd H4 tt (.tup (ns.map V.int))) (.ref tt) (.tuple (ns.map .int)) := Dp.newT htt (dp_ints ns) (ints_fz ns)
    refine ⟨(by show 3 ≤ sizeLine; decide), fun q1 hq1 => ⟨_, rfl, (by show 2 ≤ sizeLine; decide), fun t ht => ?_⟩⟩
    have hcell := CellD.fn x ns
    generalize upd H4 tt (.tup (ns.map V.int)) = H6 at k5 pen5 hc6 ht5 hq1 ht ⊢
    have k7 : Kp [p] H6 (upd H6 q1 (.tup [.str "function", .str x, .ref tt])) := Kp.new hq1
    have pen7 := pen5.new (o := .tup [.str "function", .str x, .ref tt]) hq1
    have k8 : Kp [p] (upd H6 q1 (.tup [.str "function", .str x, .ref tt])) (upd (upd H6 q1 (.tup [.str "function", .str x, .ref tt])) t (.tup [.ref q1, .ref E2])) := Kp.new ht
    have hd7 : Dp K (upd H6 q1 (.tup [.str "function", .str x, .ref tt])) (.ref q1) (.tuple [.str "function", .str x, .tuple (ns.map .int)]) := Dp.newT hq1 (.cons (.str _) (.cons (.str _) (.cons ht5 .nil))) (by
      show (true && (true && (fzAll (ns.map .int) && true))) = true
      rw [ints_fz]; rfl)
    exact D t E2 (.ref q1) _ ns _ (k5.trans (k7.trans k8)) (pen7.new ht) upd_same (Dp.keep k8 _ _ hcell.fz hd7) hcell hns3 ((k7.trans k8).lst hc6 (not1 hEp)) hEp
  have hno : ¬ k ∈ (["function", "number", "call", "bare"] : List Str) := fun m => by
    simp only [List.mem_cons, List.not_mem_nil, or_false] at m
    rcases m with e | e | e | e
    · exact c4 (decide_eq_true (congrArg V.str e))
    · exact c1 (decide_eq_true (congrArg V.str e))
    · exact c3 (decide_eq_true (congrArg V.str e))
    · exact c2 (decide_eq_true (congrArg V.str e))
  refine ⟨_, rfl, (by show 1 ≤ sizeLine; decide), fun l1 hl1 => ?_⟩
  have n1 : E1 ≠ l1 := ne_of_none hc hl1
  refine ⟨_, rfl, l1, E1, _, _, rfl, rfl, upd_same, (by rw [upd_ne n1]; exact hc), (by rw [List.length_map]; exact Nat.le_of_lt (small1000 (by show 1 + ns.length ≤ 1000; omega))), fun l2 hl2 => ?_⟩
  have k1 : Kp [p] H2 (upd H2 l1 (.lst [.str k])) := Kp.new hl1
  have pen1 := pn.new (o := .lst [.str k]) hl1
  have hc1 := k1.lst hc (not1 hnp)
  have k2 := kk.trans (k1.trans (Kp.new (S := [p]) (o := .lst ([.str k] ++ ns.map V.int)) hl2))
  have pen2 := pen1.new (o := .lst ([.str k] ++ ns.map V.int)) hl2
  have hc2 := (Kp.new (S := [p]) (o := .lst ([.str k] ++ ns.map V.int)) hl2).lst hc1 (not1 hnp)
  have hl3 : (upd (upd H2 l1 (.lst [.str k])) l2 (.lst ([.str k] ++ ns.map V.int))) l2 = some (.lst ([.str k] ++ ns.map V.int)) := upd_same
  generalize upd (upd H2 l1 (.lst [.str k])) l2 (.lst ([.str k] ++ ns.map V.int)) = H4 at k2 pen2 hc2 hl3 ⊢
  refine ⟨l2, _, rfl, .inl ⟨SqL.of hl3, fun q1 hq1 => ?_⟩⟩
  refine ⟨_, rfl, (by show 2 ≤ sizeLine; decide), fun t ht => ?_⟩
  have hcell := CellD.oth k ns hno
  have hfz := hcell.fz
  have k7 : Kp [p] H4 (upd H4 q1 (.tup ([.str k] ++ ns.map V.int))) := Kp.new hq1
  have pen7 := pen2.new (o := .tup ([.str k] ++ ns.map V.int)) hq1
  have k8 : Kp [p] (upd H4 q1 (.tup ([.str k] ++ ns.map V.int))) (upd (upd H4 q1 (.tup ([.str k] ++ ns.map V.int))) t (.tup [.ref q1, .ref E1])) := Kp.new ht
  have hd7 : Dp K (upd H4 q1 (.tup ([.str k] ++ ns.map V.int))) (.ref q1) (.tuple (.str k :: ns.map .int)) := Dp.newT hq1 (.cons (.str _) (dp_ints ns)) hfz
  exact D t E1 (.ref q1) _ ns _ (k2.trans (k7.trans k8)) (pen7.new ht) upd_same (Dp.keep k8 _ _ hfz hd7) hcell hm' ((k7.trans k8).lst hc2 (not1 hnp)) hnp
end
end Lz

set_option Elab.async false
set_option linter.all false
set_option maxRecDepth 100000
set_option maxHeartbeats 8000000
namespace Lz
open PySem PySem.Spec PyProof.Rows L2
def spLaw (K : PySem.W.Frag) : Sp := fun vs H Q _ => ∃ (s : Addr) (ns : List Int), vs = [.ref s] ∧ SqL K H s (ns.map V.int) ∧ ns.length ≤ 63 ∧ ∀ H', Q (.bl true) H'
theorem ints_shaped (ns : List Int) : SeqAt.shaped (.list (ns.map .int)) = true := by
  have e2 : (PyData.list (ns.map .int)).canLay0 = PyData.canLayAll0 (ns.map .int) := by rw [PyData.canLay0]
  have e3 : PyData.canLayAll0 (ns.map .int) = true := layAll_iff.mpr fun d m => by
    obtain ⟨i, _, rfl⟩ := List.mem_map.mp m
    simp only [PyData.canLay0]
  have e4 : (PyData.list (ns.map .int)).depth ≤ 1 := by
    have : PyData.depthAll (ns.map .int) ≤ 0 := depthAll_le fun d m => by
      obtain ⟨i, _, rfl⟩ := List.mem_map.mp m
      simp only [PyData.depth, Nat.le_refl]
    simp only [PyData.depth]
    omega
  unfold SeqAt.shaped
  rw [e2, e3, Bool.true_and]
  exact decide_eq_true (by omega)
theorem ints_same (ns : List Int) : PyData.eqv (.list (ns.map .int)) (.list (ns.map .int)) = true := by
  rw [PyData.eqv]
  exact SeqAt.eqvAll_refl _ (layAll_iff.mpr fun d m => by
    obtain ⟨i, _, rfl⟩ := List.mem_map.mp m
    simp only [PyData.canLay0])
section
variable {P : Program} {w : World} {K : PySem.W.Frag} {mg : Str → Option Value} {base : Heap} {f : Addr} {fd : FuncData}
abbrev sLaw : Stmt := topS 8
theorem scLaw : FnScope ["_law_script", "_law_pen_here", "_law_turn", "_law_cell_here", "_law_due", "_law_found"] ["_law_script"] (defScope sLaw) := ⟨rfl, rfl, rfl, by decide +kernel, rfl, by decide +kernel, by decide +kernel⟩
theorem ok_law (F : Fun K "law" "law" sLaw f fd) (B : Bt mg) (CLPen : C8.Cal P w K mg base 1 "_law_pen" (spPen K) []) (CLCell : C8.Cal P w K mg base 3 "_law_cell" (spCell K) []) (CNamedBy : C8.Cal P w K mg base 1 "named_by" (spNamed K) []) : FnOk P w K mg base CX0 4 f fd ["_law_script"] (spLaw K) := by
  have mis := B.isinstance
  have mlist := B.list
  have mrange := B.range
  refine F.ok scLaw (fun vs H Q E h => ?_) (fun cdv A outer s H vs Q E hr h => ?_)
  · obtain ⟨s0, ns, rfl, _⟩ := h
    rfl
  have hu64 := hr.units
  obtain ⟨s0, ns, rfl, hS, hlen, q⟩ := h
  refine ⟨_, (pss_cons (ps_set (i := 1) scLaw.nd rfl (.inl rfl) (C8.pe_c CLPen hr (by first | decide | omega) (by rfl) (pa_cons (pv 0) pa_nil)))
    (pss_cons (ps_for PassesOwn.never rfl (pi_range1 (by rfl) mrange (pa_cons pe_int pa_nil)) (pg_name (i := 2) scLaw.nd rfl (.inl rfl)) (pss_cons (ps_asg (C8.pe_c CLCell hr (by first | decide | omega) (by rfl) (pa_cons (pv 1) pa_nil)) (pg_tupK (K := K) (n := 2) rfl rfl (pgs_cons (pg_name (i := 3) scLaw.nd rfl (.inl rfl)) (pgs_cons (pg_name (i := 4) scLaw.nd rfl (.inl rfl)) pgs_nil))))
    (pss_cons (ps_set (i := 5) scLaw.nd rfl (.inl rfl) (C8.pe_c CNamedBy hr (by first | decide | omega) (by rfl) (pa_cons (pv 3) pa_nil)))
    (pss_cons (ps_if (PW.pt (pw_or (pt_not (pt_truthK (K := K) rfl (pe_callB (call_isK (K := K) rfl) (by rfl) mis (by decide +kernel) (pa_cons (pv 5) (pa_cons (pe_bltn (v := .ty "list") (by rfl) mlist (by decide +kernel) rfl) pa_nil))) (fun _ => rfl))) (pw_or1 (pt_cmpR (op_neDK (K := K) rfl hu64) (pv 5) (pv 4) (nomark _))))) (pss_one (ps_ret pe_bl)) pss_nil)
    (pss_cons (ps_expr (pe_bmK (K := K) rfl PySem.F.plainAttrs_list PySem.F.slot_list_append PySem.F.type_list_append mt_append (pv 5) (pa_cons pe_int pa_nil)))
    (pss_one (ps_if (pt_cmpR (op_neDK (K := K) rfl hu64) (C8.pe_c CNamedBy hr (by first | decide | omega) (by rfl) (pa_cons (pv 3) pa_nil)) (pv 4) (nomark _)) (pss_one (ps_ret pe_bl)) pss_nil)))))))
    (pss_one (ps_ret pe_bl)))), ?_⟩
  refine ⟨_, rfl, s0, ns, rfl, hS, hlen, fun p a H1 s1 hp ha pen1 => ?_⟩
  refine ⟨_, rfl, (by decide), (by decide), for_range (lo := 0) (n := (20 : Int).toNat) (fun i σ H' => ∃ (v2 v3 v4 v5 : Option V), σ = [some (.ref s0), some (.ref p), v2, v3, v4, v5] ∧ PenAt H' p a)
      ⟨none, none, none, none, rfl, pen1⟩ ?_ ?_⟩
  · rintro i σ H2 hi ⟨v2, v3, v4, v5, rfl, pen2⟩
    refine ⟨_, rfl, p, a, rfl, pen2, fun t l v d ns H3 k3 pen3 ht hd hc h3 hl hlp => ?_⟩
    refine ⟨t, _, rfl, SqT.of ht, rfl, _, _, rfl, _, _, rfl, rfl, ?_⟩
    refine ⟨_, rfl, v, d, ns, rfl, hd, hc, fun lf H4 k4 hfn hf => ?_⟩
    have hl4 := k4.lst hl (fun m => nomatch m)
    have nlf : l ≠ lf := ne_of_none hl hfn
    refine ⟨_, rfl, .ref lf, .ty "list", .type "list", .type "list", true, rfl, .ty _, .base (.lst hf), kit_ty (by decide +kernel), true, rfl, ?_⟩
    refine ⟨_, rfl, _, rfl, _, _, .lst (SqL.of hf) (dp_ints ns), .lst (SqL.of hl4) (dp_ints ns), ints_shaped ns, ints_shaped ns, _, rfl, ?_⟩
    rw [ints_same]
    refine ⟨_, rfl, .inl ⟨rfl, _, SqL.of hf⟩, lf, _, _, rfl, rfl, hf, (by rw [List.length_map]; exact small1000 (by omega)), ?_⟩
    have k5 : Kp [lf] H4 (upd H4 lf (.lst (ns.map V.int ++ [.int 0]))) := Kp.put hf List.mem_cons_self
    have k5' : Kp [] H3 (upd H4 lf (.lst (ns.map V.int ++ [.int 0]))) := k4.mut hfn
    have hl5 := k5.lst hl4 (not1 nlf)
    refine ⟨_, rfl, v, d, ns, rfl, Dp.keep k5' _ _ hc.fz hd, hc, fun l3 H6 k6 hn6 h6 => ?_⟩
    refine ⟨_, rfl, _, _, .lst (SqL.of h6) (dp_ints ns), .lst (SqL.of (k6.lst hl5 (fun m => nomatch m))) (dp_ints ns), ints_shaped ns, ints_shaped ns, _, rfl, ?_⟩
    rw [ints_same]
    exact ⟨_, _, _, _, rfl, pen3.keep (k5'.trans k6) (fun m => nomatch m) (fun m => nomatch m)⟩
  · rintro σ H2 ⟨v2, v3, v4, v5, rfl, pen2⟩
    exact q _
end
end Lz

set_option Elab.async false
set_option linter.all false
set_option maxRecDepth 100000
set_option maxHeartbeats 8000000
namespace Lz
open PySem PySem.Spec PyProof.Rows L2
theorem all_mk {l : PySem.W.OpenLaw} {w : World} {K : PySem.W.Frag} {h : Heap} {mg : Str → Option Value} {fa : Addr} (X : K.In h) (G : h.Ns mainGlobals mg) (hfa : mg "law" = some (.ref fa))
    {fNamedBy : Addr} {odNamedBy anNamedBy : Option Addr} {slNamedBy : Array (Option Value)} {ocNamedBy kVNamedBy dcNamedBy pmNamedBy cdNamedBy ctNamedBy : Value}
    (aNamedBy : PySem.W.nsIn K mainGlobals "named_by" = some (some (.ref fNamedBy))) (lNamedBy : K.lookup fNamedBy = some ⟨ocNamedBy, odNamedBy, .func (PySem.W.fnOf "named_by" "named_by" (defArgs sNamedBy) (defBody sNamedBy) (defScope sNamedBy) .none kVNamedBy dcNamedBy pmNamedBy anNamedBy cdNamedBy ctNamedBy), slNamedBy⟩) (cNamedBy : PySem.W.codeIn K cdNamedBy "named_by" = true) (kNamedBy : PySem.W.keepIn K (.ref fNamedBy) = true)
    {fLPen : Addr} {odLPen anLPen : Option Addr} {slLPen : Array (Option Value)} {ocLPen kVLPen dcLPen pmLPen cdLPen ctLPen : Value}
    (aLPen : PySem.W.nsIn K mainGlobals "_law_pen" = some (some (.ref fLPen))) (lLPen : K.lookup fLPen = some ⟨ocLPen, odLPen, .func (PySem.W.fnOf "_law_pen" "_law_pen" (defArgs sLPen) (defBody sLPen) (defScope sLPen) .none kVLPen dcLPen pmLPen anLPen cdLPen ctLPen), slLPen⟩) (cLPen : PySem.W.codeIn K cdLPen "_law_pen" = true) (kLPen : PySem.W.keepIn K (.ref fLPen) = true)
    {fLDraw : Addr} {odLDraw anLDraw : Option Addr} {slLDraw : Array (Option Value)} {ocLDraw kVLDraw dcLDraw pmLDraw cdLDraw ctLDraw : Value}
    (aLDraw : PySem.W.nsIn K mainGlobals "_law_draw" = some (some (.ref fLDraw))) (lLDraw : K.lookup fLDraw = some ⟨ocLDraw, odLDraw, .func (PySem.W.fnOf "_law_draw" "_law_draw" (defArgs sLDraw) (defBody sLDraw) (defScope sLDraw) .none kVLDraw dcLDraw pmLDraw anLDraw cdLDraw ctLDraw), slLDraw⟩) (cLDraw : PySem.W.codeIn K cdLDraw "_law_draw" = true) (kLDraw : PySem.W.keepIn K (.ref fLDraw) = true)
    {fLNames : Addr} {odLNames anLNames : Option Addr} {slLNames : Array (Option Value)} {ocLNames kVLNames dcLNames pmLNames cdLNames ctLNames : Value}
    (aLNames : PySem.W.nsIn K mainGlobals "_law_names" = some (some (.ref fLNames))) (lLNames : K.lookup fLNames = some ⟨ocLNames, odLNames, .func (PySem.W.fnOf "_law_names" "_law_names" (defArgs sLNames) (defBody sLNames) (defScope sLNames) .none kVLNames dcLNames pmLNames anLNames cdLNames ctLNames), slLNames⟩) (cLNames : PySem.W.codeIn K cdLNames "_law_names" = true) (kLNames : PySem.W.keepIn K (.ref fLNames) = true)
    {fLNumber : Addr} {odLNumber anLNumber : Option Addr} {slLNumber : Array (Option Value)} {ocLNumber kVLNumber dcLNumber pmLNumber cdLNumber ctLNumber : Value}
    (aLNumber : PySem.W.nsIn K mainGlobals "_law_number" = some (some (.ref fLNumber))) (lLNumber : K.lookup fLNumber = some ⟨ocLNumber, odLNumber, .func (PySem.W.fnOf "_law_number" "_law_number" (defArgs sLNumber) (defBody sLNumber) (defScope sLNumber) .none kVLNumber dcLNumber pmLNumber anLNumber cdLNumber ctLNumber), slLNumber⟩) (cLNumber : PySem.W.codeIn K cdLNumber "_law_number" = true) (kLNumber : PySem.W.keepIn K (.ref fLNumber) = true)
    {fLCell : Addr} {odLCell anLCell : Option Addr} {slLCell : Array (Option Value)} {ocLCell kVLCell dcLCell pmLCell cdLCell ctLCell : Value}
    (aLCell : PySem.W.nsIn K mainGlobals "_law_cell" = some (some (.ref fLCell))) (lLCell : K.lookup fLCell = some ⟨ocLCell, odLCell, .func (PySem.W.fnOf "_law_cell" "_law_cell" (defArgs sLCell) (defBody sLCell) (defScope sLCell) .none kVLCell dcLCell pmLCell anLCell cdLCell ctLCell), slLCell⟩) (cLCell : PySem.W.codeIn K cdLCell "_law_cell" = true) (kLCell : PySem.W.keepIn K (.ref fLCell) = true)
    {fLaw : Addr} {odLaw anLaw : Option Addr} {slLaw : Array (Option Value)} {ocLaw kVLaw dcLaw pmLaw cdLaw ctLaw : Value}
    (aLaw : PySem.W.nsIn K mainGlobals "law" = some (some (.ref fLaw))) (lLaw : K.lookup fLaw = some ⟨ocLaw, odLaw, .func (PySem.W.fnOf "law" "law" (defArgs sLaw) (defBody sLaw) (defScope sLaw) .none kVLaw dcLaw pmLaw anLaw cdLaw ctLaw), slLaw⟩) (cLaw : PySem.W.codeIn K cdLaw "law" = true) (kLaw : PySem.W.keepIn K (.ref fLaw) = true)
    (zlen : PySem.W.nsIn K mainGlobals "len" = some none)
    (zmax : PySem.W.nsIn K mainGlobals "max" = some none)
    (zmin : PySem.W.nsIn K mainGlobals "min" = some none)
    (zabs : PySem.W.nsIn K mainGlobals "abs" = some none)
    (zrange : PySem.W.nsIn K mainGlobals "range" = some none)
    (zint : PySem.W.nsIn K mainGlobals "int" = some none)
    (zlist : PySem.W.nsIn K mainGlobals "list" = some none)
    (ztuple : PySem.W.nsIn K mainGlobals "tuple" = some none)
    (zsum : PySem.W.nsIn K mainGlobals "sum" = some none)
    (zisinstance : PySem.W.nsIn K mainGlobals "isinstance" = some none)
     :
    ∃ fd : FuncData, (∀ (s : Shared) (v : Value), BindsTo s fd ⟨[v], []⟩ [("_law_script", v)]) ∧ ∀ base : Heap, K.In base → base.Ns mainGlobals mg → FnOk l.prog w K mg base CX0 32 fa fd ["_law_script"] (spLaw K) := by
  have e := hfa.symm.trans (PySem.W.mg_of X G aLaw)
  cases e
  have FNamedBy := fun_mk (st := sNamedBy) lNamedBy cNamedBy kNamedBy
  have bNamedBy := FNamedBy.binds (ps := ["cell"]) fun _ _ _ _ _ _ us hl => match us, hl with | [_], _ => rfl
  have mNamedBy := PySem.W.mg_of X G aNamedBy
  have FLPen := fun_mk (st := sLPen) lLPen cLPen kLPen
  have bLPen := FLPen.binds (ps := ["_law_script"]) fun _ _ _ _ _ _ us hl => match us, hl with | [_], _ => rfl
  have mLPen := PySem.W.mg_of X G aLPen
  have FLDraw := fun_mk (st := sLDraw) lLDraw cLDraw kLDraw
  have bLDraw := FLDraw.binds (ps := ["_law_pen_here", "_law_many"]) fun _ _ _ _ _ _ us hl => match us, hl with | [_, _], _ => rfl
  have mLDraw := PySem.W.mg_of X G aLDraw
  have FLNames := fun_mk (st := sLNames) lLNames cLNames kLNames
  have bLNames := FLNames.binds (ps := ["_law_pen_here", "_law_many"]) fun _ _ _ _ _ _ us hl => match us, hl with | [_, _], _ => rfl
  have mLNames := PySem.W.mg_of X G aLNames
  have FLNumber := fun_mk (st := sLNumber) lLNumber cLNumber kLNumber
  have bLNumber := FLNumber.binds (ps := ["_law_pen_here"]) fun _ _ _ _ _ _ us hl => match us, hl with | [_], _ => rfl
  have mLNumber := PySem.W.mg_of X G aLNumber
  have FLCell := fun_mk (st := sLCell) lLCell cLCell kLCell
  have bLCell := FLCell.binds (ps := ["_law_pen_here"]) fun _ _ _ _ _ _ us hl => match us, hl with | [_], _ => rfl
  have mLCell := PySem.W.mg_of X G aLCell
  have FLaw := fun_mk (st := sLaw) lLaw cLaw kLaw
  have bLaw := FLaw.binds (ps := ["_law_script"]) fun _ _ _ _ _ _ us hl => match us, hl with | [_], _ => rfl
  have mLaw := PySem.W.mg_of X G aLaw
  have B : Bt mg := ⟨PySem.W.mg_none_of X G zlen, PySem.W.mg_none_of X G zmax, PySem.W.mg_none_of X G zmin, PySem.W.mg_none_of X G zabs, PySem.W.mg_none_of X G zrange, PySem.W.mg_none_of X G zint, PySem.W.mg_none_of X G zlist, PySem.W.mg_none_of X G ztuple, PySem.W.mg_none_of X G zsum, PySem.W.mg_none_of X G zisinstance⟩
  refine ⟨PySem.W.fnOf "law" "law" (defArgs sLaw) (defBody sLaw) (defScope sLaw) .none kVLaw dcLaw pmLaw anLaw cdLaw ctLaw, fun s v => .of_eq rfl, fun base _ _ => ?_⟩
  have CLDraw := cal_mk (P := l.prog) (w := w) (base := base) FLDraw (ok_draw FLDraw B) mLDraw bLDraw
  have CLNames := cal_mk (P := l.prog) (w := w) (base := base) FLNames (ok_names FLNames B CLDraw) mLNames bLNames
  have CLNumber := cal_mk (P := l.prog) (w := w) (base := base) FLNumber (ok_number FLNumber B CLDraw) mLNumber bLNumber
  have CLPen := cal_mk (P := l.prog) (w := w) (base := base) FLPen (ok_pen FLPen B) mLPen bLPen
  have CLCell := cal_mk (P := l.prog) (w := w) (base := base) FLCell (ok_cell FLCell B CLDraw CLNumber CLNames) mLCell bLCell
  have CNamedBy := cal_mk (P := l.prog) (w := w) (K := K) (base := base) FNamedBy (ok_named FNamedBy B) mNamedBy bNamedBy
  exact (ok_law FLaw B CLPen CLCell CNamedBy).mono (by omega)
end Lz
open PySem PySem.W PyProof.Rows
set_option maxRecDepth 100000 in
set_option maxHeartbeats 0 in
theorem PySem.Challenge.cw_lazywebs_k46_cells_named_holds : PySem.Challenge.rw_lazywebs_k46_cells_named.Holds := by
  w_on; o_law; k_head; (case hw => w_witness2)
  k_fill
  refine L2.walk_of (l := PySem.Challenge.rw_lazywebs_k46_cells_named) (n := 63) (k := 32) (x := "_law_script") (CX := fun _ => L2.CX0) (sp := fun w => Lz.spLaw _) rfl (by decide) rfl ⟨rfl, by decide, by decide⟩ (fun w h Y => PySem.W.kIn_of Y) ?F (fun _ _ a ns hl _ hS => ⟨a, ns, rfl, hS, hl, fun _ => rfl⟩) (fun _ _ _ _ _ h => h)
  case F =>
    intro w mg fa h KX G hmg
    refine' Lz.all_mk KX G hmg ?aNamedBy ?lNamedBy ?cNamedBy ?kNamedBy ?aLPen ?lLPen ?cLPen ?kLPen ?aLDraw ?lLDraw ?cLDraw ?kLDraw ?aLNames ?lLNames ?cLNames ?kLNames ?aLNumber ?lLNumber ?cLNumber ?kLNumber ?aLCell ?lLCell ?cLCell ?kLCell ?aLaw ?lLaw ?cLaw ?kLaw ?zlen ?zmax ?zmin ?zabs ?zrange ?zint ?zlist ?ztuple ?zsum ?zisinstance
    (case aNamedBy => k_is); (case lNamedBy => k_is); (case cNamedBy => k_is); (case kNamedBy => k_is)
    (case aLPen => k_is); (case lLPen => k_is); (case cLPen => k_is); (case kLPen => k_is)
    (case aLDraw => k_is); (case lLDraw => k_is); (case cLDraw => k_is); (case kLDraw => k_is)
    (case aLNames => k_is); (case lLNames => k_is); (case cLNames => k_is); (case kLNames => k_is)
    (case aLNumber => k_is); (case lLNumber => k_is); (case cLNumber => k_is); (case kLNumber => k_is)
    (case aLCell => k_is); (case lLCell => k_is); (case cLCell => k_is); (case kLCell => k_is)
    (case aLaw => k_is); (case lLaw => k_is); (case cLaw => k_is); (case kLaw => k_is)
    (case zlen => k_is)
    (case zmax => k_is)
    (case zmin => k_is)
    (case zabs => k_is)
    (case zrange => k_is)
    (case zint => k_is)
    (case zlist => k_is)
    (case ztuple => k_is)
    (case zsum => k_is)
    (case zisinstance => k_is)

