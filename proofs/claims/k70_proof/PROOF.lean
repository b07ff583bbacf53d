import PyProof.Rows.All
import Wide.All
import OpenK.AllK
import Wide.FinOn
import PyProof.EqLayable
import PyProof.P3Eq
import HandS.ForMost
import HandS.IsInst
import HandS.TupAny
import HandS.Wide
import HandS.Codes
import HandS.Text
import HandS.Style
import HandS.SortKw
import HandS.More
import HandS.Star
import HandS.Walk
import HandS.Iter
import KE.DatumOrd
import PyProof.Rows.RegStrFacts
import PySem.Challenge.RW_lazywebs_k70_programs_written
set_option Elab.async false
set_option linter.all false
set_option maxRecDepth 100000
set_option maxHeartbeats 4000000
/-! Parts, and what a drawing makes of them: plain Lean. -/
namespace Lz
open PySem

/-! ### data without lists stays what it is -/
mutual
def fz : PyData → Bool
  | .none => true
  | .bool _ => true
  | .int _ => true
  | .str _ => true
  | .tuple xs => fzAll xs
  | .list _ => false
  | .dict _ => false
def fzAll : List PyData → Bool
  | [] => true
  | x :: xs => fz x && fzAll xs
end
theorem fzAll_iff : ∀ {ds : List PyData}, fzAll ds = true ↔ ∀ d, d ∈ ds → fz d = true
  | [] => ⟨fun _ _ h => (nomatch h), fun _ => rfl⟩
  | x :: xs => by
    show (fz x && fzAll xs) = true ↔ _
    rw [Bool.and_eq_true, fzAll_iff]
    refine ⟨fun h d m => ?_, fun h => ⟨h x List.mem_cons_self, fun d m => h d (List.mem_cons_of_mem _ m)⟩⟩
    rcases List.mem_cons.mp m with e | m
    · rw [e]; exact h.1
    · exact h.2 d m
theorem layAll_iff : ∀ {ds : List PyData}, PyData.canLayAll0 ds = true ↔ ∀ d, d ∈ ds → d.canLay0 = true
  | [] => ⟨fun _ _ h => (nomatch h), fun _ => by simp only [PyData.canLayAll0]⟩
  | x :: xs => by
    have e : PyData.canLayAll0 (x :: xs) = (x.canLay0 && PyData.canLayAll0 xs) := by rw [PyData.canLayAll0]
    rw [e, Bool.and_eq_true, layAll_iff]
    refine ⟨fun h d m => ?_, fun h => ⟨h x List.mem_cons_self, fun d m => h d (List.mem_cons_of_mem _ m)⟩⟩
    rcases List.mem_cons.mp m with e | m
    · rw [e]; exact h.1
    · exact h.2 d m
theorem depthAll_le : ∀ {ds : List PyData} {n : Nat}, (∀ d, d ∈ ds → d.depth ≤ n) → PyData.depthAll ds ≤ n
  | [], n, _ => by simp only [PyData.depthAll, Nat.zero_le]
  | x :: xs, n, h => by
    have h1 := h x List.mem_cons_self
    have h2 := depthAll_le (ds := xs) (n := n) fun d m => h d (List.mem_cons_of_mem _ m)
    simp only [PyData.depthAll]
    omega
theorem depth_mem : ∀ {ds : List PyData} {d : PyData}, d ∈ ds → d.depth ≤ PyData.depthAll ds
  | x :: xs, d, h => by
    have e : PyData.depthAll (x :: xs) = max x.depth (PyData.depthAll xs) := by simp only [PyData.depthAll]
    rw [e]
    rcases List.mem_cons.mp h with e | m
    · subst e
      omega
    · have := depth_mem m
      omega
inductive P where
  | num (i : Int)
  | nam (x : Str)
  | fn (x : Str)
  | op (k : Str) (as : List P)
  | lt (nm : List Str) (as : List P) (b : P)

def kinds : List (Str × Nat) := [("give", 2), ("plus", 2), ("less", 2), ("times", 2), ("below", 2), ("when", 3), ("pair", 2), ("left", 1), ("right", 1)]
def nmOk (x : Str) : Prop := 1 ≤ x.length ∧ x.length ≤ 8 ∧ ∀ c, c ∈ x.cps.toList → 97 ≤ c ∧ c ≤ 122
theorem nmOk.strOk {x : Str} (h : nmOk x) : PyData.strOk x = true := by
  unfold PyData.strOk
  rw [Array.all_eq_true_iff_forall_mem]
  intro c hc
  have := h.2.2 c (by simpa using hc)
  exact decide_eq_true (by omega)

def rowD (x : Str) (d : PyData) : PyData := .tuple [.str x, d]
mutual
def P.data : P → PyData
  | .num i => .tuple [.str "number", .int i]
  | .nam x => .tuple [.str "name", .str x]
  | .fn x => .tuple [.str "fun", .str x]
  | .op k as => .tuple (.str k :: P.datas as)
  | .lt nm as b => .tuple [.str "let", .tuple (List.zipWith rowD nm (P.datas as)), P.data b]
def P.datas : List P → List PyData
  | [] => []
  | a :: as => P.data a :: P.datas as
end
theorem datas_map : ∀ as : List P, P.datas as = as.map P.data
  | [] => rfl
  | a :: as => by
    show P.data a :: P.datas as = P.data a :: as.map P.data
    rw [datas_map as]
theorem datas_len (as : List P) : (P.datas as).length = as.length := by rw [datas_map, List.length_map]

mutual
def P.many : P → Nat
  | .op _ as => 1 + P.manys as
  | .lt _ as b => 1 + (P.manys as + P.many b)
  | _ => 1
def P.manys : List P → Nat
  | [] => 0
  | a :: as => P.many a + P.manys as
end
mutual
def P.deep : P → Nat
  | .op _ as => 1 + P.deeps as
  | .lt _ as b => 1 + max (P.deeps as) (P.deep b)
  | _ => 1
def P.deeps : List P → Nat
  | [] => 0
  | a :: as => max (P.deep a) (P.deeps as)
end
mutual
/-- it is a part: kinds, names -/
def P.ok : P → Prop
  | .num _ => True
  | .nam x => nmOk x
  | .fn x => nmOk x
  | .op k as => (k, as.length) ∈ kinds ∧ P.oks as
  | .lt nm as b => nm.length = as.length ∧ (∀ x, x ∈ nm → nmOk x) ∧ P.oks as ∧ P.ok b
def P.oks : List P → Prop
  | [] => True
  | a :: as => P.ok a ∧ P.oks as
end
def P.inn : P → List P
  | .op _ as => as
  | .lt _ as b => as ++ [b]
  | _ => []

theorem oks_iff : ∀ {as : List P}, P.oks as ↔ ∀ a, a ∈ as → a.ok
  | [] => ⟨fun _ _ h => (nomatch h), fun _ => True.intro⟩
  | x :: xs => by
    show (P.ok x ∧ P.oks xs) ↔ _
    rw [oks_iff]
    refine ⟨fun h d m => ?_, fun h => ⟨h x List.mem_cons_self, fun d m => h d (List.mem_cons_of_mem _ m)⟩⟩
    rcases List.mem_cons.mp m with e | m
    · rw [e]; exact h.1
    · exact h.2 d m
theorem manys_append : ∀ as bs : List P, P.manys (as ++ bs) = P.manys as + P.manys bs
  | [], bs => by
    show P.manys bs = 0 + P.manys bs
    omega
  | a :: as, bs => by
    show P.many a + P.manys (as ++ bs) = P.many a + P.manys as + P.manys bs
    rw [manys_append as bs]
    omega
theorem deeps_append : ∀ as bs : List P, P.deeps (as ++ bs) = max (P.deeps as) (P.deeps bs)
  | [], bs => by
    show P.deeps bs = max 0 (P.deeps bs)
    omega
  | a :: as, bs => by
    show max (P.deep a) (P.deeps (as ++ bs)) = max (max (P.deep a) (P.deeps as)) (P.deeps bs)
    rw [deeps_append as bs]
    omega
theorem deeps_mem : ∀ {as : List P} {a : P}, a ∈ as → a.deep ≤ P.deeps as
  | x :: xs, a, h => by
    show a.deep ≤ max x.deep (P.deeps xs)
    rcases List.mem_cons.mp h with e | m
    · subst e
      omega
    · have := deeps_mem m
      omega
theorem deeps_le : ∀ {as : List P} {n : Nat}, (∀ a, a ∈ as → a.deep ≤ n) → P.deeps as ≤ n
  | [], n, _ => Nat.zero_le _
  | x :: xs, n, h => by
    show max x.deep (P.deeps xs) ≤ n
    have h1 := h x List.mem_cons_self
    have h2 := deeps_le (as := xs) (n := n) fun d m => h d (List.mem_cons_of_mem _ m)
    omega
theorem manys_map : ∀ as : List P, P.manys as = (as.map P.many).sum
  | [] => rfl
  | a :: as => by
    show P.many a + P.manys as = _
    rw [manys_map as, List.map_cons, List.sum_cons]
theorem many_inn : ∀ t : P, t.many = 1 + P.manys t.inn
  | .num _ => rfl
  | .nam _ => rfl
  | .fn _ => rfl
  | .op _ _ => rfl
  | .lt nm as b => by
    show 1 + (P.manys as + P.many b) = 1 + P.manys (as ++ [b])
    rw [manys_append]
    rfl
theorem deep_inn : ∀ t : P, t.deep = 1 + P.deeps t.inn
  | .num _ => rfl
  | .nam _ => rfl
  | .fn _ => rfl
  | .op _ _ => rfl
  | .lt nm as b => by
    show 1 + max (P.deeps as) (P.deep b) = 1 + P.deeps (as ++ [b])
    rw [deeps_append]
    show 1 + max (P.deeps as) (P.deep b) = 1 + max (P.deeps as) (max (P.deep b) 0)
    omega
theorem inn_ok : ∀ {t : P}, t.ok → ∀ a, a ∈ t.inn → a.ok
  | .num _, _, _, m => nomatch m
  | .nam _, _, _, m => nomatch m
  | .fn _, _, _, m => nomatch m
  | .op _ as, h, a, m => oks_iff.mp h.2 a m
  | .lt nm as b, h, a, m => by
    rcases List.mem_append.mp (show a ∈ as ++ [b] from m) with m | m
    · exact oks_iff.mp h.2.2.1 a m
    · rw [List.mem_singleton.mp m]
      exact h.2.2.2
theorem many_pos (t : P) : 1 ≤ t.many := by
  rw [many_inn]
  omega
theorem deep_pos (t : P) : 1 ≤ t.deep := by
  rw [deep_inn]
  omega
theorem inn_deep {t a : P} (m : a ∈ t.inn) : a.deep + 1 ≤ t.deep := by
  have := deeps_mem m
  rw [deep_inn t]
  omega
theorem len_manys : ∀ as : List P, as.length ≤ P.manys as
  | [] => Nat.le_refl _
  | a :: as => by
    show as.length + 1 ≤ P.many a + P.manys as
    have h1 := len_manys as
    have h2 := many_pos a
    omega

/-! ### as data: no list, no strange sign, not too deep -/
theorem zip_mem : ∀ {nm : List Str} {ds : List PyData} {d : PyData}, d ∈ List.zipWith rowD nm ds → ∃ x e, x ∈ nm ∧ e ∈ ds ∧ d = rowD x e
  | [], _, _, h => by simp at h
  | _ :: _, [], _, h => by simp at h
  | x :: nm, e :: ds, d, h => by
    rw [List.zipWith_cons_cons] at h
    rcases List.mem_cons.mp h with q | m
    · exact ⟨x, e, List.mem_cons_self, List.mem_cons_self, q⟩
    · obtain ⟨y, f, h1, h2, h3⟩ := zip_mem m
      exact ⟨y, f, List.mem_cons_of_mem _ h1, List.mem_cons_of_mem _ h2, h3⟩
theorem kind_str {k : Str} {n : Nat} (h : (k, n) ∈ kinds) : PyData.strOk k = true := by
  have h0 : kinds.all (fun p => PyData.strOk p.1) = true := by decide +kernel
  exact List.all_eq_true.mp h0 _ h
mutual
theorem data_fz : ∀ t : P, fz t.data = true
  | .num _ => rfl
  | .nam _ => rfl
  | .fn _ => rfl
  | .op k as => datas_fz as
  | .lt nm as b => by
    show (fz (.tuple (List.zipWith rowD nm (P.datas as))) && (fz b.data && true)) = true
    rw [data_fz b, Bool.and_true, Bool.and_true]
    refine fzAll_iff.mpr fun d m => ?_
    obtain ⟨x, e, _, he, rfl⟩ := zip_mem m
    have := fzAll_iff.mp (datas_fz as) e he
    show (fz e && true) = true
    rw [this]
    rfl
theorem datas_fz : ∀ as : List P, fzAll (P.datas as) = true
  | [] => rfl
  | a :: as => by
    show (fz a.data && fzAll (P.datas as)) = true
    rw [data_fz a, datas_fz as]
    rfl
end
theorem lay_tup (xs : List PyData) : (PyData.tuple xs).canLay0 = PyData.canLayAll0 xs := by rw [PyData.canLay0]
theorem lay_str (x : Str) : (PyData.str x).canLay0 = PyData.strOk x := by rw [PyData.canLay0]
theorem lay_cons (x : PyData) (xs : List PyData) : PyData.canLayAll0 (x :: xs) = (x.canLay0 && PyData.canLayAll0 xs) := by rw [PyData.canLayAll0]
theorem lay_nil : PyData.canLayAll0 [] = true := by rw [PyData.canLayAll0]
mutual
theorem data_lay : ∀ t : P, t.ok → t.data.canLay0 = true
  | .num _, _ => by
    show (PyData.tuple [.str "number", .int _]).canLay0 = true
    rw [lay_tup, lay_cons, lay_cons, lay_nil, lay_str]
    simp only [PyData.canLay0]
    decide +kernel
  | .nam x, h => by
    show (PyData.tuple [.str "name", .str x]).canLay0 = true
    rw [lay_tup, lay_cons, lay_cons, lay_nil, lay_str, lay_str, nmOk.strOk (show nmOk x from h)]
    decide +kernel
  | .fn x, h => by
    show (PyData.tuple [.str "fun", .str x]).canLay0 = true
    rw [lay_tup, lay_cons, lay_cons, lay_nil, lay_str, lay_str, nmOk.strOk (show nmOk x from h)]
    decide +kernel
  | .op k as, h => by
    show (PyData.tuple (.str k :: P.datas as)).canLay0 = true
    have h' : (k, as.length) ∈ kinds ∧ P.oks as := h
    rw [lay_tup, lay_cons, lay_str, kind_str h'.1, datas_lay as h'.2]
    rfl
  | .lt nm as b, h => by
    show (PyData.tuple [.str "let", .tuple (List.zipWith rowD nm (P.datas as)), b.data]).canLay0 = true
    have h' : nm.length = as.length ∧ (∀ x, x ∈ nm → nmOk x) ∧ P.oks as ∧ P.ok b := h
    have hr : PyData.canLayAll0 (List.zipWith rowD nm (P.datas as)) = true := layAll_iff.mpr fun d m => by
      obtain ⟨x, e, hx, he, rfl⟩ := zip_mem m
      have q := layAll_iff.mp (datas_lay as h'.2.2.1) e he
      show (PyData.tuple [.str x, e]).canLay0 = true
      rw [lay_tup, lay_cons, lay_cons, lay_nil, lay_str, nmOk.strOk (h'.2.1 x hx), q]
      rfl
    rw [lay_tup, lay_cons, lay_cons, lay_cons, lay_nil, lay_str, lay_tup, hr, data_lay b h'.2.2.2]
    decide +kernel
theorem datas_lay : ∀ as : List P, P.oks as → PyData.canLayAll0 (P.datas as) = true
  | [], _ => lay_nil
  | a :: as, h => by
    have h' : P.ok a ∧ P.oks as := h
    show PyData.canLayAll0 (a.data :: P.datas as) = true
    rw [lay_cons, data_lay a h'.1, datas_lay as h'.2]
    rfl
end
theorem depth_tup (xs : List PyData) : (PyData.tuple xs).depth = PyData.depthAll xs + 1 := by simp only [PyData.depth]; try omega
theorem depth_str (x : Str) : (PyData.str x).depth = 0 := by simp only [PyData.depth]
theorem depthAll_cons (x : PyData) (xs : List PyData) : PyData.depthAll (x :: xs) = max x.depth (PyData.depthAll xs) := by simp only [PyData.depthAll]
mutual
theorem data_depth : ∀ t : P, t.data.depth ≤ 3 * t.deep
  | .num i => by
    show (PyData.tuple [.str "number", .int i]).depth ≤ 3 * 1
    simp only [PyData.depth, PyData.depthAll]
    try omega
  | .nam x => by
    show (PyData.tuple [.str "name", .str x]).depth ≤ 3 * 1
    simp only [PyData.depth, PyData.depthAll]
    try omega
  | .fn x => by
    show (PyData.tuple [.str "fun", .str x]).depth ≤ 3 * 1
    simp only [PyData.depth, PyData.depthAll]
    try omega
  | .op k as => by
    show (PyData.tuple (.str k :: P.datas as)).depth ≤ 3 * (1 + P.deeps as)
    have h1 := datas_depth as
    have h2 := depth_str k
    rw [depth_tup, depthAll_cons]
    omega
  | .lt nm as b => by
    show (PyData.tuple [.str "let", .tuple (List.zipWith rowD nm (P.datas as)), b.data]).depth ≤ 3 * (1 + max (P.deeps as) b.deep)
    have h1 := datas_depth as
    have h2 := data_depth b
    have h3 := depth_str "let"
    have h4 : PyData.depthAll (List.zipWith rowD nm (P.datas as)) ≤ 3 * P.deeps as + 1 := depthAll_le fun d m => by
      obtain ⟨x, e, hx, he, rfl⟩ := zip_mem m
      have q : e.depth ≤ PyData.depthAll (P.datas as) := depth_mem he
      show (PyData.tuple [.str x, e]).depth ≤ _
      have h5 := depth_str x
      rw [depth_tup, depthAll_cons, depthAll_cons]
      simp only [PyData.depthAll]
      omega
    rw [depth_tup, depthAll_cons, depthAll_cons, depthAll_cons, depth_tup]
    simp only [PyData.depthAll]
    omega
theorem datas_depth : ∀ as : List P, PyData.depthAll (P.datas as) ≤ 3 * P.deeps as
  | [] => by
    show PyData.depthAll [] ≤ _
    simp only [PyData.depthAll]
    try omega
  | a :: as => by
    have h1 := data_depth a
    have h2 := datas_depth as
    show PyData.depthAll (a.data :: P.datas as) ≤ 3 * max a.deep (P.deeps as)
    rw [depthAll_cons]
    omega
end
theorem data_shaped {t : P} (h : t.ok) (hd : t.deep ≤ 20) : SeqAt.shaped t.data = true := by
  have h1 := data_depth t
  unfold SeqAt.shaped
  rw [data_lay t h, Bool.true_and]
  exact decide_eq_true (by omega)
theorem datas_shaped {as : List P} (h : P.oks as) (hd : P.deeps as ≤ 20) : SeqAt.shaped (.list (P.datas as)) = true := by
  have h1 := datas_depth as
  have e : (PyData.list (P.datas as)).depth = PyData.depthAll (P.datas as) + 1 := by simp only [PyData.depth]; try omega
  have e2 : (PyData.list (P.datas as)).canLay0 = PyData.canLayAll0 (P.datas as) := by rw [PyData.canLay0]
  unfold SeqAt.shaped
  rw [e2, datas_lay as h, Bool.true_and]
  exact decide_eq_true (by omega)

/-! ### what a drawing makes -/
def gives (f : P) (as : List P) : P := as.foldl (fun a d => .op "give" [a, d]) f
theorem gives_snoc (f : P) (as : List P) (d : P) : gives f (as ++ [d]) = .op "give" [gives f as, d] := by
  unfold gives
  rw [List.foldl_append]
  rfl
/-- parts drawn one behind the other: of the functions W, the scope, the depth, with n parts and the names ss left ahead, n' and ss' behind -/
inductive Dr (W : List (Str × Int)) : List Str → Int → Int → List Str → Int → List Str → List P → Prop
  | nil {sc : List Str} {dp n : Int} {ss : List Str} : Dr W sc dp n ss n ss []
  | num {sc ss ss' : List Str} {dp n n' i : Int} {ds : List P} : i.natAbs < 10 ^ 60 → Dr W sc dp n ss n' ss' ds → Dr W sc dp n ss n' ss' (.num i :: ds)
  | nam {sc ss ss' : List Str} {dp n n' : Int} {x : Str} {ds : List P} : x ∈ sc → Dr W sc dp n ss n' ss' ds → Dr W sc dp n ss n' ss' (.nam x :: ds)
  | fn {sc ss ss' : List Str} {dp n n' w : Int} {f : Str} {ds : List P} : (f, w) ∈ W → Dr W sc dp n ss n' ss' ds → Dr W sc dp n ss n' ss' (.fn f :: ds)
  | call {sc ss ss1 ss' : List Str} {dp n n1 n' w : Int} {f : Str} {as ds : List P} : (f, w) ∈ W → 6 ≤ dp → as.length ≤ 5 → 2 * (as.length : Int) ≤ n →
      Dr W sc (dp - 1 - as.length) (n - 2 * as.length) ss n1 ss1 as → Dr W sc dp n1 ss1 n' ss' ds → Dr W sc dp n ss n' ss' (gives (.fn f) as :: ds)
  | lt {sc nm ss ss1 ss' : List Str} {dp n n1 n' : Int} {as ds : List P} {b : P} {k : Nat} : 1 ≤ dp → 1 ≤ nm.length → nm.length ≤ 4 → ss.drop k = nm.reverse → k + nm.length = ss.length → nm.length = as.length → (nm.length : Int) + 1 ≤ n →
      Dr W (sc ++ nm) (dp - 1) (n - (nm.length + 1)) (ss.take k) n1 ss1 (as ++ [b]) → Dr W sc dp n1 ss1 n' ss' ds → Dr W sc dp n ss n' ss' (.lt nm as b :: ds)
  | op {sc ss ss1 ss' : List Str} {dp n n1 n' : Int} {k : Str} {as ds : List P} : (k, as.length) ∈ kinds → 1 ≤ dp → (as.length : Int) ≤ n →
      Dr W sc (dp - 1) (n - as.length) ss n1 ss1 as → Dr W sc dp n1 ss1 n' ss' ds → Dr W sc dp n ss n' ss' (.op k as :: ds)

theorem Dr.append {W : List (Str × Int)} {sc ss ss1 ss' : List Str} {dp n n1 n' : Int} {as bs : List P} (h : Dr W sc dp n ss n1 ss1 as) : Dr W sc dp n1 ss1 n' ss' bs → Dr W sc dp n ss n' ss' (as ++ bs) := by
  induction h with
  | nil => exact id
  | num a _ ih => exact fun k => .num a (ih k)
  | nam a _ ih => exact fun k => .nam a (ih k)
  | fn a _ ih => exact fun k => .fn a (ih k)
  | call a b c d e _ _ ih => exact fun k => .call a b c d e (ih k)
  | lt a b c d e f g h _ _ ih => exact fun k => .lt a b c d e f g h (ih k)
  | op a b c d _ _ ih => exact fun k => .op a b c d (ih k)
/-- the names left are those ahead, some at the end gone -/
theorem Dr.names {W : List (Str × Int)} {sc ss ss' : List Str} {dp n n' : Int} {ds : List P} (h : Dr W sc dp n ss n' ss' ds) : ∃ m, ss' = ss.take m := by
  induction h with
  | nil => exact ⟨_, List.take_length.symm⟩
  | num _ _ ih => exact ih
  | nam _ _ ih => exact ih
  | fn _ _ ih => exact ih
  | call _ _ _ _ _ _ i1 i2 =>
    obtain ⟨m1, rfl⟩ := i1
    obtain ⟨m2, rfl⟩ := i2
    exact ⟨_, List.take_take⟩
  | lt _ _ _ _ _ _ _ _ _ i1 i2 =>
    obtain ⟨m1, rfl⟩ := i1
    obtain ⟨m2, rfl⟩ := i2
    exact ⟨_, by rw [List.take_take, List.take_take]⟩
  | op _ _ _ _ _ i1 i2 =>
    obtain ⟨m1, rfl⟩ := i1
    obtain ⟨m2, rfl⟩ := i2
    exact ⟨_, List.take_take⟩
theorem Dr.sub {W : List (Str × Int)} {sc ss ss' : List Str} {dp n n' : Int} {ds : List P} (h : Dr W sc dp n ss n' ss' ds) : ∀ x, x ∈ ss' → x ∈ ss := fun x m => by
  obtain ⟨k, rfl⟩ := h.names
  exact List.mem_of_mem_take m
theorem Dr.len {W : List (Str × Int)} {sc ss ss' : List Str} {dp n n' : Int} {ds : List P} (h : Dr W sc dp n ss n' ss' ds) : ss'.length ≤ ss.length := by
  obtain ⟨k, rfl⟩ := h.names
  rw [List.length_take]
  omega
theorem gives_ok : ∀ {as : List P} {f : P}, f.ok → (∀ a, a ∈ as → a.ok) → (gives f as).ok
  | [], _, h, _ => h
  | a :: as, f, h, k => by
    show (gives (.op "give" [f, a]) as).ok
    refine gives_ok ⟨?_, h, k a List.mem_cons_self, True.intro⟩ fun b m => k b (List.mem_cons_of_mem _ m)
    show (("give" : Str), 2) ∈ kinds
    exact List.mem_cons_self
theorem gives_many : ∀ {as : List P} {f : P}, (gives f as).many = f.many + P.manys as + as.length
  | [], f => by
    show f.many = f.many + 0 + 0
    omega
  | a :: as, f => by
    show (gives (.op "give" [f, a]) as).many = f.many + (a.many + P.manys as) + (as.length + 1)
    rw [gives_many]
    show 1 + (f.many + (a.many + 0)) + _ + _ = _
    omega
theorem gives_deep : ∀ {as : List P} {f : P}, (gives f as).deep ≤ max f.deep (P.deeps as) + as.length
  | [], f => by
    show f.deep ≤ max f.deep 0 + 0
    omega
  | a :: as, f => by
    have h := gives_deep (as := as) (f := .op "give" [f, a])
    have e : (P.op "give" [f, a]).deep = 1 + max f.deep (max a.deep 0) := rfl
    show (gives (.op "give" [f, a]) as).deep ≤ max f.deep (max a.deep (P.deeps as)) + (as.length + 1)
    omega
/-- names of functions, of the scope and those left are names -/
structure Nms (W : List (Str × Int)) (sc ss : List Str) : Prop where
  w : ∀ f, f ∈ W → nmOk f.1
  c : ∀ x, x ∈ sc → nmOk x
  s : ∀ x, x ∈ ss → nmOk x
theorem Dr.ok {W : List (Str × Int)} {sc ss ss' : List Str} {dp n n' : Int} {ds : List P} (h : Dr W sc dp n ss n' ss' ds) : Nms W sc ss → ∀ d, d ∈ ds → d.ok := by
  induction h with
  | nil => exact fun _ _ m => nomatch m
  | num _ _ ih =>
    intro N d m
    rcases List.mem_cons.mp m with e | m
    · rw [e]; exact True.intro
    · exact ih N d m
  | nam hx _ ih =>
    intro N d m
    rcases List.mem_cons.mp m with e | m
    · rw [e]; exact N.c _ hx
    · exact ih N d m
  | fn hf _ ih =>
    intro N d m
    rcases List.mem_cons.mp m with e | m
    · rw [e]; exact N.w _ hf
    · exact ih N d m
  | call hf _ _ _ k1 k2 i1 i2 =>
    intro N d m
    rcases List.mem_cons.mp m with e | m
    · rw [e]
      exact gives_ok (N.w _ hf) (i1 N)
    · exact i2 ⟨N.w, N.c, fun x hx => N.s x (k1.sub x hx)⟩ d m
  | @lt sc nm ss ss1 ss' dp n n1 n' as ds b k _ _ _ e1 e2 e3 _ k1 k2 i1 i2 =>
    intro N d m
    have hnm : ∀ x, x ∈ nm → x ∈ ss := fun x hx => by
      have : x ∈ ss.drop k := by rw [e1]; exact List.mem_reverse.mpr hx
      exact List.mem_of_mem_drop this
    rcases List.mem_cons.mp m with e | m
    · have q := i1 ⟨N.w, fun x hx => (List.mem_append.mp hx).elim (N.c x) fun hx => N.s x (hnm x hx), fun x hx => N.s x (List.mem_of_mem_take hx)⟩
      rw [e]
      exact ⟨e3, fun x hx => N.s x (hnm x hx), oks_iff.mpr fun a ha => q a (List.mem_append_left _ ha), q b (List.mem_append_right _ List.mem_cons_self)⟩
    · exact i2 ⟨N.w, N.c, fun x hx => N.s x (List.mem_of_mem_take (k1.sub x hx))⟩ d m
  | op hk _ _ k1 k2 i1 i2 =>
    intro N d m
    rcases List.mem_cons.mp m with e | m
    · rw [e]
      exact ⟨hk, oks_iff.mpr (i1 N)⟩
    · exact i2 ⟨N.w, N.c, fun x hx => N.s x (k1.sub x hx)⟩ d m
theorem Dr.many {W : List (Str × Int)} {sc ss ss' : List Str} {dp n n' : Int} {ds : List P} (h : Dr W sc dp n ss n' ss' ds) : (P.manys ds : Int) = ds.length + (n - n') := by
  induction h with
  | nil =>
    show ((0 : Nat) : Int) = ((0 : Nat) : Int) + _
    omega
  | @num sc ss ss' dp n n' i ds _ _ ih =>
    show ((1 + P.manys ds : Nat) : Int) = ((ds.length + 1 : Nat) : Int) + (n - n')
    omega
  | @nam sc ss ss' dp n n' i ds _ _ ih =>
    show ((1 + P.manys ds : Nat) : Int) = ((ds.length + 1 : Nat) : Int) + (n - n')
    omega
  | @fn sc ss ss' dp n n' i f ds _ _ ih =>
    show ((1 + P.manys ds : Nat) : Int) = ((ds.length + 1 : Nat) : Int) + (n - n')
    omega
  | @call sc ss ss1 ss' dp n n1 n' w f as ds _ _ _ _ _ _ i1 i2 =>
    have e : (gives (.fn f) as).many = 1 + P.manys as + as.length := gives_many
    show (((gives (.fn f) as).many + P.manys ds : Nat) : Int) = ((ds.length + 1 : Nat) : Int) + (n - n')
    rw [e]
    omega
  | @lt sc nm ss ss1 ss' dp n n1 n' as ds b k _ _ _ e1 e2 e3 _ k1 k2 i1 i2 =>
    rw [manys_append] at i1
    have e : P.manys [b] = b.many + 0 := rfl
    rw [List.length_append] at i1
    show ((1 + (P.manys as + b.many) + P.manys ds : Nat) : Int) = ((ds.length + 1 : Nat) : Int) + (n - n')
    have e5 : [b].length = 1 := rfl
    omega
  | @op sc ss ss1 ss' dp n n1 n' kd as ds _ _ _ _ _ i1 i2 =>
    show ((1 + P.manys as + P.manys ds : Nat) : Int) = ((ds.length + 1 : Nat) : Int) + (n - n')
    omega
theorem Dr.less {W : List (Str × Int)} {sc ss ss' : List Str} {dp n n' : Int} {ds : List P} (h : Dr W sc dp n ss n' ss' ds) : n' ≤ n := by
  have := h.many
  have := len_manys ds
  omega
theorem Dr.nonneg {W : List (Str × Int)} {sc ss ss' : List Str} {dp n n' : Int} {ds : List P} (h : Dr W sc dp n ss n' ss' ds) : 0 ≤ n → 0 ≤ n' := by
  induction h with
  | nil => exact id
  | num _ _ ih => exact ih
  | nam _ _ ih => exact ih
  | fn _ _ ih => exact ih
  | call _ _ _ _ _ _ i1 i2 => exact fun h => i2 (i1 (by omega))
  | lt _ _ _ _ _ _ _ _ _ i1 i2 => exact fun h => i2 (i1 (by omega))
  | op _ _ _ _ _ i1 i2 => exact fun h => i2 (i1 (by omega))
theorem Dr.deep {W : List (Str × Int)} {sc ss ss' : List Str} {dp n n' : Int} {ds : List P} (h : Dr W sc dp n ss n' ss' ds) : P.deeps ds ≤ dp.toNat + 1 := by
  induction h with
  | nil => exact Nat.zero_le _
  | num _ _ ih =>
    show max 1 (P.deeps _) ≤ _
    omega
  | nam _ _ ih =>
    show max 1 (P.deeps _) ≤ _
    omega
  | fn _ _ ih =>
    show max 1 (P.deeps _) ≤ _
    omega
  | @call sc ss ss1 ss' dp n n1 n' w f as ds _ _ _ _ _ _ i1 i2 =>
    have e : (gives (.fn f) as).deep ≤ max 1 (P.deeps as) + as.length := gives_deep
    show max (gives (.fn f) as).deep (P.deeps ds) ≤ _
    omega
  | @lt sc nm ss ss1 ss' dp n n1 n' as ds b k _ _ _ e1 e2 e3 _ k1 k2 i1 i2 =>
    rw [deeps_append] at i1
    have e : P.deeps [b] = max b.deep 0 := rfl
    show max (1 + max (P.deeps as) b.deep) (P.deeps ds) ≤ _
    omega
  | @op sc ss ss1 ss' dp n n1 n' kd as ds _ _ _ _ _ i1 i2 =>
    show max (1 + P.deeps as) (P.deeps ds) ≤ _
    omega
theorem kind_plain {k : Str} {n : Nat} (h : (k, n) ∈ kinds) : k ≠ "let" ∧ k ≠ "number" ∧ k ≠ "name" ∧ k ≠ "fun" := by
  have h0 : kinds.all (fun p => decide (p.1 ≠ "let") && decide (p.1 ≠ "number") && decide (p.1 ≠ "name") && decide (p.1 ≠ "fun")) = true := by decide +kernel
  have q := List.all_eq_true.mp h0 _ h
  simp only [Bool.and_eq_true, decide_eq_true_eq] at q
  exact ⟨q.1.1.1, q.1.1.2, q.1.2, q.2⟩
/-- the greatest of the depths -/
theorem deeps_is : ∀ {as : List P} {m : Int}, m ∈ as.map (fun t => (t.deep : Int)) → (∀ y, y ∈ as.map (fun t => (t.deep : Int)) → y ≤ m) → m = (P.deeps as : Int)
  | as, m, h, k => by
    obtain ⟨t, ht, rfl⟩ := List.mem_map.mp h
    have h1 := deeps_mem ht
    have h2 : P.deeps as ≤ t.deep := deeps_le fun a ha => by
      have := k (a.deep : Int) (List.mem_map.mpr ⟨a, ha, rfl⟩)
      omega
    omega
theorem manys_sum : ∀ as : List P, (as.map (fun t => (t.many : Int))).sum = (P.manys as : Int)
  | [] => rfl
  | a :: as => by
    rw [List.map_cons, List.sum_cons, manys_sum as]
    show (a.many : Int) + (P.manys as : Int) = ((a.many + P.manys as : Nat) : Int)
    omega
theorem arity_le {k : Str} {n : Nat} (h : (k, n) ∈ kinds) : 1 ≤ n ∧ n ≤ 3 := by
  have h0 : kinds.all (fun p => decide (1 ≤ p.2) && decide (p.2 ≤ 3)) = true := by decide +kernel
  have q := List.all_eq_true.mp h0 _ h
  simp only [Bool.and_eq_true, decide_eq_true_eq] at q
  exact q
theorem rows_fz {nm : List Str} {as : List P} : fzAll (List.zipWith rowD nm (P.datas as)) = true := fzAll_iff.mpr fun d m => by
  obtain ⟨x, e, _, he, rfl⟩ := zip_mem m
  have := fzAll_iff.mp (datas_fz as) e he
  show (true && (fz e && true)) = true
  rw [this]
  rfl
end Lz

set_option Elab.async false
set_option linter.all false
set_option maxRecDepth 100000
set_option maxHeartbeats 4000000
/-! What is kept while lists of a few addresses change; parts as data; what a drawing may make. -/
namespace Lz
open PySem PySem.Spec PyProof.Rows L2

/-! ### heaps: all is kept but the lists at the addresses of S -/
def Kp (S : List Addr) (H H' : Hp) : Prop := ∀ b o, H b = some o → (b ∈ S → ∀ xs, o ≠ HO.lst xs) → H' b = some o
section
variable {S T : List Addr} {H H1 H2 H' : Hp} {K : PySem.W.Frag} {a b p : Addr} {xs ys : List V} {o : HO}
theorem Kp.refl (S : List Addr) (H : Hp) : Kp S H H := fun _ _ h _ => h
theorem Kp.trans (h : Kp S H H1) (k : Kp S H1 H2) : Kp S H H2 := fun c o e n => k c o (h c o e n) n
theorem Kp.mono (h : Kp S H H') (m : ∀ x, x ∈ S → x ∈ T) : Kp T H H' := fun c o e n => h c o e fun i => n (m c i)
theorem Kp.same (h : Same H H') : Kp S H H' := fun b o e _ => h b o e
theorem Kp.new (h : H p = none) : Kp S H (upd H p o) := fun b x e _ => by
  rw [upd_ne (ne_of_none e h)]
  exact e
theorem Kp.put (h : H p = some (.lst xs)) (m : p ∈ S) : Kp S H (upd H p o) := fun b x e n => by
  by_cases q : b = p
  · subst q
    exact absurd (Option.some.inj (e.symm.trans h)) (n m xs)
  · rw [upd_ne q]
    exact e
theorem Kp.lst (k : Kp S H H') (h : H a = some (.lst xs)) (n : ¬ a ∈ S) : H' a = some (.lst xs) := k a _ h fun m => absurd m n
theorem Kp.tup (k : Kp S H H') (h : H a = some (.tup xs)) : H' a = some (.tup xs) := k a _ h fun _ _ => fun e => nomatch e
theorem Kp.sqT (k : Kp S H H') (h : SqT K H a xs) : SqT K H' a xs := by
  rcases h with (h | ⟨o, h⟩) | h
  · exact .inl (.inl (k.tup h))
  · exact .inl (.inr ⟨o, k a _ h fun _ _ e => nomatch e⟩)
  · exact .inr h
theorem Kp.sqL (k : Kp S H H') (h : SqL K H a xs) (n : ¬ a ∈ S) : SqL K H' a xs := by
  rcases h with (h | ⟨o, h⟩) | h
  · exact .inl (.inl (k.lst h n))
  · exact .inl (.inr ⟨o, k a _ h fun _ _ e => nomatch e⟩)
  · exact .inr h
theorem Kp.free (k : Kp S H H1) (h : H1 p = none) (n : ¬ p ∈ S) : H p = none := by
  cases e : H p with
  | none => rfl
  | some o =>
    have := k p o e fun m => absurd m n
    rw [h] at this
    cases this
/-- an object that H does not know may change -/
theorem Kp.mut (k : Kp S H H') (h : H p = none) : Kp S H (upd H' p o) := fun b x e n => by
  rw [upd_ne (ne_of_none e h)]
  exact k b x e n
theorem same_new (h : H p = none) : Same H (upd H p o) := fun b u q => by
  rw [upd_ne (ne_of_none q h)]
  exact q
end

end Lz
namespace L2
open PySem PySem.Spec PyProof.Rows Lz
section
variable {S : List Addr} {H H' : Hp} {K : PySem.W.Frag}
mutual
theorem Dp.keep (k : Kp S H H') : ∀ (d : PyData) (v : V), fz d = true → Dp K H v d → Dp K H' v d
  | .none, _, _, h => by cases h; exact .non
  | .bool b, _, _, h => by cases h; exact .bl b
  | .int i, _, _, h => by cases h; exact .int i
  | .str x, _, _, h => by cases h; exact .str x
  | .list ds, _, f, _ => by
    have : false = true := f
    cases this
  | .tuple ds, _, f, h => by
    cases h with
    | tup hs ha => exact .tup (k.sqT hs) (Dp.keepAll k ds _ f ha)
  | .dict _, _, _, h => by cases h
theorem Dp.keepAll (k : Kp S H H') : ∀ (ds : List PyData) (vs : List V), fzAll ds = true → DpAll K H vs ds → DpAll K H' vs ds
  | [], _, _, h => by cases h; exact .nil
  | d :: ds, _, f, h => by
    have f' : fz d = true ∧ fzAll ds = true := by
      have : (fz d && fzAll ds) = true := f
      rwa [Bool.and_eq_true] at this
    cases h with
    | cons h1 h2 => exact .cons (Dp.keep k d _ f'.1 h1) (Dp.keepAll k ds _ f'.2 h2)
end
theorem DpAll.length : ∀ {vs : List V} {ds : List PyData}, DpAll K H vs ds → vs.length = ds.length
  | _, _, .nil => rfl
  | _, _, .cons _ t => by rw [List.length_cons, List.length_cons, DpAll.length t]
theorem DpAll.get : ∀ {vs : List V} {ds : List PyData} {i : Nat} {d : PyData}, DpAll K H vs ds → ds[i]? = some d → ∃ v, vs[i]? = some v ∧ Dp K H v d
  | _, _, _, _, .nil, e => by simp at e
  | _, _, 0, _, .cons h _, e => by
    have e' := Option.some.inj e
    subst e'
    exact ⟨_, rfl, h⟩
  | _, _, i + 1, d, .cons _ t, e => by
    obtain ⟨v, h1, h2⟩ := DpAll.get (i := i) (d := d) t e
    exact ⟨v, h1, h2⟩
theorem DpAll.at : ∀ {vs : List V} {ds : List PyData} {i : Nat} {v : V}, DpAll K H vs ds → vs[i]? = some v → ∃ d, ds[i]? = some d ∧ Dp K H v d
  | _, _, _, _, .nil, e => by simp at e
  | _, _, 0, _, .cons h _, e => by
    have e' := Option.some.inj e
    subst e'
    exact ⟨_, rfl, h⟩
  | _, _, i + 1, d, .cons _ t, e => by
    obtain ⟨v, h1, h2⟩ := DpAll.at (i := i) (v := d) t e
    exact ⟨v, h1, h2⟩
theorem DpAll.append : ∀ {vs ws : List V} {ds es : List PyData}, DpAll K H vs ds → DpAll K H ws es → DpAll K H (vs ++ ws) (ds ++ es)
  | _, _, _, _, .nil, t => t
  | _, _, _, _, .cons h s, t => .cons h (DpAll.append s t)
theorem DpAll.one {v : V} {d : PyData} (h : Dp K H v d) : DpAll K H [v] [d] := .cons h .nil
theorem DpAll.take : ∀ {vs : List V} {ds : List PyData} (n : Nat), DpAll K H vs ds → DpAll K H (vs.take n) (ds.take n)
  | _, _, 0, _ => .nil
  | _, _, _ + 1, .nil => .nil
  | _, _, n + 1, .cons h t => .cons h (DpAll.take n t)
theorem DpAll.drop : ∀ {vs : List V} {ds : List PyData} (n : Nat), DpAll K H vs ds → DpAll K H (vs.drop n) (ds.drop n)
  | _, _, 0, h => h
  | _, _, _ + 1, .nil => .nil
  | _, _, n + 1, .cons _ t => DpAll.drop n t
theorem DpAll.strs : ∀ (xs : List Str), DpAll K H (xs.map V.str) (xs.map PyData.str)
  | [] => .nil
  | x :: xs => .cons (.str x) (DpAll.strs xs)
theorem Dp.tup_of {v : V} {ds : List PyData} (h : Dp K H v (.tuple ds)) : ∃ a xs, v = .ref a ∧ SqT K H a xs ∧ DpAll K H xs ds := by
  cases h with
  | tup hs ha => exact ⟨_, _, rfl, hs, ha⟩
theorem Dp.lst_of {v : V} {ds : List PyData} (h : Dp K H v (.list ds)) : ∃ a xs, v = .ref a ∧ SqL K H a xs ∧ DpAll K H xs ds := by
  cases h with
  | lst hs ha => exact ⟨_, _, rfl, hs, ha⟩
theorem Dp.str_of {v : V} {x : Str} (h : Dp K H v (.str x)) : v = .str x := by cases h; rfl
theorem Dp.int_of {v : V} {i : Int} (h : Dp K H v (.int i)) : v = .int i := by cases h; rfl
/-- a new tuple of data -/
theorem Dp.newT {p : Addr} {xs : List V} {ds : List PyData} (hp : H p = none) (h : DpAll K H xs ds) (f : fzAll ds = true) : Dp K (upd H p (.tup xs)) (.ref p) (.tuple ds) :=
  .tup (.inl (.inl upd_same)) (Dp.keepAll (S := []) (Kp.new hp) ds xs f h)
end
end L2

set_option Elab.async false
set_option linter.all false
set_option maxRecDepth 100000
set_option maxHeartbeats 4000000
/-! Texts: letters, names; small facts of lists as data. -/
namespace Lz
open PySem PySem.Spec PyProof.Rows L2
abbrev letters : Str := "abcdefghijklmnopqrstuvwxyz"
theorem letters_at {r : Int} (h0 : 0 ≤ r) (h1 : r < 26) : atI letters.cps.toList r = some (97 + r.toNat) := by
  have h : ∀ j, j < 26 → letters.cps.toList[j]? = some (97 + j) := by decide +kernel
  have q := atI_nat (xs := letters.cps.toList) (h r.toNat (by omega))
  rwa [Int.toNat_of_nonneg h0] at q
theorem letters_len : letters.length ≤ sizeLine := by decide +kernel
theorem glue_list (sep : Str) (hs : sep.cps = #[]) : ∀ (rest : List Str) (acc : Array Nat), (rest.foldl (fun acc p => acc ++ sep.cps ++ p.cps) acc).toList = acc.toList ++ (rest.map (·.cps.toList)).flatten
  | [], acc => by simp
  | x :: r, acc => by
    rw [List.foldl_cons, glue_list sep hs r, hs]
    simp
theorem join_list (ys : List Str) : (Txt.join ("" : Str) ys).cps.toList = (ys.map (·.cps.toList)).flatten := by
  have hs : ("" : Str).cps = #[] := by decide +kernel
  show ((ys.drop 1).foldl (fun acc p => acc ++ ("" : Str).cps ++ p.cps) (ys.headD Str.empty).cps).toList = _
  rw [glue_list _ hs]
  cases ys with
  | nil => rfl
  | cons x r => simp
def one (c : Nat) : Str := ⟨#[c]⟩
theorem join_ones (cs : List Nat) : (Txt.join ("" : Str) (cs.map one)).cps.toList = cs := by
  rw [join_list, List.map_map]
  induction cs with
  | nil => rfl
  | cons c r ih =>
    rw [List.map_cons, List.flatten_cons, ih]
    rfl
theorem sum_ones : ∀ cs : List Nat, ((cs.map one).map (·.length)).sum = cs.length
  | [] => rfl
  | c :: r => by
    rw [List.map_cons, List.map_cons, List.sum_cons, sum_ones r, List.length_cons]
    show 1 + _ = _
    omega
theorem str_len (z : Str) : z.length = z.cps.toList.length := by
  show z.cps.size = _
  simp
theorem str_ext {a b : Str} (h : a.cps.toList = b.cps.toList) : a = b := by
  cases a
  cases b
  simp only [Str.mk.injEq]
  exact Array.toList_inj.mp h
theorem cat_list (a b : Str) : (a ++ b).cps.toList = a.cps.toList ++ b.cps.toList := by
  show (a.cps ++ b.cps).toList = _
  simp
theorem cut_to (z : Str) (k : Nat) : (cutS z none (some (k : Int))).cps.toList = z.cps.toList.take k := by
  unfold cutS
  rw [HT.sIx_none, HT.sIx_nat, str_len]
  simp
theorem cut_from (z : Str) (k : Nat) : (cutS z (some (k : Int)) none).cps.toList = z.cps.toList.drop k := by
  unfold cutS
  rw [HT.sIx_none, HT.sIx_nat, str_len]
  by_cases h : k ≤ z.cps.toList.length
  · rw [Nat.min_eq_left h]
    exact List.take_of_length_le (by rw [List.length_drop]; exact Nat.le_refl _)
  · rw [List.drop_eq_nil_of_le (by omega : z.cps.toList.length ≤ k), List.drop_eq_nil_of_le (by omega)]
    simp
def nameOf (wd : List Nat) (k : Nat) (c : Nat) : Str := ⟨(wd.take k ++ [c] ++ wd.drop (k + 1)).toArray⟩
theorem nameOf_eq {z : Str} {wd : List Nat} {k : Nat} {c : Nat} (hz : z.cps.toList = wd) : (cutS z none (some (k : Int)) ++ (⟨#[c]⟩ : Str)) ++ cutS z (some ((k : Int) + 1)) none = nameOf wd k c := by
  apply str_ext
  have e : ((k : Int) + 1) = ((k + 1 : Nat) : Int) := by omega
  rw [cat_list, cat_list, cut_to, e, cut_from, hz]
  unfold nameOf
  simp
theorem nameOf_ok {wd : List Nat} {k c : Nat} (h1 : 1 ≤ wd.length) (h8 : wd.length ≤ 8) (hk : k < wd.length) (hw : ∀ c, c ∈ wd → 97 ≤ c ∧ c ≤ 122) (hc : 97 ≤ c ∧ c ≤ 122) : nmOk (nameOf wd k c) := by
  have e : (nameOf wd k c).cps.toList = wd.take k ++ [c] ++ wd.drop (k + 1) := by unfold nameOf; simp
  have el : (nameOf wd k c).length = wd.length := by
    rw [str_len, e, List.length_append, List.length_append, List.length_take, List.length_drop, List.length_singleton]
    omega
  refine ⟨by omega, by omega, fun d hd => ?_⟩
  rw [e] at hd
  rcases List.mem_append.mp hd with hd | hd
  · rcases List.mem_append.mp hd with hd | hd
    · exact hw d (List.mem_of_mem_take hd)
    · rw [List.mem_singleton.mp hd]
      exact hc
  · exact hw d (List.mem_of_mem_drop hd)
theorem nameOf_inj {wd : List Nat} {k c d : Nat} (h : nameOf wd k c = nameOf wd k d) : c = d := by
  unfold nameOf at h
  have h' := congrArg (fun z : Str => z.cps.toList) h
  simp at h'
  exact h'
theorem nodup_map_of {α β : Type} {f : α → β} : ∀ {l : List α}, l.Nodup → (∀ a, a ∈ l → ∀ b, b ∈ l → f a = f b → a = b) → (l.map f).Nodup
  | [], _, _ => List.nodup_nil
  | x :: r, h, k => by
    rw [List.nodup_cons] at h
    rw [List.map_cons, List.nodup_cons]
    refine ⟨fun m => ?_, nodup_map_of h.2 fun a ha b hb => k a (List.mem_cons_of_mem _ ha) b (List.mem_cons_of_mem _ hb)⟩
    obtain ⟨y, hy, e⟩ := List.mem_map.mp m
    have := k y (List.mem_cons_of_mem _ hy) x List.mem_cons_self e
    exact h.1 (this ▸ hy)
/-- the names drawn from a word -/
def namesOf (wd : List Nat) (k fi b m : Nat) : List Str := (List.range m).map fun j => nameOf wd k (97 + (fi + b * j) % 26)
theorem namesOf_len (wd : List Nat) (k fi b m : Nat) : (namesOf wd k fi b m).length = m := by
  unfold namesOf
  rw [List.length_map, List.length_range]
theorem namesOf_ok {wd : List Nat} {k fi b m : Nat} (h1 : 1 ≤ wd.length) (h8 : wd.length ≤ 8) (hk : k < wd.length) (hw : ∀ c, c ∈ wd → 97 ≤ c ∧ c ≤ 122) : ∀ x, x ∈ namesOf wd k fi b m → nmOk x := fun x hx => by
  obtain ⟨j, _, rfl⟩ := List.mem_map.mp hx
  exact nameOf_ok h1 h8 hk hw ⟨by omega, by omega⟩
theorem namesOf_nodup {wd : List Nat} {k fi b m : Nat} (hm : m ≤ 26) (hb : b = 1 ∨ b = 3 ∨ b = 5 ∨ b = 7 ∨ b = 9 ∨ b = 11) : (namesOf wd k fi b m).Nodup := by
  refine nodup_map_of List.nodup_range fun i hi j hj e => ?_
  have e' := nameOf_inj e
  have hi' := List.mem_range.mp hi
  have hj' := List.mem_range.mp hj
  rcases hb with rfl | rfl | rfl | rfl | rfl | rfl <;> omega
/-! ### lists as data -/
theorem eqv_nil (xs : List PyData) : PyData.eqv (.list xs) (.list []) = xs.isEmpty := by
  rw [PyData.eqv]
  cases xs with
  | nil => rfl
  | cons x r => rfl
theorem nil_shaped : SeqAt.shaped (.list []) = true := by decide +kernel
theorem strs_shaped {xs : List Str} (h : ∀ x, x ∈ xs → nmOk x) : SeqAt.shaped (.list (xs.map .str)) = true := by
  have e : (PyData.list (xs.map .str)).depth = PyData.depthAll (xs.map .str) + 1 := by simp only [PyData.depth]
  have e2 : (PyData.list (xs.map .str)).canLay0 = PyData.canLayAll0 (xs.map .str) := by rw [PyData.canLay0]
  have h1 : PyData.depthAll (xs.map .str) ≤ 0 := depthAll_le fun d m => by
    obtain ⟨x, _, rfl⟩ := List.mem_map.mp m
    rw [depth_str]
    exact Nat.le_refl _
  have h2 : PyData.canLayAll0 (xs.map .str) = true := layAll_iff.mpr fun d m => by
    obtain ⟨x, hx, rfl⟩ := List.mem_map.mp m
    rw [lay_str]
    exact (h x hx).strOk
  unfold SeqAt.shaped
  rw [e2, h2, Bool.true_and]
  exact decide_eq_true (by omega)
def wD (f : Str × Int) : PyData := .tuple [.str f.1, .int f.2]
theorem wds_shaped {W : List (Str × Int)} (h : ∀ f, f ∈ W → nmOk f.1) : SeqAt.shaped (.list (W.map wD)) = true := by
  have e : (PyData.list (W.map wD)).depth = PyData.depthAll (W.map wD) + 1 := by simp only [PyData.depth]
  have e2 : (PyData.list (W.map wD)).canLay0 = PyData.canLayAll0 (W.map wD) := by rw [PyData.canLay0]
  have h1 : PyData.depthAll (W.map wD) ≤ 1 := depthAll_le fun d m => by
    obtain ⟨x, _, rfl⟩ := List.mem_map.mp m
    show (PyData.tuple [.str x.1, .int x.2]).depth ≤ 1
    simp only [PyData.depth, PyData.depthAll]
    omega
  have h2 : PyData.canLayAll0 (W.map wD) = true := layAll_iff.mpr fun d m => by
    obtain ⟨x, hx, rfl⟩ := List.mem_map.mp m
    show (PyData.tuple [.str x.1, .int x.2]).canLay0 = true
    rw [lay_tup, lay_cons, lay_cons, lay_nil, lay_str, (h x hx).strOk]
    simp only [PyData.canLay0]
    rfl
  unfold SeqAt.shaped
  rw [e2, h2, Bool.true_and]
  exact decide_eq_true (by omega)
theorem wds_fz : ∀ W : List (Str × Int), fzAll (W.map wD) = true
  | [] => rfl
  | _ :: r => by
    show (true && fzAll (r.map wD)) = true
    rw [wds_fz r]
    rfl
theorem strs_fz : ∀ xs : List Str, fzAll (xs.map .str) = true
  | [] => rfl
  | _ :: r => by
    show (true && fzAll (r.map .str)) = true
    rw [strs_fz r]
    rfl
end Lz

set_option Elab.async false
set_option linter.all false
set_option maxRecDepth 100000
set_option maxHeartbeats 4000000
/-! The rules by a written part that is named: so they serve within a comprehension too. -/
namespace Lz
open PySem PySem.Spec PyProof.Rows L2
section
variable {X : Cx} {K : PySem.W.Frag}
theorem ix_listK (h : X.K = K) : IxR X (rIxL K) := by subst h; exact ix_list
theorem ix_tupK (h : X.K = K) : IxR X (rIxT K) := by subst h; exact ix_tup
theorem sl_listK (h : X.K = K) : SlR X (rSlL K) := by subst h; exact sl_list
theorem sl_tupAK (h : X.K = K) : SlR X (rSlA K) := by subst h; exact sl_tupA
theorem op_eqDK (h : X.K = K) (hu : X.A.units + 64 < cLine) : OpR X (compareOp .Eq) (rEqD K) := by subst h; exact op_eqD hu
theorem op_neDK (h : X.K = K) (hu : X.A.units + 64 < cLine) : OpR X (compareOp .NotEq) (rNeD K) := by subst h; exact op_neD hu
theorem op_catAK (h : X.K = K) : OpR X (binaryOp .Add) (rCatA K) := by subst h; exact op_catA
theorem op_inK (h : X.K = K) : OpR X (compareOp .In) (rIn K false) := by subst h; exact op_in_seq
theorem op_notInK (h : X.K = K) : OpR X (compareOp .NotIn) (rIn K true) := by subst h; exact op_notIn_seq
def rLenS (K : PySem.W.Frag) : List V → Hp → VK → Prop := fun xs H Q => ∃ p ys, xs = [.ref p] ∧ (SqL K H p ys ∨ SqT K H p ys) ∧ Q (.int ys.length) H
theorem call_lenK (h : X.K = K) : CallR X (.builtin "len") (rLenS K) := by subst h; exact call_len_seq
def rListOf (K : PySem.W.Frag) : List V → Hp → VK → Prop := fun xs H Q => ∃ p ys, xs = [.ref p] ∧ (SqL K H p ys ∨ SqT K H p ys) ∧ ∀ l, H l = none → Q (.ref l) (upd H l (.lst ys))
theorem call_listK (h : X.K = K) : CallR X (.type "list") (rListOf K) := by subst h; exact call_list_of
def rTupOf (K : PySem.W.Frag) : List V → Hp → VK → Prop := fun xs H Q => ∃ p ys, xs = [.ref p] ∧ ((SqL K H p ys ∧ ∀ l, H l = none → Q (.ref l) (upd H l (.tup ys))) ∨ (SqT K H p ys ∧ Q (.ref p) H))
theorem call_tupleK (h : X.K = K) : CallR X (.type "tuple") (rTupOf K) := by subst h; exact call_tuple_of
theorem call_isK (h : X.K = K) : CallR X (.builtin "isinstance") (rIsi K) := by subst h; exact call_isi
theorem call_sumK (h : X.K = K) (hc : X.calm = true) : CallR X (.builtin "sum") (rSum K) := by subst h; exact cr_sum hc
theorem call_maxK (h : X.K = K) (hc : X.calm = true) : CallR X (.builtin "max") (rMax K) := by subst h; exact cr_max hc
theorem call_allK (h : X.K = K) (hc : X.calm = true) : CallR X (.builtin "all") (rAll K) := by subst h; exact cr_all hc
def tTruK (K : PySem.W.Frag) (ta : TE) : TT := fun σ H Q => ta σ H fun x H' => ∃ k, TruV K x H' k ∧ Q k H'
theorem pt_truthK {a : Expr} {ta : TE} (h : X.K = K) (ha : PE X a ta) (he : ∀ whole, isTrue a X.env whole = (do let v ← whole; standAt a.pos; holding [v] (truthy v))) : PT X a (tTruK K ta) := by subst h; exact pt_truth ha he
theorem pe_bm0K {T id : String} {name : Str} {r : V → List V → Hp → VK → Prop} {o : Expr} {to : TE} {apos cpos : Pos} (h : X.K = K) (pa : PlainAttrs T) (slot : Slot T name id) (hty : typeOf (.builtin id) = pure (.type "method_descriptor")) (hm : MtR X id r) (ho : PE X o to)
    (hbase : attributeBase o name X.env (eval o X.env) = eval o X.env := by rfl) (hline : (apos.endLine == cpos.line) = true := by rfl) : PE X (.Call (.Attribute o name apos) [] [] cpos) (tBM0 K T r to) := by
  subst h
  exact pe_bm0 pa slot hty hm ho hbase hline
theorem pe_bmK {T id : String} {name : Str} {r : V → List V → Hp → VK → Prop} {o e : Expr} {es : List Expr} {to : TE} {t : TA} {apos cpos : Pos} (h : X.K = K) (pa : PlainAttrs T) (slot : Slot T name id) (hty : typeOf (.builtin id) = pure (.type "method_descriptor")) (hm : MtR X id r) (ho : PE X o to) (ha : PA X (e :: es) t)
    (hbase : attributeBase o name X.env (eval o X.env) = eval o X.env := by rfl)
    (hfew : ((backTo cpos (starEach (e :: es) X.env)).all (fun x => !x.1) && (backToKw cpos (keywordEach [] X.env)).all (fun x => x.1.isSome)
      && decide ((e :: es).length + ([] : List Keyword).length + (if ([] : List Keyword).isEmpty then 0 else 1) < 30)) = true := by rfl)
    (hline : (apos.endLine == cpos.line) = true := by rfl) (hs : starEach (e :: es) X.env = (false, eval e X.env) :: starEach es X.env := by rfl) (hplain : (backTo cpos (starEach es X.env)).any (·.1) = false := by rfl) :
    PE X (.Call (.Attribute o name apos) (e :: es) [] cpos) (tBM K T r to t) := by
  subst h
  exact pe_bm pa slot hty hm ho ha hbase hfew hline hs hplain
theorem pi_listK {tg l : Expr} {tl : TE} (h : X.K = K) (hl : PE X l tl) : PI X tg l (iList K tl) := by subst h; exact pi_list hl
theorem pi_tupK {tg l : Expr} {tl : TE} (h : X.K = K) (hl : PE X l tl) : PI X tg l (iTup K tl) := by subst h; exact pi_tup hl
theorem pg_tupK {es : List Expr} {k : Nat} {t : TGs} {n : Nat} {pos : Pos} (h : X.K = K) (hc : X.calm = true) (hs : PGs X es t)
    (hn : (assignEach es X.env).length = n := by rfl) (hst : (assignEach es X.env).findIdx? (·.1) = none := by rfl) : PG X (.Tuple es k pos) (gTup K n t) := by subst h; exact pg_tup hc hs hn hst
/-- max(l, default=d) of whole numbers -/
def rMaxDef (K : PySem.W.Frag) : List V → List V → Hp → VK → Prop := fun xs zs H Q => ∃ (a : Addr) (ns : List Int) (d : Int), xs = [.ref a] ∧ zs = [.int d] ∧ SqL K H a (ns.map V.int) ∧ (ns = [] → Q (.int d) H) ∧ ∀ m, m ∈ ns → (∀ y, y ∈ ns → y ≤ m) → Q (.int m) H
theorem maxOf_facts : ∀ (ys : List Int) (y : Int), PySem.W.maxOf y ys ∈ y :: ys ∧ ∀ z, z ∈ y :: ys → z ≤ PySem.W.maxOf y ys
  | [], y => ⟨List.mem_cons_self, fun z m => by rw [List.mem_singleton.mp m]; exact Int.le_refl _⟩
  | x :: r, y => by
    have e : PySem.W.maxOf y (x :: r) = PySem.W.maxOf (if y < x then x else y) r := by
      show List.foldl _ (if decide (y < x) = true then x else y) r = _
      by_cases h : y < x
      · rw [if_pos (decide_eq_true h), if_pos h]
        rfl
      · rw [if_neg (fun q => h (of_decide_eq_true q)), if_neg h]
        rfl
    obtain ⟨h1, h2⟩ := maxOf_facts r (if y < x then x else y)
    rw [e]
    have h3 := h2 _ List.mem_cons_self
    generalize PySem.W.maxOf (if y < x then x else y) r = M at h1 h2 h3 ⊢
    refine ⟨?_, fun z m => ?_⟩
    · rcases List.mem_cons.mp h1 with q | q
      · rw [q]
        split
        · exact List.mem_cons_of_mem _ List.mem_cons_self
        · exact List.mem_cons_self
      · exact List.mem_cons_of_mem _ (List.mem_cons_of_mem _ q)
    · rcases List.mem_cons.mp m with q | m
      · rw [q]
        split at h3 <;> omega
      · rcases List.mem_cons.mp m with q | m
        · rw [q]
          split at h3 <;> omega
        · exact h2 z (List.mem_cons_of_mem _ m)
theorem reads_ints {h : Heap} : ∀ {ns : List Int} {us : List Value}, Vals (ns.map V.int) us → ∃ as, ReadsAll h us (ns.map PyData.int) as
  | [], _, r => by cases r; exact ⟨_, .nil⟩
  | n :: ns, _, r => by
    cases r with
    | cons r1 r2 =>
      obtain ⟨t, rfl⟩ := r1
      obtain ⟨as, q⟩ := reads_ints r2
      exact ⟨_, .cons (.int n t) q⟩
theorem cr_maxDef (hc : X.calm = true) (hu : X.A.units + 64 < cLine) : CallRK X (.builtin "max") [Str.ofString "default"] (rMaxDef X.K) := by
  intro pins s σ H xs zs us ws Q I rx rz h
  obtain ⟨a, ns, d, rfl, rfl, hs, h0, h1⟩ := h
  obtain ⟨its, rv, hl, _⟩ := I.list hs
  rw [Vals.ref1 rx]
  cases rz with
  | cons r1 r2 =>
    cases r2
    obtain ⟨t, rfl⟩ := r1
    refine PySem.W.max_list_datum_default (α := Int) (xs := ns) (I.ok.hd hc) hl.isList (reads_ints rv) (by show X.A.units + 1 + 0 < cLine; omega) (fun e h' tk hk => ⟨.int d, H, I.kept hk, ⟨_, rfl⟩, h0 e⟩) fun y ys i v h' tk e hi hh hk => ?_
    obtain ⟨as, hr⟩ := hh
    obtain ⟨f1, f2⟩ := maxOf_facts ys y
    have hv : ∃ t, v = Value.int (PySem.W.maxOf y ys) t := by
      generalize PySem.W.maxOf y ys = m at hr
      have hr' : Reads h' v (.int m) as := hr
      cases hr'
      exact ⟨_, rfl⟩
    obtain ⟨t', rfl⟩ := hv
    exact ⟨.int _, H, I.kept hk, ⟨_, rfl⟩, h1 _ (by rw [e]; exact f1) (by rw [e]; exact f2)⟩
theorem call_maxDefK (h : X.K = K) (hc : X.calm = true) (hu : X.A.units + 64 < cLine) : CallRK X (.builtin "max") [Str.ofString "default"] (rMaxDef K) := by subst h; exact cr_maxDef hc hu
theorem op_in_kdK {d : Addr} {es : Array DictEntry} {n : Nat} (h : X.K = K) (D : KDict X.K X.w d es n) : OpR X (compareOp .In) (fun x y H Q => ∃ (z : Str) (r : Option Value), x = .str z ∧ y = .ref d ∧ PySem.W.nsIn K d z = some r ∧ Q (.bl r.isSome) H) := by subst h; exact op_in_kd D
theorem pi_enumK {e : Expr} {ta : TA} {p pos tpos : Pos} {elts : List Expr} {kk : Nat} (h : X.K = K) (hg : Gl X "enumerate") (hm : X.mg "enumerate" = none) (ha : PA X [e] ta) (hs : starEach [e] X.env = [(false, eval e X.env)] := by rfl) :
    PI X (.Tuple elts kk tpos) (.Call (.Name "enumerate" p) [e] [] pos) (iEnum K ta) := by subst h; exact pi_enum hg hm ha hs
theorem mt_indexK (h : X.K = K) : MtR X "list.index" (rIndex K) := by subst h; exact mt_index
end
end Lz
namespace StX
open PySem L2
theorem pa_starK {X : Cx} {K : PySem.W.Frag} {e : Expr} {es : List Expr} {p : Pos} {te : TE} {t : TA} (h : X.K = K) (he : PE X e te) (hr : PA X es t) (hs : starEach (.Starred e p :: es) X.env = (true, eval e X.env) :: starEach es X.env := by rfl) : PA X (.Starred e p :: es) (tStar K te t) := by subst h; exact pa_star he hr hs
end StX

set_option Elab.async false
set_option linter.all false
set_option maxRecDepth 100000
set_option maxHeartbeats 4000000
namespace Lz
open PySem PySem.Spec PyProof.Rows L2
def topS (i : Nat) : Stmt := PySem.Challenge.pw_lazywebs_k70_programs_written.main.body.getD i (.Pass ⟨0, 0, 0, 0⟩)
/-- the built-ins are still there -/
structure Bt (mg : Str → Option Value) : Prop where
  len : mg "len" = none
  max : mg "max" = none
  min : mg "min" = none
  abs : mg "abs" = none
  range : mg "range" = none
  int : mg "int" = none
  list : mg "list" = none
  tuple : mg "tuple" = none
  sum : mg "sum" = none
  isinstance : mg "isinstance" = none

/-- a pen at p, its cells at a -/
def PenAt (H : Hp) (p a : Addr) : Prop := ∃ (ns : List Int) (t q : Int), H p = some (.lst [.ref a, .int t, .int q]) ∧ H a = some (.lst (ns.map V.int)) ∧ ns.length ≤ 63 ∧ 0 ≤ t ∧ 0 ≤ q
theorem PenAt.ne {H : Hp} {p a : Addr} (h : PenAt H p a) : a ≠ p := by
  obtain ⟨ns, t, q, h1, h2, _⟩ := h
  refine ne_of h2 h1 fun e => ?_
  have e' := HO.lst.inj e
  cases ns with
  | nil => cases e'
  | cons x r => cases e'
theorem PenAt.keep {S : List Addr} {H H' : Hp} {p a : Addr} (h : PenAt H p a) (k : Kp S H H') (hp : ¬ p ∈ S) (ha : ¬ a ∈ S) : PenAt H' p a := by
  obtain ⟨ns, t, q, h1, h2, h3⟩ := h
  exact ⟨ns, t, q, k.lst h1 hp, k.lst h2 ha, h3⟩
theorem PenAt.mut {H : Hp} {p a D : Addr} {o : HO} (h : PenAt H p a) (hp : D ≠ p) (ha : D ≠ a) : PenAt (upd H D o) p a := by
  obtain ⟨ns, t, q, h1, h2, h3⟩ := h
  exact ⟨ns, t, q, by rw [upd_ne hp.symm]; exact h1, by rw [upd_ne ha.symm]; exact h2, h3⟩
theorem PenAt.new {H : Hp} {p a D : Addr} {o : HO} (h : PenAt H p a) (hD : H D = none) : PenAt (upd H D o) p a := h.keep (S := []) (Kp.new hD) (fun h => nomatch h) (fun h => nomatch h)
theorem PenAt.apart {H : Hp} {p a D : Addr} (h : PenAt H p a) (hD : H D = none) : D ≠ p ∧ D ≠ a := by
  obtain ⟨ns, t, q, h1, h2, h3⟩ := h
  exact ⟨(ne_of_none h1 hD).symm, (ne_of_none h2 hD).symm⟩
theorem not1 {p D : Addr} (h : D ≠ p) : ¬ D ∈ [p] := fun m => h (List.mem_singleton.mp m)
theorem cal_mk {P : Program} {w : World} {K : PySem.W.Frag} {mg : Str → Option Value} {base : Heap} {k : Nat} {x : Str} {st : Stmt} {f : Addr} {fd : FuncData} {ps : List Str} {sp : Sp} (F : Fun K x x st f fd) (G : FnOk P w K mg base CX0 k f fd ps sp) (m : mg x = some (.ref f)) (b : Binds K fd ps []) : C8.Cal P w K mg base k x sp [] :=
  ⟨⟨f, fd, ps, [], G, m, F.kp, b, .nil⟩⟩
def spDraw (K : PySem.W.Frag) : Sp := fun vs H Q _ => ∃ (p a : Addr) (m : Int), vs = [.ref p, .int m] ∧ PenAt H p a ∧ 1 ≤ m ∧ m.natAbs < 2 ^ 250 ∧
  ∀ r H', Kp [p] H H' → PenAt H' p a → 0 ≤ r → r < m → Q (.int r) H'
section
variable {P : Program} {w : World} {K : PySem.W.Frag} {mg : Str → Option Value} {base : Heap} {f : Addr} {fd : FuncData}
abbrev sLDraw : Stmt := topS 11
theorem scLDraw : FnScope ["_law_pen_here", "_law_many", "_law_digit", "_law_at", "_law_cell", "_law_prime", "_law_number_here"] ["_law_pen_here", "_law_many"] (defScope sLDraw) := ⟨rfl, rfl, rfl, by decide +kernel, rfl, by decide +kernel, by decide +kernel⟩
theorem pen_put {H : Hp} {p a : Addr} {ns : List Int} {t q t' q' : Int} (h1 : H p = some (.lst [.ref a, .int t, .int q])) (h2 : H a = some (.lst (ns.map V.int))) (h3 : ns.length ≤ 63) (ht : 0 ≤ t') (hq : 0 ≤ q') : PenAt (upd H p (.lst [.ref a, .int t', .int q'])) p a := by
  have na : a ≠ p := ne_of h2 h1 fun e => by
    have e' := HO.lst.inj e
    cases ns with
    | nil => cases e'
    | cons x r => cases e'
  exact ⟨ns, t', q', upd_same, by rw [upd_ne na]; exact h2, h3, ht, hq⟩
theorem ok_draw (F : Fun K "_law_draw" "_law_draw" sLDraw f fd) (B : Bt mg) : FnOk P w K mg base CX0 1 f fd ["_law_pen_here", "_law_many"] (spDraw K) := by
  have ml := B.len
  have mmax := B.max
  have mabs := B.abs
  refine F.ok scLDraw (fun vs H Q E h => ?_) (fun cdv A outer s H vs Q E hr h => ?_)
  · obtain ⟨p, a, m, rfl, _⟩ := h
    rfl
  obtain ⟨p, a, m, rfl, hpen, hm1, hm2, k⟩ := h
  obtain ⟨ns, t, q, h1, h2, h3, ht, hq⟩ := id hpen
  have hpos : (0 : Int) < m := by omega
  have hw : CDivW q m := wide_div hpos hm2 (by decide) (by decide)
  refine ⟨_, (pss_cons (ps_if (pt_cmpR op_gt (pe_ix (ix_listK (K := K) rfl) (pv 0) pe_int (fun _ _ => rfl)) pe_int (nomark _)) (pss_cons (ps_set (i := 2) scLDraw.nd rfl (.inl rfl) (pe_op op_mod (pe_ix (ix_listK (K := K) rfl) (pv 0) pe_int (fun _ _ => rfl)) (pv 1)))
    (pss_cons (ps_asg (pe_op op_fdivW (pe_ix (ix_listK (K := K) rfl) (pv 0) pe_int (fun _ _ => rfl)) (pv 1)) (pg_sub (pv 0) pe_int set_list))
    (pss_one (ps_ret (pv 2))))) pss_nil)
    (pss_cons (ps_set (i := 3) scLDraw.nd rfl (.inl rfl) (pe_ix (ix_listK (K := K) rfl) (pv 0) pe_int (fun _ _ => rfl)))
    (pss_cons (ps_asg (pe_op op_add (pv 3) pe_int) (pg_sub (pv 0) pe_int set_list))
    (pss_cons (ps_set (i := 4) scLDraw.nd rfl (.inl rfl) (pe_ix (ix_listK (K := K) rfl) (pe_op op_cat (pe_ix (ix_listK (K := K) rfl) (pv 0) pe_int (fun _ _ => rfl)) (pe_lst (pa_cons pe_int pa_nil))) (pe_op op_mod (pv 3) (pe_callB (call_max2 rfl) (by rfl) mmax (by decide +kernel) (pa_cons pe_int (pa_cons (pe_callB (call_lenK (K := K) rfl) (by rfl) ml PySem.boot_len (pa_cons (pe_ix (ix_listK (K := K) rfl) (pv 0) pe_int (fun _ _ => rfl)) pa_nil)) pa_nil)))) (fun _ _ => rfl)))
    (C8.pss_cut (ps_if (PW.pt (pw_and (pt_cmpR op_lt (pv 3) (pe_callB (call_lenK (K := K) rfl) (by rfl) ml PySem.boot_len (pa_cons (pe_ix (ix_listK (K := K) rfl) (pv 0) pe_int (fun _ _ => rfl)) pa_nil)) (nomark _)) (pw_and1 (pt_cmpR op_ge (pe_callB call_abs (by rfl) mabs (by decide +kernel) (pa_cons (pv 4) pa_nil)) (pe_op op_pow pe_int pe_int) (nomark _))))) (pss_cons (ps_asg (pe_op op_fdivW (pe_callB call_abs (by rfl) mabs (by decide +kernel) (pa_cons (pv 4) pa_nil)) (pv 1)) (pg_sub (pv 0) pe_int set_list))
    (pss_one (ps_ret (pe_op op_mod (pe_callB call_abs (by rfl) mabs (by decide +kernel) (pa_cons (pv 4) pa_nil)) (pv 1))))) pss_nil)
    (pss_cons (ps_set (i := 5) scLDraw.nd rfl (.inl rfl) (pe_ix (ix_listK (K := K) rfl) (pe_lst (pa_cons pe_int (pa_cons pe_int (pa_cons pe_int (pa_cons pe_int (pa_cons pe_int (pa_cons pe_int (pa_cons pe_int pa_nil)))))))) (pe_op op_mod (pv 3) pe_int) (fun _ _ => rfl)))
    (pss_cons (ps_set (i := 6) scLDraw.nd rfl (.inl rfl) (pe_op op_mod (pe_op op_mul (pe_op op_add (pe_op op_add (pe_op op_mod (pv 4) pe_int) (pe_op op_mul pe_int (pv 3))) pe_int) pe_int) (pv 5)))
    (pss_cons (ps_set (i := 6) scLDraw.nd rfl (.inl rfl) (pe_op op_mod (pe_op op_add (pe_op op_add (pe_op op_mul (pv 6) (pv 6)) (pe_op op_mul pe_int (pv 6))) (pv 3)) pe_int))
    (pss_cons (ps_set (i := 6) scLDraw.nd rfl (.inl rfl) (pe_op op_mod (pe_op op_mul (pv 6) pe_int) pe_int))
    (C8.pss_cut (ps_if (pt_cmpR op_gt (pv 1) (pe_op op_pow pe_int pe_int) (nomark _)) (pss_one (ps_set (i := 6) scLDraw.nd rfl (.inl rfl) (pe_op op_pow (pv 6) pe_int))) pss_nil)
    (pss_one (ps_ret (pe_op op_mod (pe_op op_fdiv (pv 6) pe_int) (pv 1)))))))))))))), ?_⟩
  refine ⟨_, rfl, p, _, _, _, rfl, rfl, SqL.of h1, at_of (j := 2) rfl rfl, _, _, rfl, rfl, _, rfl, ?_⟩
  refine ite2 (fun c => ?_) (fun c => ?_)
  · refine ⟨_, rfl, p, _, _, _, rfl, rfl, SqL.of h1, at_of (j := 2) rfl rfl, _, rfl, _, _, rfl, rfl, hpos, ?_⟩
    refine ⟨_, rfl, p, _, _, _, rfl, rfl, SqL.of h1, at_of (j := 2) rfl rfl, _, rfl, _, _, rfl, rfl, hw, ?_⟩
    refine ⟨_, rfl, p, _, _, 2, rfl, rfl, h1, rfl, _, rfl, ?_⟩
    exact k _ _ (Kp.put h1 List.mem_cons_self) (pen_put h1 h2 h3 ht (Int.ediv_nonneg hq (by omega))) (Int.emod_nonneg _ (by omega)) (Int.emod_lt_of_pos _ hpos)
  · have na : a ≠ p := hpen.ne
    -- at = pen[1]; pen[1] = at + 1
    refine ⟨_, rfl, p, _, _, _, rfl, rfl, SqL.of h1, at_of (j := 1) rfl rfl, ?_⟩
    refine ⟨_, rfl, _, _, rfl, rfl, _, rfl, p, _, _, 1, rfl, rfl, h1, rfl, ?_⟩
    have hp1 : (upd H p (.lst [.ref a, .int (t + 1), .int q])) p = some (.lst [.ref a, .int (t + 1), .int q]) := upd_same
    have ha1 : (upd H p (.lst [.ref a, .int (t + 1), .int q])) a = some (.lst (ns.map V.int)) := by rw [upd_ne na]; exact h2
    have k1 : Kp [p] H (upd H p (.lst [.ref a, .int (t + 1), .int q])) := Kp.put h1 List.mem_cons_self
    show tSeq _ _ _ _ (upd H p (.lst [.ref a, .int (t + 1), .int q]))
    generalize upd H p (.lst [.ref a, .int (t + 1), .int q]) = H1 at hp1 ha1 k1
    -- cell
    refine ⟨_, rfl, p, _, _, _, rfl, rfl, SqL.of hp1, at_of (j := 0) rfl rfl, (by show 1 ≤ sizeLine; decide), fun l hl => ?_⟩
    have nla : a ≠ l := ne_of_none ha1 hl
    refine ⟨a, l, _, _, rfl, rfl, by rw [upd_ne nla]; exact ha1, upd_same, (by rw [List.length_map, List.length_singleton]; exact Nat.le_of_lt (small1000 (by omega))), fun l2 hl2 => ?_⟩
    have k2 : Kp [p] H1 (upd (upd H1 l (.lst [.int 7])) l2 (.lst (ns.map V.int ++ [.int 7]))) := (Kp.new hl).trans (Kp.new hl2)
    have hp2 : (upd (upd H1 l (.lst [.int 7])) l2 (.lst (ns.map V.int ++ [.int 7]))) p = some (.lst [.ref a, .int (t + 1), .int q]) := by
      have e1 : p ≠ l := ne_of_none hp1 hl
      have e2 : (upd H1 l (.lst [.int 7])) p = some (.lst [.ref a, .int (t + 1), .int q]) := by rw [upd_ne e1]; exact hp1
      rw [upd_ne (ne_of_none e2 hl2)]
      exact e2
    have ha2 : (upd (upd H1 l (.lst [.int 7])) l2 (.lst (ns.map V.int ++ [.int 7]))) a = some (.lst (ns.map V.int)) := by
      have e2 : (upd H1 l (.lst [.int 7])) a = some (.lst (ns.map V.int)) := by rw [upd_ne nla]; exact ha1
      rw [upd_ne (ne_of_none e2 hl2)]
      exact e2
    have hl3 : (upd (upd H1 l (.lst [.int 7])) l2 (.lst (ns.map V.int ++ [.int 7]))) l2 = some (.lst (ns.map V.int ++ [.int 7])) := upd_same
    show tOp _ _ _ _ (upd (upd H1 l (.lst [.int 7])) l2 (.lst (ns.map V.int ++ [.int 7]))) _
    generalize upd (upd H1 l (.lst [.int 7])) l2 (.lst (ns.map V.int ++ [.int 7])) = H2 at hp2 ha2 hl3 k2
    have hmx : (if (((ns.map V.int).length : Nat) : Int) > 1 then (((ns.map V.int).length : Nat) : Int) else 1) = max 1 (ns.length : Int) := by
      rw [List.length_map]
      omega
    refine ⟨_, rfl, _, rfl, p, _, _, _, rfl, rfl, SqL.of hp2, at_of (j := 0) rfl rfl, a, _, rfl, .inl (SqL.of ha2), _, _, rfl, ?_⟩
    refine ⟨_, _, rfl, rfl, (by show (0 : Int) < (if (((ns.map V.int).length : Nat) : Int) > 1 then _ else 1); rw [hmx]; omega), ?_⟩
    show rIxL _ _ (V.int (t % (if (((ns.map V.int).length : Nat) : Int) > 1 then _ else 1))) _ _
    rw [hmx]
    have hj0 : 0 ≤ t % max 1 (ns.length : Int) := Int.emod_nonneg _ (by omega)
    have hj1 : t % max 1 (ns.length : Int) < max 1 (ns.length : Int) := Int.emod_lt_of_pos _ (by omega)
    obtain ⟨cell, hcell⟩ : ∃ z : Int, (ns ++ [7])[(t % max 1 (ns.length : Int)).toNat]? = some z := by
      have : (t % max 1 (ns.length : Int)).toNat < (ns ++ [7]).length := by
        rw [List.length_append, List.length_singleton]
        omega
      exact ⟨_, List.getElem?_eq_getElem this⟩
    have hcell' : (ns.map V.int ++ [V.int 7])[(t % max 1 (ns.length : Int)).toNat]? = some (.int cell) := by
      have e : ns.map V.int ++ [V.int 7] = (ns ++ [7]).map V.int := by rw [List.map_append]; rfl
      rw [e, List.getElem?_map, hcell]
      rfl
    refine ⟨l2, _, _, _, rfl, rfl, SqL.of hl3, at_of (j := (t % max 1 (ns.length : Int)).toNat) (by omega) hcell', ?_⟩
    have pen2 : PenAt H2 p a := ⟨ns, t + 1, q, hp2, ha2, h3, by omega, hq⟩
    have kk : Kp [p] H H2 := k1.trans k2
    -- the great cells
    refine ⟨fun σ' H' => σ' = [some (.ref p), some (.int m), none, some (.int t), some (.int cell), none, none] ∧ H' = H2, ?_, ?_⟩
    · refine ⟨_, rfl, _, rfl, p, _, _, _, rfl, rfl, SqL.of hp2, at_of (j := 0) rfl rfl, a, _, rfl, .inl (SqL.of ha2), _, _, rfl, rfl, _, rfl, ?_⟩
      refine ite2 (fun c1 => ?_) (fun c1 => ⟨rfl, rfl⟩)
      refine ⟨_, rfl, _, rfl, _, _, rfl, rfl, ⟨by decide, by decide, by decide⟩, _, _, rfl, rfl, _, rfl, ?_⟩
      refine ite2 (fun c2 => ?_) (fun c2 => ⟨rfl, rfl⟩)
      have hab : 0 ≤ (if cell < 0 then -cell else cell) := by split <;> omega
      refine ⟨_, rfl, _, rfl, _, rfl, _, _, rfl, rfl, wide_div hpos hm2 (by decide) (by decide), ?_⟩
      refine ⟨_, rfl, p, _, _, 2, rfl, rfl, hp2, rfl, _, rfl, _, rfl, _, rfl, _, _, rfl, rfl, hpos, ?_⟩
      exact k _ _ (kk.trans (Kp.put hp2 List.mem_cons_self)) (pen_put hp2 ha2 h3 (by omega) (Int.ediv_nonneg hab (by omega))) (Int.emod_nonneg _ (by omega)) (Int.emod_lt_of_pos _ hpos)
    · rintro _ H2 ⟨rfl, rfl⟩
      -- a prime
      refine ⟨by show 7 ≤ sizeLine; decide, fun l3 hl3' => ?_⟩
      have k3 : Kp [p] H2 (upd H2 l3 (.lst [.int 2147483647, .int 2147483629, .int 2147483587, .int 2147483579, .int 2147483563, .int 2147483549, .int 2147483543])) := Kp.new hl3'
      have pen3 : PenAt (upd H2 l3 (.lst [.int 2147483647, .int 2147483629, .int 2147483587, .int 2147483579, .int 2147483563, .int 2147483549, .int 2147483543])) p a := ⟨ns, t + 1, q, by rw [upd_ne (ne_of_none hp2 hl3')]; exact hp2, by rw [upd_ne (ne_of_none ha2 hl3')]; exact ha2, h3, by omega, hq⟩
      obtain ⟨pr, hpr, hpr0, hpr1⟩ : ∃ z : Int, ([.int 2147483647, .int 2147483629, .int 2147483587, .int 2147483579, .int 2147483563, .int 2147483549, .int 2147483543] : List V)[(t % 7).toNat]? = some (.int z) ∧ 0 < z ∧ z < 2 ^ 32 := by
        have h0 : (t % 7).toNat < 7 := by omega
        generalize (t % 7).toNat = j at h0
        match j, h0 with
        | 0, _ => exact ⟨_, rfl, by decide, by decide⟩
        | 1, _ => exact ⟨_, rfl, by decide, by decide⟩
        | 2, _ => exact ⟨_, rfl, by decide, by decide⟩
        | 3, _ => exact ⟨_, rfl, by decide, by decide⟩
        | 4, _ => exact ⟨_, rfl, by decide, by decide⟩
        | 5, _ => exact ⟨_, rfl, by decide, by decide⟩
        | 6, _ => exact ⟨_, rfl, by decide, by decide⟩
      refine ⟨_, rfl, _, _, rfl, rfl, (by show (0 : Int) < 7; decide), l3, _, _, _, rfl, rfl, SqL.of upd_same, at_of (j := (t % 7).toNat) (by show t % 7 = _; omega) hpr, ?_⟩
      -- the number
      refine ⟨_, rfl, _, _, rfl, rfl, (by show (0 : Int) < 2147483497; decide), _, rfl, _, _, rfl, rfl, .inl ⟨by decide, by decide⟩, _, _, rfl, rfl, _, _, rfl, rfl, _, _, rfl, rfl, .inr ⟨by decide, by decide⟩, _, rfl, _, _, rfl, rfl, hpr0, ?_⟩
      show tSeq _ _ _ [some (.ref p), some (.int m), none, some (.int t), some (.int cell), some (.int pr), some (.int ((cell % 2147483497 + 69621 * t + 13) * 48271 % pr))] _
      have n0 : 0 ≤ (cell % 2147483497 + 69621 * t + 13) * 48271 % pr := Int.emod_nonneg _ (by omega)
      have n1 : (cell % 2147483497 + 69621 * t + 13) * 48271 % pr < pr := Int.emod_lt_of_pos _ hpr0
      generalize (cell % 2147483497 + 69621 * t + 13) * 48271 % pr = nu at n0 n1
      refine ⟨_, rfl, _, rfl, _, _, rfl, rfl, .inl ⟨by omega, by omega⟩, _, rfl, _, _, rfl, rfl, .inl ⟨by decide, by decide⟩, _, _, rfl, rfl, _, rfl, _, _, rfl, rfl, _, _, rfl, rfl, (by show (0 : Int) < 2147483489; decide), ?_⟩
      show tSeq _ _ _ [some (.ref p), some (.int m), none, some (.int t), some (.int cell), some (.int pr), some (.int ((nu * nu + 40692 * nu + t) % 2147483489))] _
      generalize (nu * nu + 40692 * nu + t) % 2147483489 = nv
      refine ⟨_, rfl, _, _, rfl, rfl, .inr ⟨by decide, by decide⟩, _, _, rfl, rfl, (by show (0 : Int) < 2147483477; decide), ?_⟩
      show C8.tCut _ _ _ [some (.ref p), some (.int m), none, some (.int t), some (.int cell), some (.int pr), some (.int (nv * 16807 % 2147483477))] _
      have v0 : 0 ≤ nv * 16807 % 2147483477 := Int.emod_nonneg _ (by omega)
      have v1 : nv * 16807 % 2147483477 < 2147483477 := Int.emod_lt_of_pos _ (by omega)
      generalize nv * 16807 % 2147483477 = nw at v0 v1
      have kl := kk.trans k3
      generalize upd H2 l3 _ = H3 at pen3 kl ⊢
      refine ⟨fun σ' H' => (∃ z : Int, σ' = [some (.ref p), some (.int m), none, some (.int t), some (.int cell), some (.int pr), some (.int z)]) ∧ H' = H3, ?_, ?_⟩
      · refine ⟨_, rfl, _, _, rfl, rfl, ⟨by decide, by decide, by decide⟩, _, _, rfl, rfl, _, rfl, ?_⟩
        refine ite2 (fun c1 => ?_) (fun c1 => ⟨⟨_, rfl⟩, rfl⟩)
        exact ⟨_, rfl, _, _, rfl, rfl, ⟨by decide, by decide, (by omega)⟩, ⟨_, rfl⟩, rfl⟩
      · rintro _ H3 ⟨⟨z, rfl⟩, rfl⟩
        refine ⟨_, rfl, _, _, rfl, rfl, ⟨by decide, by decide⟩, _, rfl, _, _, rfl, rfl, hpos, ?_⟩
        exact k _ _ kl pen3 (Int.emod_nonneg _ (by omega)) (Int.emod_lt_of_pos _ hpos)
end
end Lz

set_option Elab.async false
set_option linter.all false
set_option maxRecDepth 100000
set_option maxHeartbeats 8000000
namespace Lz
open PySem PySem.Spec PyProof.Rows L2
/-- the kinds that PARTS_OF has -/
structure PO (K : PySem.W.Frag) (pd : Addr) : Prop where
  op : ∀ k n, (k, n) ∈ kinds → ∃ u, PySem.W.nsIn K pd k = some (some u)
  num : PySem.W.nsIn K pd "number" = some none
  nam : PySem.W.nsIn K pd "name" = some none
  fn : PySem.W.nsIn K pd "fun" = some none
def leafKind (k : Str) : Prop := k = "number" ∨ k = "name" ∨ k = "fun"
/-- a part as a tuple -/
theorem shape_of {K : PySem.W.Frag} {H : Hp} {v : V} {t : Lz.P} (h : Dp K H v t.data) (ok : t.ok) : ∃ a, v = .ref a ∧
    ((∃ k x, t.inn = [] ∧ leafKind k ∧ SqT K H a [.str k, x]) ∨ (∃ k vs as, t = .op k as ∧ SqT K H a (.str k :: vs) ∧ DpAll K H vs (P.datas as) ∧ (k, as.length) ∈ kinds) ∨
      ∃ nm as b r rs vb, t = .lt nm as b ∧ SqT K H a [.str "let", .ref r, vb] ∧ SqT K H r rs ∧ DpAll K H rs (List.zipWith rowD nm (P.datas as)) ∧ Dp K H vb b.data ∧ nm.length = as.length) := by
  cases t with
  | num i =>
    obtain ⟨a, xs, rfl, ht, hx⟩ := Dp.tup_of (ds := [.str "number", .int i]) h
    refine ⟨a, rfl, .inl ⟨"number", .int i, rfl, .inl rfl, ?_⟩⟩
    cases hx with
    | cons h1 h2 =>
      cases h1
      cases h2 with
      | cons h3 h4 =>
        cases h3
        cases h4
        exact ht
  | nam x =>
    obtain ⟨a, xs, rfl, ht, hx⟩ := Dp.tup_of (ds := [.str "name", .str x]) h
    refine ⟨a, rfl, .inl ⟨"name", .str x, rfl, .inr (.inl rfl), ?_⟩⟩
    cases hx with
    | cons h1 h2 =>
      cases h1
      cases h2 with
      | cons h3 h4 =>
        cases h3
        cases h4
        exact ht
  | fn x =>
    obtain ⟨a, xs, rfl, ht, hx⟩ := Dp.tup_of (ds := [.str "fun", .str x]) h
    refine ⟨a, rfl, .inl ⟨"fun", .str x, rfl, .inr (.inr rfl), ?_⟩⟩
    cases hx with
    | cons h1 h2 =>
      cases h1
      cases h2 with
      | cons h3 h4 =>
        cases h3
        cases h4
        exact ht
  | op k as =>
    obtain ⟨a, xs, rfl, ht, hx⟩ := Dp.tup_of (ds := .str k :: P.datas as) h
    cases hx with
    | cons h1 h2 =>
      cases h1
      exact ⟨a, rfl, .inr (.inl ⟨k, _, as, rfl, ht, h2, (show (k, as.length) ∈ kinds ∧ P.oks as from ok).1⟩)⟩
  | lt nm as b =>
    obtain ⟨a, xs, rfl, ht, hx⟩ := Dp.tup_of (ds := [.str "let", .tuple (List.zipWith rowD nm (P.datas as)), b.data]) h
    cases hx with
    | cons h1 h2 =>
      cases h1
      cases h2 with
      | cons h3 h4 =>
        obtain ⟨r, rs, rfl, hr, hrs⟩ := h3.tup_of
        cases h4 with
        | cons h5 h6 =>
          cases h6
          exact ⟨a, rfl, .inr (.inr ⟨nm, as, b, r, rs, _, rfl, ht, hr, hrs, h5, ok.1⟩)⟩
def spInn (K : PySem.W.Frag) : Sp := fun vs H Q _ => ∃ (v : V) (t : Lz.P), vs = [v] ∧ Dp K H v t.data ∧ t.ok ∧ t.many ≤ 1000 ∧ ∀ (l : Addr) (xs : List V) (H' : Hp), Kp [] H H' → H l = none → H' l = some (.lst xs) → DpAll K H' xs (P.datas t.inn) → Q (.ref l) H'
theorem flat_str (x : Str) : flatV (.str x) = true := rfl
theorem cut_tl (x : V) (xs : List V) : cutV (x :: xs) (some 1) none = xs := by
  unfold cutV
  rw [HT.sIx_none, show HT.sIx (x :: xs).length 0 (some 1) = min 1 (x :: xs).length from HT.sIx_nat _ _ 1]
  have e : min 1 (x :: xs).length = 1 := by rw [List.length_cons]; omega
  rw [e]
  exact List.take_of_length_le (by show xs.length ≤ (x :: xs).length - 1; rw [List.length_cons]; omega)
theorem not_whole (x : V) (xs : List V) : ¬ (HT.sIx (x :: xs).length 0 (some 1) = 0 ∧ HT.sIx (x :: xs).length (x :: xs).length none = (x :: xs).length) := fun h => by
  have e := h.1
  rw [show HT.sIx (x :: xs).length 0 (some 1) = min 1 (x :: xs).length from HT.sIx_nat _ _ 1, List.length_cons] at e
  omega
/-- the second things of rows are the parts -/
theorem row_at {K : PySem.W.Frag} {H : Hp} {rs : List V} {nm : List Str} {as : List Lz.P} {i : Nat} {v : V} (h : DpAll K H rs (List.zipWith rowD nm (P.datas as))) (hi : rs[i]? = some v) : ∃ (t : Addr) (x : Str) (u : V) (d : Lz.P), v = .ref t ∧ SqT K H t [.str x, u] ∧ as[i]? = some d ∧ Dp K H u d.data := by
  obtain ⟨e, he, hd⟩ := h.at hi
  rw [List.getElem?_zipWith] at he
  cases hx : nm[i]? with
  | none => rw [hx] at he; cases he
  | some x =>
    rw [hx, datas_map, List.getElem?_map] at he
    cases ha : as[i]? with
    | none => rw [ha] at he; cases he
    | some d =>
      rw [ha] at he
      obtain rfl : rowD x d.data = e := Option.some.inj he
      obtain ⟨t, xs, rfl, ht, hxs⟩ := Dp.tup_of (ds := [.str x, d.data]) hd
      cases hxs with
      | cons h1 h2 =>
        cases h1
        cases h2 with
        | cons h3 h4 =>
          cases h4
          exact ⟨t, x, _, d, rfl, ht, rfl, h3⟩
section
variable {P : Program} {w : World} {K : PySem.W.Frag} {mg : Str → Option Value} {base : Heap} {f : Addr} {fd : FuncData}
abbrev sWithin : Stmt := topS 3
theorem scWithin : FnScope ["part", "kind", "row"] ["part"] (defScope sWithin) := ⟨rfl, rfl, rfl, by decide +kernel, rfl, by decide +kernel, by decide +kernel⟩
theorem ok_within {pd : Addr} {es : Array DictEntry} {n : Nat} (F : Fun K "within" "within" sWithin f fd) (B : Bt mg) (mPO : mg "PARTS_OF" = some (.ref pd)) (DK : KDict K w pd es n) (O : PO K pd) : FnOk P w K mg base CX0 1 f fd ["part"] (spInn K) := by
  have mlist := B.list
  refine F.ok scWithin (fun vs H Q E h => ?_) (fun cdv A outer s H vs Q E hr h => ?_)
  · obtain ⟨v, t, rfl, _⟩ := h
    rfl
  obtain ⟨v, t, rfl, hd, hok, hmany, q⟩ := h
  refine ⟨_, (pss_cons (ps_set (i := 1) scWithin.nd rfl (.inl rfl) (pe_ix (ix_tupK (K := K) rfl) (pv 0) pe_int (fun _ _ => rfl)))
    (pss_cons (ps_if (pt_cmpR op_eq (pv 1) pe_str (nomark _)) (pss_one (ps_ret (pe_op op_cat (pe_lc (own := [("row", 2)]) rfl scWithin.nd (pi_tupK (K := K) rfl (pe_ix (ix_tupK (K := K) rfl) (pv 0) pe_int (fun _ _ => rfl))) (blkOk_by (N := ["part", "kind", "row"]) (sc := defScope sWithin) (by decide +kernel)) (fun _ _ _ _ _ => (pg_name (i := 2) scWithin.nd rfl (.inl rfl))) (fun _ _ _ _ _ => pts_nil) (fun _ _ _ _ _ => (pe_ix (ix_tupK (K := K) rfl) (pv 2) pe_int (fun _ _ => rfl)))) (pe_lst (pa_cons (pe_ix (ix_tupK (K := K) rfl) (pv 0) pe_int (fun _ _ => rfl)) pa_nil))))) pss_nil)
    (pss_cons (ps_if (pt_cmpR (op_in_kdK (K := K) rfl DK) (pv 1) (pe_glob (v := .ref pd) (by rfl) mPO rfl) rfl) (pss_one (ps_ret (pe_callTy (call_listK (K := K) rfl) (by rfl) mlist (by decide +kernel) (pa_cons (pe_slice (sl_tupAK (K := K) rfl) (pv 0) (po_some pe_int) po_none) pa_nil)))) pss_nil)
    (pss_one (ps_ret (pe_lst pa_nil)))))), ?_⟩
  obtain ⟨a, rfl, h | h | h⟩ := shape_of hd hok
  · obtain ⟨k, x, hi, hk, ht⟩ := h
    refine ⟨_, rfl, a, _, _, _, rfl, rfl, ht, at_of (j := 0) rfl rfl, ?_⟩
    refine ⟨_, rfl, rfl, _, rfl, ?_⟩
    refine ite2 (fun c => ?_) (fun _ => ?_)
    · have e : k = "let" := V.str.inj (of_decide_eq_true c)
      rcases hk with rfl | rfl | rfl <;> exact absurd e (by decide +kernel)
    have hn : PySem.W.nsIn K pd k = some none := by
      rcases hk with rfl | rfl | rfl
      · exact O.num
      · exact O.nam
      · exact O.fn
    refine ⟨_, rfl, k, _, rfl, rfl, hn, _, rfl, ?_⟩
    refine ⟨Nat.zero_le _, fun l hl => ?_⟩
    exact q l [] _ (Kp.new hl) hl upd_same (by rw [hi]; exact .nil)
  · obtain ⟨k, xs, as, rfl, ht, hx, hk⟩ := h
    have hp := kind_plain hk
    refine ⟨_, rfl, a, _, _, _, rfl, rfl, ht, at_of (j := 0) rfl rfl, ?_⟩
    refine ⟨_, rfl, rfl, _, rfl, ?_⟩
    refine ite2 (fun c => absurd (V.str.inj (of_decide_eq_true c)) hp.1) (fun _ => ?_)
    obtain ⟨u, hu⟩ := O.op k _ hk
    refine ⟨_, rfl, k, _, rfl, rfl, hu, _, rfl, ?_⟩
    refine ⟨_, rfl, _, rfl, a, _, rfl, ht, fun z => absurd z (not_whole _ _), fun _ t2 ht2 => ?_⟩
    refine ⟨t2, _, rfl, .inr (.inl (.inl upd_same)), fun l hl => ?_⟩
    rw [cut_tl]
    have k1 : Kp [] H (upd H t2 (.tup xs)) := Kp.new ht2
    have k2 : Kp [] (upd H t2 (.tup xs)) (upd (upd H t2 (.tup xs)) l (.lst xs)) := Kp.new (by rw [cut_tl] at hl; exact hl)
    exact q l xs _ (k1.trans k2) (k1.free (by rw [cut_tl] at hl; exact hl) (fun m => nomatch m)) upd_same (Dp.keepAll (k1.trans k2) _ _ (datas_fz _) hx)
  · obtain ⟨nm, as, b, r, rs, vb, rfl, ht, hrt, hrs, hb, hl⟩ := h
    refine ⟨_, rfl, a, _, _, _, rfl, rfl, ht, at_of (j := 0) rfl rfl, ?_⟩
    refine ⟨_, rfl, rfl, _, rfl, ?_⟩
    refine ite2 (fun _ => ?_) (fun c => absurd (decide_eq_true rfl) c)
    refine ⟨_, rfl, a, _, _, _, rfl, rfl, ht, at_of (j := 1) rfl rfl, r, rfl, ⟨_, hrt⟩, fun D hD => ?_⟩
    have hrl : rs.length = as.length := by rw [hrs.length, List.length_zipWith, datas_len]; omega
    have hlen : as.length ≤ 999 := by
      have h1 := len_manys as
      have h2 : 1 + (Lz.P.manys as + b.many) ≤ 1000 := hmany
      omega
    refine lc_tup (K := K) (a := r) (xs := rs) (fun i H' => Kp [] H H' ∧ ∃ xs, H' D = some (.lst xs) ∧ DpAll K H' xs (Lz.P.datas (as.take i)))
      ⟨Kp.new hD, [], upd_same, .nil⟩ (fun i H' _ ⟨k, _⟩ => k.sqT hrt) ?_ ?_
    · rintro i x H1 hi ⟨k1, xs, hxs, hdx⟩
      obtain ⟨t, nx, u, d, rfl, htt, had, hud⟩ := row_at (Dp.keepAll k1 _ _ rows_fz hrs) hi
      refine ⟨rfl, ?_⟩
      refine ⟨_, rfl, t, _, _, _, rfl, rfl, htt, at_of (j := 1) rfl rfl, xs, hxs, ?_, k1.mut hD, xs ++ [u], upd_same, ?_⟩
      · rw [hdx.length, datas_len, List.length_take]
        exact small1000 (by omega)
      · have kput : Kp [D] H1 (upd H1 D (.lst (xs ++ [u]))) := Kp.put hxs List.mem_cons_self
        rw [datas_map, List.take_add_one, had, List.map_append, ← datas_map]
        exact (Dp.keepAll kput _ _ (datas_fz _) hdx).append (.one (Dp.keep kput _ _ (data_fz _) hud))
    · rintro H1 ⟨k1, xs, hxs, hdx⟩
      rw [hrl, List.take_length] at hdx
      refine ⟨_, rfl, a, _, _, _, rfl, rfl, k1.sqT ht, at_of (j := 2) rfl rfl, (by show 1 ≤ sizeLine; decide), fun l2 hl2 => ?_⟩
      have k2 : Kp [] H1 (upd H1 l2 (.lst [vb])) := Kp.new hl2
      have hx2 : (upd H1 l2 (.lst [vb])) D = some (.lst xs) := by rw [upd_ne (ne_of_none hxs hl2)]; exact hxs
      refine ⟨D, l2, _, _, rfl, rfl, hx2, upd_same, ?_, fun l hl => ?_⟩
      · rw [hdx.length, datas_len, List.length_singleton]
        exact Nat.le_of_lt (small1000 (by omega))
      · have k3 := k2.trans (Kp.new (S := []) (o := .lst (xs ++ [vb])) hl)
        have e : Lz.P.datas (Lz.P.lt nm as b).inn = Lz.P.datas as ++ [b.data] := by
          show Lz.P.datas (as ++ [b]) = _
          rw [datas_map, datas_map, List.map_append]
          rfl
        refine q l _ _ (k1.trans k3) ((k1.trans k2).free hl (fun m => nomatch m)) upd_same ?_
        rw [e]
        exact (Dp.keepAll k3 _ _ (datas_fz _) hdx).append (.one (Dp.keep (k1.trans k3) _ _ (data_fz _) hb))
end
end Lz

set_option Elab.async false
set_option linter.all false
set_option maxRecDepth 100000
set_option maxHeartbeats 4000000
/-! Bodies and programs as they are drawn: plain Lean. -/
namespace Lz
open PySem
/-- one thing handed on: the name itself, or what was drawn for it -/
def argOf (t : Str) (o a : P) : Prop := a = .nam t ∨ a = o
inductive Args : List Str → List P → List P → Prop
  | nil : Args [] [] []
  | snoc {ts : List Str} {os as : List P} {t : Str} {o a : P} : Args ts os as → argOf t o a → Args (ts ++ [t]) (os ++ [o]) (as ++ [a])
theorem Args.len {ts : List Str} {os as : List P} (h : Args ts os as) : as.length = ts.length ∧ os.length = ts.length := by
  induction h with
  | nil => exact ⟨rfl, rfl⟩
  | snoc _ _ ih =>
    rw [List.length_append, List.length_append, List.length_append, ih.1, ih.2]
    exact ⟨rfl, rfl⟩
theorem Args.many {ts : List Str} {os as : List P} (h : Args ts os as) : P.manys as ≤ P.manys os := by
  induction h with
  | nil => exact Nat.le_refl _
  | @snoc ts os as t o a _ ha ih =>
    rw [manys_append, manys_append]
    have h1 := many_pos o
    have e1 : P.manys [a] = a.many + 0 := rfl
    have e2 : P.manys [o] = o.many + 0 := rfl
    rcases ha with rfl | rfl
    · have : (P.nam t).many = 1 := rfl
      omega
    · omega
theorem Args.deep {ts : List Str} {os as : List P} (h : Args ts os as) : P.deeps as ≤ max 1 (P.deeps os) := by
  induction h with
  | nil => exact Nat.zero_le _
  | @snoc ts os as t o a _ ha ih =>
    rw [deeps_append, deeps_append]
    have e1 : P.deeps [a] = max a.deep 0 := rfl
    have e2 : P.deeps [o] = max o.deep 0 := rfl
    rcases ha with rfl | rfl
    · have : (P.nam t).deep = 1 := rfl
      omega
    · omega
theorem Args.ok {ts : List Str} {os as : List P} (h : Args ts os as) : (∀ x, x ∈ ts → nmOk x) → (∀ o, o ∈ os → o.ok) → ∀ a, a ∈ as → a.ok := by
  induction h with
  | nil => exact fun _ _ _ m => nomatch m
  | snoc _ ha ih =>
    intro h1 h2 b m
    rcases List.mem_append.mp m with m | m
    · exact ih (fun x hx => h1 x (List.mem_append_left _ hx)) (fun o ho => h2 o (List.mem_append_left _ ho)) b m
    · rw [List.mem_singleton.mp m]
      rcases ha with rfl | rfl
      · exact h1 _ (List.mem_append_right _ List.mem_cons_self)
      · exact h2 _ (List.mem_append_right _ List.mem_cons_self)
/-- the call of a loop's own function -/
def again (me t0 : Str) (as : List P) : P := gives (.fn me) (.op "less" [.nam t0, .num 1] :: as)
/-- what stands where the count is not nought -/
inductive More (one call : P) : P → Prop
  | call : More one call call
  | plus : More one call (.op "plus" [one, call])
  | pair : More one call (.op "pair" [one, call])
  | turn : More one call (.op "plus" [call, one])
/-- a body that calls itself -/
structure Lp (W : List (Str × Int)) (me t0 : Str) (ts : List Str) (n : Int) (ss : List Str) (d : P) : Prop where
  ex : ∃ (os as : List P) (one more last : P) (n1 n2 n3 : Int) (s1 s2 s3 : List Str), Dr W (t0 :: ts) 2 n ss n1 s1 os ∧ Args ts os as ∧ Dr W (t0 :: ts) 3 n1 s1 n2 s2 [one] ∧ More one (again me t0 as) more ∧ Dr W (t0 :: ts) 3 n2 s2 n3 s3 [last] ∧ d = .op "when" [.nam t0, more, last]
/-- a body -/
inductive Bd (W : List (Str × Int)) (me : Str) (things ss : List Str) : P → Prop
  | part {dp n n' : Int} {ss' : List Str} {d : P} : 0 ≤ dp → dp ≤ 11 → 0 ≤ n → n ≤ 59 → Dr W things dp n ss n' ss' [d] → Bd W me things ss d
  | loop {t0 : Str} {ts : List Str} {n : Int} {d : P} : me ≠ "" → things = t0 :: ts → 0 ≤ n → n ≤ 40 → Lp W me t0 ts n ss d → Bd W me things ss d
  | first {f : Str} {w : Int} {r : List (Str × Int)} {ks : List Int} : me = "" → W = (f, w) :: r → (ks.length : Int) = w → (∀ k, k ∈ ks → 0 ≤ k ∧ k < 8) → Bd W me things ss (gives (.fn f) (ks.map .num))
theorem kind_when : (("when" : Str), 3) ∈ kinds := by decide +kernel
theorem kind_less : (("less" : Str), 2) ∈ kinds := by decide +kernel
theorem kind_plus : (("plus" : Str), 2) ∈ kinds := by decide +kernel
theorem kind_pair : (("pair" : Str), 2) ∈ kinds := by decide +kernel
theorem kind_give : (("give" : Str), 2) ∈ kinds := by decide +kernel
theorem Dr.one_many {W : List (Str × Int)} {sc ss ss' : List Str} {dp n n' : Int} {d : P} (h : Dr W sc dp n ss n' ss' [d]) : (d.many : Int) = 1 + (n - n') := by
  have := h.many
  have e : P.manys [d] = d.many + 0 := rfl
  have e2 : [d].length = 1 := rfl
  omega
theorem Dr.one_deep {W : List (Str × Int)} {sc ss ss' : List Str} {dp n n' : Int} {d : P} (h : Dr W sc dp n ss n' ss' [d]) : d.deep ≤ dp.toNat + 1 := by
  have := h.deep
  have e : P.deeps [d] = max d.deep 0 := rfl
  omega
theorem two_ok {k : Str} {a b : P} (hk : (k, 2) ∈ kinds) (ha : a.ok) (hb : b.ok) : (P.op k [a, b]).ok := ⟨hk, ha, hb, True.intro⟩
theorem Bd.facts {W : List (Str × Int)} {me : Str} {things ss : List Str} {d : P} (h : Bd W me things ss d) (N : Nms W things ss) (hme : me ≠ "" → nmOk me) (hW : ∀ f, f ∈ W → 0 ≤ f.2 ∧ f.2 ≤ 4) (hl : things.length ≤ 4) : d.ok ∧ d.many ≤ 60 ∧ d.deep ≤ 12 := by
  cases h with
  | @part dp n n' ss' _ h0 h1 h2 h3 hd =>
    have e1 := hd.one_many
    have e2 := hd.one_deep
    have e3 := hd.nonneg h2
    exact ⟨hd.ok N d List.mem_cons_self, by omega, by omega⟩
  | @loop t0 ts n _ hm ht h0 h1 hL =>
    obtain ⟨os, as, one, more, last, n1, n2, n3, s1, s2, s3, d1, ha, d2, hmo, d3, rfl⟩ := hL.ex
    subst ht
    have N1 : Nms W (t0 :: ts) s1 := ⟨N.w, N.c, fun x hx => N.s x (d1.sub x hx)⟩
    have N2 : Nms W (t0 :: ts) s2 := ⟨N.w, N.c, fun x hx => N1.s x (d2.sub x hx)⟩
    have o1 := d1.ok N
    have o2 := d2.ok N1 one List.mem_cons_self
    have o3 := d3.ok N2 last List.mem_cons_self
    have oa := ha.ok (fun x hx => N.c x (List.mem_cons_of_mem _ hx)) o1
    have ht0 : (P.nam t0).ok := N.c t0 List.mem_cons_self
    have oc : (again me t0 as).ok := gives_ok (hme hm) fun b m => by
      rcases List.mem_cons.mp m with e | m
      · rw [e]
        exact two_ok kind_less ht0 True.intro
      · exact oa b m
    have l1 := ha.len
    have m1 := d1.many
    have m2 := d2.one_many
    have m3 := d3.one_many
    have ma := ha.many
    have p1 := d1.deep
    have p2 := d2.one_deep
    have p3 := d3.one_deep
    have pa := ha.deep
    have nn := d3.nonneg (d2.nonneg (d1.nonneg h0))
    have mc : (again me t0 as).many = 1 + (1 + (1 + (1 + 0)) + P.manys as) + (as.length + 1) := gives_many
    have pc : (again me t0 as).deep ≤ max 1 (max (1 + max 1 (max 1 0)) (P.deeps as)) + (as.length + 1) := gives_deep
    rw [List.length_cons] at hl
    have two : ∀ (k : Str) (x y : P), (P.op k [x, y]).many = 1 + (x.many + (y.many + 0)) := fun _ _ _ => rfl
    have twd : ∀ (k : Str) (x y : P), (P.op k [x, y]).deep = 1 + max x.deep (max y.deep 0) := fun _ _ _ => rfl
    have hmore : more.ok ∧ more.many ≤ 1 + one.many + (again me t0 as).many ∧ more.deep ≤ 1 + max one.deep (again me t0 as).deep := by
      cases hmo with
      | call => exact ⟨oc, by omega, by omega⟩
      | plus => exact ⟨two_ok kind_plus o2 oc, by rw [two]; omega, by rw [twd]; omega⟩
      | pair => exact ⟨two_ok kind_pair o2 oc, by rw [two]; omega, by rw [twd]; omega⟩
      | turn => exact ⟨two_ok kind_plus oc o2, by rw [two]; omega, by rw [twd]; omega⟩
    refine ⟨⟨kind_when, ht0, hmore.1, o3, True.intro⟩, ?_, ?_⟩
    · show 1 + (1 + (more.many + (last.many + 0))) ≤ 60
      omega
    · show 1 + max 1 (max more.deep (max last.deep 0)) ≤ 12
      omega
  | @first f w r ks hm hw hk h8 =>
    have hf : (f, w) ∈ W := by rw [hw]; exact List.mem_cons_self
    have hw4 := hW _ hf
    have hn : ∀ a, a ∈ ks.map P.num → a.ok := fun a m => by
      obtain ⟨k, _, rfl⟩ := List.mem_map.mp m
      exact True.intro
    have e1 : ∀ ks : List Int, P.manys (ks.map P.num) = ks.length := fun ks => by
      induction ks with
      | nil => rfl
      | cons k r ih =>
        show 1 + P.manys (r.map P.num) = r.length + 1
        rw [ih]
        omega
    have e2 : P.deeps (ks.map P.num) ≤ 1 := deeps_le fun a m => by
      obtain ⟨k, _, rfl⟩ := List.mem_map.mp m
      exact Nat.le_refl _
    have em := gives_many (as := ks.map P.num) (f := .fn f)
    have ed := gives_deep (as := ks.map P.num) (f := .fn f)
    rw [List.length_map] at em ed
    rw [e1] at em
    have f1 : (P.fn f).many = 1 := rfl
    have f2 : (P.fn f).deep = 1 := rfl
    refine ⟨gives_ok (N.w _ hf) hn, ?_, ?_⟩ <;> omega

/-! ### programs -/
abbrev Fn := Str × List Str × P
def fD (f : Fn) : PyData := .tuple [.str f.1, .tuple (f.2.1.map .str), f.2.2.data]
def progD (fs : List Fn) (d : P) : PyData := .tuple [.tuple (fs.map fD), d.data]
/-- six and twenty names, unlike -/
structure Stock (stk : List Str) : Prop where
  len : stk.length = 26
  nd : stk.Nodup
  ok : ∀ x, x ∈ stk → nmOk x
structure FnDr (W : List (Str × Int)) (f : Fn) : Prop where
  ex : ∃ (w : Nat) (stk : List Str), (f.1, (w : Int)) ∈ W ∧ w ≤ 4 ∧ Stock stk ∧ f.2.1 = stk.take w ∧ Bd W f.1 f.2.1 (stk.drop w) f.2.2
structure Prog (fs : List Fn) (d : P) : Prop where
  ex : ∃ W : List (Str × Int), W.map (·.1) = fs.map (·.1) ∧ (W.map (·.1)).Nodup ∧ W.length ≤ 8 ∧ (∀ f, f ∈ W → nmOk f.1 ∧ 0 ≤ f.2 ∧ f.2 ≤ 4) ∧ (∀ f, f ∈ fs → FnDr W f) ∧ ∃ stk, Stock stk ∧ Bd W "" [] stk d
theorem Stock.take {stk : List Str} (h : Stock stk) (w : Nat) : ∀ x, x ∈ stk.take w → nmOk x := fun x m => h.ok x (List.mem_of_mem_take m)
theorem Stock.drop {stk : List Str} (h : Stock stk) (w : Nat) : ∀ x, x ∈ stk.drop w → nmOk x := fun x m => h.ok x (List.mem_of_mem_drop m)
structure BodyOk (d : P) : Prop where
  ok : d.ok
  many : d.many ≤ 60
  deep : d.deep ≤ 12
theorem Prog.bodies {fs : List Fn} {d : P} (h : Prog fs d) : (∀ f, f ∈ fs → nmOk f.1 ∧ f.2.1.length ≤ 4 ∧ (∀ x, x ∈ f.2.1 → nmOk x) ∧ BodyOk f.2.2) ∧ BodyOk d ∧ fs.length ≤ 8 := by
  obtain ⟨W, e, nd, l8, hW, hf, stk, hs, hb⟩ := h.ex
  have hl : fs.length = W.length := by
    have := congrArg List.length e
    rw [List.length_map, List.length_map] at this
    exact this.symm
  refine ⟨fun f m => ?_, ?_, by omega⟩
  · obtain ⟨w, stk, hm, hw, hs, e, hb⟩ := (hf f m).ex
    have hl4 : f.2.1.length ≤ 4 := by rw [e, List.length_take]; omega
    have hn : ∀ x, x ∈ f.2.1 → nmOk x := by rw [e]; exact hs.take w
    have q := hb.facts ⟨fun g hg => (hW g hg).1, hn, hs.drop w⟩ (fun _ => (hW _ hm).1) (fun g hg => (hW g hg).2) hl4
    exact ⟨(hW _ hm).1, hl4, hn, q.1, q.2.1, q.2.2⟩
  · have q := hb.facts ⟨fun g hg => (hW g hg).1, (fun _ m => nomatch m), hs.ok⟩ (fun h => absurd rfl h) (fun g hg => (hW g hg).2) (Nat.zero_le _)
    exact ⟨q.1, q.2.1, q.2.2⟩
end Lz

set_option Elab.async false
set_option linter.all false
set_option maxRecDepth 100000
set_option maxHeartbeats 4000000
/-! Places: plain Lean. -/
namespace Lz
open PySem
mutual
/-- the part and all within it, each ahead of those within it -/
def P.all : P → List P
  | .op k as => .op k as :: P.alls as
  | .lt nm as b => .lt nm as b :: (P.alls as ++ P.all b)
  | .num i => [.num i]
  | .nam x => [.nam x]
  | .fn x => [.fn x]
def P.alls : List P → List P
  | [] => []
  | a :: as => P.all a ++ P.alls as
end
theorem alls_append : ∀ as bs : List P, P.alls (as ++ bs) = P.alls as ++ P.alls bs
  | [], bs => rfl
  | a :: as, bs => by
    show P.all a ++ P.alls (as ++ bs) = P.all a ++ P.alls as ++ P.alls bs
    rw [alls_append as bs, List.append_assoc]
theorem all_inn : ∀ t : P, t.all = t :: P.alls t.inn
  | .num _ => rfl
  | .nam _ => rfl
  | .fn _ => rfl
  | .op _ _ => rfl
  | .lt nm as b => by
    show P.lt nm as b :: (P.alls as ++ P.all b) = P.lt nm as b :: P.alls (as ++ [b])
    rw [alls_append]
    show _ = P.lt nm as b :: (P.alls as ++ (P.all b ++ []))
    rw [List.append_nil]
mutual
theorem all_len : ∀ t : P, t.all.length = t.many
  | .num _ => rfl
  | .nam _ => rfl
  | .fn _ => rfl
  | .op k as => by
    show (P.alls as).length + 1 = 1 + P.manys as
    rw [alls_len as]
    omega
  | .lt nm as b => by
    show (P.alls as ++ P.all b).length + 1 = 1 + (P.manys as + P.many b)
    rw [List.length_append, alls_len as, all_len b]
    omega
theorem alls_len : ∀ as : List P, (P.alls as).length = P.manys as
  | [] => rfl
  | a :: as => by
    show (P.all a ++ P.alls as).length = P.many a + P.manys as
    rw [List.length_append, all_len a, alls_len as]
end
mutual
theorem all_ok : ∀ t : P, t.ok → ∀ d, d ∈ t.all → d.ok ∧ d.deep ≤ t.deep
  | .num i, h, d, m => by
    rw [List.mem_singleton.mp (show d ∈ [P.num i] from m)]
    exact ⟨h, Nat.le_refl _⟩
  | .nam x, h, d, m => by
    rw [List.mem_singleton.mp (show d ∈ [P.nam x] from m)]
    exact ⟨h, Nat.le_refl _⟩
  | .fn x, h, d, m => by
    rw [List.mem_singleton.mp (show d ∈ [P.fn x] from m)]
    exact ⟨h, Nat.le_refl _⟩
  | .op k as, h, d, m => by
    rcases List.mem_cons.mp (show d ∈ P.op k as :: P.alls as from m) with e | m
    · rw [e]; exact ⟨h, Nat.le_refl _⟩
    · have q := alls_ok as h.2 d m
      refine ⟨q.1, ?_⟩
      show d.deep ≤ 1 + P.deeps as
      have := q.2
      omega
  | .lt nm as b, h, d, m => by
    rcases List.mem_cons.mp (show d ∈ P.lt nm as b :: (P.alls as ++ P.all b) from m) with e | m
    · rw [e]; exact ⟨h, Nat.le_refl _⟩
    · have e : (P.lt nm as b).deep = 1 + max (P.deeps as) b.deep := rfl
      rcases List.mem_append.mp m with m | m
      · have q := alls_ok as h.2.2.1 d m
        exact ⟨q.1, by have := q.2; omega⟩
      · have q := all_ok b h.2.2.2 d m
        exact ⟨q.1, by have := q.2; omega⟩
theorem alls_ok : ∀ as : List P, P.oks as → ∀ d, d ∈ P.alls as → d.ok ∧ d.deep ≤ P.deeps as
  | [], _, _, m => nomatch m
  | a :: as, h, d, m => by
    have e : P.deeps (a :: as) = max a.deep (P.deeps as) := rfl
    rcases List.mem_append.mp (show d ∈ P.all a ++ P.alls as from m) with m | m
    · have q := all_ok a h.1 d m
      exact ⟨q.1, by have := q.2; omega⟩
    · have q := alls_ok as h.2 d m
      exact ⟨q.1, by have := q.2; omega⟩
end
/-- a place -/
def plD (n : Nat) (t : P) : PyData := .tuple [t.data, .int (n : Nat)]
/-- the places of bodies from number n on -/
def plcs (n : Nat) : List P → List PyData
  | [] => []
  | b :: r => b.all.map (plD n) ++ plcs (n + 1) r
theorem plcs_append : ∀ (n : Nat) (as : List P) (b : P), plcs n (as ++ [b]) = plcs n as ++ b.all.map (plD (n + as.length))
  | n, [], b => by
    show b.all.map (plD n) ++ [] = b.all.map (plD n)
    rw [List.append_nil]
  | n, a :: as, b => by
    show a.all.map (plD n) ++ plcs (n + 1) (as ++ [b]) = a.all.map (plD n) ++ plcs (n + 1) as ++ b.all.map (plD (n + (as.length + 1)))
    rw [plcs_append (n + 1) as b, List.append_assoc]
    have e : n + 1 + as.length = n + (as.length + 1) := by omega
    rw [e]
theorem plcs_len : ∀ (n : Nat) (as : List P), (plcs n as).length = P.manys as
  | n, [] => rfl
  | n, a :: as => by
    show (a.all.map (plD n) ++ plcs (n + 1) as).length = a.many + P.manys as
    rw [List.length_append, List.length_map, all_len, plcs_len (n + 1) as]
theorem plD_fz (n : Nat) (t : P) : fz (plD n t) = true := by
  show (fz t.data && (true && true)) = true
  rw [data_fz]
  rfl
theorem plcs_mem : ∀ (n : Nat) (as : List P) (d : PyData), d ∈ plcs n as → ∃ a t m, a ∈ as ∧ t ∈ a.all ∧ d = plD m t
  | n, [], d, h => nomatch h
  | n, a :: as, d, h => by
    rcases List.mem_append.mp (show d ∈ a.all.map (plD n) ++ plcs (n + 1) as from h) with m | m
    · obtain ⟨t, ht, rfl⟩ := List.mem_map.mp m
      exact ⟨a, t, n, List.mem_cons_self, ht, rfl⟩
    · obtain ⟨b, t, k, hb, ht, e⟩ := plcs_mem (n + 1) as d m
      exact ⟨b, t, k, List.mem_cons_of_mem _ hb, ht, e⟩
theorem plcs_fz (n : Nat) (as : List P) : fzAll (plcs n as) = true := fzAll_iff.mpr fun d m => by
  obtain ⟨a, t, k, _, _, rfl⟩ := plcs_mem n as d m
  exact plD_fz _ _
theorem plcs_shaped {n : Nat} {as : List P} (h : ∀ a, a ∈ as → a.ok ∧ a.deep ≤ 12) : SeqAt.shaped (.list (plcs n as)) = true ∧ PyData.canLayAll0 (plcs n as) = true := by
  have h1 : PyData.canLayAll0 (plcs n as) = true := layAll_iff.mpr fun d m => by
    obtain ⟨a, t, k, ha, ht, rfl⟩ := plcs_mem n as d m
    have q := all_ok a (h a ha).1 t ht
    show (PyData.tuple [t.data, .int (k : Nat)]).canLay0 = true
    rw [lay_tup, lay_cons, lay_cons, lay_nil, data_lay t q.1]
    simp only [PyData.canLay0]
    rfl
  have h2 : PyData.depthAll (plcs n as) ≤ 40 := depthAll_le fun d m => by
    obtain ⟨a, t, k, ha, ht, rfl⟩ := plcs_mem n as d m
    have q := (all_ok a (h a ha).1 t ht).2
    have q2 := (h a ha).2
    have q3 := data_depth t
    show (PyData.tuple [t.data, .int (k : Nat)]).depth ≤ 40
    rw [depth_tup, depthAll_cons, depthAll_cons]
    simp only [PyData.depth, PyData.depthAll]
    omega
  have e : (PyData.list (plcs n as)).depth = PyData.depthAll (plcs n as) + 1 := by simp only [PyData.depth]
  have e2 : (PyData.list (plcs n as)).canLay0 = PyData.canLayAll0 (plcs n as) := by rw [PyData.canLay0]
  refine ⟨?_, h1⟩
  unfold SeqAt.shaped
  rw [e2, h1, Bool.true_and]
  exact decide_eq_true (by omega)
theorem plcs_same {n : Nat} {as : List P} (h : ∀ a, a ∈ as → a.ok ∧ a.deep ≤ 12) : PyData.eqv (.list (plcs n as)) (.list (plcs n as)) = true := by
  rw [PyData.eqv]
  exact SeqAt.eqvAll_refl _ (plcs_shaped h).2
/-! ### a program as its functions and what is asked -/
def askedFn (d : P) : Fn := (("" : Str), [], d)
def fnsOf (fs : List Fn) (d : P) : List Fn := fs ++ [askedFn d]
def bodies (fs : List Fn) : List P := fs.map (·.2.2)
structure PrOk (fs : List Fn) (d : P) : Prop where
  len : fs.length ≤ 8
  nd : ((fnsOf fs d).map (·.1)).Nodup
  bd : ∀ f, f ∈ fnsOf fs d → BodyOk f.2.2 ∧ f.2.1.length ≤ 4
theorem Prog.prOk {fs : List Fn} {d : P} (h : Prog fs d) : PrOk fs d := by
  obtain ⟨h1, h2, h3⟩ := h.bodies
  obtain ⟨W, e, nd, _⟩ := h.ex
  refine ⟨h3, ?_, fun f m => ?_⟩
  · unfold fnsOf
    rw [List.map_append, List.nodup_append]
    refine ⟨by rw [← e]; exact nd, by simp, fun a ha b hb => ?_⟩
    obtain ⟨f, hf, rfl⟩ := List.mem_map.mp ha
    have hb' : b = "" := by
      have := List.mem_singleton.mp (show b ∈ [(askedFn d).1] from hb)
      exact this
    intro q
    have := (h1 f hf).1.1
    rw [q, hb'] at this
    exact absurd this (by decide +kernel)
  · rcases List.mem_append.mp m with m | m
    · exact ⟨(h1 f m).2.2.2, (h1 f m).2.1⟩
    · rw [List.mem_singleton.mp m]
      exact ⟨h2, Nat.zero_le _⟩
theorem bodies_append (fs gs : List Fn) : bodies (fs ++ gs) = bodies fs ++ bodies gs := List.map_append
end Lz

set_option Elab.async false
set_option linter.all false
set_option maxRecDepth 100000
set_option maxHeartbeats 4000000
/-! What fits: plain Lean. -/
namespace Lz
open PySem
mutual
/-- numbers small enough, names known, one to four rows -/
def P.fit (F : List Str) : P → List Str → Prop
  | .num i, _ => i.natAbs < 10 ^ 60
  | .nam x, sc => x ∈ sc
  | .fn x, _ => x ∈ F
  | .op _ as, sc => P.fits F as sc
  | .lt nm as b, sc => 1 ≤ nm.length ∧ nm.length ≤ 4 ∧ P.fits F as (sc ++ nm) ∧ P.fit F b (sc ++ nm)
def P.fits (F : List Str) : List P → List Str → Prop
  | [], _ => True
  | a :: as, sc => P.fit F a sc ∧ P.fits F as sc
end
mutual
/-- the names of all rows within -/
def P.rown : P → List Str
  | .op _ as => P.rowns as
  | .lt nm as b => nm ++ (P.rowns as ++ P.rown b)
  | .num _ => []
  | .nam _ => []
  | .fn _ => []
def P.rowns : List P → List Str
  | [] => []
  | a :: as => P.rown a ++ P.rowns as
end
def P.own : P → List Str
  | .lt nm _ _ => nm
  | _ => []
theorem fits_iff {F : List Str} {sc : List Str} : ∀ {as : List P}, P.fits F as sc ↔ ∀ a, a ∈ as → a.fit F sc
  | [] => ⟨fun _ _ h => (nomatch h), fun _ => True.intro⟩
  | x :: xs => by
    show (P.fit F x sc ∧ P.fits F xs sc) ↔ _
    rw [fits_iff]
    refine ⟨fun h d m => ?_, fun h => ⟨h x List.mem_cons_self, fun d m => h d (List.mem_cons_of_mem _ m)⟩⟩
    rcases List.mem_cons.mp m with e | m
    · rw [e]; exact h.1
    · exact h.2 d m
theorem fits_append {F : List Str} {sc : List Str} {as bs : List P} : P.fits F (as ++ bs) sc ↔ P.fits F as sc ∧ P.fits F bs sc := by
  rw [fits_iff, fits_iff, fits_iff]
  exact ⟨fun h => ⟨fun a m => h a (List.mem_append_left _ m), fun a m => h a (List.mem_append_right _ m)⟩, fun h a m => (List.mem_append.mp m).elim (h.1 a) (h.2 a)⟩
theorem rowns_append : ∀ as bs : List P, P.rowns (as ++ bs) = P.rowns as ++ P.rowns bs
  | [], bs => rfl
  | a :: as, bs => by
    show P.rown a ++ P.rowns (as ++ bs) = P.rown a ++ P.rowns as ++ P.rowns bs
    rw [rowns_append as bs, List.append_assoc]
theorem rown_one (b : P) : P.rowns [b] = b.rown := List.append_nil _
/-- what is within a part that fits -/
theorem fit_inn {F : List Str} {t : P} {sc : List Str} (h : t.fit F sc) : ∀ a, a ∈ t.inn → a.fit F (sc ++ t.own) := fun a m => by
  cases t with
  | num i => exact nomatch m
  | nam i => exact nomatch m
  | fn i => exact nomatch m
  | op k as =>
    show a.fit F (sc ++ [])
    rw [List.append_nil]
    exact fits_iff.mp h a m
  | lt nm as b =>
    rcases List.mem_append.mp (show a ∈ as ++ [b] from m) with m | m
    · exact fits_iff.mp h.2.2.1 a m
    · rw [List.mem_singleton.mp m]
      exact h.2.2.2
theorem own_len {F : List Str} {t : P} {sc : List Str} (h : t.fit F sc) : t.own.length ≤ 4 := by
  cases t with
  | lt nm as b => exact h.2.1
  | _ => exact Nat.zero_le _
mutual
theorem all_own : ∀ t : P, t.all.flatMap P.own = t.rown
  | .num _ => rfl
  | .nam _ => rfl
  | .fn _ => rfl
  | .op k as => by
    show P.own (.op k as) ++ (P.alls as).flatMap P.own = P.rowns as
    rw [alls_own as]
    rfl
  | .lt nm as b => by
    show nm ++ (P.alls as ++ P.all b).flatMap P.own = nm ++ (P.rowns as ++ P.rown b)
    rw [List.flatMap_append, alls_own as, all_own b]
theorem alls_own : ∀ as : List P, (P.alls as).flatMap P.own = P.rowns as
  | [] => rfl
  | a :: as => by
    show (P.all a ++ P.alls as).flatMap P.own = P.rown a ++ P.rowns as
    rw [List.flatMap_append, all_own a, alls_own as]
end
theorem gives_rown : ∀ {as : List P} {f : P}, (gives f as).rown = f.rown ++ P.rowns as
  | [], f => (List.append_nil _).symm
  | a :: as, f => by
    show (gives (.op "give" [f, a]) as).rown = f.rown ++ (a.rown ++ P.rowns as)
    rw [gives_rown (as := as)]
    show (f.rown ++ (a.rown ++ [])) ++ P.rowns as = _
    rw [List.append_nil, List.append_assoc]
theorem gives_fit {F sc : List Str} : ∀ {as : List P} {f : P}, f.fit F sc → P.fits F as sc → (gives f as).fit F sc
  | [], f, h, _ => h
  | a :: as, f, h, k => gives_fit (as := as) (f := .op "give" [f, a]) (show P.fit F f sc ∧ P.fit F a sc ∧ True from ⟨h, k.1, True.intro⟩) k.2
theorem Dr.fits {W : List (Str × Int)} {sc ss ss' : List Str} {dp n n' : Int} {ds : List P} (h : Dr W sc dp n ss n' ss' ds) : P.fits (W.map (·.1)) ds sc := by
  induction h with
  | nil => exact True.intro
  | num a _ ih => exact ⟨a, ih⟩
  | nam a _ ih => exact ⟨a, ih⟩
  | fn a _ ih => exact ⟨List.mem_map.mpr ⟨_, a, rfl⟩, ih⟩
  | call a b c d _ _ i1 i2 => exact ⟨gives_fit (show _ ∈ _ from List.mem_map.mpr ⟨_, a, rfl⟩) i1, i2⟩
  | lt _ a b _ _ _ _ _ _ i1 i2 =>
    have q := fits_append.mp i1
    exact ⟨⟨a, b, q.1, q.2.1⟩, i2⟩
  | op _ _ _ _ _ i1 i2 => exact ⟨i1, i2⟩
theorem Dr.rows {W : List (Str × Int)} {sc ss ss' : List Str} {dp n n' : Int} {ds : List P} (h : Dr W sc dp n ss n' ss' ds) : (P.rowns ds ++ ss').Perm ss := by
  induction h with
  | nil => exact List.Perm.refl _
  | num a _ ih => exact ih
  | nam a _ ih => exact ih
  | fn a _ ih => exact ih
  | @call sc ss ss1 ss' dp n n1 n' w f as ds a b c d _ _ i1 i2 =>
    show ((gives (.fn f) as).rown ++ P.rowns ds ++ ss').Perm ss
    rw [gives_rown, List.append_assoc]
    exact (i2.append_left _).trans i1
  | @lt sc nm ss ss1 ss' dp n n1 n' as ds b k _ _ _ e1 _ _ _ _ _ i1 i2 =>
    show (nm ++ (P.rowns as ++ b.rown) ++ P.rowns ds ++ ss').Perm ss
    rw [rowns_append, rown_one] at i1
    rw [List.append_assoc, List.append_assoc]
    refine (((i2.append_left _).trans i1).append_left nm).trans ?_
    refine (List.perm_append_comm).trans ?_
    have e := List.take_append_drop k ss
    rw [e1] at e
    have : (ss.take k ++ nm).Perm (ss.take k ++ nm.reverse) := (List.reverse_perm nm).symm.append_left _
    rw [e] at this
    exact this
  | @op sc ss ss1 ss' dp n n1 n' k as ds _ _ _ _ _ i1 i2 =>
    show (P.rowns as ++ P.rowns ds ++ ss').Perm ss
    rw [List.append_assoc]
    exact (i2.append_left _).trans i1
theorem Dr.nodup {W : List (Str × Int)} {sc ss ss' : List Str} {dp n n' : Int} {ds : List P} (h : Dr W sc dp n ss n' ss' ds) (nd : ss.Nodup) : (P.rowns ds ++ ss').Nodup := (h.rows.nodup_iff).mpr nd
theorem Dr.mem {W : List (Str × Int)} {sc ss ss' : List Str} {dp n n' : Int} {ds : List P} (h : Dr W sc dp n ss n' ss' ds) : ∀ x, x ∈ P.rowns ds → x ∈ ss := fun x m => h.rows.mem_iff.mp (List.mem_append_left _ m)
theorem Args.rows {ts : List Str} {os as : List P} (h : Args ts os as) : (P.rowns as).Sublist (P.rowns os) := by
  induction h with
  | nil => exact List.Sublist.refl _
  | @snoc ts os as t o a _ ha ih =>
    rw [rowns_append, rowns_append, rown_one, rown_one]
    refine ih.append ?_
    rcases ha with rfl | rfl
    · exact List.nil_sublist _
    · exact List.Sublist.refl _
theorem Args.fits {ts : List Str} {os as : List P} {F sc : List Str} (h : Args ts os as) : (∀ x, x ∈ ts → x ∈ sc) → P.fits F os sc → P.fits F as sc := by
  induction h with
  | nil => exact fun _ _ => True.intro
  | @snoc ts os as t o a _ ha ih =>
    intro h1 h2
    rw [fits_append] at h2 ⊢
    refine ⟨ih (fun x m => h1 x (List.mem_append_left _ m)) h2.1, ?_, True.intro⟩
    rcases ha with rfl | rfl
    · exact h1 _ (List.mem_append_right _ List.mem_cons_self)
    · exact h2.2.1
theorem again_rown (me t0 : Str) (as : List P) : (again me t0 as).rown = P.rowns as := by
  unfold again
  rw [gives_rown]
  rfl
theorem Bd.more {W : List (Str × Int)} {me : Str} {things ss : List Str} {d : P} (h : Bd W me things ss d) (hme : me ≠ "" → me ∈ W.map (·.1)) (nd : ss.Nodup) : d.fit (W.map (·.1)) things ∧ d.rown.Nodup ∧ ∀ x, x ∈ d.rown → x ∈ ss := by
  cases h with
  | @part dp n n' ss' _ h0 h1 h2 h3 hd =>
    have e1 := hd.fits
    have e2 := hd.nodup nd
    have e3 := hd.mem
    rw [rown_one] at e2 e3
    exact ⟨e1.1, (List.nodup_append.mp e2).1, e3⟩
  | @loop t0 ts n _ hm ht h0 h1 hL =>
    obtain ⟨os, as, one, more, last, n1, n2, n3, s1, s2, s3, d1, ha, d2, hmo, d3, rfl⟩ := hL.ex
    subst ht
    have f1 := d1.fits
    have f2 := d2.fits.1
    have f3 := d3.fits.1
    have fa := ha.fits (fun x m => List.mem_cons_of_mem _ m) f1
    have ft : (P.nam t0).fit (W.map (·.1)) (t0 :: ts) := (List.mem_cons_self : t0 ∈ t0 :: ts)
    have fl : (P.op "less" [.nam t0, .num 1]).fit (W.map (·.1)) (t0 :: ts) := ⟨ft, (by show (1 : Int).natAbs < 10 ^ 60; decide +kernel), True.intro⟩
    have fc : (again me t0 as).fit (W.map (·.1)) (t0 :: ts) := gives_fit (show me ∈ _ from hme hm) ⟨fl, fa⟩
    have r1 := d1.rows
    have r2 := d2.rows
    have r3 := d3.rows
    rw [rown_one] at r2 r3
    have rr : (P.rowns os ++ (one.rown ++ (last.rown ++ s3))).Perm ss := (((r3.append_left _).trans r2).append_left _).trans r1
    have nn := rr.nodup_iff.mpr nd
    have hs := ha.rows
    have hr : (P.op "when" [.nam t0, more, last]).rown = more.rown ++ last.rown := by
      show [] ++ (more.rown ++ (last.rown ++ [])) = _
      rw [List.append_nil]
      rfl
    have key : ∀ L : List Str, L.Sublist (P.rowns os ++ (one.rown ++ (last.rown ++ s3))) ∨ L.Sublist (one.rown ++ (P.rowns os ++ (last.rown ++ s3))) → L.Nodup ∧ ∀ x, x ∈ L → x ∈ ss := fun L h => by
      rcases h with h | h
      · exact ⟨h.nodup nn, fun x m => rr.mem_iff.mp (h.subset m)⟩
      · have sw : (one.rown ++ (P.rowns os ++ (last.rown ++ s3))).Perm (P.rowns os ++ (one.rown ++ (last.rown ++ s3))) := by
          rw [← List.append_assoc, ← List.append_assoc (P.rowns os)]
          exact List.perm_append_comm.append_right _
        have nn2 := sw.nodup_iff.mpr nn
        exact ⟨h.nodup nn2, fun x m => rr.mem_iff.mp (sw.mem_iff.mp (h.subset m))⟩
    have sl : last.rown.Sublist (last.rown ++ s3) := List.sublist_append_left _ _
    have ac := again_rown me t0 as
    cases hmo with
    | call =>
      refine ⟨⟨ft, fc, f3, True.intro⟩, ?_⟩
      rw [hr, ac]
      exact key _ (.inl (hs.append (sl.trans (List.sublist_append_right _ _))))
    | plus =>
      refine ⟨⟨ft, ⟨f2, fc, True.intro⟩, f3, True.intro⟩, ?_⟩
      rw [hr]
      have e : (P.op "plus" [one, again me t0 as]).rown = one.rown ++ P.rowns as := by
        show one.rown ++ ((again me t0 as).rown ++ []) = _
        rw [List.append_nil, ac]
      rw [e, List.append_assoc]
      exact key _ (.inr ((List.Sublist.refl _).append (hs.append sl)))
    | pair =>
      refine ⟨⟨ft, ⟨f2, fc, True.intro⟩, f3, True.intro⟩, ?_⟩
      rw [hr]
      have e : (P.op "pair" [one, again me t0 as]).rown = one.rown ++ P.rowns as := by
        show one.rown ++ ((again me t0 as).rown ++ []) = _
        rw [List.append_nil, ac]
      rw [e, List.append_assoc]
      exact key _ (.inr ((List.Sublist.refl _).append (hs.append sl)))
    | turn =>
      refine ⟨⟨ft, ⟨fc, f2, True.intro⟩, f3, True.intro⟩, ?_⟩
      rw [hr]
      have e : (P.op "plus" [again me t0 as, one]).rown = P.rowns as ++ one.rown := by
        show (again me t0 as).rown ++ (one.rown ++ []) = _
        rw [List.append_nil, ac]
      rw [e, List.append_assoc]
      exact key _ (.inl (hs.append ((List.Sublist.refl _).append sl)))
  | @first f w r ks hm hw hk h8 =>
    have hf : f ∈ W.map (·.1) := by rw [hw]; exact List.mem_cons_self
    have e : (gives (.fn f) (ks.map P.num)).rown = [] := by
      rw [gives_rown]
      show [] ++ P.rowns (ks.map P.num) = []
      rw [List.nil_append]
      clear hk h8
      induction ks with
      | nil => rfl
      | cons k r ih => exact ih
    refine ⟨gives_fit hf (fits_iff.mpr fun a m => ?_), ?_⟩
    · obtain ⟨k, hk, rfl⟩ := List.mem_map.mp m
      have := h8 k hk
      show k.natAbs < 10 ^ 60
      have h60 : (8 : Nat) ≤ 10 ^ 60 := by decide +kernel
      generalize (10 : Nat) ^ 60 = z at h60 ⊢
      omega
    · rw [e]
      exact ⟨List.nodup_nil, fun x m => nomatch m⟩
/-- a program that fits -/
structure Fits (fs : List Fn) (d : P) : Prop where
  len : fs.length ≤ 8
  nm : ∀ g, g ∈ fs → nmOk g.1 ∧ ∀ x, x ∈ g.2.1 → nmOk x
  nd : (fs.map (·.1)).Nodup
  few : ∀ g, g ∈ fnsOf fs d → g.2.1.length ≤ 4
  bd : ∀ g, g ∈ fnsOf fs d → BodyOk g.2.2
  ft : ∀ g, g ∈ fnsOf fs d → g.2.2.fit (fs.map (·.1)) g.2.1
  hid : ∀ g, g ∈ fnsOf fs d → (g.2.1 ++ g.2.2.rown).Nodup
theorem Prog.fits {fs : List Fn} {d : P} (h : Prog fs d) : Fits fs d := by
  obtain ⟨h1, h2, h3⟩ := h.bodies
  obtain ⟨W, e, nd, l8, hW, hf, stk, hs, hb⟩ := h.ex
  have q2 := hb.more (fun q => absurd rfl q) hs.nd
  rw [e] at q2
  have key : ∀ g, g ∈ fnsOf fs d → g.2.1.length ≤ 4 ∧ BodyOk g.2.2 ∧ g.2.2.fit (fs.map (·.1)) g.2.1 ∧ (g.2.1 ++ g.2.2.rown).Nodup := fun g m => by
    rcases List.mem_append.mp m with m | m
    · obtain ⟨w, stk, hm, hw, hs, e2, hb⟩ := (hf g m).ex
      have hme : g.1 ∈ W.map (·.1) := List.mem_map.mpr ⟨_, hm, rfl⟩
      have q := hb.more (fun _ => hme) (hs.nd.sublist (List.drop_sublist _ _))
      rw [e] at q
      refine ⟨(h1 g m).2.1, (h1 g m).2.2.2, q.1, ?_⟩
      have hn := hs.nd
      rw [← List.take_append_drop w stk] at hn
      have hn := List.nodup_append.mp hn
      rw [e2, List.nodup_append]
      rw [e2] at q
      exact ⟨hn.1, q.2.1, fun a ha b hb => hn.2.2 a ha b (q.2.2 b hb)⟩
    · rw [List.mem_singleton.mp m]
      exact ⟨Nat.zero_le _, h2, q2.1, q2.2.1⟩
  exact ⟨h3, fun g m => ⟨(h1 g m).1, (h1 g m).2.2.1⟩, by rw [← e]; exact nd, fun g m => (key g m).1, fun g m => (key g m).2.1, fun g m => (key g m).2.2.1, fun g m => (key g m).2.2.2⟩
end Lz

set_option Elab.async false
set_option linter.all false
set_option maxRecDepth 100000
set_option maxHeartbeats 4000000
/-! The words of parts, programs as texts: plain Lean. -/
namespace Lz
open PySem
def numS (i : Int) : Str := Str.ofString (toString i)
mutual
/-- the words of a part -/
def P.ws : P → List Str
  | .num i => [numS i]
  | .nam x => [("." : Str) ++ x]
  | .fn x => [(":" : Str) ++ x]
  | .op k as => k :: P.wss [] as
  | .lt nm as b => "let" :: numS (nm.length : Nat) :: (P.wss nm as ++ P.ws b)
/-- the words of some parts, names of rows ahead of the first ones -/
def P.wss : List Str → List P → List Str
  | _, [] => []
  | [], a :: as => P.ws a ++ P.wss [] as
  | x :: nm, a :: as => (("." : Str) ++ x) :: (P.ws a ++ P.wss nm as)
end
def preW (nm : List Str) (i : Nat) : List Str := match nm[i]? with
  | some x => [("." : Str) ++ x]
  | none => []
theorem wss_snoc : ∀ (nm : List Str) (as : List P) (a : P), P.wss nm (as ++ [a]) = P.wss nm as ++ (preW nm as.length ++ a.ws)
  | [], [], a => by
    show a.ws ++ P.wss [] [] = [] ++ ([] ++ a.ws)
    show a.ws ++ [] = [] ++ ([] ++ a.ws)
    rw [List.append_nil]; rfl
  | x :: nm, [], a => by
    show (("." : Str) ++ x) :: (a.ws ++ P.wss nm []) = [] ++ ([("." : Str) ++ x] ++ a.ws)
    have e : P.wss nm [] = [] := by cases nm <;> rfl
    rw [e, List.append_nil]; rfl
  | [], b :: as, a => by
    show b.ws ++ P.wss [] (as ++ [a]) = (b.ws ++ P.wss [] as) ++ ([] ++ a.ws)
    rw [wss_snoc [] as a, List.append_assoc]
    rfl
  | x :: nm, b :: as, a => by
    show (("." : Str) ++ x) :: (b.ws ++ P.wss nm (as ++ [a])) = (("." : Str) ++ x) :: (b.ws ++ P.wss nm as) ++ (preW (x :: nm) (as.length + 1) ++ a.ws)
    rw [wss_snoc nm as a]
    have e : preW (x :: nm) (as.length + 1) = preW nm as.length := by
      unfold preW
      rw [List.getElem?_cons_succ]
    rw [e, List.cons_append, List.append_assoc]
theorem preW_of {nm : List Str} {i : Nat} {x : Str} (h : nm[i]? = some x) : preW nm i = [("." : Str) ++ x] := by
  unfold preW
  rw [h]
theorem preW_no {nm : List Str} {i : Nat} (h : nm.length ≤ i) : preW nm i = [] := by
  unfold preW
  rw [List.getElem?_eq_none h]
mutual
theorem ws_len : ∀ t : P, (P.ws t).length + 1 ≤ 3 * t.many
  | .num _ => by show 1 + 1 ≤ 3 * 1; decide
  | .nam _ => by show 1 + 1 ≤ 3 * 1; decide
  | .fn _ => by show 1 + 1 ≤ 3 * 1; decide
  | .op k as => by
    have h := wss_len [] as
    show (P.wss [] as).length + 1 + 1 ≤ 3 * (1 + P.manys as)
    omega
  | .lt nm as b => by
    have h := wss_len nm as
    have h2 := ws_len b
    show (P.wss nm as ++ P.ws b).length + 1 + 1 + 1 ≤ 3 * (1 + (P.manys as + b.many))
    rw [List.length_append]
    omega
theorem wss_len : ∀ (nm : List Str) (as : List P), (P.wss nm as).length ≤ 3 * P.manys as
  | nm, [] => by
    have e : P.wss nm [] = [] := by cases nm <;> rfl
    rw [e]
    exact Nat.zero_le _
  | [], a :: as => by
    have h := wss_len [] as
    have h2 := ws_len a
    show (P.ws a ++ P.wss [] as).length ≤ 3 * (a.many + P.manys as)
    rw [List.length_append]
    omega
  | x :: nm, a :: as => by
    have h := wss_len nm as
    have h2 := ws_len a
    show (P.ws a ++ P.wss nm as).length + 1 ≤ 3 * (a.many + P.manys as)
    rw [List.length_append]
    omega
end
theorem log60 {i : Int} (h : i.natAbs < 10 ^ 60) : i.natAbs.log2 < 1920 := by
  by_cases h0 : i.natAbs = 0
  · rw [h0]
    decide
  · have h1 : (10 : Nat) ^ 60 ≤ 2 ^ 200 := by decide +kernel
    have h2 : i.natAbs.log2 < 200 := (Nat.log2_lt h0).mpr (Nat.lt_of_lt_of_le h h1)
    omega
theorem numS_len {i : Int} (h : i.natAbs < 10 ^ 60) : (numS i).length ≤ 1921 := PyProof.Rows.int_text_len_1921 (log60 h)
theorem small60 {n : Nat} (h : n ≤ 1000) : ((n : Nat) : Int).natAbs < 10 ^ 60 := by
  have h1 : (1000 : Nat) < 10 ^ 60 := by decide +kernel
  have e : ((n : Nat) : Int).natAbs = n := Int.natAbs_natCast n
  rw [e]
  exact Nat.lt_of_le_of_lt h h1
theorem one_name {x : Str} (h : nmOk x) {c : Str} (hc : c.length = 1) : (c ++ x).length ≤ 1921 := by
  rw [Str.length_append, hc]
  have := h.2.1
  omega
theorem kind_len {k : Str} {n : Nat} (h : (k, n) ∈ kinds) : k.length ≤ 1921 := by
  have h0 : kinds.all (fun p => decide (p.1.length ≤ 1921)) = true := by decide +kernel
  exact of_decide_eq_true (List.all_eq_true.mp h0 _ h)
def shortW (l : List Str) : Prop := ∀ w, w ∈ l → w.length ≤ 1921
theorem shortW.app {l m : List Str} (h : shortW l) (k : shortW m) : shortW (l ++ m) := fun w q => (List.mem_append.mp q).elim (h w) (k w)
theorem shortW.cons {x : Str} {m : List Str} (h : x.length ≤ 1921) (k : shortW m) : shortW (x :: m) := fun w q => (List.mem_cons.mp q).elim (fun e => by rw [e]; exact h) (k w)
theorem shortW.nil : shortW [] := fun _ q => nomatch q
mutual
theorem ws_short {F : List Str} : ∀ (t : P) (sc : List Str), t.ok → t.fit F sc → shortW t.ws
  | .num i, _, _, h => .cons (numS_len h) .nil
  | .nam x, _, h, _ => .cons (one_name h (by decide +kernel)) .nil
  | .fn x, _, h, _ => .cons (one_name h (by decide +kernel)) .nil
  | .op k as, sc, h, h2 => .cons (kind_len h.1) (wss_short [] as sc (fun _ q => nomatch q) h.2 h2)
  | .lt nm as b, sc, h, h2 => .cons (by decide +kernel) (.cons (numS_len (small60 (by have := h2.2.1; omega))) ((wss_short nm as (sc ++ nm) h.2.1 h.2.2.1 h2.2.2.1).app (ws_short b (sc ++ nm) h.2.2.2 h2.2.2.2)))
theorem wss_short {F : List Str} : ∀ (nm : List Str) (as : List P) (sc : List Str), (∀ x, x ∈ nm → nmOk x) → P.oks as → P.fits F as sc → shortW (P.wss nm as)
  | nm, [], _, _, _, _ => by
    have e : P.wss nm [] = [] := by cases nm <;> rfl
    rw [e]
    exact .nil
  | [], a :: as, sc, hn, h, h2 => (ws_short a sc h.1 h2.1).app (wss_short [] as sc hn h.2 h2.2)
  | x :: nm, a :: as, sc, hn, h, h2 => .cons (one_name (hn x List.mem_cons_self) (by decide +kernel)) ((ws_short a sc h.1 h2.1).app (wss_short nm as sc (fun y m => hn y (List.mem_cons_of_mem _ m)) h.2 h2.2))
end
theorem sum_le {c : Nat} : ∀ {l : List Str}, (∀ w, w ∈ l → w.length ≤ c) → (l.map (·.length)).sum ≤ c * l.length
  | [], _ => Nat.zero_le _
  | x :: l, h => by
    have h1 := h x List.mem_cons_self
    have h2 := sum_le (l := l) fun w m => h w (List.mem_cons_of_mem _ m)
    show x.length + (l.map (·.length)).sum ≤ c * (l.length + 1)
    rw [Nat.mul_add]
    omega
theorem join_len (s : Str) : ∀ l : List Str, (Str.join s l).length ≤ (l.map (·.length)).sum + l.length * s.length
  | [] => Nat.zero_le _
  | [x] => by
    show x.length ≤ x.length + 0 + 1 * s.length
    omega
  | x :: y :: r => by
    have h := join_len s (y :: r)
    show (x ++ s ++ Str.join s (y :: r)).length ≤ x.length + ((y :: r).map (·.length)).sum + ((y :: r).length + 1) * s.length
    rw [Str.length_append, Str.length_append, Nat.add_mul]
    omega
/-- the text of a part -/
def P.txt (t : P) : Str := Str.join " " t.ws
/-- the words of a function's row -/
def fnW (g : Fn) : List Str := g.1 :: (g.2.1.map (fun x => ("." : Str) ++ x) ++ ("=" : Str) :: g.2.2.ws)
def rowsW (fs : List Fn) (d : P) : List (List Str) := fs.map fnW ++ [("?" : Str) :: d.ws]
def progT (fs : List Fn) (d : P) : Str := Str.join "\n" ((rowsW fs d).map (Str.join " "))
theorem ws_ne : ∀ t : P, ∃ x r, t.ws = x :: r
  | .num _ => ⟨_, _, rfl⟩
  | .nam _ => ⟨_, _, rfl⟩
  | .fn _ => ⟨_, _, rfl⟩
  | .op _ _ => ⟨_, _, rfl⟩
  | .lt _ _ _ => ⟨_, _, rfl⟩
theorem ask_text (d : P) : Str.join " " (("?" : Str) :: d.ws) = ("? " : Str) ++ d.txt := by
  obtain ⟨x, r, e⟩ := ws_ne d
  unfold P.txt
  rw [e]
  show ("?" : Str) ++ " " ++ Str.join " " (x :: r) = _
  rfl
end Lz

set_option Elab.async false
set_option linter.all false
set_option maxRecDepth 100000
set_option maxHeartbeats 4000000
/-! Closed parts, shut ones among them: plain Lean. -/
namespace Lz
open PySem
theorem small9000 {n : Nat} (h : n ≤ 9000) : n < 2 ^ 24 := by
  have : (2 : Nat) ^ 24 = 16777216 := by decide
  omega
def kinds2 : List (Str × Nat) := ("shut", 1) :: kinds
mutual
/-- it is a closed part: kinds, shut ones too, names, functions that are there -/
def P.okS (F : List Str) : P → Prop
  | .num _ => True
  | .nam x => nmOk x
  | .fn x => nmOk x ∧ x ∈ F
  | .op k as => (k, as.length) ∈ kinds2 ∧ P.okSs F as
  | .lt nm as b => nm.length = as.length ∧ (∀ x, x ∈ nm → nmOk x) ∧ P.okSs F as ∧ P.okS F b
def P.okSs (F : List Str) : List P → Prop
  | [] => True
  | a :: as => P.okS F a ∧ P.okSs F as
end
theorem okSs_iff {F : List Str} : ∀ {as : List P}, P.okSs F as ↔ ∀ a, a ∈ as → a.okS F
  | [] => ⟨fun _ _ h => (nomatch h), fun _ => True.intro⟩
  | x :: xs => by
    show (P.okS F x ∧ P.okSs F xs) ↔ _
    rw [okSs_iff]
    refine ⟨fun h d m => ?_, fun h => ⟨h x List.mem_cons_self, fun d m => h d (List.mem_cons_of_mem _ m)⟩⟩
    rcases List.mem_cons.mp m with e | m
    · rw [e]; exact h.1
    · exact h.2 d m
theorem kinds_sub {k : Str} {n : Nat} (h : (k, n) ∈ kinds) : (k, n) ∈ kinds2 := List.mem_cons_of_mem _ h
mutual
theorem okS_of {F : List Str} : ∀ (t : P) (sc : List Str), t.ok → t.fit F sc → t.okS F
  | .num _, _, _, _ => True.intro
  | .nam _, _, h, _ => h
  | .fn _, _, h, k => ⟨h, k⟩
  | .op k as, sc, h, f => ⟨kinds_sub h.1, okSs_of as sc h.2 f⟩
  | .lt nm as b, sc, h, f => ⟨h.1, h.2.1, okSs_of as _ h.2.2.1 f.2.2.1, okS_of b _ h.2.2.2 f.2.2.2⟩
theorem okSs_of {F : List Str} : ∀ (as : List P) (sc : List Str), P.oks as → P.fits F as sc → P.okSs F as
  | [], _, _, _ => True.intro
  | a :: as, sc, h, f => ⟨okS_of a sc h.1 f.1, okSs_of as sc h.2 f.2⟩
end
theorem kind2_str {k : Str} {n : Nat} (h : (k, n) ∈ kinds2) : PyData.strOk k = true := by
  have h0 : kinds2.all (fun p => PyData.strOk p.1) = true := by decide +kernel
  exact List.all_eq_true.mp h0 _ h
theorem kind2_len {k : Str} {n : Nat} (h : (k, n) ∈ kinds2) : 1 ≤ n ∧ n ≤ 3 := by
  have h0 : kinds2.all (fun p => decide (1 ≤ p.2) && decide (p.2 ≤ 3)) = true := by decide +kernel
  have q := List.all_eq_true.mp h0 _ h
  simp only [Bool.and_eq_true, decide_eq_true_eq] at q
  exact q
theorem kind2_plain {k : Str} {n : Nat} (h : (k, n) ∈ kinds2) : k ≠ "let" ∧ k ≠ "number" ∧ k ≠ "name" ∧ k ≠ "fun" := by
  have h0 : kinds2.all (fun p => decide (p.1 ≠ "let") && decide (p.1 ≠ "number") && decide (p.1 ≠ "name") && decide (p.1 ≠ "fun")) = true := by decide +kernel
  have q := List.all_eq_true.mp h0 _ h
  simp only [Bool.and_eq_true, decide_eq_true_eq] at q
  exact ⟨q.1.1.1, q.1.1.2, q.1.2, q.2⟩
theorem give_two {n : Nat} (h : (("give" : Str), n) ∈ kinds2) : n = 2 := by
  have h0 : kinds2.all (fun p => !decide (p.1 = "give") || decide (p.2 = 2)) = true := by decide +kernel
  have q := List.all_eq_true.mp h0 _ h
  simpa using q
mutual
theorem data_layS {F : List Str} : ∀ t : P, t.okS F → t.data.canLay0 = true
  | .num _, _ => by
    show (PyData.tuple [.str "number", .int _]).canLay0 = true
    rw [lay_tup, lay_cons, lay_cons, lay_nil, lay_str]
    simp only [PyData.canLay0]
    decide +kernel
  | .nam x, h => by
    show (PyData.tuple [.str "name", .str x]).canLay0 = true
    rw [lay_tup, lay_cons, lay_cons, lay_nil, lay_str, lay_str, nmOk.strOk (show nmOk x from h)]
    decide +kernel
  | .fn x, h => by
    show (PyData.tuple [.str "fun", .str x]).canLay0 = true
    have h' : nmOk x ∧ x ∈ F := h
    rw [lay_tup, lay_cons, lay_cons, lay_nil, lay_str, lay_str, nmOk.strOk h'.1]
    decide +kernel
  | .op k as, h => by
    show (PyData.tuple (.str k :: P.datas as)).canLay0 = true
    have h' : (k, as.length) ∈ kinds2 ∧ P.okSs F as := h
    rw [lay_tup, lay_cons, lay_str, kind2_str h'.1, datas_layS as h'.2]
    rfl
  | .lt nm as b, h => by
    show (PyData.tuple [.str "let", .tuple (List.zipWith rowD nm (P.datas as)), b.data]).canLay0 = true
    have h' : nm.length = as.length ∧ (∀ x, x ∈ nm → nmOk x) ∧ P.okSs F as ∧ P.okS F b := h
    have hr : PyData.canLayAll0 (List.zipWith rowD nm (P.datas as)) = true := layAll_iff.mpr fun d m => by
      obtain ⟨x, e, hx, he, rfl⟩ := zip_mem m
      have q := layAll_iff.mp (datas_layS as h'.2.2.1) e he
      show (PyData.tuple [.str x, e]).canLay0 = true
      rw [lay_tup, lay_cons, lay_cons, lay_nil, lay_str, nmOk.strOk (h'.2.1 x hx), q]
      rfl
    rw [lay_tup, lay_cons, lay_cons, lay_cons, lay_nil, lay_str, lay_tup, hr, data_layS b h'.2.2.2]
    decide +kernel
theorem datas_layS {F : List Str} : ∀ as : List P, P.okSs F as → PyData.canLayAll0 (P.datas as) = true
  | [], _ => lay_nil
  | a :: as, h => by
    have h' : P.okS F a ∧ P.okSs F as := h
    show PyData.canLayAll0 (a.data :: P.datas as) = true
    rw [lay_cons, data_layS a h'.1, datas_layS as h'.2]
    rfl
end
theorem datas_shapedS {F : List Str} {as : List P} (h : P.okSs F as) (hd : P.deeps as ≤ 20) : SeqAt.shaped (.list (P.datas as)) = true := by
  have h1 := datas_depth as
  have e : (PyData.list (P.datas as)).depth = PyData.depthAll (P.datas as) + 1 := by simp only [PyData.depth]; try omega
  have e2 : (PyData.list (P.datas as)).canLay0 = PyData.canLayAll0 (P.datas as) := by rw [PyData.canLay0]
  unfold SeqAt.shaped
  rw [e2, datas_layS as h, Bool.true_and]
  exact decide_eq_true (by omega)
/-- the kind of a part -/
def P.hd : P → Str
  | .num _ => "number"
  | .nam _ => "name"
  | .fn _ => "fun"
  | .op k _ => k
  | .lt _ _ _ => "let"
def P.tl : P → List PyData
  | .num i => [.int i]
  | .nam x => [.str x]
  | .fn x => [.str x]
  | .op _ as => P.datas as
  | .lt nm as b => [.tuple (List.zipWith rowD nm (P.datas as)), b.data]
theorem data_hd : ∀ t : P, t.data = .tuple (.str t.hd :: t.tl)
  | .num _ => rfl
  | .nam _ => rfl
  | .fn _ => rfl
  | .op _ _ => rfl
  | .lt _ _ _ => rfl
theorem hd_give {F : List Str} {t : P} (h : t.okS F) (e : t.hd = "give") : ∃ a b, t = .op "give" [a, b] := by
  cases t with
  | num i => exact absurd (show ("number" : Str) = "give" from e) (by decide +kernel)
  | nam i => exact absurd (show ("name" : Str) = "give" from e) (by decide +kernel)
  | fn i => exact absurd (show ("fun" : Str) = "give" from e) (by decide +kernel)
  | lt nm as b => exact absurd (show ("let" : Str) = "give" from e) (by decide +kernel)
  | op k as =>
    obtain rfl : k = "give" := e
    have h2 := give_two (show (("give" : Str), as.length) ∈ kinds2 ∧ P.okSs F as from h).1
    match as, h2 with
    | [a, b], _ => exact ⟨a, b, rfl⟩
theorem hd_fun {F : List Str} {t : P} (h : t.okS F) (e : t.hd = "fun") : ∃ f, t = .fn f ∧ f ∈ F := by
  cases t with
  | num i => exact absurd (show ("number" : Str) = "fun" from e) (by decide +kernel)
  | nam i => exact absurd (show ("name" : Str) = "fun" from e) (by decide +kernel)
  | fn i => exact ⟨i, rfl, (show nmOk i ∧ i ∈ F from h).2⟩
  | lt nm as b => exact absurd (show ("let" : Str) = "fun" from e) (by decide +kernel)
  | op k as => exact absurd e (kind2_plain (show (k, as.length) ∈ kinds2 ∧ P.okSs F as from h).1).2.2.2
/-- so many gives, and what stands at their head -/
inductive Spine : P → Nat → P → Prop
  | stop {t : P} : t.hd ≠ "give" → Spine t 0 t
  | give {a b h : P} {n : Nat} : Spine a n h → Spine (.op "give" [a, b]) (n + 1) h
theorem spine_ex {F : List Str} : ∀ (n : Nat) (t : P), t.many ≤ n → t.okS F → ∃ k h, Spine t k h ∧ h.okS F ∧ h.hd ≠ "give"
  | 0, t, h, _ => by
    have := many_pos t
    omega
  | n + 1, t, h, ok => by
    by_cases e : t.hd = "give"
    · obtain ⟨a, b, rfl⟩ := hd_give ok e
      have hm : 1 + (a.many + (b.many + 0)) ≤ n + 1 := h
      have oa : a.okS F := (show _ ∧ (P.okS F a ∧ _) from ok).2.1
      obtain ⟨k, hh, h1, h2, h3⟩ := spine_ex n a (by omega) oa
      exact ⟨k + 1, hh, .give h1, h2, h3⟩
    · exact ⟨0, t, .stop e, ok, e⟩
/-- how many things the function of this name wants -/
def wantsOf (fs : List Fn) (f : Str) : Nat := match fs.find? (fun g => g.1 == f) with
  | some g => g.2.1.length
  | none => 0
theorem wants_at : ∀ {fs : List Fn} {i : Nat} {g : Fn}, (fs.map (·.1)).Nodup → fs[i]? = some g → wantsOf fs g.1 = g.2.1.length
  | [], i, g, _, h => by simp at h
  | f :: fs, 0, g, _, h => by
    obtain rfl : f = g := Option.some.inj h
    unfold wantsOf
    rw [List.find?_cons_of_pos (by simp)]
  | f :: fs, i + 1, g, nd, h => by
    have h' : fs[i]? = some g := h
    rw [List.map_cons, List.nodup_cons] at nd
    have hne : f.1 ≠ g.1 := fun e => nd.1 (List.mem_map.mpr ⟨g, List.mem_of_getElem? h', e.symm⟩)
    have q := wants_at nd.2 h'
    unfold wantsOf at q ⊢
    rw [List.find?_cons_of_neg (by simpa using hne)]
    exact q
def worthB (fs : List Fn) (n : Nat) (h : P) : Bool := match h with
  | .fn f => decide (n < wantsOf fs f)
  | h => decide (n = 0) && (decide (h.hd = "number") || decide (h.hd = "pair"))
theorem worth_fn (fs : List Fn) (n : Nat) (f : Str) : worthB fs n (.fn f) = decide (n < wantsOf fs f) := rfl
theorem worth_not {fs : List Fn} {n : Nat} {h : P} (e : h.hd ≠ "fun") : worthB fs n h = (decide (n = 0) && (decide (h.hd = "number") || decide (h.hd = "pair"))) := by
  cases h with
  | fn f => exact absurd rfl e
  | num _ => rfl
  | nam _ => rfl
  | op _ _ => rfl
  | lt _ _ _ => rfl
theorem wants_le {fs : List Fn} {f : Str} {m : Nat} (h : ∀ g, g ∈ fs → g.2.1.length ≤ m) : wantsOf fs f ≤ m := by
  unfold wantsOf
  cases e : fs.find? (fun g => g.1 == f) with
  | none => exact Nat.zero_le _
  | some g => exact h g (List.mem_of_find?_eq_some e)
/-- of what is within a part there are fewer -/
theorem inn_room {t a : P} (m : a ∈ t.inn) : a.many + t.inn.length ≤ t.many := by
  have h : ∀ as : List P, a ∈ as → a.many + as.length ≤ P.manys as + 1 := fun as => by
    induction as with
    | nil => exact fun m => nomatch m
    | cons x r ih =>
      intro m
      show a.many + (r.length + 1) ≤ x.many + P.manys r + 1
      have h1 := many_pos x
      have h2 := len_manys r
      rcases List.mem_cons.mp m with e | m
      · subst e; omega
      · have := ih m
        omega
  have h1 := h _ m
  rw [many_inn t]
  omega
theorem manys_le {c : Nat} : ∀ {as : List P}, (∀ a, a ∈ as → a.many ≤ c) → P.manys as ≤ c * as.length
  | [], _ => Nat.zero_le _
  | x :: r, h => by
    show x.many + P.manys r ≤ c * (r.length + 1)
    have h1 := h x List.mem_cons_self
    have h2 := manys_le (as := r) fun a m => h a (List.mem_cons_of_mem _ m)
    rw [Nat.mul_add]
    omega
end Lz

set_option Elab.async false
set_option linter.all false
set_option maxRecDepth 100000
set_option maxHeartbeats 4000000
/-! Parts and programs as they lie in the heap, of whatever kinds. -/
namespace Lz
open PySem PySem.Spec PyProof.Rows L2
section
variable {K : PySem.W.Frag} {H : Hp}
theorem hd_at {v : V} {t : Lz.P} (h : Dp K H v t.data) : ∃ a xs, v = .ref a ∧ SqT K H a (.str t.hd :: xs) ∧ DpAll K H xs t.tl := by
  rw [data_hd] at h
  obtain ⟨a, xs, rfl, ht, hx⟩ := h.tup_of
  cases hx with
  | cons h1 h2 =>
    cases h1
    exact ⟨a, _, rfl, ht, h2⟩
theorem op_atU {v : V} {k : Str} {as : List Lz.P} (h : Dp K H v (Lz.P.op k as).data) : ∃ a xs, v = .ref a ∧ SqT K H a (.str k :: xs) ∧ DpAll K H xs (Lz.P.datas as) := hd_at (t := .op k as) h
theorem str_at {v : V} {t : Lz.P} {x : Str} (h : Dp K H v t.data) (e : t.tl = [.str x]) : ∃ a, v = .ref a ∧ SqT K H a [.str t.hd, .str x] := by
  obtain ⟨a, xs, rfl, ht, hx⟩ := hd_at h
  rw [e] at hx
  cases hx with
  | cons h1 h2 =>
    cases h1
    cases h2
    exact ⟨a, rfl, ht⟩
theorem give_at {v : V} {a b : Lz.P} (h : Dp K H v (Lz.P.op "give" [a, b]).data) : ∃ p va vb, v = .ref p ∧ SqT K H p [.str "give", va, vb] ∧ Dp K H va a.data ∧ Dp K H vb b.data := by
  obtain ⟨p, xs, rfl, ht, hx⟩ := op_atU h
  cases hx with
  | cons h1 h2 =>
    cases h2 with
    | cons h3 h4 =>
      cases h4
      exact ⟨p, _, _, rfl, ht, h1, h3⟩
theorem let_atU {v : V} {nm : List Str} {as : List Lz.P} {b : Lz.P} (h : Dp K H v (Lz.P.lt nm as b).data) : ∃ a r rs vb, v = .ref a ∧ SqT K H a [.str "let", .ref r, vb] ∧ SqT K H r rs ∧ DpAll K H rs (List.zipWith rowD nm (Lz.P.datas as)) ∧ Dp K H vb b.data := by
  obtain ⟨a, xs, rfl, ht, hx⟩ := hd_at h
  cases hx with
  | cons h3 h4 =>
    obtain ⟨r, rs, rfl, hr, hrs⟩ := h3.tup_of
    cases h4 with
    | cons h5 h6 =>
      cases h6
      exact ⟨a, r, rs, _, rfl, ht, hr, hrs, h5⟩
theorem prog_at {v : V} {fs : List Fn} {d : Lz.P} (h : Dp K H v (progD fs d)) : ∃ pr ft rs vd, v = .ref pr ∧ SqT K H pr [.ref ft, vd] ∧ SqT K H ft rs ∧ DpAll K H rs (fs.map fD) ∧ Dp K H vd d.data := by
  obtain ⟨pr, xs, rfl, hpr, hxs⟩ := Dp.tup_of (ds := [.tuple (fs.map fD), d.data]) h
  cases hxs with
  | cons h1 h2 =>
    obtain ⟨ft, rs, rfl, hft, hrs⟩ := h1.tup_of
    cases h2 with
    | cons h3 h4 =>
      cases h4
      exact ⟨pr, ft, rs, _, rfl, hpr, hft, hrs, h3⟩
theorem strs_of : ∀ {ss : List Str} {rs : List V}, DpAll K H rs (ss.map .str) → rs = ss.map V.str
  | [], _, h => by cases h; rfl
  | s :: r, _, h => by
    cases h with
    | cons a b =>
      cases a
      rw [strs_of b]
      rfl
/-- a function's tuple -/
theorem fn_atU {xs : List V} {gs : List Fn} {i : Nat} {x : V} (h : DpAll K H xs (gs.map fD)) (hi : xs[i]? = some x) : ∃ g t r u, gs[i]? = some g ∧ x = .ref t ∧ SqT K H t [.str g.1, .ref r, u] ∧ SqT K H r (g.2.1.map V.str) ∧ Dp K H u g.2.2.data := by
  obtain ⟨e, he, hd⟩ := h.at hi
  rw [List.getElem?_map] at he
  obtain ⟨g, hg, rfl⟩ : ∃ g, gs[i]? = some g ∧ e = fD g := by
    cases e1 : gs[i]? with
    | none => rw [e1] at he; cases he
    | some y => rw [e1] at he; exact ⟨y, rfl, (Option.some.inj he).symm⟩
  obtain ⟨t, zs, rfl, ht, hzs⟩ := Dp.tup_of (ds := [.str g.1, .tuple (g.2.1.map .str), g.2.2.data]) hd
  cases hzs with
  | cons h1 h2 =>
    cases h1
    cases h2 with
    | cons h3 h4 =>
      obtain ⟨r, rs, rfl, hr, hrs⟩ := h3.tup_of
      rw [strs_of hrs] at hr
      cases h4 with
      | cons h5 h6 =>
        cases h6
        exact ⟨g, t, r, _, hg, rfl, ht, hr, h5⟩
theorem part_atU {xs : List V} {ts : List Lz.P} {i : Nat} {v : V} (h : DpAll K H xs (Lz.P.datas ts)) (hi : xs[i]? = some v) : ∃ d, ts[i]? = some d ∧ Dp K H v d.data := by
  obtain ⟨e, he, hd⟩ := h.at hi
  rw [datas_map, List.getElem?_map] at he
  cases ha : ts[i]? with
  | none => rw [ha] at he; cases he
  | some d =>
    rw [ha] at he
    obtain rfl : d.data = e := Option.some.inj he
    exact ⟨d, rfl, hd⟩
theorem row_atU {rs : List V} {nm : List Str} {as : List Lz.P} {i : Nat} {v : V} (h : DpAll K H rs (List.zipWith rowD nm (Lz.P.datas as))) (hi : rs[i]? = some v) : ∃ (t : Addr) (x : Str) (u : V) (d : Lz.P), v = .ref t ∧ SqT K H t [.str x, u] ∧ nm[i]? = some x ∧ as[i]? = some d ∧ Dp K H u d.data := by
  obtain ⟨e, he, hd⟩ := h.at hi
  rw [List.getElem?_zipWith] at he
  cases hx : nm[i]? with
  | none => rw [hx] at he; cases he
  | some x =>
    rw [hx, datas_map, List.getElem?_map] at he
    cases ha : as[i]? with
    | none => rw [ha] at he; cases he
    | some d =>
      rw [ha] at he
      obtain rfl : rowD x d.data = e := Option.some.inj he
      obtain ⟨t, xs, rfl, ht, hxs⟩ := Dp.tup_of (ds := [.str x, d.data]) hd
      cases hxs with
      | cons h1 h2 =>
        cases h1
        cases h2 with
        | cons h3 h4 =>
          cases h4
          exact ⟨t, x, _, d, rfl, ht, rfl, rfl, h3⟩
end
theorem cut_tlU (x : V) (xs : List V) : cutV (x :: xs) (some 1) none = xs := by
  unfold cutV
  rw [HT.sIx_none, show HT.sIx (x :: xs).length 0 (some 1) = min 1 (x :: xs).length from HT.sIx_nat _ _ 1]
  have e : min 1 (x :: xs).length = 1 := by rw [List.length_cons]; omega
  rw [e]
  exact List.take_of_length_le (by show xs.length ≤ (x :: xs).length - 1; rw [List.length_cons]; omega)
theorem not_wholeU (x : V) (xs : List V) : ¬ (HT.sIx (x :: xs).length 0 (some 1) = 0 ∧ HT.sIx (x :: xs).length (x :: xs).length none = (x :: xs).length) := fun h => by
  have e := h.1
  rw [show HT.sIx (x :: xs).length 0 (some 1) = min 1 (x :: xs).length from HT.sIx_nat _ _ 1, List.length_cons] at e
  omega
theorem inU (x : Str) : ∀ xs : List Str, inV (.str x) (xs.map V.str) = decide (x ∈ xs)
  | [] => by
    show false = _
    rw [decide_eq_false (fun m => nomatch m)]
  | y :: r => by
    have e : inV (.str x) ((y :: r).map V.str) = ((y == x) || inV (.str x) (r.map V.str)) := rfl
    rw [e, inU x r, Bool.eq_iff_iff, Bool.or_eq_true, beq_iff_eq, decide_eq_true_iff, decide_eq_true_iff, List.mem_cons]
    exact ⟨fun h => h.elim (fun h => .inl h.symm) .inr, fun h => h.elim (fun h => .inl h.symm) .inr⟩
theorem flatU (xs : List Str) : (xs.map V.str).all flatV = true := by
  rw [List.all_eq_true]
  intro z hz
  obtain ⟨s, _, rfl⟩ := List.mem_map.mp hz
  rfl
theorem progU_fz (fs : List Fn) (d : Lz.P) : fz (progD fs d) = true := by
  show (fzAll (fs.map fD) && (fz d.data && true)) = true
  rw [show fzAll (fs.map fD) = true from fzAll_iff.mpr fun e m => by
    obtain ⟨f, _, rfl⟩ := List.mem_map.mp m
    show (true && (fzAll (f.2.1.map .str) && (fz f.2.2.data && true))) = true
    rw [strs_fz, data_fz]
    rfl, data_fz]
  rfl
theorem fdU_fz (fs : List Fn) : fzAll (fs.map fD) = true := fzAll_iff.mpr fun e m => by
  obtain ⟨f, _, rfl⟩ := List.mem_map.mp m
  show (true && (fzAll (f.2.1.map .str) && (fz f.2.2.data && true))) = true
  rw [strs_fz, data_fz]
  rfl
theorem flenU {fs : List Fn} {d : Lz.P} (h : PrOk fs d) : (fnsOf fs d).length ≤ 9 := by
  have := h.len
  show (fs ++ [askedFn d]).length ≤ 9
  rw [List.length_append, List.length_singleton]
  omega
theorem PrOk.ndf {fs : List Fn} {d : Lz.P} (h : PrOk fs d) : (fs.map (·.1)).Nodup := by
  have q := h.nd
  unfold fnsOf at q
  rw [List.map_append, List.nodup_append] at q
  exact q.1
theorem fns_get {fs : List Fn} {d : Lz.P} {i : Nat} {g : Fn} (h : fs[i]? = some g) : (fnsOf fs d)[i]? = some g := by
  unfold fnsOf
  rw [List.getElem?_append_left (List.getElem?_eq_some_iff.mp h).1]
  exact h
theorem fn_get {fs : List Fn} {f : Str} (h : f ∈ fs.map (·.1)) : ∃ (i : Nat) (g : Fn), fs[i]? = some g ∧ g.1 = f := by
  obtain ⟨g, hg, rfl⟩ := List.mem_map.mp h
  obtain ⟨i, hi⟩ := List.mem_iff_getElem?.mp hg
  exact ⟨i, g, hi, rfl⟩
end Lz

set_option Elab.async false
set_option linter.all false
set_option maxRecDepth 100000
set_option maxHeartbeats 8000000
namespace Lz
open PySem PySem.Spec PyProof.Rows L2
theorem two_at {K : PySem.W.Frag} {H : Hp} {v : V} {k : Str} {e : PyData} (h : Dp K H v (.tuple [.str k, e])) : ∃ a u, v = .ref a ∧ SqT K H a [.str k, u] ∧ Dp K H u e := by
  obtain ⟨a, xs, rfl, ht, hx⟩ := h.tup_of
  cases hx with
  | cons h1 h2 =>
    cases h1
    cases h2 with
    | cons h3 h4 =>
      cases h4
      exact ⟨a, _, rfl, ht, h3⟩
theorem inn_fits {t d : Lz.P} {i : Nat} {n : Nat} (ok : t.ok) (hm : t.many ≤ 1000) (hd : t.deep ≤ n + 1) (h : t.inn[i]? = some d) : d.ok ∧ d.many ≤ 1000 ∧ d.deep ≤ n := by
  have m := List.mem_of_getElem? h
  have h1 := inn_deep m
  have h2 := inn_ok ok d m
  have h3 := many_inn t
  have h4 : ∀ as : List Lz.P, d ∈ as → d.many ≤ Lz.P.manys as := fun as => by
    induction as with
    | nil => exact fun m => nomatch m
    | cons a r ih =>
      intro m
      show d.many ≤ a.many + Lz.P.manys r
      rcases List.mem_cons.mp m with e | m
      · rw [e]; omega
      · have := ih m
        omega
  have h5 := h4 _ m
  exact ⟨h2, by omega, by omega⟩
theorem wss_nil (nm : List Str) : Lz.P.wss nm [] = [] := by cases nm <;> rfl
theorem preW_len (nm : List Str) (i : Nat) : (preW nm i).length ≤ 1 := by
  unfold preW
  split
  · exact Nat.le_refl _
  · exact Nat.zero_le _
theorem manys_take : ∀ (as : List Lz.P) (i : Nat), Lz.P.manys (as.take i) ≤ Lz.P.manys as
  | [], i => by rw [List.take_nil]; exact Nat.le_refl _
  | a :: as, 0 => Nat.zero_le _
  | a :: as, i + 1 => by
    have := manys_take as i
    show a.many + Lz.P.manys (as.take i) ≤ a.many + Lz.P.manys as
    omega
theorem lt_ws {nm : List Str} {as : List Lz.P} {b : Lz.P} (h : nm.length = as.length) : (P.lt nm as b).ws = (["let", numS (nm.length : Nat)] : List Str) ++ Lz.P.wss nm (P.lt nm as b).inn := by
  show ("let" : Str) :: numS (nm.length : Nat) :: (Lz.P.wss nm as ++ b.ws) = (["let", numS (nm.length : Nat)] : List Str) ++ Lz.P.wss nm (as ++ [b])
  rw [wss_snoc, preW_no (by omega)]
  rfl
theorem line10k : 10000 ≤ sizeLine := by decide +kernel
theorem small5000 {n : Nat} (h : n ≤ 5000) : n < 2 ^ 24 := by
  have : (2 : Nat) ^ 24 = 16777216 := by decide
  omega
def spRowNames (K : PySem.W.Frag) : Sp := fun vs H Q _ => ∃ (v : V) (t : Lz.P), vs = [v] ∧ Dp K H v t.data ∧ t.ok ∧ t.own.length ≤ 4 ∧ ∀ (l : Addr) (H' : Hp), Kp [] H H' → H l = none → H' l = some (.lst (t.own.map V.str)) → Q (.ref l) H'
def spWords (K : PySem.W.Frag) (n : Nat) : Sp := fun vs H Q _ => ∃ (v : V) (t : Lz.P) (F sc : List Str), vs = [v] ∧ Dp K H v t.data ∧ t.ok ∧ t.many ≤ 1000 ∧ t.deep ≤ n ∧ t.fit F sc ∧ ∀ (l : Addr) (H' : Hp), Kp [] H H' → H l = none → H' l = some (.lst (t.ws.map V.str)) → Q (.ref l) H'
theorem tag_let {K : PySem.W.Frag} {H : Hp} {v : V} {t : Lz.P} (h : Dp K H v t.data) (ok : t.ok) : (∃ a k vs, v = .ref a ∧ SqT K H a (.str k :: vs) ∧ k ≠ "let" ∧ t.own = []) ∨ ∃ nm as b, t = .lt nm as b := by
  cases t with
  | num i =>
    obtain ⟨a, u, rfl, ht, _⟩ := two_at (k := "number") (e := .int i) h
    exact .inl ⟨a, _, _, rfl, ht, by decide +kernel, rfl⟩
  | nam x =>
    obtain ⟨a, u, rfl, ht, _⟩ := two_at (k := "name") (e := .str x) h
    exact .inl ⟨a, _, _, rfl, ht, by decide +kernel, rfl⟩
  | fn x =>
    obtain ⟨a, u, rfl, ht, _⟩ := two_at (k := "fun") (e := .str x) h
    exact .inl ⟨a, _, _, rfl, ht, by decide +kernel, rfl⟩
  | op k as =>
    obtain ⟨a, vs, rfl, ht, _⟩ := op_atU h
    exact .inl ⟨a, _, _, rfl, ht, (kind_plain (show (k, as.length) ∈ kinds ∧ Lz.P.oks as from ok).1).1, rfl⟩
  | lt nm as b => exact .inr ⟨nm, as, b, rfl⟩
section
variable {P : Program} {w : World} {K : PySem.W.Frag} {mg : Str → Option Value} {base : Heap} {f : Addr} {fd : FuncData}
abbrev sRowNames : Stmt := topS 2
theorem scRowNames : FnScope ["part", "row"] ["part"] (defScope sRowNames) := ⟨rfl, rfl, rfl, by decide +kernel, rfl, by decide +kernel, by decide +kernel⟩
theorem ok_rowNames (F : Fun K "row_names" "row_names" sRowNames f fd) : FnOk P w K mg base CX0 1 f fd ["part"] (spRowNames K) := by
  refine F.ok scRowNames (fun vs H Q E h => ?_) (fun cdv A outer s H vs Q E hr h => ?_)
  · obtain ⟨v, t, rfl, _⟩ := h
    rfl
  obtain ⟨v, t, rfl, hd, hok, h4, q⟩ := h
  refine ⟨_, (pss_cons (ps_if (pt_cmpR op_ne (pe_ix (ix_tupK (K := K) rfl) (pv 0) pe_int (fun _ _ => rfl)) pe_str (nomark _)) (pss_one (ps_ret (pe_lst pa_nil))) pss_nil)
    (pss_one (ps_ret (pe_lc (own := [("row", 1)]) rfl scRowNames.nd (pi_tupK (K := K) rfl (pe_ix (ix_tupK (K := K) rfl) (pv 0) pe_int (fun _ _ => rfl))) (blkOk_by (N := ["part", "row"]) (sc := defScope sRowNames) (by decide +kernel)) (fun _ _ _ _ _ => (pg_name (i := 1) scRowNames.nd rfl (.inl rfl))) (fun _ _ _ _ _ => pts_nil) (fun _ _ _ _ _ => (pe_ix (ix_tupK (K := K) rfl) (pv 1) pe_int (fun _ _ => rfl))))))), ?_⟩
  rcases tag_let hd hok with ⟨a, k, vs, rfl, ht, hk, hown⟩ | ⟨nm, as, b, rfl⟩
  · refine ⟨_, rfl, a, _, _, _, rfl, rfl, ht, at_of (j := 0) rfl rfl, rfl, _, rfl, ?_⟩
    refine ite2 (fun _ => ?_) (fun c => ?_)
    · refine ⟨Nat.zero_le _, fun l hl => q l _ (Kp.new hl) hl ?_⟩
      rw [hown]
      exact upd_same
    · rw [decide_eq_false (fun e => hk (V.str.inj e))] at c
      exact absurd rfl c
  · obtain ⟨a, r, rs, vb, rfl, ht, hrt, hrs, _⟩ := let_atU hd
    have hna : nm.length = as.length := hok.1
    have hrl : rs.length = nm.length := by rw [hrs.length, List.length_zipWith, datas_len]; omega
    have h4' : nm.length ≤ 4 := h4
    refine ⟨_, rfl, a, _, _, _, rfl, rfl, ht, at_of (j := 0) rfl rfl, rfl, _, rfl, ?_⟩
    refine ite2 (fun c => ?_) (fun _ => ?_)
    · rw [decide_eq_true rfl] at c
      cases c
    refine ⟨_, rfl, a, _, _, _, rfl, rfl, ht, at_of (j := 1) rfl rfl, r, rfl, ⟨_, hrt⟩, fun D hD => ?_⟩
    refine lc_tup (K := K) (a := r) (xs := rs) (fun i H' => Kp [] H H' ∧ H' D = some (.lst ((nm.take i).map V.str)))
      ⟨Kp.new hD, upd_same⟩ (fun i H' _ ⟨k, _⟩ => k.sqT hrt) ?_ ?_
    · rintro i x H1 hi ⟨k1, h1⟩
      obtain ⟨t, nx, u, d, rfl, htt, hnx, _, _⟩ := row_atU (Dp.keepAll k1 _ _ rows_fz hrs) hi
      refine ⟨rfl, ?_⟩
      refine ⟨_, rfl, t, _, _, _, rfl, rfl, htt, at_of (j := 0) rfl rfl, _, h1, ?_, k1.mut hD, ?_⟩
      · rw [List.length_map, List.length_take]
        exact small1000 (by omega)
      · rw [upd_same, List.take_add_one, hnx, List.map_append]
        rfl
    · rintro H1 ⟨k1, h1⟩
      rw [hrl, List.take_length] at h1
      exact q D H1 k1 hD h1
abbrev sWordsOf : Stmt := topS 5
theorem scWordsOf : FnScope ["part", "kind", "names", "words", "at", "inner"] ["part"] (defScope sWordsOf) := ⟨rfl, rfl, rfl, by decide +kernel, rfl, by decide +kernel, by decide +kernel⟩
theorem ok_words {n j : Nat} (hj : 1 ≤ j) (F : Fun K "words_of" "words_of" sWordsOf f fd) (B : Bt mg) (mstr : mg "str" = none) (menum : mg "enumerate" = none) (CRowNames : C8.Cal P w K mg base 1 "row_names" (spRowNames K) []) (CWithin : C8.Cal P w K mg base 1 "within" (spInn K) []) (CWordsOf : C8.Cal P w K mg base j "words_of" (spWords K n) []) : FnOk P w K mg base CX0 (j + 1) f fd ["part"] (spWords K (n + 1)) := by
  have ml := B.len
  refine F.ok scWordsOf (fun vs H Q E h => ?_) (fun cdv A outer s H vs Q E hr h => ?_)
  · obtain ⟨v, t, F, sc, rfl, _⟩ := h
    rfl
  obtain ⟨v, t, F, sc, rfl, hd, hok, hmany, hdeep, hfit, q⟩ := h
  refine ⟨_, (pss_cons (ps_set (i := 1) scWordsOf.nd rfl (.inl rfl) (pe_ix (ix_tupK (K := K) rfl) (pv 0) pe_int (fun _ _ => rfl)))
    (pss_cons (ps_if (pt_cmpR op_eq (pv 1) pe_str (nomark _)) (pss_one (ps_ret (pe_lst (pa_cons (pe_callTy call_str_int (by rfl) mstr (by decide +kernel) (pa_cons (pe_ix (ix_tupK (K := K) rfl) (pv 0) pe_int (fun _ _ => rfl)) pa_nil)) pa_nil)))) pss_nil)
    (pss_cons (ps_if (pt_cmpR op_eq (pv 1) pe_str (nomark _)) (pss_one (ps_ret (pe_lst (pa_cons (pe_op op_add_str pe_str (pe_ix (ix_tupK (K := K) rfl) (pv 0) pe_int (fun _ _ => rfl))) pa_nil)))) pss_nil)
    (pss_cons (ps_if (pt_cmpR op_eq (pv 1) pe_str (nomark _)) (pss_one (ps_ret (pe_lst (pa_cons (pe_op op_add_str pe_str (pe_ix (ix_tupK (K := K) rfl) (pv 0) pe_int (fun _ _ => rfl))) pa_nil)))) pss_nil)
    (pss_cons (ps_set (i := 2) scWordsOf.nd rfl (.inl rfl) (C8.pe_c CRowNames hr (by first | decide | omega) (by rfl) (pa_cons (pv 0) pa_nil)))
    (pss_cons (ps_set (i := 3) scWordsOf.nd rfl (.inl rfl) (pe_ifExp (pt_cmpR op_eq (pv 1) pe_str (nomark _)) (pe_lst (pa_cons (pv 1) (pa_cons (pe_callTy call_str_int (by rfl) mstr (by decide +kernel) (pa_cons (pe_callB (call_lenK (K := K) rfl) (by rfl) ml PySem.boot_len (pa_cons (pv 2) pa_nil)) pa_nil)) pa_nil))) (pe_lst (pa_cons (pv 1) pa_nil))))
    (pss_cons (ps_for PassesOwn.never rfl (pi_enumK (K := K) rfl (by rfl) menum (pa_cons (C8.pe_c CWithin hr (by first | decide | omega) (by rfl) (pa_cons (pv 0) pa_nil)) pa_nil)) (pg_tupK (K := K) (n := 2) rfl rfl (pgs_cons (pg_name (i := 4) scWordsOf.nd rfl (.inl rfl)) (pgs_cons (pg_name (i := 5) scWordsOf.nd rfl (.inl rfl)) pgs_nil))) (C8.pss_cut (ps_if (pt_cmpR op_lt (pv 4) (pe_callB (call_lenK (K := K) rfl) (by rfl) ml PySem.boot_len (pa_cons (pv 2) pa_nil)) (nomark _)) (pss_one (ps_expr (pe_bmK (K := K) rfl PySem.F.plainAttrs_list PySem.F.slot_list_append PySem.F.type_list_append mt_append (pv 3) (pa_cons (pe_op op_add_str pe_str (pe_ix (ix_listK (K := K) rfl) (pv 2) (pv 4) (fun _ _ => rfl))) pa_nil)))) pss_nil)
    (pss_one (ps_expr (pe_bmK (K := K) rfl PySem.F.plainAttrs_list PySem.F.slot_list_extend PySem.F.type_list_extend mt_extend (pv 3) (pa_cons (C8.pe_c CWordsOf hr (by first | decide | omega) (by rfl) (pa_cons (pv 5) pa_nil)) pa_nil))))))
    (pss_one (ps_ret (pv 3)))))))))), ?_⟩
  cases t with
  | num i =>
    obtain ⟨a, u, rfl, ht, hu⟩ := two_at (k := "number") (e := .int i) hd
    cases hu
    refine ⟨_, rfl, a, _, _, _, rfl, rfl, ht, at_of (j := 0) rfl rfl, ?_⟩
    refine ⟨_, rfl, rfl, _, rfl, ?_⟩
    refine ite2 (fun _ => ?_) (fun c => absurd (decide_eq_true rfl) c)
    refine ⟨_, rfl, a, _, _, _, rfl, rfl, ht, at_of (j := 1) rfl rfl, i, rfl, log60 hfit, (by show 1 ≤ sizeLine; decide), fun l hl => ?_⟩
    exact q l _ (Kp.new hl) hl upd_same
  | nam x =>
    obtain ⟨a, u, rfl, ht, hu⟩ := two_at (k := "name") (e := .str x) hd
    cases hu
    have hx8 := (show nmOk x from hok).2.1
    refine ⟨_, rfl, a, _, _, _, rfl, rfl, ht, at_of (j := 0) rfl rfl, ?_⟩
    refine ⟨_, rfl, rfl, _, rfl, ?_⟩
    refine ite2 (fun c => absurd (V.str.inj (of_decide_eq_true c)) (by decide +kernel)) (fun _ => ?_)
    refine ⟨_, rfl, rfl, _, rfl, ?_⟩
    refine ite2 (fun _ => ?_) (fun c => absurd (decide_eq_true rfl) c)
    refine ⟨_, rfl, a, _, _, _, rfl, rfl, ht, at_of (j := 1) rfl rfl, _, _, rfl, rfl, (by show 1 + x.length ≤ sizeLine; have := line10k; omega), (by show 1 ≤ sizeLine; decide), fun l hl => ?_⟩
    exact q l _ (Kp.new hl) hl upd_same
  | fn x =>
    obtain ⟨a, u, rfl, ht, hu⟩ := two_at (k := "fun") (e := .str x) hd
    cases hu
    have hx8 := (show nmOk x from hok).2.1
    refine ⟨_, rfl, a, _, _, _, rfl, rfl, ht, at_of (j := 0) rfl rfl, ?_⟩
    refine ⟨_, rfl, rfl, _, rfl, ?_⟩
    refine ite2 (fun c => absurd (V.str.inj (of_decide_eq_true c)) (by decide +kernel)) (fun _ => ?_)
    refine ⟨_, rfl, rfl, _, rfl, ?_⟩
    refine ite2 (fun c => absurd (V.str.inj (of_decide_eq_true c)) (by decide +kernel)) (fun _ => ?_)
    refine ⟨_, rfl, rfl, _, rfl, ?_⟩
    refine ite2 (fun _ => ?_) (fun c => absurd (decide_eq_true rfl) c)
    refine ⟨_, rfl, a, _, _, _, rfl, rfl, ht, at_of (j := 1) rfl rfl, _, _, rfl, rfl, (by show 1 + x.length ≤ sizeLine; have := line10k; omega), (by show 1 ≤ sizeLine; decide), fun l hl => ?_⟩
    exact q l _ (Kp.new hl) hl upd_same
  | op k as =>
    have hk := (show (k, as.length) ∈ kinds ∧ Lz.P.oks as from hok).1
    have hp := kind_plain hk
    have hnm : ∀ x, x ∈ ([] : List Str) → nmOk x := fun _ m => nomatch m
    obtain ⟨a, vs, rfl, ht, _⟩ := op_atU hd
    refine ⟨_, rfl, a, _, _, _, rfl, rfl, ht, at_of (j := 0) rfl rfl, ?_⟩
    refine ⟨_, rfl, rfl, _, rfl, ?_⟩
    refine ite2 (fun c => absurd (V.str.inj (of_decide_eq_true c)) hp.2.1) (fun _ => ?_)
    refine ⟨_, rfl, rfl, _, rfl, ?_⟩
    refine ite2 (fun c => absurd (V.str.inj (of_decide_eq_true c)) hp.2.2.1) (fun _ => ?_)
    refine ⟨_, rfl, rfl, _, rfl, ?_⟩
    refine ite2 (fun c => absurd (V.str.inj (of_decide_eq_true c)) hp.2.2.2) (fun _ => ?_)
    refine ⟨_, rfl, .ref a, .op k as, rfl, hd, hok, Nat.zero_le _, fun ln H1 k1 hln0 hln => ?_⟩
    refine ⟨_, rfl, rfl, _, rfl, ?_⟩
    refine ite2 (fun c => absurd (V.str.inj (of_decide_eq_true c)) hp.1) (fun _ => ?_)
    refine ⟨_, rfl, (by show 1 ≤ sizeLine; decide), fun lw hlw => ?_⟩
    have hlwH : H lw = none := k1.free hlw (fun m => nomatch m)
    have kx : Kp [] H1 (upd H1 lw (.lst [.str k])) := Kp.new hlw
    have k2 := k1.trans kx
    have hln2 : (upd H1 lw (.lst [.str k])) ln = some (.lst ((([] : List Str)).map V.str)) := kx.lst hln (fun m => nomatch m)
    have hlw2 : (upd H1 lw (.lst [.str k])) lw = some (.lst (([k] : List Str).map V.str)) := upd_same
    have hnlw : ln ≠ lw := ne_of_none hln hlw
    generalize upd H1 lw (.lst [.str k]) = H2 at k2 hln2 hlw2 ⊢
    refine ⟨_, rfl, .ref a, .op k as, rfl, Dp.keep k2 _ _ (data_fz _) hd, hok, hmany, fun li xs H3 k3 hli0 hli hdx => ?_⟩
    have hln3 := k3.lst hln2 (fun m => nomatch m)
    have hlw3 := k3.lst hlw2 (fun m => nomatch m)
    have nlw : li ≠ lw := (ne_of_none hlw2 hli0).symm
    refine ⟨li, xs, rfl, SqL.of hli, for_it (walk_enum (K := K) (a := li) (xs := xs)) (fun i σ H' => ∃ (v4 v5 : Option V), σ = [some (.ref a), some (.str k), some (.ref ln), some (.ref lw), v4, v5] ∧ Kp [] H H' ∧ H' li = some (.lst xs) ∧ DpAll K H' xs (Lz.P.datas (Lz.P.op k as).inn) ∧ H' ln = some (.lst ((([] : List Str)).map V.str)) ∧ H' lw = some (.lst (([k] ++ Lz.P.wss (([] : List Str)) ((Lz.P.op k as).inn.take i)).map V.str)))
      ⟨none, none, rfl, k2.trans k3, hli, hdx, hln3, by rw [show Lz.P.wss (([] : List Str)) ((Lz.P.op k as).inn.take 0) = [] from wss_nil _, List.append_nil]; exact hlw3⟩ (fun i σ H' _ ⟨_, _, _, _, h, _⟩ => SqL.of h) ?_ ?_⟩
    · rintro i x σ H4 H5 hi ⟨v4, v5, rfl, k4, hli4, hdx4, hln4, hlw4⟩ ⟨T, a1, a2, rfl, hT, rfl, e1, e2⟩
      obtain rfl := Option.some.inj e1
      have k5 : Kp [] H4 (upd H4 T (.tup [.int (i : Nat), a2])) := Kp.new hT
      have hT5 : (upd H4 T (.tup [.int (i : Nat), a2])) T = some (.tup [.int (i : Nat), a2]) := upd_same
      obtain ⟨d, had, hdd⟩ := part_atU (Dp.keepAll k5 _ _ (datas_fz _) hdx4) (show xs[i]? = some a2 from e2)
      have hli5 := k5.lst hli4 (fun m => nomatch m)
      have hln5 := k5.lst hln4 (fun m => nomatch m)
      have hlw5 := k5.lst hlw4 (fun m => nomatch m)
      have hdx5 := Dp.keepAll k5 _ _ (datas_fz _) hdx4
      have kk5 := k4.trans k5
      generalize upd H4 T (.tup [.int (i : Nat), a2]) = H5 at hT5 hdd hli5 hln5 hlw5 hdx5 kk5 ⊢
      refine ⟨T, _, rfl, SqT.of hT5, rfl, _, _, rfl, _, _, rfl, rfl, ?_⟩
      have hlt : i < (Lz.P.op k as).inn.length := (List.getElem?_eq_some_iff.mp had).1
      have hlen : ([k] ++ Lz.P.wss (([] : List Str)) ((Lz.P.op k as).inn.take i)).length ≤ 5000 := by
        have h1 := wss_len (([] : List Str)) ((Lz.P.op k as).inn.take i)
        have h2 := manys_take (Lz.P.op k as).inn i
        have h3 := many_inn (.op k as)
        rw [List.length_append]
        show 1 + _ ≤ 5000
        omega
      refine ⟨fun σ' H' => σ' = [some (.ref a), some (.str k), some (.ref ln), some (.ref lw), some (.int (i : Nat)), some a2] ∧ Kp [] H H' ∧ Kp [lw] H5 H' ∧ H' lw = some (.lst (([k] ++ Lz.P.wss (([] : List Str)) ((Lz.P.op k as).inn.take i) ++ preW (([] : List Str)) i).map V.str)), ?_, ?_⟩
      · refine ⟨_, rfl, _, rfl, ln, _, rfl, .inl (SqL.of hln5), _, _, rfl, rfl, _, rfl, ?_⟩
        rw [List.length_map]
        refine ite2 (fun c => ?_) (fun c => ?_)
        · have hil : i < (([] : List Str)).length := Int.ofNat_lt.mp (of_decide_eq_true c)
          have hx := List.getElem?_eq_getElem hil
          have hxm := List.getElem_mem hil
          generalize (([] : List Str))[i] = nx at hx hxm
          have hx8 := (hnm nx hxm).2.1
          refine ⟨_, rfl, .inl ⟨rfl, _, SqL.of hlw5⟩, _, rfl, _, rfl, ln, _, _, _, rfl, rfl, SqL.of hln5, at_of (j := i) rfl (by rw [List.getElem?_map, hx]; rfl), _, _, rfl, rfl, (by show 1 + nx.length ≤ sizeLine; have := line10k; omega), lw, _, _, rfl, rfl, hlw5, small5000 (by rw [List.length_map]; exact hlen), ?_⟩
          refine ⟨rfl, kk5.mut hlwH, Kp.put hlw5 List.mem_cons_self, ?_⟩
          rw [upd_same, preW_of hx, List.map_append (l₂ := [("." : Str) ++ nx])]
          rfl
        · have hil : (([] : List Str)).length ≤ i := by
            have : ¬ ((i : Int) < ((([] : List Str)).length : Int)) := of_decide_eq_false (Bool.eq_false_iff.mpr c)
            omega
          refine ⟨rfl, kk5, Kp.refl _ _, ?_⟩
          rw [preW_no hil, List.append_nil]
          exact hlw5
      · rintro σ' H6 ⟨rfl, k6, k56, hlw6⟩
        obtain ⟨dok, dm, ddp⟩ := inn_fits hok hmany hdeep had
        have dfit := fit_inn hfit d (List.mem_of_getElem? had)
        have hlen2 : ([k] ++ Lz.P.wss (([] : List Str)) ((Lz.P.op k as).inn.take i) ++ preW (([] : List Str)) i).length ≤ 5001 := by
          have h1 := preW_len (([] : List Str)) i
          rw [List.length_append]
          omega
        refine ⟨_, rfl, .inl ⟨rfl, _, SqL.of hlw6⟩, _, rfl, a2, d, F, _, rfl, Dp.keep k56 _ _ (data_fz _) hdd, dok, dm, ddp, dfit, fun l2 H7 k7 hl20 hl2 => ?_⟩
        have hlw7 := k7.lst hlw6 (fun m => nomatch m)
        have hdl := ws_len d
        refine ⟨lw, l2, _, _, rfl, rfl, hlw7, hl2, ?_, ?_⟩
        · rw [List.length_map, List.length_map]
          have := line10k
          omega
        · have k57 : Kp [lw] H5 H7 := k56.trans (k7.mono (fun _ m => nomatch m))
          have kput : Kp [lw] H7 (upd H7 lw (.lst (([k] ++ Lz.P.wss (([] : List Str)) ((Lz.P.op k as).inn.take i) ++ preW (([] : List Str)) i).map V.str ++ d.ws.map V.str))) := Kp.put hlw7 List.mem_cons_self
          have nln : ln ≠ lw := hnlw
          refine ⟨_, _, rfl, (k6.trans k7).mut hlwH, (k57.trans kput).lst hli5 (not1 nlw), Dp.keepAll (k57.trans kput) _ _ (datas_fz _) hdx5, (k57.trans kput).lst hln5 (not1 nln), ?_⟩
          rw [upd_same, List.take_add_one, had]
          have e := wss_snoc (([] : List Str)) ((Lz.P.op k as).inn.take i) d
          rw [List.length_take, Nat.min_eq_left (Nat.le_of_lt hlt)] at e
          show some (HO.lst _) = some (HO.lst (([k] ++ Lz.P.wss (([] : List Str)) ((Lz.P.op k as).inn.take i ++ [d])).map V.str))
          rw [e, ← List.map_append, List.append_assoc, List.append_assoc]
    · rintro σ H4 ⟨v4, v5, rfl, k4, hli4, hdx4, hln4, hlw4⟩
      have hxl : xs.length = (Lz.P.op k as).inn.length := by rw [hdx4.length, datas_len]
      rw [hxl, List.take_length] at hlw4
      refine ⟨_, rfl, q lw H4 k4 hlwH ?_⟩
      rw [hlw4]
      exact congrArg (fun z : List Str => some (HO.lst (z.map V.str))) rfl
  | lt nm as b =>
    have hnm : ∀ x, x ∈ nm → nmOk x := (show nm.length = as.length ∧ (∀ x, x ∈ nm → nmOk x) ∧ Lz.P.oks as ∧ Lz.P.ok b from hok).2.1
    have h4 : nm.length ≤ 4 := hfit.2.1
    obtain ⟨a, r, rs, vb, rfl, ht, _⟩ := let_atU hd
    refine ⟨_, rfl, a, _, _, _, rfl, rfl, ht, at_of (j := 0) rfl rfl, ?_⟩
    refine ⟨_, rfl, rfl, _, rfl, ?_⟩
    refine ite2 (fun c => absurd (V.str.inj (of_decide_eq_true c)) (by decide +kernel)) (fun _ => ?_)
    refine ⟨_, rfl, rfl, _, rfl, ?_⟩
    refine ite2 (fun c => absurd (V.str.inj (of_decide_eq_true c)) (by decide +kernel)) (fun _ => ?_)
    refine ⟨_, rfl, rfl, _, rfl, ?_⟩
    refine ite2 (fun c => absurd (V.str.inj (of_decide_eq_true c)) (by decide +kernel)) (fun _ => ?_)
    refine ⟨_, rfl, .ref a, .lt nm as b, rfl, hd, hok, h4, fun ln H1 k1 hln0 hln => ?_⟩
    have hln : H1 ln = some (.lst (nm.map V.str)) := hln
    refine ⟨_, rfl, rfl, _, rfl, ?_⟩
    refine ite2 (fun _ => ?_) (fun c => absurd (decide_eq_true rfl) c)
    refine ⟨_, rfl, _, rfl, ln, _, rfl, .inl (SqL.of hln), _, rfl, log60 (small60 (by rw [List.length_map]; omega)), (by show 2 ≤ sizeLine; decide), fun lw hlw => ?_⟩
    show tSeq _ _ _ _ (upd H1 lw (.lst [.str "let", .str (numS ((nm.map V.str).length : Nat))]))
    rw [List.length_map]
    have hlwH : H lw = none := k1.free hlw (fun m => nomatch m)
    have kx : Kp [] H1 (upd H1 lw (.lst [.str "let", .str (numS (nm.length : Nat))])) := Kp.new hlw
    have k2 := k1.trans kx
    have hln2 : (upd H1 lw (.lst [.str "let", .str (numS (nm.length : Nat))])) ln = some (.lst (nm.map V.str)) := kx.lst hln (fun m => nomatch m)
    have hlw2 : (upd H1 lw (.lst [.str "let", .str (numS (nm.length : Nat))])) lw = some (.lst ((["let", numS (nm.length : Nat)] : List Str).map V.str)) := upd_same
    have hnlw : ln ≠ lw := ne_of_none hln hlw
    generalize upd H1 lw (.lst [.str "let", .str (numS (nm.length : Nat))]) = H2 at k2 hln2 hlw2 ⊢
    refine ⟨_, rfl, .ref a, .lt nm as b, rfl, Dp.keep k2 _ _ (data_fz _) hd, hok, hmany, fun li xs H3 k3 hli0 hli hdx => ?_⟩
    have hln3 := k3.lst hln2 (fun m => nomatch m)
    have hlw3 := k3.lst hlw2 (fun m => nomatch m)
    have nlw : li ≠ lw := (ne_of_none hlw2 hli0).symm
    refine ⟨li, xs, rfl, SqL.of hli, for_it (walk_enum (K := K) (a := li) (xs := xs)) (fun i σ H' => ∃ (v4 v5 : Option V), σ = [some (.ref a), some (.str "let"), some (.ref ln), some (.ref lw), v4, v5] ∧ Kp [] H H' ∧ H' li = some (.lst xs) ∧ DpAll K H' xs (Lz.P.datas (Lz.P.lt nm as b).inn) ∧ H' ln = some (.lst ((nm).map V.str)) ∧ H' lw = some (.lst (((["let", numS (nm.length : Nat)] : List Str) ++ Lz.P.wss (nm) ((Lz.P.lt nm as b).inn.take i)).map V.str)))
      ⟨none, none, rfl, k2.trans k3, hli, hdx, hln3, by rw [show Lz.P.wss (nm) ((Lz.P.lt nm as b).inn.take 0) = [] from wss_nil _, List.append_nil]; exact hlw3⟩ (fun i σ H' _ ⟨_, _, _, _, h, _⟩ => SqL.of h) ?_ ?_⟩
    · rintro i x σ H4 H5 hi ⟨v4, v5, rfl, k4, hli4, hdx4, hln4, hlw4⟩ ⟨T, a1, a2, rfl, hT, rfl, e1, e2⟩
      obtain rfl := Option.some.inj e1
      have k5 : Kp [] H4 (upd H4 T (.tup [.int (i : Nat), a2])) := Kp.new hT
      have hT5 : (upd H4 T (.tup [.int (i : Nat), a2])) T = some (.tup [.int (i : Nat), a2]) := upd_same
      obtain ⟨d, had, hdd⟩ := part_atU (Dp.keepAll k5 _ _ (datas_fz _) hdx4) (show xs[i]? = some a2 from e2)
      have hli5 := k5.lst hli4 (fun m => nomatch m)
      have hln5 := k5.lst hln4 (fun m => nomatch m)
      have hlw5 := k5.lst hlw4 (fun m => nomatch m)
      have hdx5 := Dp.keepAll k5 _ _ (datas_fz _) hdx4
      have kk5 := k4.trans k5
      generalize upd H4 T (.tup [.int (i : Nat), a2]) = H5 at hT5 hdd hli5 hln5 hlw5 hdx5 kk5 ⊢
      refine ⟨T, _, rfl, SqT.of hT5, rfl, _, _, rfl, _, _, rfl, rfl, ?_⟩
      have hlt : i < (Lz.P.lt nm as b).inn.length := (List.getElem?_eq_some_iff.mp had).1
      have hlen : ((["let", numS (nm.length : Nat)] : List Str) ++ Lz.P.wss (nm) ((Lz.P.lt nm as b).inn.take i)).length ≤ 5000 := by
        have h1 := wss_len (nm) ((Lz.P.lt nm as b).inn.take i)
        have h2 := manys_take (Lz.P.lt nm as b).inn i
        have h3 := many_inn (.lt nm as b)
        rw [List.length_append]
        show 2 + _ ≤ 5000
        omega
      refine ⟨fun σ' H' => σ' = [some (.ref a), some (.str "let"), some (.ref ln), some (.ref lw), some (.int (i : Nat)), some a2] ∧ Kp [] H H' ∧ Kp [lw] H5 H' ∧ H' lw = some (.lst (((["let", numS (nm.length : Nat)] : List Str) ++ Lz.P.wss (nm) ((Lz.P.lt nm as b).inn.take i) ++ preW (nm) i).map V.str)), ?_, ?_⟩
      · refine ⟨_, rfl, _, rfl, ln, _, rfl, .inl (SqL.of hln5), _, _, rfl, rfl, _, rfl, ?_⟩
        rw [List.length_map]
        refine ite2 (fun c => ?_) (fun c => ?_)
        · have hil : i < (nm).length := Int.ofNat_lt.mp (of_decide_eq_true c)
          have hx := List.getElem?_eq_getElem hil
          have hxm := List.getElem_mem hil
          generalize (nm)[i] = nx at hx hxm
          have hx8 := (hnm nx hxm).2.1
          refine ⟨_, rfl, .inl ⟨rfl, _, SqL.of hlw5⟩, _, rfl, _, rfl, ln, _, _, _, rfl, rfl, SqL.of hln5, at_of (j := i) rfl (by rw [List.getElem?_map, hx]; rfl), _, _, rfl, rfl, (by show 1 + nx.length ≤ sizeLine; have := line10k; omega), lw, _, _, rfl, rfl, hlw5, small5000 (by rw [List.length_map]; exact hlen), ?_⟩
          refine ⟨rfl, kk5.mut hlwH, Kp.put hlw5 List.mem_cons_self, ?_⟩
          rw [upd_same, preW_of hx, List.map_append (l₂ := [("." : Str) ++ nx])]
          rfl
        · have hil : (nm).length ≤ i := by
            have : ¬ ((i : Int) < ((nm).length : Int)) := of_decide_eq_false (Bool.eq_false_iff.mpr c)
            omega
          refine ⟨rfl, kk5, Kp.refl _ _, ?_⟩
          rw [preW_no hil, List.append_nil]
          exact hlw5
      · rintro σ' H6 ⟨rfl, k6, k56, hlw6⟩
        obtain ⟨dok, dm, ddp⟩ := inn_fits hok hmany hdeep had
        have dfit := fit_inn hfit d (List.mem_of_getElem? had)
        have hlen2 : ((["let", numS (nm.length : Nat)] : List Str) ++ Lz.P.wss (nm) ((Lz.P.lt nm as b).inn.take i) ++ preW (nm) i).length ≤ 5001 := by
          have h1 := preW_len (nm) i
          rw [List.length_append]
          omega
        refine ⟨_, rfl, .inl ⟨rfl, _, SqL.of hlw6⟩, _, rfl, a2, d, F, _, rfl, Dp.keep k56 _ _ (data_fz _) hdd, dok, dm, ddp, dfit, fun l2 H7 k7 hl20 hl2 => ?_⟩
        have hlw7 := k7.lst hlw6 (fun m => nomatch m)
        have hdl := ws_len d
        refine ⟨lw, l2, _, _, rfl, rfl, hlw7, hl2, ?_, ?_⟩
        · rw [List.length_map, List.length_map]
          have := line10k
          omega
        · have k57 : Kp [lw] H5 H7 := k56.trans (k7.mono (fun _ m => nomatch m))
          have kput : Kp [lw] H7 (upd H7 lw (.lst (((["let", numS (nm.length : Nat)] : List Str) ++ Lz.P.wss (nm) ((Lz.P.lt nm as b).inn.take i) ++ preW (nm) i).map V.str ++ d.ws.map V.str))) := Kp.put hlw7 List.mem_cons_self
          have nln : ln ≠ lw := hnlw
          refine ⟨_, _, rfl, (k6.trans k7).mut hlwH, (k57.trans kput).lst hli5 (not1 nlw), Dp.keepAll (k57.trans kput) _ _ (datas_fz _) hdx5, (k57.trans kput).lst hln5 (not1 nln), ?_⟩
          rw [upd_same, List.take_add_one, had]
          have e := wss_snoc (nm) ((Lz.P.lt nm as b).inn.take i) d
          rw [List.length_take, Nat.min_eq_left (Nat.le_of_lt hlt)] at e
          show some (HO.lst _) = some (HO.lst (((["let", numS (nm.length : Nat)] : List Str) ++ Lz.P.wss (nm) ((Lz.P.lt nm as b).inn.take i ++ [d])).map V.str))
          rw [e, ← List.map_append, List.append_assoc, List.append_assoc]
    · rintro σ H4 ⟨v4, v5, rfl, k4, hli4, hdx4, hln4, hlw4⟩
      have hxl : xs.length = (Lz.P.lt nm as b).inn.length := by rw [hdx4.length, datas_len]
      rw [hxl, List.take_length] at hlw4
      refine ⟨_, rfl, q lw H4 k4 hlwH ?_⟩
      rw [hlw4]
      exact congrArg (fun z : List Str => some (HO.lst (z.map V.str))) (lt_ws hok.1).symm
end
end Lz

set_option Elab.async false
set_option linter.all false
set_option maxRecDepth 100000
set_option maxHeartbeats 8000000
namespace Lz
open PySem PySem.Spec PyProof.Rows L2
structure TxOk (F sc : List Str) (t : Lz.P) : Prop where
  b : BodyOk t
  f : t.fit F sc
theorem TxOk.short {F sc : List Str} {t : Lz.P} (h : TxOk F sc t) : shortW t.ws := ws_short t sc h.b.ok h.f
theorem TxOk.len {F sc : List Str} {t : Lz.P} (h : TxOk F sc t) : t.ws.length ≤ 180 := by
  have h1 := ws_len t
  have h2 := h.b.many
  omega
theorem few_words {l : List Str} {n : Nat} (h : shortW l) (hl : l.length ≤ n) (s : Str) (hs : s.length = 1) : (l.map (·.length)).sum + l.length * s.length ≤ 1922 * n := by
  have h1 := sum_le h
  rw [hs]
  omega
theorem TxOk.sum {F sc : List Str} {t : Lz.P} (h : TxOk F sc t) : (t.ws.map (·.length)).sum + t.ws.length * (" " : Str).length ≤ 16777216 := by
  have := few_words h.short h.len " " (by decide +kernel)
  omega
theorem TxOk.txt {F sc : List Str} {t : Lz.P} (h : TxOk F sc t) : t.txt.length ≤ 400000 := by
  have h1 := join_len " " t.ws
  have h2 := few_words h.short h.len " " (by decide +kernel)
  show (Str.join " " t.ws).length ≤ _
  omega
def spPartT (K : PySem.W.Frag) : Sp := fun vs H Q _ => ∃ (v : V) (t : Lz.P) (F sc : List Str), vs = [v] ∧ Dp K H v t.data ∧ TxOk F sc t ∧ ∀ H', Kp [] H H' → Q (.str t.txt) H'
/-- a function whose row is written -/
structure FnT (F : List Str) (g : Fn) : Prop where
  nm : g.1.length ≤ 8
  th : g.2.1.length ≤ 4
  ns : ∀ x, x ∈ g.2.1 → nmOk x
  bd : TxOk F g.2.1 g.2.2
theorem fnW_short {F : List Str} {g : Fn} (h : FnT F g) : shortW (fnW g) := by
  refine .cons (by have := h.nm; omega) (.app (fun w m => ?_) (.cons (by decide +kernel) h.bd.short))
  obtain ⟨x, hx, rfl⟩ := List.mem_map.mp m
  exact one_name (h.ns x hx) (by decide +kernel)
theorem fnW_len {F : List Str} {g : Fn} (h : FnT F g) : (fnW g).length ≤ 190 := by
  have h1 := h.bd.len
  have h2 := h.th
  show (g.2.1.map _ ++ ("=" : Str) :: g.2.2.ws).length + 1 ≤ 190
  rw [List.length_append, List.length_map, List.length_cons]
  omega
theorem fnT_sum {F : List Str} {g : Fn} (h : FnT F g) : ((fnW g).map (·.length)).sum + (fnW g).length * (" " : Str).length ≤ 16777216 := by
  have := few_words (fnW_short h) (fnW_len h) " " (by decide +kernel)
  omega
theorem fnT_len {F : List Str} {g : Fn} (h : FnT F g) : (Str.join " " (fnW g)).length ≤ 400000 := by
  have h1 := join_len " " (fnW g)
  have h2 := few_words (fnW_short h) (fnW_len h) " " (by decide +kernel)
  omega
def spFnT (K : PySem.W.Frag) : Sp := fun vs H Q _ => ∃ (v : V) (g : Fn) (F : List Str), vs = [v] ∧ Dp K H v (fD g) ∧ FnT F g ∧ ∀ H', Kp [] H H' → Q (.str (Str.join " " (fnW g))) H'
theorem fn_oneT {K : PySem.W.Frag} {H : Hp} {v : V} {g : Fn} (h : Dp K H v (fD g)) : ∃ t r u, v = .ref t ∧ SqT K H t [.str g.1, .ref r, u] ∧ SqT K H r (g.2.1.map V.str) ∧ Dp K H u g.2.2.data := by
  obtain ⟨g', t, r, u, hg, e, h1, h2, h3⟩ := fn_atU (gs := [g]) (i := 0) (DpAll.one h) rfl
  obtain rfl : g = g' := Option.some.inj hg
  exact ⟨t, r, u, e, h1, h2, h3⟩
section
variable {P : Program} {w : World} {K : PySem.W.Frag} {mg : Str → Option Value} {base : Heap} {f : Addr} {fd : FuncData}
abbrev sPartText : Stmt := topS 6
theorem scPartText : FnScope ["part"] ["part"] (defScope sPartText) := ⟨rfl, rfl, rfl, by decide +kernel, rfl, by decide +kernel, by decide +kernel⟩
theorem ok_partT {j : Nat} (hj : 1 ≤ j) (F : Fun K "part_text" "part_text" sPartText f fd) (CWordsOf : C8.Cal P w K mg base j "words_of" (spWords K 12) []) : FnOk P w K mg base CX0 (j + 1) f fd ["part"] (spPartT K) := by
  refine F.ok scPartText (fun vs H Q E h => ?_) (fun cdv A outer s H vs Q E hr h => ?_)
  · obtain ⟨v, t, F, sc, rfl, _⟩ := h
    rfl
  obtain ⟨v, t, F, sc, rfl, hd, hx, q⟩ := h
  refine ⟨_, (pss_one (ps_ret (pe_join pe_str (C8.pe_c CWordsOf hr (by first | decide | omega) (by rfl) (pa_cons (pv 0) pa_nil))))), ?_⟩
  refine ⟨⟨_, rfl⟩, _, rfl, v, t, F, sc, rfl, hd, hx.b.ok, (by have := hx.b.many; omega), hx.b.deep, hx.f, fun l H1 k1 hl0 hl => ?_⟩
  refine ⟨_, l, t.ws, rfl, rfl, .inl (SqL.of hl), hx.sum, ?_⟩
  rw [TL.join_eq]
  exact q H1 k1
abbrev sFunctionText : Stmt := topS 7
theorem scFunctionText : FnScope ["function", "name", "names", "body", "own"] ["function"] (defScope sFunctionText) := ⟨rfl, rfl, rfl, by decide +kernel, rfl, by decide +kernel, by decide +kernel⟩
theorem ok_fnT {j : Nat} (hj : 1 ≤ j) (F : Fun K "function_text" "function_text" sFunctionText f fd) (CWordsOf : C8.Cal P w K mg base j "words_of" (spWords K 12) []) : FnOk P w K mg base CX0 (j + 1) f fd ["function"] (spFnT K) := by
  refine F.ok scFunctionText (fun vs H Q E h => ?_) (fun cdv A outer s H vs Q E hr h => ?_)
  · obtain ⟨v, g, F, rfl, _⟩ := h
    rfl
  obtain ⟨v, g, F, rfl, hd, hx, q⟩ := h
  refine ⟨_, (pss_cons (ps_asg (pv 0) (pg_tupK (K := K) (n := 3) rfl rfl (pgs_cons (pg_name (i := 1) scFunctionText.nd rfl (.inl rfl)) (pgs_cons (pg_name (i := 2) scFunctionText.nd rfl (.inl rfl)) (pgs_cons (pg_name (i := 3) scFunctionText.nd rfl (.inl rfl)) pgs_nil)))))
    (pss_one (ps_ret (pe_join pe_str (pe_lst (pa_cons (pv 1) (StX.pa_starK (K := K) rfl (pe_lc (own := [("own", 4)]) rfl scFunctionText.nd (pi_tupK (K := K) rfl (pv 2)) (blkOk_by (N := ["function", "name", "names", "body", "own"]) (sc := defScope sFunctionText) (by decide +kernel)) (fun _ _ _ _ _ => (pg_name (i := 4) scFunctionText.nd rfl (.inl rfl))) (fun _ _ _ _ _ => pts_nil) (fun _ _ _ _ _ => (pe_op op_add_str pe_str (pv 4)))) (pa_cons pe_str (StX.pa_starK (K := K) rfl (C8.pe_c CWordsOf hr (by first | decide | omega) (by rfl) (pa_cons (pv 3) pa_nil)) pa_nil))))))))), ?_⟩
  obtain ⟨t, r, u, rfl, ht, hr0, hu⟩ := fn_oneT hd
  refine ⟨_, rfl, t, _, rfl, ht, rfl, _, _, rfl, _, _, rfl, _, _, rfl, rfl, ?_⟩
  refine ⟨⟨_, rfl⟩, _, rfl, _, rfl, r, rfl, ⟨_, hr0⟩, fun D hD => ?_⟩
  have h4 := hx.th
  refine lc_tup (K := K) (a := r) (xs := g.2.1.map V.str) (fun i H' => Kp [] H H' ∧ H' D = some (.lst (((g.2.1.take i).map (fun x => ("." : Str) ++ x)).map V.str)))
    ⟨Kp.new hD, upd_same⟩ (fun i H' _ ⟨k, _⟩ => k.sqT hr0) ?_ ?_
  · rintro i x H1 hi ⟨k1, h1⟩
    rw [List.getElem?_map] at hi
    obtain ⟨y, hy, rfl⟩ : ∃ y, g.2.1[i]? = some y ∧ x = V.str y := by
      cases e : g.2.1[i]? with
      | none => rw [e] at hi; cases hi
      | some y => rw [e] at hi; exact ⟨y, rfl, (Option.some.inj hi).symm⟩
    have hy8 := (hx.ns y (List.mem_of_getElem? hy)).2.1
    refine ⟨rfl, ?_⟩
    refine ⟨_, rfl, _, _, rfl, rfl, (by show 1 + y.length ≤ sizeLine; have := line10k; omega), _, h1, (by rw [List.length_map, List.length_map, List.length_take]; exact small1000 (by omega)), k1.mut hD, ?_⟩
    rw [upd_same, List.take_add_one, hy, List.map_append, List.map_append]
    rfl
  · rintro H1 ⟨k1, h1⟩
    rw [List.length_map, List.take_length] at h1
    refine ⟨D, _, rfl, .inr (SqL.of h1), _, rfl, u, g.2.2, F, g.2.1, rfl, Dp.keep k1 _ _ (data_fz _) hu, hx.bd.b.ok, (by have := hx.bd.b.many; omega), hx.bd.b.deep, hx.bd.f, fun l H2 k2 hl0 hl => ?_⟩
    refine ⟨l, _, rfl, .inr (SqL.of hl), ?_, fun lf hlf => ?_⟩
    · have h5 := hx.bd.len
      have := line10k
      simp only [List.length_cons, List.length_append, List.length_map, List.length_nil]
      omega
    · refine ⟨_, lf, fnW g, rfl, rfl, .inl (SqL.of ?_), fnT_sum hx, ?_⟩
      · rw [upd_same]
        unfold fnW
        simp only [List.map_cons, List.map_append, List.append_nil]
      · rw [TL.join_eq]
        exact q _ (k1.trans (k2.trans (Kp.new hlf)))
end
end Lz

set_option Elab.async false
set_option linter.all false
set_option maxRecDepth 100000
set_option maxHeartbeats 4000000
namespace Lz
open PySem PySem.Spec PyProof.Rows L2
def spNumber (K : PySem.W.Frag) : Sp := fun vs H Q _ => ∃ (p a : Addr), vs = [.ref p] ∧ PenAt H p a ∧ ∀ (i : Int) (H' : Hp), Kp [p] H H' → PenAt H' p a → i.natAbs < 10 ^ 60 → Q (.int i) H'
def WAt (K : PySem.W.Frag) (H : Hp) (wl : Addr) (W : List (Str × Int)) : Prop := ∃ ws, H wl = some (.lst ws) ∧ DpAll K H ws (W.map wD)
theorem WAt.keep {K : PySem.W.Frag} {S : List Addr} {H H' : Hp} {wl : Addr} {W : List (Str × Int)} (h : WAt K H wl W) (k : Kp S H H') (n : ¬ wl ∈ S) : WAt K H' wl W := by
  obtain ⟨ws, h1, h2⟩ := h
  exact ⟨ws, k.lst h1 n, Dp.keepAll k _ _ (wds_fz W) h2⟩
theorem WAt.dp {K : PySem.W.Frag} {H : Hp} {wl : Addr} {W : List (Str × Int)} (h : WAt K H wl W) : Dp K H (.ref wl) (.list (W.map wD)) := by
  obtain ⟨ws, h1, h2⟩ := h
  exact .lst (SqL.of h1) h2
theorem scope_dp {K : PySem.W.Frag} {H : Hp} {sl : Addr} {sc : List Str} (h : H sl = some (.lst (sc.map V.str))) : Dp K H (.ref sl) (.list (sc.map .str)) := .lst (SqL.of h) (DpAll.strs sc)
theorem nil_dp {K : PySem.W.Frag} {H : Hp} {l : Addr} : Dp K (upd H l (.lst [])) (.ref l) (.list []) := .lst (SqL.of upd_same) .nil
def spLeaf (K : PySem.W.Frag) : Sp := fun vs H Q _ => ∃ (p a wl sl : Addr) (want : Str) (W : List (Str × Int)) (sc : List Str), vs = [.ref p, .ref wl, .ref sl, .str want] ∧ PenAt H p a ∧ WAt K H wl W ∧ H sl = some (.lst (sc.map V.str)) ∧ wl ≠ p ∧ sl ≠ p ∧
  (∀ f, f ∈ W → nmOk f.1) ∧ (∀ x, x ∈ sc → nmOk x) ∧ W.length ≤ 1000 ∧ sc.length ≤ 1000 ∧
  ∀ (v : V) (d : Lz.P) (H' : Hp), Kp [p] H H' → PenAt H' p a → Dp K H' v d.data → (∀ dp n ss, Dr W sc dp n ss n ss [d]) → Q v H'
def spFits (K : PySem.W.Frag) : Sp := fun vs H Q _ => ∃ (r c : Addr) (x : V) (xs : List V) (n m : Int), vs = [.ref r, .int m] ∧ H r = some (.lst (x :: .ref c :: xs)) ∧ H c = some (.lst [.int n]) ∧ (n < m → Q (.bl false) H) ∧ (m ≤ n → Q (.bl true) (upd H c (.lst [.int (n - m)])))
section
variable {P : Program} {w : World} {K : PySem.W.Frag} {mg : Str → Option Value} {base : Heap} {f : Addr} {fd : FuncData}
abbrev sLNumber : Stmt := topS 13
theorem scLNumber : FnScope ["_law_pen_here", "_law_way"] ["_law_pen_here"] (defScope sLNumber) := ⟨rfl, rfl, rfl, by decide +kernel, rfl, by decide +kernel, by decide +kernel⟩
theorem ok_number (F : Fun K "_law_number" "_law_number" sLNumber f fd) (B : Bt mg) (CLDraw : C8.Cal P w K mg base 1 "_law_draw" (spDraw K) []) : FnOk P w K mg base CX0 2 f fd ["_law_pen_here"] (spNumber K) := by
  refine F.ok scLNumber (fun vs H Q E h => ?_) (fun cdv A outer s H vs Q E hr h => ?_)
  · obtain ⟨p, a, rfl, _⟩ := h
    rfl
  obtain ⟨p, a, rfl, hpen, k⟩ := h
  refine ⟨_, (pss_cons (ps_set (i := 1) scLNumber.nd rfl (.inl rfl) (C8.pe_c CLDraw hr (by first | decide | omega) (by rfl) (pa_cons (pv 0) (pa_cons pe_int pa_nil))))
    (pss_cons (ps_if (pt_cmpR op_eq (pv 1) pe_int (nomark _)) (pss_one (ps_ret (pe_op op_add (pe_op op_sub (C8.pe_c CLDraw hr (by first | decide | omega) (by rfl) (pa_cons (pv 0) (pa_cons (pe_op op_sub (pe_op op_mul pe_int (pe_op op_pow pe_int pe_int)) pe_int) pa_nil))) (pe_op op_pow pe_int pe_int)) pe_int))) pss_nil)
    (pss_cons (ps_if (pt_cmpR op_eq (pv 1) pe_int (nomark _)) (pss_one (ps_ret (pe_op op_sub (C8.pe_c CLDraw hr (by first | decide | omega) (by rfl) (pa_cons (pv 0) (pa_cons (pe_op op_mul pe_int (pe_op op_pow pe_int pe_int)) pa_nil))) (pe_op op_pow pe_int pe_int)))) pss_nil)
    (pss_one (ps_ret (pe_op op_sub (C8.pe_c CLDraw hr (by first | decide | omega) (by rfl) (pa_cons (pv 0) (pa_cons pe_int pa_nil))) (pe_ix (ix_listK (K := K) rfl) (pe_lst (pa_cons pe_int (pa_cons pe_int (pa_cons pe_int (pa_cons pe_int (pa_cons pe_int (pa_cons pe_int (pa_cons pe_int pa_nil)))))))) (pv 1) (fun _ _ => rfl)))))))), ?_⟩
  refine ⟨_, rfl, p, a, 9, rfl, hpen, by decide, by decide, fun way H1 k1 pen1 w0 w1 => ?_⟩
  refine ⟨_, rfl, rfl, _, rfl, ?_⟩
  refine ite2 (fun c => ?_) (fun c => ?_)
  · refine ⟨_, rfl, _, _, rfl, rfl, ⟨by decide, by decide, by decide⟩, _, _, rfl, rfl, .inl ⟨by decide, by decide⟩, _, _, rfl, rfl, p, a, _, rfl, pen1, by decide, by decide, fun r H2 k2 pen2 r0 r1 => ?_⟩
    refine ⟨_, _, rfl, rfl, ⟨by decide, by decide, by decide⟩, _, _, rfl, rfl, _, _, rfl, rfl, ?_⟩
    refine k _ H2 (k1.trans k2) pen2 ?_
    have r1' : r < 2 * 10 ^ 60 - 1 := r1
    show (r - 10 ^ 60 + 1 : Int).natAbs < 10 ^ 60
    omega
  refine ⟨_, rfl, rfl, _, rfl, ?_⟩
  refine ite2 (fun c2 => ?_) (fun c2 => ?_)
  · refine ⟨_, rfl, _, _, rfl, rfl, ⟨by decide, by decide, by decide⟩, _, _, rfl, rfl, .inl ⟨by decide, by decide⟩, p, a, _, rfl, pen1, by decide, by decide, fun r H2 k2 pen2 r0 r1 => ?_⟩
    refine ⟨_, _, rfl, rfl, ⟨by decide, by decide, by decide⟩, _, _, rfl, rfl, ?_⟩
    refine k _ H2 (k1.trans k2) pen2 ?_
    have r1' : r < 2 * 10 ^ 31 := r1
    show (r - 10 ^ 31 : Int).natAbs < 10 ^ 60
    omega
  have hw7 : way < 7 := by
    have e1 : ¬ V.int way = V.int 8 := of_decide_eq_false (Bool.eq_false_iff.mpr c)
    have e2 : ¬ V.int way = V.int 7 := of_decide_eq_false (Bool.eq_false_iff.mpr c2)
    have e1' : way ≠ 8 := fun h => e1 (by rw [h])
    have e2' : way ≠ 7 := fun h => e2 (by rw [h])
    omega
  refine ⟨_, rfl, p, a, 9, rfl, pen1, by decide, by decide, fun r H2 k2 pen2 r0 r1 => ?_⟩
  refine ⟨by show 7 ≤ sizeLine; decide, fun l hl => ?_⟩
  obtain ⟨z, hz, hz4⟩ : ∃ z : Int, ([.int 0, .int 0, .int 0, .int 1, .int 2, .int 4, .int 0] : List V)[way.toNat]? = some (.int z) ∧ 0 ≤ z ∧ z ≤ 4 := by
    have h0 : way.toNat < 7 := by omega
    generalize way.toNat = j at h0
    match j, h0 with
    | 0, _ => exact ⟨0, rfl, by omega⟩
    | 1, _ => exact ⟨0, rfl, by omega⟩
    | 2, _ => exact ⟨0, rfl, by omega⟩
    | 3, _ => exact ⟨1, rfl, by omega⟩
    | 4, _ => exact ⟨2, rfl, by omega⟩
    | 5, _ => exact ⟨4, rfl, by omega⟩
    | 6, _ => exact ⟨0, rfl, by omega⟩
  refine ⟨_, rfl, l, _, _, _, rfl, rfl, SqL.of upd_same, at_of (j := way.toNat) (by omega) hz, _, _, rfl, rfl, ?_⟩
  refine k _ _ ((k1.trans k2).trans (Kp.new hl)) (pen2.new hl) ?_
  show (r - z : Int).natAbs < 10 ^ 60
  omega
abbrev sLLeaf : Stmt := topS 14
theorem scLLeaf : FnScope ["_law_pen_here", "_law_world", "_law_scope", "_law_want", "_law_way"] ["_law_pen_here", "_law_world", "_law_scope", "_law_want"] (defScope sLLeaf) := ⟨rfl, rfl, rfl, by decide +kernel, rfl, by decide +kernel, by decide +kernel⟩
theorem ok_leaf (F : Fun K "_law_leaf" "_law_leaf" sLLeaf f fd) (B : Bt mg) (CLDraw : C8.Cal P w K mg base 1 "_law_draw" (spDraw K) []) (CLNumber : C8.Cal P w K mg base 2 "_law_number" (spNumber K) []) : FnOk P w K mg base CX0 3 f fd ["_law_pen_here", "_law_world", "_law_scope", "_law_want"] (spLeaf K) := by
  have ml := B.len
  refine F.ok scLLeaf (fun vs H Q E h => ?_) (fun cdv A outer s H vs Q E hr h => ?_)
  · obtain ⟨p, a, wl, sl, want, W, sc, rfl, _⟩ := h
    rfl
  have hu64 := hr.units
  obtain ⟨p, a, wl, sl, want, W, sc, rfl, hpen, hW, hs, nwp, nsp, nmW, nmS, lW, lS, k⟩ := h
  refine ⟨_, (pss_cons (ps_set (i := 4) scLLeaf.nd rfl (.inl rfl) (C8.pe_c CLDraw hr (by first | decide | omega) (by rfl) (pa_cons (pv 0) (pa_cons pe_int pa_nil))))
    (C8.pss_cut (ps_if (PW.pt (pw_and (pt_cmpR (op_neDK (K := K) rfl hu64) (pv 2) (pe_lst pa_nil) (nomark _)) (pw_and1 (pt_cmpR op_gt (pv 4) pe_int (nomark _))))) (pss_one (ps_ret (pe_tup (pa_cons pe_str (pa_cons (pe_ix (ix_listK (K := K) rfl) (pv 2) (C8.pe_c CLDraw hr (by first | decide | omega) (by rfl) (pa_cons (pv 0) (pa_cons (pe_callB (call_lenK (K := K) rfl) (by rfl) ml PySem.boot_len (pa_cons (pv 2) pa_nil)) pa_nil))) (fun _ _ => rfl)) pa_nil))))) pss_nil)
    (C8.pss_cut (ps_if (PW.pt (pw_and (pt_cmpR (op_neDK (K := K) rfl hu64) (pv 1) (pe_lst pa_nil) (nomark _)) (pw_and (pt_cmpR op_eq (pv 3) pe_str (nomark _)) (pw_and1 (pt_cmpR op_eq (pv 4) pe_int (nomark _)))))) (pss_one (ps_ret (pe_tup (pa_cons pe_str (pa_cons (pe_ix (ix_tupK (K := K) rfl) (pe_ix (ix_listK (K := K) rfl) (pv 1) (C8.pe_c CLDraw hr (by first | decide | omega) (by rfl) (pa_cons (pv 0) (pa_cons (pe_callB (call_lenK (K := K) rfl) (by rfl) ml PySem.boot_len (pa_cons (pv 1) pa_nil)) pa_nil))) (fun _ _ => rfl)) pe_int (fun _ _ => rfl)) pa_nil))))) pss_nil)
    (pss_one (ps_ret (pe_tup (pa_cons pe_str (pa_cons (C8.pe_c CLNumber hr (by first | decide | omega) (by rfl) (pa_cons (pv 0) pa_nil)) pa_nil)))))))), ?_⟩
  refine ⟨_, rfl, p, a, 8, rfl, hpen, by decide, by decide, fun way H1 k1 pen1 w0 w1 => ?_⟩
  have hs1 := k1.lst hs (not1 nsp)
  have hW1 := hW.keep k1 (not1 nwp)
  have back : ∀ (v : V) (d : Lz.P) (H' : Hp), Kp [p] H1 H' → PenAt H' p a → Dp K H' v d.data → (∀ dp n ss, Dr W sc dp n ss n ss [d]) → Q v H' := fun v d H' k2 => k v d H' (k1.trans k2)
  refine ⟨fun σ' H' => σ' = [some (.ref p), some (.ref wl), some (.ref sl), some (.str want), some (.int way)] ∧ Kp [p] H1 H' ∧ PenAt H' p a ∧ WAt K H' wl W, ?_, ?_⟩
  · refine ⟨_, rfl, Nat.zero_le _, fun l hl => ?_⟩
    have k2 : Kp [p] H1 (upd H1 l (.lst [])) := Kp.new hl
    have hs2 := k2.lst hs1 (not1 nsp)
    have hW2 := hW1.keep k2 (not1 nwp)
    have pen2 := pen1.new (o := .lst []) hl
    refine ⟨_, _, scope_dp hs2, nil_dp, strs_shaped nmS, nil_shaped, _, rfl, ?_⟩
    rw [eqv_nil]
    generalize upd H1 l (.lst []) = H2 at k2 hs2 hW2 pen2
    refine ite2 (fun c => ?_) (fun c => ⟨rfl, k2, pen2, hW2⟩)
    have hne : 0 < sc.length := by
      cases sc with
      | nil => cases c
      | cons x r => exact Nat.succ_pos _
    refine ⟨_, rfl, _, _, rfl, rfl, _, rfl, ?_⟩
    refine ite2 (fun c => ?_) (fun c => ⟨rfl, k2, pen2, hW2⟩)
    have hlm : (sc.map V.str).length = sc.length := List.length_map _
    refine ⟨_, rfl, _, rfl, _, rfl, sl, _, rfl, .inl (SqL.of hs2), p, a, _, rfl, pen2, (by rw [hlm]; omega), (by rw [hlm]; omega), fun r H3 k3 pen3 r0 r1 => ?_⟩
    rw [hlm] at r1
    have hr : r.toNat < sc.length := by omega
    have hat : (sc.map V.str)[r.toNat]? = some (.str sc[r.toNat]) := by
      rw [List.getElem?_map, List.getElem?_eq_getElem hr]
      rfl
    refine ⟨sl, _, _, _, rfl, rfl, SqL.of (k3.lst hs2 (not1 nsp)), at_of (j := r.toNat) (by omega) hat, (by show 2 ≤ sizeLine; decide), fun q hq => ?_⟩
    exact back _ (.nam sc[r.toNat]) _ ((k2.trans k3).trans (Kp.new hq)) (pen3.new hq) (Dp.newT hq (.cons (.str _) (.cons (.str _) .nil)) rfl) fun dp n ss => .nam (List.getElem_mem hr) .nil
  · rintro _ H2 ⟨rfl, k2, pen2, hW2⟩
    refine ⟨fun σ' H' => σ' = [some (.ref p), some (.ref wl), some (.ref sl), some (.str want), some (.int way)] ∧ Kp [p] H1 H' ∧ PenAt H' p a, ?_, ?_⟩
    · refine ⟨_, rfl, Nat.zero_le _, fun l hl => ?_⟩
      have k3 := k2.trans (Kp.new (S := [p]) (o := .lst []) hl)
      have hW3 := hW2.keep (Kp.new (S := [p]) (o := .lst []) hl) (not1 nwp)
      have pen3 := pen2.new (o := .lst []) hl
      refine ⟨_, _, hW3.dp, nil_dp, wds_shaped nmW, nil_shaped, _, rfl, ?_⟩
      rw [eqv_nil]
      generalize upd H2 l (.lst []) = H3 at k3 hW3 pen3
      refine ite2 (fun c => ?_) (fun c => ⟨rfl, k3, pen3⟩)
      have hne : 0 < W.length := by
        cases W with
        | nil => cases c
        | cons x r => exact Nat.succ_pos _
      refine ⟨_, rfl, rfl, _, rfl, ?_⟩
      refine ite2 (fun c => ?_) (fun c => ⟨rfl, k3, pen3⟩)
      refine ⟨_, rfl, rfl, _, rfl, ?_⟩
      refine ite2 (fun c => ?_) (fun c => ⟨rfl, k3, pen3⟩)
      obtain ⟨ws, hws, hdp⟩ := id hW3
      have hlw : ws.length = W.length := by rw [hdp.length, List.length_map]
      refine ⟨_, rfl, _, rfl, _, rfl, wl, _, rfl, .inl (SqL.of hws), p, a, _, rfl, pen3, (by rw [hlw]; omega), (by rw [hlw]; omega), fun r H4 k4 pen4 r0 r1 => ?_⟩
      rw [hlw] at r1
      have hr : r.toNat < W.length := by omega
      have hW4 := hW3.keep k4 (not1 nwp)
      obtain ⟨ws, hws, hdp⟩ := id hW4
      obtain ⟨v, hv, hvd⟩ := hdp.get (i := r.toNat) (d := wD W[r.toNat]) (by rw [List.getElem?_map, List.getElem?_eq_getElem hr]; rfl)
      obtain ⟨t, xs, rfl, ht, hxs⟩ := hvd.tup_of
      cases hxs with
      | cons h1 h2 =>
        cases h1
        refine ⟨wl, _, _, _, rfl, rfl, SqL.of hws, at_of (j := r.toNat) (by omega) hv, t, _, _, _, rfl, rfl, ht, at_of (j := 0) rfl rfl, (by show 2 ≤ sizeLine; decide), fun q hq => ?_⟩
        exact back _ (.fn W[r.toNat].1) _ ((k3.trans k4).trans (Kp.new hq)) (pen4.new hq) (Dp.newT hq (.cons (.str _) (.cons (.str _) .nil)) rfl) fun dp n ss => .fn (w := W[r.toNat].2) (List.getElem_mem hr) .nil
    · rintro _ H2 ⟨rfl, k2, pen2⟩
      refine ⟨_, rfl, p, a, rfl, pen2, fun i H3 k3 pen3 hi => ?_⟩
      refine ⟨(by show 2 ≤ sizeLine; decide), fun q hq => ?_⟩
      exact back _ (.num i) _ ((k2.trans k3).trans (Kp.new hq)) (pen3.new hq) (Dp.newT hq (.cons (.str _) (.cons (.int _) .nil)) rfl) fun dp n ss => .num hi .nil
abbrev sLFits : Stmt := topS 15
theorem scLFits : FnScope ["_law_room", "_law_many"] ["_law_room", "_law_many"] (defScope sLFits) := ⟨rfl, rfl, rfl, by decide +kernel, rfl, by decide +kernel, by decide +kernel⟩
theorem ok_fits (F : Fun K "_law_fits" "_law_fits" sLFits f fd) : FnOk P w K mg base CX0 1 f fd ["_law_room", "_law_many"] (spFits K) := by
  refine F.ok scLFits (fun vs H Q E h => ?_) (fun cdv A outer s H vs Q E hr h => ?_)
  · obtain ⟨r, c, x, xs, n, m, rfl, _⟩ := h
    rfl
  obtain ⟨r, c, x, xs, n, m, rfl, hR, hC, k0, k1⟩ := h
  refine ⟨_, (pss_cons (ps_if (pt_cmpR op_lt (pe_ix (ix_listK (K := K) rfl) (pe_ix (ix_listK (K := K) rfl) (pv 0) pe_int (fun _ _ => rfl)) pe_int (fun _ _ => rfl)) (pv 1) (nomark _)) (pss_one (ps_ret pe_bl)) pss_nil)
    (pss_cons (ps_asg (pe_op op_sub (pe_ix (ix_listK (K := K) rfl) (pe_ix (ix_listK (K := K) rfl) (pv 0) pe_int (fun _ _ => rfl)) pe_int (fun _ _ => rfl)) (pv 1)) (pg_sub (pe_ix (ix_listK (K := K) rfl) (pv 0) pe_int (fun _ _ => rfl)) pe_int set_list))
    (pss_one (ps_ret pe_bl)))), ?_⟩
  refine ⟨_, rfl, r, _, _, _, rfl, rfl, SqL.of hR, at_of (j := 1) rfl rfl, c, _, _, _, rfl, rfl, SqL.of hC, at_of (j := 0) rfl rfl, _, rfl, _, _, rfl, rfl, _, rfl, ?_⟩
  refine ite2 (fun c1 => k0 (of_decide_eq_true c1)) (fun c1 => ?_)
  have c1' : ¬ n < m := of_decide_eq_false (Bool.eq_false_iff.mpr c1)
  refine ⟨_, rfl, r, _, _, _, rfl, rfl, SqL.of hR, at_of (j := 1) rfl rfl, c, _, _, _, rfl, rfl, SqL.of hC, at_of (j := 0) rfl rfl, _, rfl, _, _, rfl, rfl, ?_⟩
  refine ⟨_, rfl, r, _, _, _, rfl, rfl, SqL.of hR, at_of (j := 1) rfl rfl, c, _, _, 0, rfl, rfl, hC, rfl, ?_⟩
  exact k1 (by omega)
end
end Lz

set_option Elab.async false
set_option linter.all false
set_option maxRecDepth 100000
set_option maxHeartbeats 4000000
namespace Lz
open PySem PySem.Spec PyProof.Rows L2
/-- what a drawing of a part finds: pen, world, scope, how many parts and which names are left -/
structure En (K : PySem.W.Frag) (H : Hp) (W : List (Str × Int)) (sc : List Str) (p a wl sl c st : Addr) (n : Int) (ss : List Str) : Prop where
  pen : PenAt H p a
  wld : WAt K H wl W
  scp : H sl = some (.lst (sc.map V.str))
  cnt : H c = some (.lst [.int n])
  stk : H st = some (.lst (ss.map V.str))
  dw : ¬ wl ∈ [p, c, st]
  ds : ¬ sl ∈ [p, c, st]
  da : ¬ a ∈ [p, c, st]
  pc : p ≠ c
  ps : p ≠ st
  cs : c ≠ st
  nw : ∀ f, f ∈ W → nmOk f.1 ∧ 0 ≤ f.2 ∧ f.2 ≤ 4
  nc : ∀ x, x ∈ sc → nmOk x
  ns : ∀ x, x ∈ ss → nmOk x
  lw : W.length ≤ 8
  ls : sc.length + ss.length ≤ 100
theorem mem3 {p c st : Addr} : p ∈ [p, c, st] ∧ c ∈ [p, c, st] ∧ st ∈ [p, c, st] := ⟨List.mem_cons_self, List.mem_cons_of_mem _ List.mem_cons_self, List.mem_cons_of_mem _ (List.mem_cons_of_mem _ List.mem_cons_self)⟩
theorem sub3 {p c st : Addr} : ∀ x, x ∈ [p] → x ∈ [p, c, st] := fun x h => by rw [List.mem_singleton.mp h]; exact mem3.1
theorem not3 {p c st x : Addr} (h1 : x ≠ p) (h2 : x ≠ c) (h3 : x ≠ st) : ¬ x ∈ [p, c, st] := fun m => by
  rcases List.mem_cons.mp m with e | m
  · exact h1 e
  · rcases List.mem_cons.mp m with e | m
    · exact h2 e
    · exact h3 (List.mem_singleton.mp m)
section
variable {K : PySem.W.Frag} {H H' : Hp} {W : List (Str × Int)} {sc : List Str} {p a wl sl c st : Addr} {n n' : Int} {ss ss' : List Str}
theorem En.step (E : En K H W sc p a wl sl c st n ss) (k : Kp [p, c, st] H H') (pen : PenAt H' p a) (hc : H' c = some (.lst [.int n'])) (hs : H' st = some (.lst (ss'.map V.str))) (hx : ∀ x, x ∈ ss' → x ∈ ss) (hl : ss'.length ≤ ss.length) : En K H' W sc p a wl sl c st n' ss' where
  pen := pen
  wld := E.wld.keep k E.dw
  scp := k.lst E.scp E.ds
  cnt := hc
  stk := hs
  dw := E.dw
  ds := E.ds
  da := E.da
  pc := E.pc
  ps := E.ps
  cs := E.cs
  nw := E.nw
  nc := E.nc
  ns := fun x m => E.ns x (hx x m)
  lw := E.lw
  ls := by have := E.ls; omega
theorem En.same (E : En K H W sc p a wl sl c st n ss) (k : Kp [p] H H') (pen : PenAt H' p a) : En K H' W sc p a wl sl c st n ss :=
  E.step (k.mono sub3) pen (k.lst E.cnt (not1 E.pc.symm)) (k.lst E.stk (not1 E.ps.symm)) (fun _ m => m) (Nat.le_refl _)
theorem En.new {q : Addr} {o : HO} (E : En K H W sc p a wl sl c st n ss) (h : H q = none) : En K (upd H q o) W sc p a wl sl c st n ss := E.same (Kp.new h) (E.pen.new h)
theorem En.fresh {q : Addr} (E : En K H W sc p a wl sl c st n ss) (h : H q = none) : ¬ q ∈ [p, c, st] :=
  not3 (E.pen.apart h).1 (ne_of_none E.cnt h).symm (ne_of_none E.stk h).symm
/-- some parts less -/
theorem En.less {m : Int} (E : En K H W sc p a wl sl c st n ss) : En K (upd H c (.lst [.int m])) W sc p a wl sl c st m ss := by
  have na : c ≠ a := fun e => E.da (by rw [← e]; exact mem3.2.1)
  exact E.step (Kp.put E.cnt mem3.2.1) (E.pen.mut E.pc.symm na) upd_same (by rw [upd_ne E.cs.symm]; exact E.stk) (fun _ m => m) (Nat.le_refl _)
theorem En.room {r : Addr} {dp : Int} (E : En K H W sc p a wl sl c st n ss) (h : H r = some (.lst [.int dp, .ref c, .ref st])) : ¬ r ∈ [p, c, st] := by
  obtain ⟨ns, t, q, h1, _⟩ := E.pen
  refine not3 (ne_of h h1 fun e => ?_) (ne_of h E.cnt fun e => ?_) (ne_of h E.stk fun e => ?_)
  · have e' := HO.lst.inj e
    cases e'
  · have e' := HO.lst.inj e
    cases e'
  · have e' := HO.lst.inj e
    cases ss with
    | nil => cases e'
    | cons x r => cases e'
theorem En.nms (E : En K H W sc p a wl sl c st n ss) : Nms W sc ss := ⟨fun f m => (E.nw f m).1, E.nc, E.ns⟩
end
/-- a part is drawn -/
def Drawn (K : PySem.W.Frag) (W : List (Str × Int)) (sc : List Str) (p a c st : Addr) (dp n : Int) (ss : List Str) (H : Hp) (Q : VK) : Prop :=
  ∀ (v : V) (d : Lz.P) (H' : Hp) (n' : Int) (ss' : List Str), Kp [p, c, st] H H' → PenAt H' p a → H' c = some (.lst [.int n']) → H' st = some (.lst (ss'.map V.str)) → Dp K H' v d.data → Dr W sc dp n ss n' ss' [d] → Q v H'
def wantOk (x : Str) : Prop := x = "number" ∨ x = "pair" ∨ x = "any"
def spPart (K : PySem.W.Frag) (k : Nat) : Sp := fun vs H Q _ => ∃ (p a wl sl r c st : Addr) (want : Str) (W : List (Str × Int)) (sc ss : List Str) (dp n : Int), vs = [.ref p, .ref wl, .ref sl, .ref r, .str want] ∧
  En K H W sc p a wl sl c st n ss ∧ H r = some (.lst [.int dp, .ref c, .ref st]) ∧ 0 ≤ dp ∧ dp < k ∧ wantOk want ∧ Drawn K W sc p a c st dp n ss H Q
/-- room: one less deep than the part -/
def spCall (K : PySem.W.Frag) (k : Nat) : Sp := fun vs H Q _ => ∃ (p a wl sl r c st : Addr) (want : Str) (W : List (Str × Int)) (sc ss : List Str) (dp n : Int), vs = [.ref p, .ref wl, .ref sl, .ref r, .str want] ∧
  En K H W sc p a wl sl c st n ss ∧ H r = some (.lst [.int dp, .ref c, .ref st]) ∧ 5 ≤ dp ∧ dp < k ∧ W ≠ [] ∧ wantOk want ∧ Drawn K W sc p a c st (dp + 1) n ss H Q
def spLet (K : PySem.W.Frag) (k : Nat) : Sp := fun vs H Q _ => ∃ (p a wl sl r c st : Addr) (want : Str) (W : List (Str × Int)) (sc ss : List Str) (dp n : Int), vs = [.ref p, .ref wl, .ref sl, .ref r, .str want] ∧
  En K H W sc p a wl sl c st n ss ∧ H r = some (.lst [.int dp, .ref c, .ref st]) ∧ 0 ≤ dp ∧ dp < k ∧ wantOk want ∧ Drawn K W sc p a c st (dp + 1) n ss H Q
/-- a leaf is a part -/
theorem leaf_of {K : PySem.W.Frag} {H : Hp} {W : List (Str × Int)} {sc ss : List Str} {p a wl sl c st : Addr} {n dp : Int} {want : Str} {Q : VK} {E : XK} (En : En K H W sc p a wl sl c st n ss) (D : Drawn K W sc p a c st dp n ss H Q) : spLeaf K [.ref p, .ref wl, .ref sl, .str want] H Q E :=
  ⟨p, a, wl, sl, want, W, sc, rfl, En.pen, En.wld, En.scp, fun e => En.dw (by rw [e]; exact mem3.1), fun e => En.ds (by rw [e]; exact mem3.1), fun f m => (En.nw f m).1, En.nc, Nat.le_trans En.lw (by decide), (by have := En.ls; omega),
    fun v d H' k pen hd hr => D v d H' n ss (k.mono sub3) pen (k.lst En.cnt (not1 En.pc.symm)) (k.lst En.stk (not1 En.ps.symm)) hd (hr _ _ _)⟩
section
variable {P : Program} {w : World} {K : PySem.W.Frag} {mg : Str → Option Value} {base : Heap} {f : Addr} {fd : FuncData}
abbrev sLCall : Stmt := topS 16
theorem scLCall : FnScope ["_law_pen_here", "_law_world", "_law_scope", "_law_room", "_law_want", "_law_name", "_law_wanted", "_law_many", "_law_part_here", "_law_inner", "_law_k"] ["_law_pen_here", "_law_world", "_law_scope", "_law_room", "_law_want"] (defScope sLCall) := ⟨rfl, rfl, rfl, by decide +kernel, rfl, by decide +kernel, by decide +kernel⟩
theorem ok_call {k j : Nat} (hj : 3 ≤ j) (F : Fun K "_law_call" "_law_call" sLCall f fd) (B : Bt mg) (CLDraw : C8.Cal P w K mg base 1 "_law_draw" (spDraw K) []) (CLLeaf : C8.Cal P w K mg base 3 "_law_leaf" (spLeaf K) []) (CLFits : C8.Cal P w K mg base 1 "_law_fits" (spFits K) [])
    (CLPart : C8.Cal P w K mg base j "_law_part" (spPart K k) []) : FnOk P w K mg base CX0 (j + 1) f fd ["_law_pen_here", "_law_world", "_law_scope", "_law_room", "_law_want"] (spCall K k) := by
  have ml := B.len
  have mmax := B.max
  have mrange := B.range
  refine F.ok scLCall (fun vs H Q E h => ?_) (fun cdv A outer s H vs Q E hr h => ?_)
  · obtain ⟨p, a, wl, sl, r, c, st, want, W, sc, ss, dp, n, rfl, _⟩ := h
    rfl
  obtain ⟨p, a, wl, sl, r, c, st, want, W, sc, ss, dp, n, rfl, En0, hR, hdp5, hdpk, hW0, hwant, D⟩ := h
  refine ⟨_, (pss_cons (ps_asg (pe_ix (ix_listK (K := K) rfl) (pv 1) (C8.pe_c CLDraw hr (by first | decide | omega) (by rfl) (pa_cons (pv 0) (pa_cons (pe_callB (call_lenK (K := K) rfl) (by rfl) ml PySem.boot_len (pa_cons (pv 1) pa_nil)) pa_nil))) (fun _ _ => rfl)) (pg_tupK (K := K) (n := 2) rfl rfl (pgs_cons (pg_name (i := 5) scLCall.nd rfl (.inl rfl)) (pgs_cons (pg_name (i := 6) scLCall.nd rfl (.inl rfl)) pgs_nil))))
    (pss_cons (ps_set (i := 7) scLCall.nd rfl (.inl rfl) (pe_callB (call_max2 rfl) (by rfl) mmax (by decide +kernel) (pa_cons pe_int (pa_cons (pe_op op_add (pv 6) (pe_ix (ix_listK (K := K) rfl) (pe_lst (pa_cons pe_int (pa_cons pe_int (pa_cons pe_int (pa_cons pe_int (pa_cons pe_int (pa_cons pe_int (pa_cons pe_int (pa_cons (pe_un un_neg pe_int) pa_nil))))))))) (C8.pe_c CLDraw hr (by first | decide | omega) (by rfl) (pa_cons (pv 0) (pa_cons pe_int pa_nil))) (fun _ _ => rfl))) pa_nil))))
    (pss_cons (ps_if (pt_not (pt_truthK (K := K) rfl (C8.pe_c CLFits hr (by first | decide | omega) (by rfl) (pa_cons (pv 3) (pa_cons (pe_op op_mul pe_int (pv 7)) pa_nil))) (fun _ => rfl))) (pss_one (ps_ret (C8.pe_c CLLeaf hr (by first | decide | omega) (by rfl) (pa_cons (pv 0) (pa_cons (pv 1) (pa_cons (pv 2) (pa_cons (pv 4) pa_nil))))))) pss_nil)
    (pss_cons (ps_set (i := 8) scLCall.nd rfl (.inl rfl) (pe_tup (pa_cons pe_str (pa_cons (pv 5) pa_nil))))
    (pss_cons (ps_set (i := 9) scLCall.nd rfl (.inl rfl) (pe_lst (pa_cons (pe_op op_sub (pe_ix (ix_listK (K := K) rfl) (pv 3) pe_int (fun _ _ => rfl)) (pv 7)) (pa_cons (pe_ix (ix_listK (K := K) rfl) (pv 3) pe_int (fun _ _ => rfl)) (pa_cons (pe_ix (ix_listK (K := K) rfl) (pv 3) pe_int (fun _ _ => rfl)) pa_nil)))))
    (pss_cons (ps_for PassesOwn.never rfl (pi_range1 (by rfl) mrange (pa_cons (pv 7) pa_nil)) (pg_name (i := 10) scLCall.nd rfl (.inl rfl)) (pss_one (ps_set (i := 8) scLCall.nd rfl (.inl rfl) (pe_tup (pa_cons pe_str (pa_cons (pv 8) (pa_cons (C8.pe_c CLPart hr (by first | decide | omega) (by rfl) (pa_cons (pv 0) (pa_cons (pv 1) (pa_cons (pv 2) (pa_cons (pv 9) (pa_cons (pe_ix (ix_listK (K := K) rfl) (pe_lst (pa_cons pe_str (pa_cons pe_str pa_nil))) (pe_op op_fdiv (C8.pe_c CLDraw hr (by first | decide | omega) (by rfl) (pa_cons (pv 0) (pa_cons pe_int pa_nil))) pe_int) (fun _ _ => rfl)) pa_nil)))))) pa_nil)))))))
    (pss_one (ps_ret (pv 8))))))))), ?_⟩
  have hWl : 0 < W.length := List.length_pos_iff.mpr hW0
  -- name, wanted
  obtain ⟨ws, hws, hdpw⟩ := id En0.wld
  have hlw : ws.length = W.length := by rw [hdpw.length, List.length_map]
  have lw := En0.lw
  refine ⟨_, rfl, _, rfl, _, rfl, wl, _, rfl, .inl (SqL.of hws), p, a, _, rfl, En0.pen, (by rw [hlw]; omega), (by rw [hlw]; omega), fun z H1 k1 pen1 z0 z1 => ?_⟩
  rw [hlw] at z1
  have hz : z.toNat < W.length := by omega
  have En1 := En0.same k1 pen1
  have hR1 := k1.lst hR (fun m => En0.room hR (sub3 _ m))
  obtain ⟨ws, hws, hdpw⟩ := id En1.wld
  obtain ⟨v, hv, hvd⟩ := hdpw.get (i := z.toNat) (d := wD W[z.toNat]) (by rw [List.getElem?_map, List.getElem?_eq_getElem hz]; rfl)
  obtain ⟨t, xs, rfl, ht, hxs⟩ := hvd.tup_of
  have hmem := List.getElem_mem hz
  generalize W[z.toNat] = fw at hmem hxs hvd
  obtain ⟨fn, wn⟩ := fw
  obtain ⟨hfn, hwn0, hwn4⟩ := En0.nw _ hmem
  obtain rfl : xs = [.str fn, .int wn] := by
    cases hxs with
    | cons h1 h2 =>
      cases h1
      cases h2 with
      | cons h3 h4 =>
        cases h3
        cases h4
        rfl
  refine ⟨wl, _, _, _, rfl, rfl, SqL.of hws, at_of (j := z.toNat) (by omega) hv, t, _, rfl, ht, rfl, _, _, rfl, _, _, rfl, rfl, ?_⟩
  -- many
  refine ⟨_, rfl, _, rfl, (by show 8 ≤ sizeLine; decide), fun l hl => ?_⟩
  have En2 := En1.new (o := .lst [.int 0, .int 0, .int 0, .int 0, .int 0, .int 0, .int 1, .int (-1)]) hl
  have nl := En1.fresh hl
  have hl2 : (upd H1 l (.lst [.int 0, .int 0, .int 0, .int 0, .int 0, .int 0, .int 1, .int (-1)])) l = some (.lst [.int 0, .int 0, .int 0, .int 0, .int 0, .int 0, .int 1, .int (-1)]) := upd_same
  have k2 : Kp [p, c, st] H (upd H1 l (.lst [.int 0, .int 0, .int 0, .int 0, .int 0, .int 0, .int 1, .int (-1)])) := (k1.mono sub3).trans (Kp.new hl)
  have hR2 := (Kp.new (S := []) (o := .lst [.int 0, .int 0, .int 0, .int 0, .int 0, .int 0, .int 1, .int (-1)]) hl).lst hR1 (fun m => nomatch m)
  refine ⟨_, rfl, p, a, 8, rfl, En2.pen, (by decide), (by decide), fun y H3 k3 pen3 y0 y1 => ?_⟩
  have En3 := En2.same k3 pen3
  have hl3 := k3.lst hl2 (fun m => nl (sub3 _ m))
  have hR3 := k3.lst hR2 (fun m => En2.room hR2 (sub3 _ m))
  have k3' := k2.trans (k3.mono sub3)
  obtain ⟨e, he, he0, he1⟩ : ∃ e : Int, ([.int 0, .int 0, .int 0, .int 0, .int 0, .int 0, .int 1, .int (-1)] : List V)[y.toNat]? = some (.int e) ∧ -1 ≤ e ∧ e ≤ 1 := by
    have h0 : y.toNat < 8 := by omega
    generalize y.toNat = j at h0
    match j, h0 with
    | 0, _ => exact ⟨0, rfl, by omega⟩
    | 1, _ => exact ⟨0, rfl, by omega⟩
    | 2, _ => exact ⟨0, rfl, by omega⟩
    | 3, _ => exact ⟨0, rfl, by omega⟩
    | 4, _ => exact ⟨0, rfl, by omega⟩
    | 5, _ => exact ⟨0, rfl, by omega⟩
    | 6, _ => exact ⟨1, rfl, by omega⟩
    | 7, _ => exact ⟨-1, rfl, by omega⟩
  refine ⟨l, _, _, _, rfl, rfl, SqL.of hl3, at_of (j := y.toNat) (by omega) he, _, _, rfl, rfl, _, _, rfl, ?_⟩
  obtain ⟨m, hm, hm5⟩ : ∃ m : Nat, (if wn + e > 0 then wn + e else 0) = (m : Int) ∧ m ≤ 5 := ⟨(if wn + e > 0 then wn + e else 0).toNat, by split <;> omega, by split <;> omega⟩
  show tSeq _ _ _ [some (.ref p), some (.ref wl), some (.ref sl), some (.ref r), some (.str want), some (.str fn), some (.int wn), some (.int (if wn + e > 0 then wn + e else 0)), none, none, none] H3
  rw [hm]
  clear k1 k2 hR1 hR2 hl2 hl3 En1 En2
  -- does it fit
  refine ⟨_, rfl, _, rfl, _, _, rfl, rfl, .inl ⟨by decide, by decide⟩, r, c, _, _, n, _, rfl, hR3, En3.cnt, fun hlt => ?_, fun hle => ?_⟩
  · refine ⟨false, rfl, ?_⟩
    refine ⟨_, rfl, _, rfl, _, rfl, _, rfl, ?_⟩
    exact leaf_of (E := C8.E0) (dp := dp + 1) En3 fun v d H' n' ss' kk => D v d H' n' ss' (k3'.trans kk)
  · refine ⟨true, rfl, ?_⟩
    have En4 := En3.less (m := n - 2 * m)
    have k4 : Kp [p, c, st] H (upd H3 c (.lst [.int (n - 2 * m)])) := k3'.trans (Kp.put En3.cnt mem3.2.1)
    have hR4 : (upd H3 c (.lst [.int (n - 2 * m)])) r = some (.lst [.int dp, .ref c, .ref st]) := by
      rw [upd_ne (fun e => En3.room hR3 (by rw [e]; exact mem3.2.1))]
      exact hR3
    generalize upd H3 c (.lst [.int (n - 2 * m)]) = H4 at En4 k4 hR4 ⊢
    -- the function, the room within
    refine ⟨_, rfl, (by show 2 ≤ sizeLine; decide), fun q0 hq0 => ?_⟩
    have En5 := En4.new (o := .tup [.str "fun", .str fn]) hq0
    have k5 : Kp [p, c, st] H (upd H4 q0 (.tup [.str "fun", .str fn])) := k4.trans (Kp.new hq0)
    have hR5 : (upd H4 q0 (.tup [.str "fun", .str fn])) r = some (.lst [.int dp, .ref c, .ref st]) := by rw [upd_ne (ne_of_none hR4 hq0)]; exact hR4
    have hd5 : Dp K (upd H4 q0 (.tup [.str "fun", .str fn])) (.ref q0) (Lz.P.fn fn).data := Dp.newT hq0 (.cons (.str _) (.cons (.str _) .nil)) rfl
    generalize upd H4 q0 (.tup [.str "fun", .str fn]) = H5 at En5 k5 hR5 hd5 ⊢
    refine ⟨_, rfl, r, _, _, _, rfl, rfl, SqL.of hR5, at_of (j := 0) rfl rfl, _, rfl, _, _, rfl, rfl, _, rfl, r, _, _, _, rfl, rfl, SqL.of hR5, at_of (j := 1) rfl rfl, _, rfl, r, _, _, _, rfl, rfl, SqL.of hR5, at_of (j := 2) rfl rfl, (by show 3 ≤ sizeLine; decide), fun r2 hr2 => ?_⟩
    have En6 := En5.new (o := .lst [.int (dp - m), .ref c, .ref st]) hr2
    have k6 : Kp [p, c, st] H (upd H5 r2 (.lst [.int (dp - m), .ref c, .ref st])) := k5.trans (Kp.new hr2)
    have hR6 : (upd H5 r2 (.lst [.int (dp - m), .ref c, .ref st])) r2 = some (.lst [.int (dp - m), .ref c, .ref st]) := upd_same
    have hd6 : Dp K (upd H5 r2 (.lst [.int (dp - m), .ref c, .ref st])) (.ref q0) (gives (.fn fn) []).data := Dp.keep (S := []) (Kp.new hr2) _ _ (data_fz _) hd5
    generalize upd H5 r2 (.lst [.int (dp - m), .ref c, .ref st]) = H6 at En6 k6 hR6 hd6 ⊢
    clear En0 En3 En4 En5 hR hR3 hR4 hR5 hd5 k3 k4 k5
    -- the things
    refine ⟨_, rfl, _, rfl, (by omega), (by omega), for_range (lo := 0) (n := (m : Int).toNat) (fun i σ H' => ∃ (v : V) (n' : Int) (ss' : List Str) (as : List Lz.P) (v10 : Option V),
        σ = [some (.ref p), some (.ref wl), some (.ref sl), some (.ref r), some (.str want), some (.str fn), some (.int wn), some (.int m), some v, some (.ref r2), v10] ∧ as.length = i ∧ Kp [p, c, st] H H' ∧ En K H' W sc p a wl sl c st n' ss' ∧
          H' r2 = some (.lst [.int (dp - m), .ref c, .ref st]) ∧ Dp K H' v (gives (.fn fn) as).data ∧ Dr W sc (dp - m) (n - 2 * m) ss n' ss' as)
      ⟨.ref q0, n - 2 * m, ss, [], none, rfl, rfl, k6, En6, hR6, hd6, .nil⟩ ?_ ?_⟩
    · rintro i σ H7 hi ⟨v, n', ss', as, v10, rfl, hlen, k7, En7, hR7, hd7, hdr⟩
      refine ⟨_, rfl, _, rfl, _, rfl, _, rfl, _, rfl, (by show 2 ≤ sizeLine; decide), fun l hl => ?_⟩
      have En8 := En7.new (o := .lst [.str "number", .str "any"]) hl
      have nl := En7.fresh hl
      have hl8 : (upd H7 l (.lst [.str "number", .str "any"])) l = some (.lst [.str "number", .str "any"]) := upd_same
      have hR8 : (upd H7 l (.lst [.str "number", .str "any"])) r2 = some (.lst [.int (dp - m), .ref c, .ref st]) := by rw [upd_ne (ne_of_none hR7 hl)]; exact hR7
      have k8 : Kp [p, c, st] H7 (upd H7 l (.lst [.str "number", .str "any"])) := Kp.new hl
      refine ⟨_, rfl, p, a, 3, rfl, En8.pen, (by decide), (by decide), fun g H9 k9 pen9 g0 g1 => ?_⟩
      have En9 := En8.same k9 pen9
      have hl9 := k9.lst hl8 (fun m => nl (sub3 _ m))
      have hR9 := k9.lst hR8 (fun m => En8.room hR8 (sub3 _ m))
      have k9' := k8.trans (k9.mono sub3)
      obtain ⟨wt, hwt, hwt'⟩ : ∃ wt : Str, ([.str "number", .str "any"] : List V)[(g / 2).toNat]? = some (.str wt) ∧ wantOk wt := by
        have h0 : (g / 2).toNat < 2 := by omega
        generalize (g / 2).toNat = j at h0
        match j, h0 with
        | 0, _ => exact ⟨_, rfl, .inl rfl⟩
        | 1, _ => exact ⟨_, rfl, .inr (.inr rfl)⟩
      refine ⟨_, _, rfl, rfl, ⟨by decide, by decide⟩, l, _, _, _, rfl, rfl, SqL.of hl9, at_of (j := (g / 2).toNat) (by show g / 2 = _; omega) hwt, ?_⟩
      refine ⟨p, a, wl, sl, r2, c, st, wt, W, sc, ss', dp - m, n', rfl, En9, hR9, (by omega), (by omega), hwt', fun u d H10 n2 ss2 k10 pen10 hc10 hs10 hd10 hdr10 => ?_⟩
      have En10 := En9.step k10 pen10 hc10 hs10 hdr10.sub hdr10.len
      have hR10 := k10.lst hR9 (En9.room hR9)
      have kk := k9'.trans k10
      have hd11 := Dp.keep kk _ _ (data_fz _) hd7
      refine ⟨(by show 3 ≤ sizeLine; decide), fun q hq => ?_⟩
      refine ⟨_, n2, ss2, as ++ [d], _, rfl, by rw [List.length_append, hlen]; rfl, k7.trans (kk.trans (Kp.new hq)), En10.new hq, by rw [upd_ne (ne_of_none hR10 hq)]; exact hR10, ?_, hdr.append hdr10⟩
      rw [gives_snoc]
      refine Dp.newT hq (.cons (.str _) (.cons hd11 (.cons hd10 .nil))) ?_
      show (true && (fz _ && (fz _ && true))) = true
      rw [data_fz, data_fz]
      rfl
    · rintro σ H7 ⟨v, n', ss', as, v10, rfl, hlen, k7, En7, hR7, hd7, hdr⟩
      refine ⟨_, rfl, D v _ H7 n' ss' k7 En7.pen En7.cnt En7.stk hd7 ?_⟩
      have hl : (as.length : Int) = m := by omega
      refine .call hmem (by omega) (by omega) (by omega) ?_ .nil
      have e1 : dp + 1 - 1 - (as.length : Int) = dp - m := by omega
      have e2 : n - 2 * (as.length : Int) = n - 2 * m := by omega
      rw [e1, e2]
      exact hdr
end
end Lz

set_option Elab.async false
set_option linter.all false
set_option maxRecDepth 100000
set_option maxHeartbeats 4000000
namespace Lz
open PySem PySem.Spec PyProof.Rows L2
theorem En.scope {K : PySem.W.Frag} {H : Hp} {W : List (Str × Int)} {sc sc' : List Str} {p a wl sl c st q : Addr} {n : Int} {ss : List Str} (E : En K H W sc p a wl sl c st n ss) (hq : H q = some (.lst (sc'.map V.str))) (nq : ¬ q ∈ [p, c, st]) (nc : ∀ x, x ∈ sc' → nmOk x) (ls : sc'.length + ss.length ≤ 100) : En K H W sc' p a wl q c st n ss :=
  ⟨E.pen, E.wld, hq, E.cnt, E.stk, E.dw, nq, E.da, E.pc, E.ps, E.cs, E.nw, nc, E.ns, E.lw, ls⟩
theorem En.mut {K : PySem.W.Frag} {H : Hp} {W : List (Str × Int)} {sc : List Str} {p a wl sl c st D : Addr} {n : Int} {ss : List Str} {xs : List V} {o : HO} (E : En K H W sc p a wl sl c st n ss) (h : H D = some (.lst xs)) (nS : ¬ D ∈ [p, c, st]) (na : D ≠ a) (nw : D ≠ wl) (nl : D ≠ sl) : En K (upd H D o) W sc p a wl sl c st n ss :=
  ⟨E.pen.mut (fun e => nS (by rw [e]; exact mem3.1)) na, E.wld.keep (Kp.put h List.mem_cons_self) (not1 nw.symm), by rw [upd_ne nl.symm]; exact E.scp, by rw [upd_ne (fun e => nS (by rw [← e]; exact mem3.2.1))]; exact E.cnt, by rw [upd_ne (fun e => nS (by rw [← e]; exact mem3.2.2))]; exact E.stk,
    E.dw, E.ds, E.da, E.pc, E.ps, E.cs, E.nw, E.nc, E.ns, E.lw, E.ls⟩
/-- an address that is new is none of what is there -/
theorem En.apart {K : PySem.W.Frag} {H : Hp} {W : List (Str × Int)} {sc : List Str} {p a wl sl c st D : Addr} {n : Int} {ss : List Str} (E : En K H W sc p a wl sl c st n ss) (h : H D = none) : ¬ D ∈ [p, c, st] ∧ D ≠ a ∧ D ≠ wl ∧ D ≠ sl := by
  obtain ⟨ws, h1, _⟩ := E.wld
  exact ⟨E.fresh h, (E.pen.apart h).2, (ne_of_none h1 h).symm, (ne_of_none E.scp h).symm⟩
theorem drop_rev {ss : List Str} {k : Nat} (h : k < ss.length) : (ss.drop k).reverse = (ss.drop (k + 1)).reverse ++ [ss[k]] := by
  rw [List.drop_eq_getElem_cons h, List.reverse_cons]
theorem zip_snoc {nm : List Str} {as : List Lz.P} {d : Lz.P} {x : Str} (h : nm[as.length]? = some x) : List.zipWith rowD (nm.take (as.length + 1)) (Lz.P.datas (as ++ [d])) = List.zipWith rowD (nm.take as.length) (Lz.P.datas as) ++ [rowD x d.data] := by
  obtain ⟨hl, hx⟩ := List.getElem?_eq_some_iff.mp h
  rw [datas_map, datas_map, List.map_append, List.take_add_one, h]
  show List.zipWith rowD (nm.take as.length ++ [x]) (as.map Lz.P.data ++ [d.data]) = _
  rw [List.zipWith_append (by rw [List.length_take, List.length_map]; omega)]
  rfl
section
variable {P : Program} {w : World} {K : PySem.W.Frag} {mg : Str → Option Value} {base : Heap} {f : Addr} {fd : FuncData}
abbrev sLLet : Stmt := topS 17
theorem scLLet : FnScope ["_law_pen_here", "_law_world", "_law_scope", "_law_room", "_law_want", "_law_many", "_law_names_here", "_law_rows_here", "_law_name", "_law_kind", "_law_k"] ["_law_pen_here", "_law_world", "_law_scope", "_law_room", "_law_want"] (defScope sLLet) := ⟨rfl, rfl, rfl, by decide +kernel, rfl, by decide +kernel, by decide +kernel⟩
theorem ok_let {k j : Nat} (hj : 3 ≤ j) (F : Fun K "_law_let" "_law_let" sLLet f fd) (B : Bt mg) (CLDraw : C8.Cal P w K mg base 1 "_law_draw" (spDraw K) []) (CLLeaf : C8.Cal P w K mg base 3 "_law_leaf" (spLeaf K) []) (CLFits : C8.Cal P w K mg base 1 "_law_fits" (spFits K) [])
    (CLPart : C8.Cal P w K mg base j "_law_part" (spPart K k) []) : FnOk P w K mg base CX0 (j + 1) f fd ["_law_pen_here", "_law_world", "_law_scope", "_law_room", "_law_want"] (spLet K k) := by
  have ml := B.len
  have mtup := B.tuple
  have mrange := B.range
  refine F.ok scLLet (fun vs H Q E h => ?_) (fun cdv A outer s H vs Q E hr h => ?_)
  · obtain ⟨p, a, wl, sl, r, c, st, want, W, sc, ss, dp, n, rfl, _⟩ := h
    rfl
  obtain ⟨p, a, wl, sl, r, c, st, want, W, sc, ss, dp, n, rfl, En0, hR, hdp0, hdpk, hwant, D⟩ := h
  refine ⟨_, (pss_cons (ps_set (i := 5) scLLet.nd rfl (.inl rfl) (pe_ix (ix_listK (K := K) rfl) (pe_lst (pa_cons pe_int (pa_cons pe_int (pa_cons pe_int (pa_cons pe_int (pa_cons pe_int (pa_cons pe_int (pa_cons pe_int pa_nil)))))))) (C8.pe_c CLDraw hr (by first | decide | omega) (by rfl) (pa_cons (pv 0) (pa_cons pe_int pa_nil))) (fun _ _ => rfl)))
    (pss_cons (ps_if (PW.pt (pw_or (pt_cmpR op_lt (pe_callB (call_lenK (K := K) rfl) (by rfl) ml PySem.boot_len (pa_cons (pe_ix (ix_listK (K := K) rfl) (pv 3) pe_int (fun _ _ => rfl)) pa_nil)) (pv 5) (nomark _)) (pw_or1 (pt_not (pt_truthK (K := K) rfl (C8.pe_c CLFits hr (by first | decide | omega) (by rfl) (pa_cons (pv 3) (pa_cons (pe_op op_add (pv 5) pe_int) pa_nil))) (fun _ => rfl)))))) (pss_one (ps_ret (C8.pe_c CLLeaf hr (by first | decide | omega) (by rfl) (pa_cons (pv 0) (pa_cons (pv 1) (pa_cons (pv 2) (pa_cons (pv 4) pa_nil))))))) pss_nil)
    (pss_cons (ps_setLc (i := 6) (own := [("_law_k", 10)]) rfl scLLet.nd rfl rfl (sw_true rfl rfl rfl (by decide +kernel)) (pi_range1 (by rfl) mrange (pa_cons (pv 5) pa_nil)) (blkOk_by (N := ["_law_pen_here", "_law_world", "_law_scope", "_law_room", "_law_want", "_law_many", "_law_names_here", "_law_rows_here", "_law_name", "_law_kind", "_law_k"]) (sc := defScope sLLet) (by decide +kernel)) (fun _ _ _ _ _ => (pg_name (i := 10) scLLet.nd rfl (.inl rfl))) (fun _ _ _ _ _ => pts_nil) (fun _ _ _ _ _ => (pe_bm0K (K := K) rfl PySem.F.plainAttrs_list PySem.F.slot_list_pop PySem.F.type_list_pop mt_pop (pe_ix (ix_listK (K := K) rfl) (pv 3) pe_int (fun _ _ => rfl)))))
    (pss_cons (ps_set (i := 7) scLLet.nd rfl (.inl rfl) (pe_lst pa_nil))
    (pss_cons (ps_for PassesOwn.never rfl (pi_listK (K := K) rfl (pv 6)) (pg_name (i := 8) scLLet.nd rfl (.inl rfl)) (pss_cons (ps_set (i := 9) scLLet.nd rfl (.inl rfl) (pe_ix (ix_listK (K := K) rfl) (pe_lst (pa_cons pe_str (pa_cons pe_str (pa_cons pe_str pa_nil)))) (C8.pe_c CLDraw hr (by first | decide | omega) (by rfl) (pa_cons (pv 0) (pa_cons pe_int pa_nil))) (fun _ _ => rfl)))
    (pss_one (ps_expr (pe_bmK (K := K) rfl PySem.F.plainAttrs_list PySem.F.slot_list_append PySem.F.type_list_append mt_append (pv 7) (pa_cons (pe_tup (pa_cons (pv 8) (pa_cons (C8.pe_c CLPart hr (by first | decide | omega) (by rfl) (pa_cons (pv 0) (pa_cons (pv 1) (pa_cons (pe_op op_cat (pv 2) (pv 6)) (pa_cons (pv 3) (pa_cons (pv 9) pa_nil)))))) pa_nil))) pa_nil))))))
    (pss_one (ps_ret (pe_tup (pa_cons pe_str (pa_cons (pe_callTy (call_tupleK (K := K) rfl) (by rfl) mtup (by decide +kernel) (pa_cons (pv 7) pa_nil)) (pa_cons (C8.pe_c CLPart hr (by first | decide | omega) (by rfl) (pa_cons (pv 0) (pa_cons (pv 1) (pa_cons (pe_op op_cat (pv 2) (pv 6)) (pa_cons (pv 3) (pa_cons (pv 4) pa_nil)))))) pa_nil))))))))))), ?_⟩
  -- many
  refine ⟨(by show 7 ≤ sizeLine; decide), fun l hl => ?_⟩
  have En1 := En0.new (o := .lst [.int 1, .int 1, .int 2, .int 1, .int 2, .int 3, .int 4]) hl
  have nl := En0.fresh hl
  have hl1 : (upd H l (.lst [.int 1, .int 1, .int 2, .int 1, .int 2, .int 3, .int 4])) l = some (.lst [.int 1, .int 1, .int 2, .int 1, .int 2, .int 3, .int 4]) := upd_same
  have hR1 : (upd H l (.lst [.int 1, .int 1, .int 2, .int 1, .int 2, .int 3, .int 4])) r = some (.lst [.int dp, .ref c, .ref st]) := by rw [upd_ne (ne_of_none hR hl)]; exact hR
  have k1 : Kp [p, c, st] H (upd H l (.lst [.int 1, .int 1, .int 2, .int 1, .int 2, .int 3, .int 4])) := Kp.new hl
  refine ⟨_, rfl, p, a, 7, rfl, En1.pen, (by decide), (by decide), fun y H2 k2 pen2 y0 y1 => ?_⟩
  have En2 := En1.same k2 pen2
  have hl2 := k2.lst hl1 (fun m => nl (sub3 _ m))
  have hR2 := k2.lst hR1 (fun m => En1.room hR1 (sub3 _ m))
  have k2' := k1.trans (k2.mono sub3)
  obtain ⟨m, hm, hm1, hm4⟩ : ∃ m : Nat, ([.int 1, .int 1, .int 2, .int 1, .int 2, .int 3, .int 4] : List V)[y.toNat]? = some (.int (m : Int)) ∧ 1 ≤ m ∧ m ≤ 4 := by
    have h0 : y.toNat < 7 := by omega
    generalize y.toNat = j at h0
    match j, h0 with
    | 0, _ => exact ⟨1, rfl, by omega, by omega⟩
    | 1, _ => exact ⟨1, rfl, by omega, by omega⟩
    | 2, _ => exact ⟨2, rfl, by omega, by omega⟩
    | 3, _ => exact ⟨1, rfl, by omega, by omega⟩
    | 4, _ => exact ⟨2, rfl, by omega, by omega⟩
    | 5, _ => exact ⟨3, rfl, by omega, by omega⟩
    | 6, _ => exact ⟨4, rfl, by omega, by omega⟩
  refine ⟨l, _, _, _, rfl, rfl, SqL.of hl2, at_of (j := y.toNat) (by omega) hm, ?_⟩
  clear k1 k2 hR1 hl1 hl2 En1 nl
  -- names enough, does it fit
  have hls : (ss.map V.str).length = ss.length := List.length_map _
  refine ⟨_, rfl, r, _, _, _, rfl, rfl, SqL.of hR2, at_of (j := 2) rfl rfl, st, _, rfl, .inl (SqL.of En2.stk), _, rfl, _, _, rfl, rfl, _, rfl, ?_⟩
  refine ite2 (fun c1 => ?_) (fun c1 => ?_)
  · refine ⟨_, rfl, _, rfl, _, rfl, _, rfl, ?_⟩
    exact leaf_of (E := C8.E0) (dp := dp + 1) En2 fun v d H' n' ss' kk => D v d H' n' ss' (k2'.trans kk)
  have hms : m ≤ ss.length := by
    have c1' : ¬ (((ss.map V.str).length : Nat) : Int) < (m : Int) := of_decide_eq_false (Bool.eq_false_iff.mpr c1)
    rw [hls] at c1'
    omega
  refine ⟨_, rfl, _, rfl, _, _, rfl, rfl, r, c, _, _, n, _, rfl, hR2, En2.cnt, fun hlt => ?_, fun hle => ?_⟩
  · refine ⟨false, rfl, ?_⟩
    refine ⟨_, rfl, _, rfl, _, rfl, _, rfl, ?_⟩
    exact leaf_of (E := C8.E0) (dp := dp + 1) En2 fun v d H' n' ss' kk => D v d H' n' ss' (k2'.trans kk)
  refine ⟨true, rfl, ?_⟩
  have En3 := En2.less (m := n - (m + 1))
  have k3 : Kp [p, c, st] H (upd H2 c (.lst [.int (n - (m + 1))])) := k2'.trans (Kp.put En2.cnt mem3.2.1)
  have hR3 : (upd H2 c (.lst [.int (n - (m + 1))])) r = some (.lst [.int dp, .ref c, .ref st]) := by
    rw [upd_ne (fun e => En2.room hR2 (by rw [e]; exact mem3.2.1))]
    exact hR2
  generalize upd H2 c (.lst [.int (n - (m + 1))]) = H3 at En3 k3 hR3 ⊢
  clear En2 hR2 k2'
  -- the names
  refine ⟨_, rfl, _, rfl, (by omega), (by omega), fun nl hnl => ?_⟩
  have nnl := En3.fresh hnl
  have hnl3 : H nl = none := k3.free hnl nnl
  have nst : nl ≠ st := fun e => nnl (by rw [e]; exact mem3.2.2)
  have nrl : r ≠ nl := ne_of_none hR3 hnl
  have hmt : (m : Int).toNat = m := by omega
  refine lc_range (lo := 0) (n := (m : Int).toNat) (fun i H' => Kp [p, c, st] H3 H' ∧ PenAt H' p a ∧ H' c = some (.lst [.int (n - (m + 1))]) ∧ H' st = some (.lst ((ss.take (ss.length - i)).map V.str)) ∧ H' nl = some (.lst ((ss.drop (ss.length - i)).reverse.map V.str)) ∧ H' r = some (.lst [.int dp, .ref c, .ref st]))
    ⟨Kp.new hnl, (En3.new hnl).pen, (En3.new hnl).cnt, ?_, ?_, ?_⟩ (fun i H4 hi ⟨k4, pen4, hc4, hs4, hn4, hR4⟩ => ?_) (fun H4 ⟨k4, pen4, hc4, hs4, hn4, hR4⟩ => ?_)
  · rw [upd_ne nst.symm, En3.stk, Nat.sub_zero, List.take_length]
  · rw [upd_same, Nat.sub_zero, List.drop_length]
    rfl
  · rw [upd_ne nrl]
    exact hR3
  · have hi' : i < m := by omega
    have hk : ss.length - i - 1 < ss.length := by omega
    have e1 : ss.length - (i + 1) = ss.length - i - 1 := by omega
    have e2 : ss.length - i = (ss.length - i - 1) + 1 := by omega
    refine ⟨rfl, ?_⟩
    refine ⟨_, rfl, r, _, _, _, rfl, rfl, SqL.of hR4, at_of (j := 2) rfl rfl, .inl ⟨rfl, _, SqL.of hs4⟩, st, _, .str ss[ss.length - i - 1], rfl, rfl, hs4, ?_, ?_⟩
    · rw [List.length_map, List.length_take, List.getElem?_map, Nat.min_eq_left (by omega), List.getElem?_take_of_lt (by omega), List.getElem?_eq_getElem hk]
      rfl
    · refine ⟨_, (by rw [upd_ne nst]; exact hn4), (by rw [List.length_map, List.length_reverse, List.length_drop]; exact small1000 (by omega)), ?_⟩
      have nsr : r ≠ st := fun e => En3.room hR3 (by rw [e]; exact mem3.2.2)
      refine ⟨(k4.trans (Kp.put hs4 mem3.2.2)).mut hnl, (pen4.mut (fun e => En3.ps e.symm) (fun e => En3.da (by rw [← e]; exact mem3.2.2))).mut (fun e => nnl (by rw [e]; exact mem3.1)) (En3.apart hnl).2.1, ?_, ?_, ?_, ?_⟩
      · rw [upd_ne (fun e => nnl (by rw [← e]; exact mem3.2.1)), upd_ne En3.cs]
        exact hc4
      · rw [upd_ne nst.symm, upd_same, e1, List.map_take, List.map_take, List.dropLast_eq_take, List.take_take, List.length_take, List.length_map]
        congr 3
        omega
      · rw [upd_same, e1, drop_rev hk, ← e2, List.map_append]
        rfl
      · rw [upd_ne nrl, upd_ne nsr]
        exact hR4
  rw [hmt] at hs4 hn4
  generalize hkk : ss.length - m = kk at hs4 hn4
  obtain ⟨nm, hnm⟩ : ∃ nm : List Str, nm = (ss.drop kk).reverse := ⟨_, rfl⟩
  rw [← hnm] at hn4
  have hnml : nm.length = m := by rw [hnm, List.length_reverse, List.length_drop]; omega
  have hnms : ∀ x, x ∈ nm → nmOk x := fun x hx => En3.ns x (by
    rw [hnm] at hx
    exact List.mem_of_mem_drop (List.mem_reverse.mp hx))
  have En4 := En3.step k4 pen4 hc4 hs4 (fun x hx => List.mem_of_mem_take hx) (by rw [List.length_take]; omega)
  have k4' := k3.trans k4
  -- rows
  refine ⟨Nat.zero_le _, fun lr hlr => ?_⟩
  have En5 := En4.new (o := .lst []) hlr
  obtain ⟨nlr, nlra, nlrw, nlrs⟩ := En4.apart hlr
  have hlr0 : H lr = none := k4'.free hlr nlr
  have k5 : Kp [p, c, st] H (upd H4 lr (.lst [])) := k4'.mut hlr0
  have hn5 : (upd H4 lr (.lst [])) nl = some (.lst (nm.map V.str)) := by rw [upd_ne (ne_of_none hn4 hlr)]; exact hn4
  have hR5 : (upd H4 lr (.lst [])) r = some (.lst [.int dp, .ref c, .ref st]) := by rw [upd_ne (ne_of_none hR4 hlr)]; exact hR4
  have hr5 : (upd H4 lr (.lst [])) lr = some (.lst []) := upd_same
  have nlrn : nl ≠ lr := ne_of_none hn4 hlr
  have nlrr : r ≠ lr := ne_of_none hR4 hlr
  generalize upd H4 lr (.lst []) = H5 at En5 k5 hn5 hR5 hr5 ⊢
  clear En4 En3 k4 k3 hR3 hR4 hs4 hn4 hc4 pen4
  have hls' : sc.length + nm.length + kk ≤ 100 := by have := En0.ls; omega
  refine ⟨_, rfl, nl, rfl, ⟨_, SqL.of hn5⟩, for_list (K := K) (a := nl) (xs := nm.map V.str) (fun i σ H' => ∃ (n' : Int) (ss' : List Str) (as : List Lz.P) (rs : List V) (v8 v9 : Option V),
      σ = [some (.ref p), some (.ref wl), some (.ref sl), some (.ref r), some (.str want), some (.int m), some (.ref nl), some (.ref lr), v8, v9, none] ∧ as.length = i ∧ Kp [p, c, st] H H' ∧ En K H' W sc p a wl sl c st n' ss' ∧ ss'.length ≤ kk ∧
      H' nl = some (.lst (nm.map V.str)) ∧ H' r = some (.lst [.int dp, .ref c, .ref st]) ∧ H' lr = some (.lst rs) ∧ DpAll K H' rs (List.zipWith rowD (nm.take i) (Lz.P.datas as)) ∧ Dr W (sc ++ nm) dp (n - (m + 1)) (ss.take kk) n' ss' as)
    ⟨n - (m + 1), ss.take kk, [], [], none, none, rfl, rfl, k5, En5, by rw [List.length_take]; omega, hn5, hR5, hr5, .nil, .nil⟩ (fun i σ H' _ ⟨_, _, _, _, _, _, _, _, _, _, _, h, _⟩ => SqL.of h) ?_ ?_⟩
  · rintro i x σ H6 hi ⟨n', ss', as, rs, v8, v9, rfl, hlen, k6, En6, hss, hn6, hR6, hr6, hrows, hdr⟩
    obtain ⟨nx, hnx, rfl⟩ : ∃ nx, nm[i]? = some nx ∧ x = V.str nx := by
      rw [List.getElem?_map] at hi
      cases e : nm[i]? with
      | none => rw [e] at hi; cases hi
      | some y => rw [e] at hi; exact ⟨y, rfl, (Option.some.inj hi).symm⟩
    have hil : i < nm.length := (List.getElem?_eq_some_iff.mp hnx).1
    have hrl : rs.length ≤ 4 := by
      rw [hrows.length, List.length_zipWith, List.length_take]
      omega
    -- the kind
    refine ⟨(by show 3 ≤ sizeLine; decide), fun l hl => ?_⟩
    have k7 : Kp [p, c, st] H6 (upd H6 l (.lst [.str "number", .str "pair", .str "any"])) := Kp.new hl
    have En7 := En6.new (o := .lst [.str "number", .str "pair", .str "any"]) hl
    have hl7 : (upd H6 l (.lst [.str "number", .str "pair", .str "any"])) l = some (.lst [.str "number", .str "pair", .str "any"]) := upd_same
    have nl7 := En6.fresh hl
    have hn7 := k7.lst hn6 nnl
    have hR7 := k7.lst hR6 (En6.room hR6)
    have hr7 := k7.lst hr6 nlr
    refine ⟨_, rfl, p, a, 3, rfl, En7.pen, (by decide), (by decide), fun g H8 k8 pen8 g0 g1 => ?_⟩
    have k8' := k8.mono (T := [p, c, st]) sub3
    have En8 := En7.same k8 pen8
    have hl8 := k8'.lst hl7 nl7
    have hn8 := k8'.lst hn7 nnl
    have hR8 := k8'.lst hR7 (En7.room hR7)
    have hr8 := k8'.lst hr7 nlr
    obtain ⟨wt, hwt, hwt'⟩ : ∃ wt : Str, ([.str "number", .str "pair", .str "any"] : List V)[g.toNat]? = some (.str wt) ∧ wantOk wt := by
      have h0 : g.toNat < 3 := by omega
      generalize g.toNat = j at h0
      match j, h0 with
      | 0, _ => exact ⟨_, rfl, .inl rfl⟩
      | 1, _ => exact ⟨_, rfl, .inr (.inl rfl)⟩
      | 2, _ => exact ⟨_, rfl, .inr (.inr rfl)⟩
    refine ⟨l, _, _, _, rfl, rfl, SqL.of hl8, at_of (j := g.toNat) (by omega) hwt, ?_⟩
    -- the row
    refine ⟨_, rfl, .inl ⟨rfl, _, SqL.of hr8⟩, _, rfl, _, rfl, _, rfl, _, rfl, _, rfl, sl, nl, _, _, rfl, rfl, En8.scp, hn8, (by rw [List.length_map, List.length_map]; exact Nat.le_of_lt (small1000 (by omega))), fun q hq => ?_⟩
    have k9 : Kp [p, c, st] H8 (upd H8 q (.lst (sc.map V.str ++ nm.map V.str))) := Kp.new hq
    have En9 := (En8.new (o := .lst (sc.map V.str ++ nm.map V.str)) hq).scope (sc' := sc ++ nm) (q := q) (by rw [upd_same, List.map_append]) (En8.fresh hq) (fun x hx => (List.mem_append.mp hx).elim (En8.nc x) (hnms x)) (by rw [List.length_append]; omega)
    have hR9 := k9.lst hR8 (En8.room hR8)
    have hn9 := k9.lst hn8 nnl
    have hr9 := k9.lst hr8 nlr
    have hs9 := k9.lst En8.scp En8.ds
    refine ⟨_, rfl, _, rfl, p, a, wl, q, r, c, st, wt, W, sc ++ nm, ss', dp, n', rfl, En9, hR9, hdp0, hdpk, hwt', fun u d H10 n2 ss2 k10 pen10 hc10 hs10 hd10 hdr10 => ?_⟩
    have hlen2 := hdr10.len
    have kk10 := k7.trans (k8'.trans (k9.trans k10))
    have En10 := En6.step kk10 pen10 hc10 hs10 hdr10.sub hlen2
    have hR10 := kk10.lst hR6 (En6.room hR6)
    have hn10 := kk10.lst hn6 nnl
    have hr10 := kk10.lst hr6 nlr
    have hrows10 := Dp.keepAll kk10 _ _ rows_fz hrows
    refine ⟨(by show 2 ≤ sizeLine; decide), fun t ht => ?_⟩
    have k11 : Kp [p, c, st] H10 (upd H10 t (.tup [.str nx, u])) := Kp.new ht
    have En11 := En10.new (o := .tup [.str nx, u]) ht
    have hr11 := k11.lst hr10 nlr
    have hn11 := k11.lst hn10 nnl
    have hR11 := k11.lst hR10 (En10.room hR10)
    have hrows11 := Dp.keepAll k11 _ _ rows_fz hrows10
    have hrow : Dp K (upd H10 t (.tup [.str nx, u])) (.ref t) (rowD nx d.data) := Dp.newT ht (.cons (.str _) (.cons hd10 .nil)) (by
      show (true && (fz _ && true)) = true
      rw [data_fz]
      rfl)
    refine ⟨lr, _, _, rfl, rfl, hr11, small1000 (by omega), ?_⟩
    have kput : Kp [lr] (upd H10 t (.tup [.str nx, u])) (upd (upd H10 t (.tup [.str nx, u])) lr (.lst (rs ++ [.ref t]))) := Kp.put hr11 List.mem_cons_self
    subst hlen
    refine ⟨n2, ss2, as ++ [d], rs ++ [.ref t], _, _, rfl, by rw [List.length_append]; rfl, (k6.trans (kk10.trans k11)).mut hlr0, En11.mut hr11 nlr nlra nlrw nlrs, by omega, kput.lst hn11 (not1 nlrn), kput.lst hR11 (not1 nlrr), upd_same, ?_, hdr.append hdr10⟩
    rw [zip_snoc hnx]
    exact (Dp.keepAll kput _ _ rows_fz hrows11).append (.one (Dp.keep kput _ _ (by show (true && (fz _ && true)) = true; rw [data_fz]; rfl) hrow))
  · rintro σ H6 ⟨n', ss', as, rs, v8, v9, rfl, hlen, k6, En6, hss, hn6, hR6, hr6, hrows, hdr⟩
    rw [List.length_map] at hlen hrows
    rw [List.take_length] at hrows
    -- the tuple of rows
    refine ⟨_, rfl, lr, _, rfl, .inl ⟨SqL.of hr6, fun t ht => ?_⟩⟩
    have k7 : Kp [p, c, st] H6 (upd H6 t (.tup rs)) := Kp.new ht
    have En7 := En6.new (o := .tup rs) ht
    have hd7 : Dp K (upd H6 t (.tup rs)) (.ref t) (.tuple (List.zipWith rowD nm (Lz.P.datas as))) := Dp.newT ht hrows rows_fz
    have hn7 := k7.lst hn6 nnl
    have hR7 := k7.lst hR6 (En6.room hR6)
    -- the inner part
    refine ⟨_, rfl, _, rfl, _, rfl, _, rfl, sl, nl, _, _, rfl, rfl, En7.scp, hn7, (by rw [List.length_map, List.length_map]; exact Nat.le_of_lt (small1000 (by omega))), fun q hq => ?_⟩
    have k9 : Kp [p, c, st] (upd H6 t (.tup rs)) (upd (upd H6 t (.tup rs)) q (.lst (sc.map V.str ++ nm.map V.str))) := Kp.new hq
    have En9 := (En7.new (o := .lst (sc.map V.str ++ nm.map V.str)) hq).scope (sc' := sc ++ nm) (q := q) (by rw [upd_same, List.map_append]) (En7.fresh hq) (fun x hx => (List.mem_append.mp hx).elim (En7.nc x) (hnms x)) (by rw [List.length_append]; omega)
    have hR9 := k9.lst hR7 (En7.room hR7)
    refine ⟨_, rfl, _, rfl, p, a, wl, q, r, c, st, want, W, sc ++ nm, ss', dp, n', rfl, En9, hR9, hdp0, hdpk, hwant, fun u d H10 n2 ss2 k10 pen10 hc10 hs10 hd10 hdr10 => ?_⟩
    have kk10 := k7.trans (k9.trans k10)
    have hd11 := Dp.keep (k9.trans k10) _ _ (by show fzAll _ = true; exact rows_fz) hd7
    refine ⟨(by show 3 ≤ sizeLine; decide), fun q2 hq2 => ?_⟩
    refine D _ (.lt nm as d) _ n2 ss2 ((k6.trans kk10).trans (Kp.new hq2)) (pen10.new hq2) (by rw [upd_ne (ne_of_none hc10 hq2)]; exact hc10) (by rw [upd_ne (ne_of_none hs10 hq2)]; exact hs10) ?_ ?_
    · refine Dp.newT hq2 (.cons (.str _) (.cons hd11 (.cons hd10 .nil))) ?_
      show (true && (fzAll _ && (fz _ && true))) = true
      rw [rows_fz, data_fz]
      rfl
    · have e1 : dp + 1 - 1 = dp := by omega
      refine .lt (k := kk) (by omega) (by omega) (by omega) (by rw [hnm, List.reverse_reverse]) (by omega) (by omega) (by omega) ?_ .nil
      rw [e1, hnml]
      exact hdr.append hdr10
end
end Lz

set_option Elab.async false
set_option linter.all false
set_option maxRecDepth 100000
set_option maxHeartbeats 8000000
namespace Lz
open PySem PySem.Spec PyProof.Rows L2
def wkv : List (Key × V) := putK (putK (mergeK [] [(Sum.inr "number", .str "op op op op op op when when side let call call call call leaf leaf")]) (Sum.inr "pair") (.str "pair pair pair pair when when side side let let call call call op leaf pair")) (Sum.inr "any") (.str "op op pair pair pair when when side side let let call call call leaf leaf")
def wordOk (x : Str) : Prop := x = "op" ∨ x = "when" ∨ x = "side" ∨ x = "let" ∨ x = "call" ∨ x = "leaf" ∨ x = "pair"
instance (x : Str) : Decidable (wordOk x) := by unfold wordOk; infer_instance
theorem want_text {x : Str} (h : wantOk x) : ∃ z : Str, valV wkv (Sum.inr x) = some (.str z) ∧ z.length + 2 ≤ sizeLine ∧ (Txt.split z " ").length = 16 ∧ ∀ x, x ∈ Txt.split z " " → wordOk x := by
  rcases h with rfl | rfl | rfl
  · exact ⟨"op op op op op op when when side let call call call call leaf leaf", by decide +kernel, by decide +kernel, by decide +kernel, by decide +kernel⟩
  · exact ⟨"pair pair pair pair when when side side let let call call call op leaf pair", by decide +kernel, by decide +kernel, by decide +kernel, by decide +kernel⟩
  · exact ⟨"op op pair pair pair when when side side let let call call call leaf leaf", by decide +kernel, by decide +kernel, by decide +kernel, by decide +kernel⟩
abbrev ckv : List (Key × V) := mergeK [] [(Sum.inr "side", .int 1), (Sum.inr "pair", .int 2), (Sum.inr "when", .int 3), (Sum.inr "op", .int 2)]
def costOf (x : Str) (m : Nat) : Prop := (x = "side" ∧ m = 1) ∨ (x = "pair" ∧ m = 2) ∨ (x = "when" ∧ m = 3) ∨ (x = "op" ∧ m = 2)
theorem cost_of {x : Str} {m : Nat} (h : costOf x m) : valV ckv (Sum.inr x) = some (.int m) := by
  rcases h with ⟨rfl, rfl⟩ | ⟨rfl, rfl⟩ | ⟨rfl, rfl⟩ | ⟨rfl, rfl⟩ <;> decide +kernel
abbrev okv (want : Str) : List (Key × V) := mergeK [] [(Sum.inr "pair", .str "any"), (Sum.inr "when", .str want), (Sum.inr "op", .str "number")]
theorem other_of {x want : Str} (h : wantOk want) (hx : x = "pair" ∨ x = "when" ∨ x = "op") : ∃ wt : Str, valV (okv want) (Sum.inr x) = some (.str wt) ∧ wantOk wt := by
  rcases h with rfl | rfl | rfl <;> rcases hx with rfl | rfl | rfl
  · exact ⟨"any", by decide +kernel, .inr (.inr rfl)⟩
  · exact ⟨"number", by decide +kernel, .inl rfl⟩
  · exact ⟨"number", by decide +kernel, .inl rfl⟩
  · exact ⟨"any", by decide +kernel, .inr (.inr rfl)⟩
  · exact ⟨"pair", by decide +kernel, .inr (.inl rfl)⟩
  · exact ⟨"number", by decide +kernel, .inl rfl⟩
  · exact ⟨"any", by decide +kernel, .inr (.inr rfl)⟩
  · exact ⟨"any", by decide +kernel, .inr (.inr rfl)⟩
  · exact ⟨"number", by decide +kernel, .inl rfl⟩
theorem str_of_decide {x y : Str} (c : decide (V.str x = V.str y) = true) : x = y := V.str.inj (of_decide_eq_true c)
theorem str_no_decide {x y : Str} (c : ¬ decide (V.str x = V.str y) = true) : x ≠ y := fun e => c (decide_eq_true (by rw [e]))
/-- a part of a kind -/
theorem op_dp {K : PySem.W.Frag} {H : Hp} {k : Str} {q : Addr} {vs : List V} {as : List Lz.P} (hq : H q = none) (h : DpAll K H vs (Lz.P.datas as)) : Dp K (upd H q (.tup (.str k :: vs))) (.ref q) (Lz.P.op k as).data := by
  refine Dp.newT hq (.cons (.str k) h) ?_
  show (true && fzAll (Lz.P.datas as)) = true
  rw [datas_fz]
  rfl
section
variable {P : Program} {w : World} {K : PySem.W.Frag} {mg : Str → Option Value} {base : Heap} {f : Addr} {fd : FuncData}
abbrev sLPart : Stmt := topS 18
theorem scLPart : FnScope ["_law_pen_here", "_law_world", "_law_scope", "_law_room", "_law_want", "_law_words_here", "_law_word", "_law_inner", "_law_one", "_law_other"] ["_law_pen_here", "_law_world", "_law_scope", "_law_room", "_law_want"] (defScope sLPart) := ⟨rfl, rfl, rfl, by decide +kernel, rfl, by decide +kernel, by decide +kernel⟩
theorem ok_part {k j : Nat} (hj : 3 ≤ j) (F : Fun K "_law_part" "_law_part" sLPart f fd) (B : Bt mg) (CLDraw : C8.Cal P w K mg base 1 "_law_draw" (spDraw K) []) (CLLeaf : C8.Cal P w K mg base 3 "_law_leaf" (spLeaf K) []) (CLFits : C8.Cal P w K mg base 1 "_law_fits" (spFits K) [])
    (CLPart : C8.Cal P w K mg base j "_law_part" (spPart K k) []) (CLCall : C8.Cal P w K mg base (j + 1) "_law_call" (spCall K k) []) (CLLet : C8.Cal P w K mg base (j + 1) "_law_let" (spLet K k) []) : FnOk P w K mg base CX0 (j + 2) f fd ["_law_pen_here", "_law_world", "_law_scope", "_law_room", "_law_want"] (spPart K (k + 1)) := by
  have mint := B.int
  refine F.ok scLPart (fun vs H Q E h => ?_) (fun cdv A outer s H vs Q E hr h => ?_)
  · obtain ⟨p, a, wl, sl, r, c, st, want, W, sc, ss, dp, n, rfl, _⟩ := h
    rfl
  have hu := hu_of hr
  have hu64 := hr.units
  obtain ⟨p, a, wl, sl, r, c, st, want, W, sc, ss, dp, n, rfl, En0, hR, hdp0, hdpk, hwant, D⟩ := h
  refine ⟨_, (pss_cons (ps_set (i := 5) scLPart.nd rfl (.inl rfl) (pe_disp (pps_cons pe_str pe_str pps_nil) rfl rfl (by intro q; cases q) (by decide)))
    (pss_cons (ps_dput hu (pv 5) pe_str pe_str rfl)
    (pss_cons (ps_dput hu (pv 5) pe_str pe_str rfl)
    (pss_cons (ps_set (i := 6) scLPart.nd rfl (.inl rfl) (pe_ix (ix_listK (K := K) rfl) (pe_split (pe_dget hu (pv 5) (pv 4) (fun _ _ => rfl)) pe_str) (C8.pe_c CLDraw hr (by first | decide | omega) (by rfl) (pa_cons (pv 0) (pa_cons pe_int pa_nil))) (fun _ _ => rfl)))
    (pss_cons (ps_set (i := 7) scLPart.nd rfl (.inl rfl) (pe_lst (pa_cons (pe_op op_sub (pe_ix (ix_listK (K := K) rfl) (pv 3) pe_int (fun _ _ => rfl)) pe_int) (pa_cons (pe_ix (ix_listK (K := K) rfl) (pv 3) pe_int (fun _ _ => rfl)) (pa_cons (pe_ix (ix_listK (K := K) rfl) (pv 3) pe_int (fun _ _ => rfl)) pa_nil)))))
    (pss_cons (ps_if (PW.pt (pw_or (pt_cmpR op_lt (pe_ix (ix_listK (K := K) rfl) (pv 3) pe_int (fun _ _ => rfl)) pe_int (nomark _)) (pw_or (pt_cmpR op_eq (pv 6) pe_str (nomark _)) (pw_or1 (PW.pt (pw_and (pt_cmpR op_eq (pv 6) pe_str (nomark _)) (pw_and1 (PW.pt (pw_or (pt_cmpR (op_eqDK (K := K) rfl hu64) (pv 1) (pe_lst pa_nil) (nomark _)) (pw_or1 (pt_cmpR op_lt (pe_ix (ix_listK (K := K) rfl) (pv 3) pe_int (fun _ _ => rfl)) pe_int (nomark _)))))))))))) (pss_one (ps_ret (C8.pe_c CLLeaf hr (by first | decide | omega) (by rfl) (pa_cons (pv 0) (pa_cons (pv 1) (pa_cons (pv 2) (pa_cons (pv 4) pa_nil))))))) pss_nil)
    (pss_cons (ps_if (pt_cmpR op_eq (pv 6) pe_str (nomark _)) (pss_one (ps_ret (C8.pe_c CLCall hr (by first | decide | omega) (by rfl) (pa_cons (pv 0) (pa_cons (pv 1) (pa_cons (pv 2) (pa_cons (pv 7) (pa_cons (pv 4) pa_nil)))))))) pss_nil)
    (pss_cons (ps_if (pt_cmpR op_eq (pv 6) pe_str (nomark _)) (pss_one (ps_ret (C8.pe_c CLLet hr (by first | decide | omega) (by rfl) (pa_cons (pv 0) (pa_cons (pv 1) (pa_cons (pv 2) (pa_cons (pv 7) (pa_cons (pv 4) pa_nil)))))))) pss_nil)
    (pss_cons (ps_if (pt_not (pt_truthK (K := K) rfl (C8.pe_c CLFits hr (by first | decide | omega) (by rfl) (pa_cons (pv 3) (pa_cons (pe_dget hu (pe_disp (pps_cons pe_str pe_int (pps_cons pe_str pe_int (pps_cons pe_str pe_int (pps_cons pe_str pe_int pps_nil)))) rfl rfl (by intro q; cases q) (by decide)) (pv 6) (fun _ _ => rfl)) pa_nil))) (fun _ => rfl))) (pss_one (ps_ret (C8.pe_c CLLeaf hr (by first | decide | omega) (by rfl) (pa_cons (pv 0) (pa_cons (pv 1) (pa_cons (pv 2) (pa_cons (pv 4) pa_nil))))))) pss_nil)
    (pss_cons (ps_if (pt_cmpR op_eq (pv 6) pe_str (nomark _)) (pss_one (ps_ret (pe_tup (pa_cons (pe_ix (ix_listK (K := K) rfl) (pe_lst (pa_cons pe_str (pa_cons pe_str pa_nil))) (C8.pe_c CLDraw hr (by first | decide | omega) (by rfl) (pa_cons (pv 0) (pa_cons pe_int pa_nil))) (fun _ _ => rfl)) (pa_cons (C8.pe_c CLPart hr (by first | decide | omega) (by rfl) (pa_cons (pv 0) (pa_cons (pv 1) (pa_cons (pv 2) (pa_cons (pv 7) (pa_cons pe_str pa_nil)))))) pa_nil))))) pss_nil)
    (pss_cons (ps_set (i := 8) scLPart.nd rfl (.inl rfl) (C8.pe_c CLPart hr (by first | decide | omega) (by rfl) (pa_cons (pv 0) (pa_cons (pv 1) (pa_cons (pv 2) (pa_cons (pv 7) (pa_cons (pe_ix (ix_listK (K := K) rfl) (pe_lst (pa_cons pe_str (pa_cons pe_str pa_nil))) (pe_callTy call_int1 (by rfl) mint (by decide +kernel) (pa_cons (pe_cmpR op_eq (pv 6) pe_str (nomark _)) pa_nil)) (fun _ _ => rfl)) pa_nil)))))))
    (pss_cons (ps_set (i := 9) scLPart.nd rfl (.inl rfl) (C8.pe_c CLPart hr (by first | decide | omega) (by rfl) (pa_cons (pv 0) (pa_cons (pv 1) (pa_cons (pv 2) (pa_cons (pv 7) (pa_cons (pe_dget hu (pe_disp (pps_cons pe_str pe_str (pps_cons pe_str (pv 4) (pps_cons pe_str pe_str pps_nil))) rfl rfl (by intro q; cases q) (by decide)) (pv 6) (fun _ _ => rfl)) pa_nil)))))))
    (pss_cons (ps_if (pt_cmpR op_eq (pv 6) pe_str (nomark _)) (pss_one (ps_ret (pe_tup (pa_cons pe_str (pa_cons (pv 8) (pa_cons (pv 9) pa_nil)))))) pss_nil)
    (pss_cons (ps_if (pt_cmpR op_eq (pv 6) pe_str (nomark _)) (pss_one (ps_ret (pe_tup (pa_cons pe_str (pa_cons (pv 8) (pa_cons (pv 9) (pa_cons (C8.pe_c CLPart hr (by first | decide | omega) (by rfl) (pa_cons (pv 0) (pa_cons (pv 1) (pa_cons (pv 2) (pa_cons (pv 7) (pa_cons (pv 4) pa_nil)))))) pa_nil))))))) pss_nil)
    (pss_one (ps_ret (pe_tup (pa_cons (pe_ix (ix_listK (K := K) rfl) (pe_lst (pa_cons pe_str (pa_cons pe_str (pa_cons pe_str (pa_cons pe_str pa_nil))))) (C8.pe_c CLDraw hr (by first | decide | omega) (by rfl) (pa_cons (pv 0) (pa_cons pe_int pa_nil))) (fun _ _ => rfl)) (pa_cons (pv 8) (pa_cons (pv 9) pa_nil)))))))))))))))))))), ?_⟩
  -- the words
  refine fun d hd => ⟨upd_same, [(Sum.inr _, .str _)], rfl, by decide, ?_⟩
  refine ⟨_, rfl, d, _, rfl, DPut.k (k := Sum.inr _) upd_same (by decide +kernel), ?_⟩
  refine ⟨_, rfl, d, _, rfl, DPut.k (k := Sum.inr _) upd_same (by decide +kernel), ?_⟩
  have ew : upd (upd (upd (upd H d (.dK [])) d (.dK (mergeK [] [(Sum.inr "number", .str "op op op op op op when when side let call call call call leaf leaf")]))) d (.dK (putK (mergeK [] [(Sum.inr "number", .str "op op op op op op when when side let call call call call leaf leaf")]) (Sum.inr "pair") (.str "pair pair pair pair when when side side let let call call call op leaf pair")))) d (.dK wkv) = upd H d (.dK wkv) := by
    rw [upd_upd, upd_upd, upd_upd]
  show tSeq _ _ _ _ (upd (upd (upd (upd H d (.dK [])) d (.dK (mergeK [] [(Sum.inr "number", .str "op op op op op op when when side let call call call call leaf leaf")]))) d (.dK (putK (mergeK [] [(Sum.inr "number", .str "op op op op op op when when side let call call call call leaf leaf")]) (Sum.inr "pair") (.str "pair pair pair pair when when side side let let call call call op leaf pair")))) d (.dK wkv))
  rw [ew]
  have En1 := En0.new (o := .dK wkv) hd
  have k1 : Kp [p, c, st] H (upd H d (.dK wkv)) := Kp.new hd
  have hR1 : (upd H d (.dK wkv)) r = some (.lst [.int dp, .ref c, .ref st]) := by rw [upd_ne (ne_of_none hR hd)]; exact hR
  have hd1 : (upd H d (.dK wkv)) d = some (.dK wkv) := upd_same
  generalize upd H d (.dK wkv) = H1 at En1 k1 hR1 hd1 ⊢
  -- the word
  obtain ⟨z, hz, hzl, hz16, hzw⟩ := want_text hwant
  refine ⟨_, rfl, _, rfl, d, _, rfl, (by have := DGet.k (k := Sum.inr want) hd1; rw [hz] at this; exact this), ⟨_, rfl⟩, _, _, rfl, rfl, (by decide +kernel), hzl, fun l hl => ?_⟩
  have En2 := En1.new (o := .lst ((Txt.split z " ").map V.str)) hl
  have nl2 := En1.fresh hl
  have k2 : Kp [p, c, st] H1 (upd H1 l (.lst ((Txt.split z " ").map V.str))) := Kp.new hl
  have hl2 : (upd H1 l (.lst ((Txt.split z " ").map V.str))) l = some (.lst ((Txt.split z " ").map V.str)) := upd_same
  have hR2 := k2.lst hR1 (En1.room hR1)
  refine ⟨_, rfl, p, a, 16, rfl, En2.pen, (by decide), (by decide), fun g H3 k3 pen3 g0 g1 => ?_⟩
  have k3' := k3.mono (T := [p, c, st]) sub3
  have En3 := En2.same k3 pen3
  have hl3 := k3'.lst hl2 nl2
  have hR3 := k3'.lst hR2 (En2.room hR2)
  have hg : g.toNat < (Txt.split z " ").length := by rw [hz16]; omega
  obtain ⟨x, hx, hxw⟩ : ∃ x : Str, ((Txt.split z " ").map V.str)[g.toNat]? = some (.str x) ∧ wordOk x :=
    ⟨(Txt.split z " ")[g.toNat], by rw [List.getElem?_map, List.getElem?_eq_getElem hg]; rfl, hzw _ (List.getElem_mem hg)⟩
  refine ⟨l, _, _, _, rfl, rfl, SqL.of hl3, at_of (j := g.toNat) (by omega) hx, ?_⟩
  have kk3 := k1.trans (k2.trans k3')
  clear k1 k2 k3 k3' En1 En2 hd1 hl2 hl3 hR1 hR2 nl2 pen3 hd hl
  -- the room within
  refine ⟨_, rfl, r, _, _, _, rfl, rfl, SqL.of hR3, at_of (j := 0) rfl rfl, _, _, rfl, rfl, _, rfl, r, _, _, _, rfl, rfl, SqL.of hR3, at_of (j := 1) rfl rfl, _, rfl, r, _, _, _, rfl, rfl, SqL.of hR3, at_of (j := 2) rfl rfl, (by show 3 ≤ sizeLine; decide), fun r2 hr2 => ?_⟩
  have En4 := En3.new (o := .lst [.int (dp - 1), .ref c, .ref st]) hr2
  have kk4 : Kp [p, c, st] H (upd H3 r2 (.lst [.int (dp - 1), .ref c, .ref st])) := kk3.trans (Kp.new hr2)
  have hRR : (upd H3 r2 (.lst [.int (dp - 1), .ref c, .ref st])) r2 = some (.lst [.int (dp - 1), .ref c, .ref st]) := upd_same
  have hR4 : (upd H3 r2 (.lst [.int (dp - 1), .ref c, .ref st])) r = some (.lst [.int dp, .ref c, .ref st]) := by rw [upd_ne (ne_of_none hR3 hr2)]; exact hR3
  generalize upd H3 r2 (.lst [.int (dp - 1), .ref c, .ref st]) = H4 at En4 kk4 hRR hR4 ⊢
  clear kk3 En3 hR3 hr2 En0 hR
  have leaf : ∀ H5 : Hp, Kp [p, c, st] H4 H5 → En K H5 W sc p a wl sl c st n ss → spLeaf K [.ref p, .ref wl, .ref sl, .str want] H5 Q C8.E0 := fun H5 k5 En5 =>
    leaf_of (dp := dp) En5 fun v d H' n' ss' kk => D v d H' n' ss' (kk4.trans (k5.trans kk))
  -- a leaf?
  refine ⟨_, rfl, r, _, _, _, rfl, rfl, SqL.of hR4, at_of (j := 0) rfl rfl, _, _, rfl, rfl, _, rfl, ?_⟩
  refine ite2 (fun c1 => ⟨_, rfl, _, rfl, _, rfl, _, rfl, leaf _ (Kp.refl _ _) En4⟩) (fun c1 => ?_)
  have hdp1 : 1 ≤ dp := by
    have : ¬ dp < 1 := of_decide_eq_false (Bool.eq_false_iff.mpr c1)
    omega
  refine ⟨_, rfl, rfl, _, rfl, ?_⟩
  refine ite2 (fun c2 => ⟨_, rfl, _, rfl, _, rfl, _, rfl, leaf _ (Kp.refl _ _) En4⟩) (fun c2 => ?_)
  have ne2 := str_no_decide c2
  refine ⟨_, rfl, rfl, _, rfl, ?_⟩
  refine ite2 (fun c3 => ?_) (fun c3 => ?_)
  · -- a call
    obtain rfl := str_of_decide c3
    refine ⟨_, rfl, Nat.zero_le _, fun l hl => ?_⟩
    have En5 := En4.new (o := .lst []) hl
    have k5 : Kp [p, c, st] H4 (upd H4 l (.lst [])) := Kp.new hl
    have hR5 := k5.lst hR4 (En4.room hR4)
    have hRR5 := k5.lst hRR (En4.room hRR)
    refine ⟨_, _, En5.wld.dp, nil_dp, wds_shaped (fun f m => (En5.nw f m).1), nil_shaped, _, rfl, ?_⟩
    rw [eqv_nil]
    generalize upd H4 l (.lst []) = H5 at En5 k5 hR5 hRR5 ⊢
    refine ite2 (fun c4 => ⟨_, rfl, _, rfl, _, rfl, _, rfl, leaf _ k5 En5⟩) (fun c4 => ?_)
    have hW0 : W ≠ [] := fun e => c4 (by rw [e]; rfl)
    refine ⟨_, rfl, r, _, _, _, rfl, rfl, SqL.of hR5, at_of (j := 0) rfl rfl, _, _, rfl, rfl, _, rfl, ?_⟩
    refine ite2 (fun c5 => ⟨_, rfl, _, rfl, _, rfl, _, rfl, leaf _ k5 En5⟩) (fun c5 => ?_)
    have hdp6 : 6 ≤ dp := by
      have : ¬ dp < 6 := of_decide_eq_false (Bool.eq_false_iff.mpr c5)
      omega
    refine ⟨_, rfl, rfl, _, rfl, ?_⟩
    refine ite2 (fun _ => ?_) (fun c6 => absurd (decide_eq_true rfl) c6)
    refine ⟨_, rfl, _, rfl, _, rfl, _, rfl, _, rfl, p, a, wl, sl, r2, c, st, want, W, sc, ss, dp - 1, n, rfl, En5, hRR5, (by omega), (by omega), hW0, hwant, fun v d H' n' ss' kk pen hc hs hd hdr => ?_⟩
    rw [show dp - 1 + 1 = dp by omega] at hdr
    exact D v d H' n' ss' (kk4.trans (k5.trans kk)) pen hc hs hd hdr
  have n3 := str_no_decide c3
  refine ⟨_, rfl, rfl, _, rfl, ?_⟩
  refine ite2 (fun c4 => absurd c4 c3) (fun _ => ?_)
  refine ⟨_, rfl, rfl, _, rfl, ?_⟩
  refine ite2 (fun c4 => ?_) (fun c4 => ?_)
  · refine ⟨_, rfl, _, rfl, _, rfl, _, rfl, _, rfl, p, a, wl, sl, r2, c, st, want, W, sc, ss, dp - 1, n, rfl, En4, hRR, (by omega), (by omega), hwant, fun v d H' n' ss' kk pen hc hs hd hdr => ?_⟩
    rw [show dp - 1 + 1 = dp by omega] at hdr
    exact D v d H' n' ss' (kk4.trans kk) pen hc hs hd hdr
  have n4 := str_no_decide c4
  obtain ⟨m, hm⟩ : ∃ m, costOf x m := by
    rcases hxw with e | e | e | e | e | e | e
    · exact ⟨2, .inr (.inr (.inr ⟨e, rfl⟩))⟩
    · exact ⟨3, .inr (.inr (.inl ⟨e, rfl⟩))⟩
    · exact ⟨1, .inl ⟨e, rfl⟩⟩
    · exact absurd e n4
    · exact absurd e n3
    · exact absurd e ne2
    · exact ⟨2, .inr (.inl ⟨e, rfl⟩)⟩
  -- does it fit
  refine ⟨_, rfl, fun dd hdd => ⟨upd_same, [(Sum.inr _, .int _), (Sum.inr _, .int _), (Sum.inr _, .int _), (Sum.inr _, .int _)], rfl, by decide, ?_⟩⟩
  have En5 : En K (upd (upd H4 dd (.dK [])) dd (.dK ckv)) W sc p a wl sl c st n ss := by rw [upd_upd]; exact En4.new hdd
  have kk5 : Kp [p, c, st] H4 (upd (upd H4 dd (.dK [])) dd (.dK ckv)) := by rw [upd_upd]; exact Kp.new hdd
  have hR5 := kk5.lst hR4 (En4.room hR4)
  have hRR5 := kk5.lst hRR (En4.room hRR)
  refine ⟨_, rfl, dd, _, rfl, (by have := DGet.k (H := upd (upd H4 dd (.dK [])) dd (.dK ckv)) (k := Sum.inr x) upd_same; rw [cost_of hm] at this; exact this), ?_⟩
  generalize upd (upd H4 dd (.dK [])) dd (.dK ckv) = H5 at En5 kk5 hR5 hRR5 ⊢
  refine ⟨r, c, _, _, n, _, rfl, hR5, En5.cnt, fun hlt => ⟨false, rfl, ⟨_, rfl, _, rfl, _, rfl, _, rfl, leaf _ kk5 En5⟩⟩, fun hle => ⟨true, rfl, ?_⟩⟩
  have En6 := En5.less (m := n - m)
  have k6 : Kp [p, c, st] H (upd H5 c (.lst [.int (n - m)])) := kk4.trans (kk5.trans (Kp.put En5.cnt mem3.2.1))
  have hRR6 : (upd H5 c (.lst [.int (n - m)])) r2 = some (.lst [.int (dp - 1), .ref c, .ref st]) := by
    rw [upd_ne (fun e => En5.room hRR5 (by rw [e]; exact mem3.2.1))]
    exact hRR5
  generalize upd H5 c (.lst [.int (n - m)]) = H6 at En6 k6 hRR6 ⊢
  clear En5 kk5 hR5 hRR5 leaf En4 kk4 hRR hR4
  -- a side
  refine ⟨_, rfl, rfl, _, rfl, ?_⟩
  refine ite2 (fun c5 => ?_) (fun c5 => ?_)
  · obtain rfl := str_of_decide c5
    obtain rfl : m = 1 := by
      rcases hm with h | h | h | h
      · exact h.2
      · exact absurd h.1 (by decide +kernel)
      · exact absurd h.1 (by decide +kernel)
      · exact absurd h.1 (by decide +kernel)
    refine ⟨(by show 2 ≤ sizeLine; decide), fun l hl => ?_⟩
    have En7 := En6.new (o := .lst [.str "left", .str "right"]) hl
    have nl := En6.fresh hl
    have k7 : Kp [p, c, st] H6 (upd H6 l (.lst [.str "left", .str "right"])) := Kp.new hl
    have hl7 : (upd H6 l (.lst [.str "left", .str "right"])) l = some (.lst [.str "left", .str "right"]) := upd_same
    have hRR7 := k7.lst hRR6 (En6.room hRR6)
    refine ⟨_, rfl, p, a, 2, rfl, En7.pen, (by decide), (by decide), fun g H8 k8 pen8 g0 g1 => ?_⟩
    have k8' := k8.mono (T := [p, c, st]) sub3
    have En8 := En7.same k8 pen8
    have hl8 := k8'.lst hl7 nl
    have hRR8 := k8'.lst hRR7 (En7.room hRR7)
    obtain ⟨kd, hkd, hkd'⟩ : ∃ kd : Str, ([.str "left", .str "right"] : List V)[g.toNat]? = some (.str kd) ∧ (kd, 1) ∈ kinds := by
      have h0 : g.toNat < 2 := by omega
      generalize g.toNat = j at h0
      match j, h0 with
      | 0, _ => exact ⟨_, rfl, by decide +kernel⟩
      | 1, _ => exact ⟨_, rfl, by decide +kernel⟩
    refine ⟨l, _, _, _, rfl, rfl, SqL.of hl8, at_of (j := g.toNat) (by omega) hkd, ?_⟩
    refine ⟨_, rfl, _, rfl, _, rfl, _, rfl, p, a, wl, sl, r2, c, st, "pair", W, sc, ss, dp - 1, n - 1, rfl, En8, hRR8, (by omega), (by omega), .inr (.inl rfl), fun u d H9 n' ss' k9 pen9 hc9 hs9 hd9 hdr9 => ?_⟩
    refine ⟨(by show 2 ≤ sizeLine; decide), fun q hq => ?_⟩
    exact D _ (.op kd [d]) _ n' ss' ((k6.trans (k7.trans (k8'.trans k9))).trans (Kp.new hq)) (pen9.new hq) (by rw [upd_ne (ne_of_none hc9 hq)]; exact hc9) (by rw [upd_ne (ne_of_none hs9 hq)]; exact hs9) (op_dp hq (.cons hd9 .nil))
      (.op hkd' hdp1 hle hdr9 .nil)
  have n5 := str_no_decide c5
  have hx3 : x = "pair" ∨ x = "when" ∨ x = "op" := by
    rcases hm with h | h | h | h
    · exact absurd h.1 n5
    · exact .inl h.1
    · exact .inr (.inl h.1)
    · exact .inr (.inr h.1)
  -- one
  refine ⟨_, rfl, _, rfl, _, rfl, _, rfl, (by show 2 ≤ sizeLine; decide), fun l hl => ?_⟩
  have En7 := En6.new (o := .lst [.str "number", .str "any"]) hl
  have k7 : Kp [p, c, st] H6 (upd H6 l (.lst [.str "number", .str "any"])) := Kp.new hl
  have hl7 : (upd H6 l (.lst [.str "number", .str "any"])) l = some (.lst [.str "number", .str "any"]) := upd_same
  have hRR7 := k7.lst hRR6 (En6.room hRR6)
  refine ⟨_, rfl, rfl, .inr ⟨_, rfl, ?_⟩⟩
  obtain ⟨wt, hwt, hwt'⟩ : ∃ wt : Str, atI ([.str "number", .str "any"] : List V) (if decide (V.str x = V.str "pair") = true then 1 else 0) = some (.str wt) ∧ wantOk wt := by
    by_cases e : decide (V.str x = V.str "pair") = true
    · rw [if_pos e]
      exact ⟨_, rfl, .inr (.inr rfl)⟩
    · rw [if_neg e]
      exact ⟨_, rfl, .inl rfl⟩
  refine ⟨l, _, _, _, rfl, rfl, SqL.of hl7, hwt, ?_⟩
  refine ⟨p, a, wl, sl, r2, c, st, wt, W, sc, ss, dp - 1, n - m, rfl, En7, hRR7, (by omega), (by omega), hwt', fun u d H8 n1 ss1 k8 pen8 hc8 hs8 hd8 hdr8 => ?_⟩
  have En8 := En7.step k8 pen8 hc8 hs8 hdr8.sub hdr8.len
  have hRR8 := k8.lst hRR7 (En7.room hRR7)
  have kk8 := k6.trans (k7.trans k8)
  clear k7 k8 En6 En7 hl7 hl hRR6 hRR7 k6
  -- other
  refine ⟨_, rfl, _, rfl, _, rfl, _, rfl, fun d2 hd2 => ⟨_, rfl, upd_same, [(Sum.inr _, .str _), (Sum.inr _, .str _), (Sum.inr _, .str _)], rfl, (by show 3 ≤ 15; decide), ?_⟩⟩
  obtain ⟨wu, hwu, hwu'⟩ := other_of hwant hx3
  have En9 : En K (upd (upd H8 d2 (.dK [])) d2 (.dK (okv want))) W sc p a wl sl c st n1 ss1 := by rw [upd_upd]; exact En8.new hd2
  have k9 : Kp [p, c, st] H8 (upd (upd H8 d2 (.dK [])) d2 (.dK (okv want))) := by rw [upd_upd]; exact Kp.new hd2
  have hRR9 := k9.lst hRR8 (En8.room hRR8)
  have hd9 := Dp.keep k9 _ _ (data_fz _) hd8
  refine ⟨_, rfl, d2, _, rfl, (by have := DGet.k (H := upd (upd H8 d2 (.dK [])) d2 (.dK (okv want))) (k := Sum.inr x) upd_same; rw [hwu] at this; exact this), ?_⟩
  generalize upd (upd H8 d2 (.dK [])) d2 (.dK (okv want)) = H9 at En9 k9 hRR9 hd9 ⊢
  refine ⟨p, a, wl, sl, r2, c, st, wu, W, sc, ss1, dp - 1, n1, rfl, En9, hRR9, (by omega), (by omega), hwu', fun u2 e H10 n2 ss2 k10 pen10 hc10 hs10 hd10 hdr10 => ?_⟩
  have En10 := En9.step k10 pen10 hc10 hs10 hdr10.sub hdr10.len
  have hRR10 := k10.lst hRR9 (En9.room hRR9)
  have kk10 := kk8.trans (k9.trans k10)
  have hd11 := Dp.keep k10 _ _ (data_fz _) hd9
  have hdr := hdr8.append hdr10
  clear k9 k10 En8 En9 hRR8 hRR9 hd8 hd9 kk8 hd2
  -- a pair
  refine ⟨_, rfl, rfl, _, rfl, ?_⟩
  refine ite2 (fun c6 => ?_) (fun c6 => ?_)
  · obtain rfl := str_of_decide c6
    obtain rfl : m = 2 := by
      rcases hm with h | h | h | h
      · exact absurd h.1 (by decide +kernel)
      · exact h.2
      · exact absurd h.1 (by decide +kernel)
      · exact absurd h.1 (by decide +kernel)
    refine ⟨_, rfl, _, rfl, (by show 3 ≤ sizeLine; decide), fun q hq => ?_⟩
    exact D _ (.op "pair" [d, e]) _ n2 ss2 (kk10.trans (Kp.new hq)) (pen10.new hq) (by rw [upd_ne (ne_of_none hc10 hq)]; exact hc10) (by rw [upd_ne (ne_of_none hs10 hq)]; exact hs10) (op_dp hq (.cons hd11 (.cons hd10 .nil)))
      (.op (by show (("pair" : Str), 2) ∈ kinds; decide +kernel) hdp1 hle hdr .nil)
  have n6 := str_no_decide c6
  refine ⟨_, rfl, rfl, _, rfl, ?_⟩
  refine ite2 (fun c7 => ?_) (fun c7 => ?_)
  · obtain rfl := str_of_decide c7
    obtain rfl : m = 3 := by
      rcases hm with h | h | h | h
      · exact absurd h.1 (by decide +kernel)
      · exact absurd h.1 (by decide +kernel)
      · exact h.2
      · exact absurd h.1 (by decide +kernel)
    refine ⟨_, rfl, _, rfl, _, rfl, _, rfl, _, rfl, _, rfl, _, rfl, p, a, wl, sl, r2, c, st, want, W, sc, ss2, dp - 1, n2, rfl, En10, hRR10, (by omega), (by omega), hwant, fun u3 g H11 n3 ss3 k11 pen11 hc11 hs11 hd12 hdr12 => ?_⟩
    refine ⟨(by show 4 ≤ sizeLine; decide), fun q hq => ?_⟩
    have hda := Dp.keep k11 _ _ (data_fz _) hd11
    have hdb := Dp.keep k11 _ _ (data_fz _) hd10
    exact D _ (.op "when" [d, e, g]) _ n3 ss3 ((kk10.trans k11).trans (Kp.new hq)) (pen11.new hq) (by rw [upd_ne (ne_of_none hc11 hq)]; exact hc11) (by rw [upd_ne (ne_of_none hs11 hq)]; exact hs11) (op_dp hq (.cons hda (.cons hdb (.cons hd12 .nil))))
      (.op (by show (("when" : Str), 3) ∈ kinds; decide +kernel) hdp1 hle (hdr.append hdr12) .nil)
  have n7 := str_no_decide c7
  obtain rfl : m = 2 := by
    rcases hm with h | h | h | h
    · exact absurd h.1 n5
    · exact absurd h.1 n6
    · exact absurd h.1 n7
    · exact h.2
  -- an operation
  refine ⟨(by show 4 ≤ sizeLine; decide), fun l hl => ?_⟩
  have En11 := En10.new (o := .lst [.str "plus", .str "less", .str "times", .str "below"]) hl
  have nl := En10.fresh hl
  have k11 : Kp [p, c, st] H10 (upd H10 l (.lst [.str "plus", .str "less", .str "times", .str "below"])) := Kp.new hl
  have hl11 : (upd H10 l (.lst [.str "plus", .str "less", .str "times", .str "below"])) l = some (.lst [.str "plus", .str "less", .str "times", .str "below"]) := upd_same
  refine ⟨_, rfl, p, a, 4, rfl, En11.pen, (by decide), (by decide), fun g H12 k12 pen12 g0 g1 => ?_⟩
  have k12' := k12.mono (T := [p, c, st]) sub3
  have En12 := En11.same k12 pen12
  have hl12 := k12'.lst hl11 nl
  obtain ⟨kd, hkd, hkd'⟩ : ∃ kd : Str, ([.str "plus", .str "less", .str "times", .str "below"] : List V)[g.toNat]? = some (.str kd) ∧ (kd, 2) ∈ kinds := by
    have h0 : g.toNat < 4 := by omega
    generalize g.toNat = j at h0
    match j, h0 with
    | 0, _ => exact ⟨_, rfl, by decide +kernel⟩
    | 1, _ => exact ⟨_, rfl, by decide +kernel⟩
    | 2, _ => exact ⟨_, rfl, by decide +kernel⟩
    | 3, _ => exact ⟨_, rfl, by decide +kernel⟩
  refine ⟨l, _, _, _, rfl, rfl, SqL.of hl12, at_of (j := g.toNat) (by omega) hkd, _, rfl, _, rfl, (by show 3 ≤ sizeLine; decide), fun q hq => ?_⟩
  have k13 := k11.trans k12'
  have hda := Dp.keep k13 _ _ (data_fz _) hd11
  have hdb := Dp.keep k13 _ _ (data_fz _) hd10
  have hc12 := En12.cnt
  have hs12 := En12.stk
  exact D _ (.op kd [d, e]) _ n2 ss2 ((kk10.trans k13).trans (Kp.new hq)) (En12.pen.new hq) (by rw [upd_ne (ne_of_none hc12 hq)]; exact hc12) (by rw [upd_ne (ne_of_none hs12 hq)]; exact hs12) (op_dp hq (.cons hda (.cons hdb .nil)))
    (.op hkd' hdp1 hle hdr .nil)
end
end Lz

set_option Elab.async false
set_option linter.all false
set_option maxRecDepth 100000
set_option maxHeartbeats 8000000
namespace Lz
open PySem PySem.Spec PyProof.Rows L2
theorem cut_1 (x : V) (xs : List V) : cutV (x :: xs) (some 1) none = xs := by
  unfold cutV
  rw [HT.sIx_none, show HT.sIx (x :: xs).length 0 (some 1) = min 1 (x :: xs).length from HT.sIx_nat _ _ 1]
  have e : min 1 (x :: xs).length = 1 := by rw [List.length_cons]; omega
  rw [e]
  exact List.take_of_length_le (by show xs.length ≤ (x :: xs).length - 1; rw [List.length_cons]; omega)
def spLoop (K : PySem.W.Frag) : Sp := fun vs H Q _ => ∃ (p a wl tl r c st : Addr) (me t0 : Str) (W : List (Str × Int)) (ts ss : List Str) (dp n : Int), vs = [.ref p, .ref wl, .str me, .ref tl, .ref r] ∧
  En K H W (t0 :: ts) p a wl tl c st n ss ∧ H r = some (.lst [.int dp, .ref c, .ref st]) ∧ ts.length ≤ 3 ∧
  ∀ (v : V) (d : Lz.P) (H' : Hp), Kp [p, c, st] H H' → PenAt H' p a → Dp K H' v d.data → Lp W me t0 ts n ss d → Q v H'
section
variable {P : Program} {w : World} {K : PySem.W.Frag} {mg : Str → Option Value} {base : Heap} {f : Addr} {fd : FuncData}
abbrev sLLoop : Stmt := topS 19
theorem scLLoop : FnScope ["_law_pen_here", "_law_world", "_law_me", "_law_things", "_law_room", "_law_call_here", "_law_name", "_law_other", "_law_one", "_law_more"] ["_law_pen_here", "_law_world", "_law_me", "_law_things", "_law_room"] (defScope sLLoop) := ⟨rfl, rfl, rfl, by decide +kernel, rfl, by decide +kernel, by decide +kernel⟩
theorem ok_loop {k j : Nat} (hk : 4 ≤ k) (hj : 3 ≤ j) (F : Fun K "_law_loop" "_law_loop" sLLoop f fd) (B : Bt mg) (CLDraw : C8.Cal P w K mg base 1 "_law_draw" (spDraw K) [])
    (CLPart : C8.Cal P w K mg base j "_law_part" (spPart K k) []) : FnOk P w K mg base CX0 (j + 1) f fd ["_law_pen_here", "_law_world", "_law_me", "_law_things", "_law_room"] (spLoop K) := by
  refine F.ok scLLoop (fun vs H Q E h => ?_) (fun cdv A outer s H vs Q E hr h => ?_)
  · obtain ⟨p, a, wl, tl, r, c, st, me, t0, W, ts, ss, dp, n, rfl, _⟩ := h
    rfl
  obtain ⟨p, a, wl, tl, r, c, st, me, t0, W, ts, ss, dp, n, rfl, En0, hR, hts, D⟩ := h
  refine ⟨_, (pss_cons (ps_set (i := 5) scLLoop.nd rfl (.inl rfl) (pe_tup (pa_cons pe_str (pa_cons (pe_tup (pa_cons pe_str (pa_cons (pv 2) pa_nil))) (pa_cons (pe_tup (pa_cons pe_str (pa_cons (pe_tup (pa_cons pe_str (pa_cons (pe_ix (ix_listK (K := K) rfl) (pv 3) pe_int (fun _ _ => rfl)) pa_nil))) (pa_cons (pe_tup (pa_cons pe_str (pa_cons pe_int pa_nil))) pa_nil)))) pa_nil)))))
    (pss_cons (ps_for PassesOwn.never rfl (pi_listK (K := K) rfl (pe_slice (sl_listK (K := K) rfl) (pv 3) (po_some pe_int) po_none)) (pg_name (i := 6) scLLoop.nd rfl (.inl rfl)) (pss_cons (ps_set (i := 7) scLLoop.nd rfl (.inl rfl) (C8.pe_c CLPart hr (by first | decide | omega) (by rfl) (pa_cons (pv 0) (pa_cons (pv 1) (pa_cons (pv 3) (pa_cons (pe_lst (pa_cons pe_int (pa_cons (pe_ix (ix_listK (K := K) rfl) (pv 4) pe_int (fun _ _ => rfl)) (pa_cons (pe_ix (ix_listK (K := K) rfl) (pv 4) pe_int (fun _ _ => rfl)) pa_nil)))) (pa_cons pe_str pa_nil)))))))
    (pss_one (ps_set (i := 5) scLLoop.nd rfl (.inl rfl) (pe_tup (pa_cons pe_str (pa_cons (pv 5) (pa_cons (pe_ix (ix_listK (K := K) rfl) (pe_lst (pa_cons (pe_tup (pa_cons pe_str (pa_cons (pv 6) pa_nil))) (pa_cons (pv 7) pa_nil))) (C8.pe_c CLDraw hr (by first | decide | omega) (by rfl) (pa_cons (pv 0) (pa_cons pe_int pa_nil))) (fun _ _ => rfl)) pa_nil))))))))
    (pss_cons (ps_set (i := 8) scLLoop.nd rfl (.inl rfl) (C8.pe_c CLPart hr (by first | decide | omega) (by rfl) (pa_cons (pv 0) (pa_cons (pv 1) (pa_cons (pv 3) (pa_cons (pe_lst (pa_cons pe_int (pa_cons (pe_ix (ix_listK (K := K) rfl) (pv 4) pe_int (fun _ _ => rfl)) (pa_cons (pe_ix (ix_listK (K := K) rfl) (pv 4) pe_int (fun _ _ => rfl)) pa_nil)))) (pa_cons pe_str pa_nil)))))))
    (pss_cons (ps_set (i := 9) scLLoop.nd rfl (.inl rfl) (pe_ix (ix_listK (K := K) rfl) (pe_lst (pa_cons (pv 5) (pa_cons (pe_tup (pa_cons pe_str (pa_cons (pv 8) (pa_cons (pv 5) pa_nil)))) (pa_cons (pe_tup (pa_cons pe_str (pa_cons (pv 8) (pa_cons (pv 5) pa_nil)))) (pa_cons (pe_tup (pa_cons pe_str (pa_cons (pv 5) (pa_cons (pv 8) pa_nil)))) pa_nil))))) (C8.pe_c CLDraw hr (by first | decide | omega) (by rfl) (pa_cons (pv 0) (pa_cons pe_int pa_nil))) (fun _ _ => rfl)))
    (pss_one (ps_ret (pe_tup (pa_cons pe_str (pa_cons (pe_tup (pa_cons pe_str (pa_cons (pe_ix (ix_listK (K := K) rfl) (pv 3) pe_int (fun _ _ => rfl)) pa_nil))) (pa_cons (pv 9) (pa_cons (C8.pe_c CLPart hr (by first | decide | omega) (by rfl) (pa_cons (pv 0) (pa_cons (pv 1) (pa_cons (pv 3) (pa_cons (pe_lst (pa_cons pe_int (pa_cons (pe_ix (ix_listK (K := K) rfl) (pv 4) pe_int (fun _ _ => rfl)) (pa_cons (pe_ix (ix_listK (K := K) rfl) (pv 4) pe_int (fun _ _ => rfl)) pa_nil)))) (pa_cons pe_str pa_nil)))))) pa_nil))))))))))), ?_⟩
  -- the call, its first thing
  refine ⟨_, rfl, (by show 2 ≤ sizeLine; decide), fun q1 hq1 => ?_⟩
  have En1 := En0.new (o := .tup [.str "fun", .str me]) hq1
  have hd1 : Dp K (upd H q1 (.tup [.str "fun", .str me])) (.ref q1) (Lz.P.fn me).data := Dp.newT hq1 (.cons (.str _) (.cons (.str _) .nil)) rfl
  have k1 : Kp [p, c, st] H (upd H q1 (.tup [.str "fun", .str me])) := Kp.new hq1
  generalize upd H q1 (.tup [.str "fun", .str me]) = H1 at En1 hd1 k1 ⊢
  refine ⟨_, rfl, tl, _, _, _, rfl, rfl, SqL.of En1.scp, at_of (j := 0) rfl rfl, (by show 2 ≤ sizeLine; decide), fun q2 hq2 => ?_⟩
  have En2 := En1.new (o := .tup [.str "name", .str t0]) hq2
  have hd2 : Dp K (upd H1 q2 (.tup [.str "name", .str t0])) (.ref q2) (Lz.P.nam t0).data := Dp.newT hq2 (.cons (.str _) (.cons (.str _) .nil)) rfl
  have k2 : Kp [p, c, st] H1 (upd H1 q2 (.tup [.str "name", .str t0])) := Kp.new hq2
  have hd1 := Dp.keep k2 _ _ (data_fz _) hd1
  show _
  generalize upd H1 q2 (.tup [.str "name", .str t0]) = H2 at En2 hd1 hd2 k2 ⊢
  refine ⟨(by show 2 ≤ sizeLine; decide), fun q3 hq3 => ?_⟩
  have En3 := En2.new (o := .tup [.str "number", .int 1]) hq3
  have hd3 : Dp K (upd H2 q3 (.tup [.str "number", .int 1])) (.ref q3) (Lz.P.num 1).data := Dp.newT hq3 (.cons (.str _) (.cons (.int _) .nil)) rfl
  have k3 : Kp [p, c, st] H2 (upd H2 q3 (.tup [.str "number", .int 1])) := Kp.new hq3
  have hd1 := Dp.keep k3 _ _ (data_fz _) hd1
  have hd2 := Dp.keep k3 _ _ (data_fz _) hd2
  generalize upd H2 q3 (.tup [.str "number", .int 1]) = H3 at En3 hd1 hd2 hd3 k3 ⊢
  refine ⟨(by show 3 ≤ sizeLine; decide), fun q4 hq4 => ?_⟩
  have En4 := En3.new (o := .tup [.str "less", .ref q2, .ref q3]) hq4
  have hd4 : Dp K (upd H3 q4 (.tup [.str "less", .ref q2, .ref q3])) (.ref q4) (Lz.P.op "less" [.nam t0, .num 1]).data := op_dp hq4 (.cons hd2 (.cons hd3 .nil))
  have k4 : Kp [p, c, st] H3 (upd H3 q4 (.tup [.str "less", .ref q2, .ref q3])) := Kp.new hq4
  have hd1 := Dp.keep k4 _ _ (data_fz _) hd1
  generalize upd H3 q4 (.tup [.str "less", .ref q2, .ref q3]) = H4 at En4 hd1 hd4 k4 ⊢
  refine ⟨(by show 3 ≤ sizeLine; decide), fun q5 hq5 => ?_⟩
  have En5 := En4.new (o := .tup [.str "give", .ref q1, .ref q4]) hq5
  have hd5 : Dp K (upd H4 q5 (.tup [.str "give", .ref q1, .ref q4])) (.ref q5) (again me t0 []).data := op_dp hq5 (.cons hd1 (.cons hd4 .nil))
  have k5 : Kp [p, c, st] H (upd H4 q5 (.tup [.str "give", .ref q1, .ref q4])) := k1.trans (k2.trans (k3.trans (k4.trans (Kp.new hq5))))
  generalize upd H4 q5 (.tup [.str "give", .ref q1, .ref q4]) = H5 at En5 hd5 k5 ⊢
  have hR5 := k5.lst hR (En0.room hR)
  clear hd4 hd3 hd2 hd1 k4 k3 k2 k1 En1 En2 En3 En4
  -- the further things
  refine ⟨_, rfl, _, rfl, tl, _, rfl, SqL.of En5.scp, fun lp hlp => ?_⟩
  have ecut : cutV (List.map V.str (t0 :: ts)) (some 1) none = ts.map V.str := cut_1 _ _
  rw [ecut]
  have En6 := En5.new (o := .lst (ts.map V.str)) hlp
  have nlp := En5.fresh hlp
  have k6 : Kp [p, c, st] H5 (upd H5 lp (.lst (ts.map V.str))) := Kp.new hlp
  have hp6 : (upd H5 lp (.lst (ts.map V.str))) lp = some (.lst (ts.map V.str)) := upd_same
  have hR6 := k6.lst hR5 (En5.room hR5)
  have hd6 := Dp.keep k6 _ _ (data_fz _) hd5
  have k6 := k5.trans k6
  generalize upd H5 lp (.lst (ts.map V.str)) = H6 at En6 hp6 hR6 hd6 k6 ⊢
  clear k5 hd5 hR5 En5 ecut
  refine ⟨lp, rfl, ⟨_, SqL.of hp6⟩, for_list (K := K) (a := lp) (xs := ts.map V.str) (fun i σ H' => ∃ (v5 : V) (n' : Int) (ss' : List Str) (os as : List Lz.P) (v6 v7 : Option V),
      σ = [some (.ref p), some (.ref wl), some (.str me), some (.ref tl), some (.ref r), some v5, v6, v7, none, none] ∧ Kp [p, c, st] H H' ∧ En K H' W (t0 :: ts) p a wl tl c st n' ss' ∧ H' r = some (.lst [.int dp, .ref c, .ref st]) ∧ H' lp = some (.lst (ts.map V.str)) ∧
      Dp K H' v5 (again me t0 as).data ∧ Dr W (t0 :: ts) 2 n ss n' ss' os ∧ Args (ts.take i) os as)
    ⟨.ref q5, n, ss, [], [], none, none, rfl, k6, En6, hR6, hp6, hd6, .nil, .nil⟩ (fun i σ H' _ ⟨_, _, _, _, _, _, _, _, _, _, _, h, _⟩ => SqL.of h) ?_ ?_⟩
  · rintro i x σ H7 hi ⟨v5, n', ss', os, as, v6, v7, rfl, k7, En7, hR7, hp7, hd7, hdr, har⟩
    obtain ⟨t, ht, rfl⟩ : ∃ t, ts[i]? = some t ∧ x = V.str t := by
      rw [List.getElem?_map] at hi
      cases e : ts[i]? with
      | none => rw [e] at hi; cases hi
      | some y => rw [e] at hi; exact ⟨y, rfl, (Option.some.inj hi).symm⟩
    -- other
    refine ⟨_, rfl, _, rfl, _, rfl, _, rfl, r, _, _, _, rfl, rfl, SqL.of hR7, at_of (j := 1) rfl rfl, _, rfl, r, _, _, _, rfl, rfl, SqL.of hR7, at_of (j := 2) rfl rfl, (by show 3 ≤ sizeLine; decide), fun r2 hr2 => ?_⟩
    have En8 := En7.new (o := .lst [.int 2, .ref c, .ref st]) hr2
    have k8 : Kp [p, c, st] H7 (upd H7 r2 (.lst [.int 2, .ref c, .ref st])) := Kp.new hr2
    refine ⟨p, a, wl, tl, r2, c, st, "any", W, t0 :: ts, ss', 2, n', rfl, En8, upd_same, (by omega), (by omega), .inr (.inr rfl), fun u d H9 n2 ss2 k9 pen9 hc9 hs9 hd9 hdr9 => ?_⟩
    have En9 := En8.step k9 pen9 hc9 hs9 hdr9.sub hdr9.len
    have k9 := k8.trans k9
    have hR9 := k9.lst hR7 (En7.room hR7)
    have hp9 := k9.lst hp7 nlp
    have hd10 := Dp.keep k9 _ _ (data_fz _) hd7
    -- the name or other
    refine ⟨_, rfl, _, rfl, (by show 2 ≤ sizeLine; decide), fun q1 hq1 => ?_⟩
    have En10 := En9.new (o := .tup [.str "name", .str t]) hq1
    have k10 : Kp [p, c, st] H9 (upd H9 q1 (.tup [.str "name", .str t])) := Kp.new hq1
    have hdn : Dp K (upd H9 q1 (.tup [.str "name", .str t])) (.ref q1) (Lz.P.nam t).data := Dp.newT hq1 (.cons (.str _) (.cons (.str _) .nil)) rfl
    have hdo := Dp.keep k10 _ _ (data_fz _) hd9
    have hd10 := Dp.keep k10 _ _ (data_fz _) hd10
    have hR10 := k10.lst hR9 (En9.room hR9)
    have hp10 := k10.lst hp9 nlp
    have k10 := k9.trans k10
    generalize upd H9 q1 (.tup [.str "name", .str t]) = H10 at En10 k10 hdn hdo hd10 hR10 hp10 ⊢
    refine ⟨_, rfl, (by show 2 ≤ sizeLine; decide), fun l hl => ?_⟩
    have En11 := En10.new (o := .lst [.ref q1, u]) hl
    have nl := En10.fresh hl
    have k11 : Kp [p, c, st] H10 (upd H10 l (.lst [.ref q1, u])) := Kp.new hl
    have hl11 : (upd H10 l (.lst [.ref q1, u])) l = some (.lst [.ref q1, u]) := upd_same
    refine ⟨_, rfl, p, a, 2, rfl, En11.pen, (by decide), (by decide), fun g H12 k12 pen12 g0 g1 => ?_⟩
    have En12 := En11.same k12 pen12
    have k12' := k12.mono (T := [p, c, st]) sub3
    have hl12 := k12'.lst hl11 nl
    have k12 := k11.trans k12'
    have hdn := Dp.keep k12 _ _ (data_fz _) hdn
    have hdo := Dp.keep k12 _ _ (data_fz _) hdo
    have hd12 := Dp.keep k12 _ _ (data_fz _) hd10
    have hR12 := k12.lst hR10 (En10.room hR10)
    have hp12 := k12.lst hp10 nlp
    obtain ⟨va, b, hva, hb, hab⟩ : ∃ (va : V) (b : Lz.P), ([.ref q1, u] : List V)[g.toNat]? = some va ∧ Dp K H12 va b.data ∧ argOf t d b := by
      have h0 : g.toNat < 2 := by omega
      generalize g.toNat = j at h0
      match j, h0 with
      | 0, _ => exact ⟨_, _, rfl, hdn, .inl rfl⟩
      | 1, _ => exact ⟨_, _, rfl, hdo, .inr rfl⟩
    refine ⟨l, _, _, _, rfl, rfl, SqL.of hl12, at_of (j := g.toNat) (by omega) hva, (by show 3 ≤ sizeLine; decide), fun q hq => ?_⟩
    have k13 : Kp [p, c, st] H12 (upd H12 q (.tup [.str "give", v5, va])) := Kp.new hq
    refine ⟨_, n2, ss2, os ++ [d], as ++ [b], _, _, rfl, k7.trans (k10.trans (k12.trans k13)), En12.new hq, k13.lst hR12 (En12.room hR12), k13.lst hp12 nlp, ?_, hdr.append hdr9, ?_⟩
    · show Dp K _ _ (gives (.fn me) ((.op "less" [.nam t0, .num 1] :: as) ++ [b])).data
      rw [gives_snoc]
      exact op_dp hq (.cons hd12 (.cons hb .nil))
    · rw [List.take_add_one, ht]
      exact .snoc har hab
  · rintro σ H7 ⟨v5, n', ss', os, as, v6, v7, rfl, k7, En7, hR7, hp7, hd7, hdr, har⟩
    rw [List.length_map, List.take_length] at har
    -- one
    refine ⟨_, rfl, _, rfl, _, rfl, _, rfl, r, _, _, _, rfl, rfl, SqL.of hR7, at_of (j := 1) rfl rfl, _, rfl, r, _, _, _, rfl, rfl, SqL.of hR7, at_of (j := 2) rfl rfl, (by show 3 ≤ sizeLine; decide), fun r2 hr2 => ?_⟩
    have En8 := En7.new (o := .lst [.int 3, .ref c, .ref st]) hr2
    have k8 : Kp [p, c, st] H7 (upd H7 r2 (.lst [.int 3, .ref c, .ref st])) := Kp.new hr2
    refine ⟨p, a, wl, tl, r2, c, st, "number", W, t0 :: ts, ss', 3, n', rfl, En8, upd_same, (by omega), (by omega), .inl rfl, fun u d H9 n2 ss2 k9 pen9 hc9 hs9 hd9 hdr9 => ?_⟩
    have En9 := En8.step k9 pen9 hc9 hs9 hdr9.sub hdr9.len
    have k9 := k8.trans k9
    have hR9 := k9.lst hR7 (En7.room hR7)
    have hc := Dp.keep k9 _ _ (data_fz _) hd7
    have ho := hd9
    clear En8 k8 hd7 hd9 hp7
    -- more
    refine ⟨_, rfl, _, rfl, _, rfl, (by show 3 ≤ sizeLine; decide), fun q1 hq1 => ?_⟩
    have k10 : Kp [p, c, st] H9 (upd H9 q1 (.tup [.str "plus", u, v5])) := Kp.new hq1
    have En10 := En9.new (o := .tup [.str "plus", u, v5]) hq1
    have h1 : Dp K (upd H9 q1 (.tup [.str "plus", u, v5])) (.ref q1) (Lz.P.op "plus" [d, again me t0 as]).data := op_dp hq1 (.cons ho (.cons hc .nil))
    have hc := Dp.keep k10 _ _ (data_fz _) hc
    have ho := Dp.keep k10 _ _ (data_fz _) ho
    have k10 := k9.trans k10
    generalize upd H9 q1 (.tup [.str "plus", u, v5]) = H10 at En10 k10 h1 hc ho ⊢
    refine ⟨_, rfl, _, rfl, (by show 3 ≤ sizeLine; decide), fun q2 hq2 => ?_⟩
    have k11 : Kp [p, c, st] H10 (upd H10 q2 (.tup [.str "pair", u, v5])) := Kp.new hq2
    have En11 := En10.new (o := .tup [.str "pair", u, v5]) hq2
    have h2 : Dp K (upd H10 q2 (.tup [.str "pair", u, v5])) (.ref q2) (Lz.P.op "pair" [d, again me t0 as]).data := op_dp hq2 (.cons ho (.cons hc .nil))
    have hc := Dp.keep k11 _ _ (data_fz _) hc
    have ho := Dp.keep k11 _ _ (data_fz _) ho
    have h1 := Dp.keep k11 _ _ (data_fz _) h1
    have k11 := k10.trans k11
    generalize upd H10 q2 (.tup [.str "pair", u, v5]) = H11 at En11 k11 h1 h2 hc ho ⊢
    refine ⟨_, rfl, _, rfl, (by show 3 ≤ sizeLine; decide), fun q3 hq3 => ?_⟩
    have k12 : Kp [p, c, st] H11 (upd H11 q3 (.tup [.str "plus", v5, u])) := Kp.new hq3
    have En12 := En11.new (o := .tup [.str "plus", v5, u]) hq3
    have h3 : Dp K (upd H11 q3 (.tup [.str "plus", v5, u])) (.ref q3) (Lz.P.op "plus" [again me t0 as, d]).data := op_dp hq3 (.cons hc (.cons ho .nil))
    have hc := Dp.keep k12 _ _ (data_fz _) hc
    have h1 := Dp.keep k12 _ _ (data_fz _) h1
    have h2 := Dp.keep k12 _ _ (data_fz _) h2
    have k12 := k11.trans k12
    generalize upd H11 q3 (.tup [.str "plus", v5, u]) = H12 at En12 k12 h1 h2 h3 hc ⊢
    refine ⟨(by show 4 ≤ sizeLine; decide), fun l hl => ?_⟩
    have En13 := En12.new (o := .lst [v5, .ref q1, .ref q2, .ref q3]) hl
    have nl := En12.fresh hl
    have k13 : Kp [p, c, st] H12 (upd H12 l (.lst [v5, .ref q1, .ref q2, .ref q3])) := Kp.new hl
    have hl13 : (upd H12 l (.lst [v5, .ref q1, .ref q2, .ref q3])) l = some (.lst [v5, .ref q1, .ref q2, .ref q3]) := upd_same
    refine ⟨_, rfl, p, a, 4, rfl, En13.pen, (by decide), (by decide), fun g H14 k14 pen14 g0 g1 => ?_⟩
    have En14 := En13.same k14 pen14
    have k14' := k14.mono (T := [p, c, st]) sub3
    have hl14 := k14'.lst hl13 nl
    have k14 := k13.trans k14'
    obtain ⟨va, b, hva, hb, hab⟩ : ∃ (va : V) (b : Lz.P), ([v5, .ref q1, .ref q2, .ref q3] : List V)[g.toNat]? = some va ∧ Dp K H14 va b.data ∧ More d (again me t0 as) b := by
      have h0 : g.toNat < 4 := by omega
      generalize g.toNat = j at h0
      match j, h0 with
      | 0, _ => exact ⟨_, _, rfl, Dp.keep k14 _ _ (data_fz _) hc, .call⟩
      | 1, _ => exact ⟨_, _, rfl, Dp.keep k14 _ _ (data_fz _) h1, .plus⟩
      | 2, _ => exact ⟨_, _, rfl, Dp.keep k14 _ _ (data_fz _) h2, .pair⟩
      | 3, _ => exact ⟨_, _, rfl, Dp.keep k14 _ _ (data_fz _) h3, .turn⟩
    have k14 := k12.trans k14
    have hR14 := k14.lst hR7 (En7.room hR7)
    refine ⟨l, _, _, _, rfl, rfl, SqL.of hl14, at_of (j := g.toNat) (by omega) hva, ?_⟩
    -- when
    refine ⟨_, rfl, tl, _, _, _, rfl, rfl, SqL.of En14.scp, at_of (j := 0) rfl rfl, (by show 2 ≤ sizeLine; decide), fun q4 hq4 => ?_⟩
    have k15 : Kp [p, c, st] H14 (upd H14 q4 (.tup [.str "name", .str t0])) := Kp.new hq4
    have En15 := En14.new (o := .tup [.str "name", .str t0]) hq4
    have hn : Dp K (upd H14 q4 (.tup [.str "name", .str t0])) (.ref q4) (Lz.P.nam t0).data := Dp.newT hq4 (.cons (.str _) (.cons (.str _) .nil)) rfl
    have hb := Dp.keep k15 _ _ (data_fz _) hb
    have hR15 := k15.lst hR14 (En14.room hR14)
    have k15 := k14.trans k15
    generalize upd H14 q4 (.tup [.str "name", .str t0]) = H15 at En15 k15 hn hb hR15 ⊢
    refine ⟨_, rfl, _, rfl, _, rfl, _, rfl, _, rfl, r, _, _, _, rfl, rfl, SqL.of hR15, at_of (j := 1) rfl rfl, _, rfl, r, _, _, _, rfl, rfl, SqL.of hR15, at_of (j := 2) rfl rfl, (by show 3 ≤ sizeLine; decide), fun r3 hr3 => ?_⟩
    have En16 := En15.new (o := .lst [.int 3, .ref c, .ref st]) hr3
    have k16 : Kp [p, c, st] H15 (upd H15 r3 (.lst [.int 3, .ref c, .ref st])) := Kp.new hr3
    refine ⟨p, a, wl, tl, r3, c, st, "number", W, t0 :: ts, ss2, 3, n2, rfl, En16, upd_same, (by omega), (by omega), .inl rfl, fun u3 e H17 n3 ss3 k17 pen17 hc17 hs17 hd17 hdr17 => ?_⟩
    have k17 := k16.trans k17
    have hn := Dp.keep k17 _ _ (data_fz _) hn
    have hb := Dp.keep k17 _ _ (data_fz _) hb
    refine ⟨(by show 4 ≤ sizeLine; decide), fun q hq => ?_⟩
    exact D _ (.op "when" [.nam t0, b, e]) _ (k7.trans (k15.trans (k17.trans (Kp.new hq)))) (pen17.new hq) (op_dp hq (.cons hn (.cons hb (.cons hd17 .nil)))) ⟨os, as, d, b, e, n', n2, n3, ss', ss2, ss3, hdr, har, hdr9, hab, hdr17, rfl⟩
end
end Lz

set_option Elab.async false
set_option linter.all false
set_option maxRecDepth 100000
set_option maxHeartbeats 8000000
namespace Lz
open PySem PySem.Spec PyProof.Rows L2
theorem Kp.drop {S T : List Addr} {H H1 H' : Hp} {c : Addr} (h : Kp S H H1) (hc : H c = none) (k : Kp T H1 H') (m : ∀ x, x ∈ T → x ∈ S ∨ x = c) : Kp S H H' := fun b o e n => k b o (h b o e n) fun i => by
  rcases m b i with q | q
  · exact n q
  · rw [q, hc] at e
    cases e
theorem not2 {p st x : Addr} (h1 : x ≠ p) (h2 : x ≠ st) : ¬ x ∈ [p, st] := fun m => by
  rcases List.mem_cons.mp m with e | m
  · exact h1 e
  · exact h2 (List.mem_singleton.mp m)
theorem sub2 {p st : Addr} : ∀ x, x ∈ [p] → x ∈ [p, st] := fun x h => by rw [List.mem_singleton.mp h]; exact List.mem_cons_self
/-- what the drawing of a body finds -/
structure Eb (K : PySem.W.Frag) (H : Hp) (W : List (Str × Int)) (things : List Str) (p a wl tl st : Addr) (ss : List Str) : Prop where
  pen : PenAt H p a
  wld : WAt K H wl W
  scp : H tl = some (.lst (things.map V.str))
  stk : H st = some (.lst (ss.map V.str))
  dw : ¬ wl ∈ [p, st]
  ds : ¬ tl ∈ [p, st]
  as : a ≠ st
  ps : p ≠ st
  nw : ∀ f, f ∈ W → nmOk f.1 ∧ 0 ≤ f.2 ∧ f.2 ≤ 4
  nc : ∀ x, x ∈ things → nmOk x
  ns : ∀ x, x ∈ ss → nmOk x
  lw : W.length ≤ 8
  lt : things.length ≤ 4
  ls : ss.length ≤ 26
section
variable {K : PySem.W.Frag} {H H' : Hp} {W : List (Str × Int)} {things : List Str} {p a wl tl st : Addr} {ss : List Str}
theorem Eb.keep (E : Eb K H W things p a wl tl st ss) (k : Kp [p] H H') (pen : PenAt H' p a) : Eb K H' W things p a wl tl st ss :=
  ⟨pen, E.wld.keep k (fun m => E.dw (sub2 _ m)), k.lst E.scp (fun m => E.ds (sub2 _ m)), k.lst E.stk (not1 E.ps.symm), E.dw, E.ds, E.as, E.ps, E.nw, E.nc, E.ns, E.lw, E.lt, E.ls⟩
theorem Eb.new {q : Addr} {o : HO} (E : Eb K H W things p a wl tl st ss) (h : H q = none) : Eb K (upd H q o) W things p a wl tl st ss := E.keep (Kp.new h) (E.pen.new h)
theorem Eb.en {c : Addr} {n : Int} (E : Eb K H W things p a wl tl st ss) (h : H c = none) : En K (upd H c (.lst [.int n])) W things p a wl tl c st n ss := by
  have E' := E.new (o := .lst [.int n]) h
  obtain ⟨ws, h1, _⟩ := E.wld
  obtain ⟨cp, ca⟩ := E.pen.apart h
  have cw := (ne_of_none h1 h).symm
  have ct := (ne_of_none E.scp h).symm
  have cs := (ne_of_none E.stk h).symm
  refine ⟨E'.pen, E'.wld, E'.scp, upd_same, E'.stk, ?_, ?_, ?_, cp.symm, E.ps, cs, E.nw, E.nc, E.ns, E.lw, by have := E.lt; have := E.ls; omega⟩
  · exact not3 (fun e => E.dw (by rw [e]; exact List.mem_cons_self)) cw.symm (fun e => E.dw (by rw [e]; exact List.mem_cons_of_mem _ List.mem_cons_self))
  · exact not3 (fun e => E.ds (by rw [e]; exact List.mem_cons_self)) ct.symm (fun e => E.ds (by rw [e]; exact List.mem_cons_of_mem _ List.mem_cons_self))
  · exact not3 E.pen.ne ca.symm E.as
end
def spBody (K : PySem.W.Frag) : Sp := fun vs H Q _ => ∃ (p a wl tl st : Addr) (me : Str) (W : List (Str × Int)) (things ss : List Str), vs = [.ref p, .ref wl, .str me, .ref tl, .ref st] ∧
  Eb K H W things p a wl tl st ss ∧ ∀ (v : V) (d : Lz.P) (H' : Hp), Kp [p, st] H H' → PenAt H' p a → Dp K H' v d.data → Bd W me things ss d → Q v H'
theorem emp_ne {x : Str} (c : (!decide (V.str x = V.str "")) = true) : x ≠ "" := fun e => by
  rw [e, decide_eq_true rfl] at c
  cases c
section
variable {P : Program} {w : World} {K : PySem.W.Frag} {mg : Str → Option Value} {base : Heap} {f : Addr} {fd : FuncData}
abbrev sLBody : Stmt := topS 20
theorem scLBody : FnScope ["_law_pen_here", "_law_world", "_law_me", "_law_things", "_law_stock", "_law_deep", "_law_left", "_law_part_here", "_law_k"] ["_law_pen_here", "_law_world", "_law_me", "_law_things", "_law_stock"] (defScope sLBody) := ⟨rfl, rfl, rfl, by decide +kernel, rfl, by decide +kernel, by decide +kernel⟩
theorem ok_body {j : Nat} (hj : 3 ≤ j) (F : Fun K "_law_body" "_law_body" sLBody f fd) (B : Bt mg) (CLDraw : C8.Cal P w K mg base 1 "_law_draw" (spDraw K) [])
    (CLPart : C8.Cal P w K mg base j "_law_part" (spPart K 12) []) (CLLoop : C8.Cal P w K mg base (j + 1) "_law_loop" (spLoop K) []) : FnOk P w K mg base CX0 (j + 2) f fd ["_law_pen_here", "_law_world", "_law_me", "_law_things", "_law_stock"] (spBody K) := by
  have mmin := B.min
  have mrange := B.range
  refine F.ok scLBody (fun vs H Q E h => ?_) (fun cdv A outer s H vs Q E hr h => ?_)
  · obtain ⟨p, a, wl, tl, st, me, W, things, ss, rfl, _⟩ := h
    rfl
  have hu64 := hr.units
  obtain ⟨p, a, wl, tl, st, me, W, things, ss, rfl, Eb0, D⟩ := h
  refine ⟨_, (pss_cons (ps_set (i := 5) scLBody.nd rfl (.inl rfl) (pe_ix (ix_listK (K := K) rfl) (pe_lst (pa_cons pe_int (pa_cons pe_int (pa_cons pe_int (pa_cons pe_int pa_nil))))) (C8.pe_c CLDraw hr (by first | decide | omega) (by rfl) (pa_cons (pv 0) (pa_cons pe_int pa_nil))) (fun _ _ => rfl)))
    (pss_cons (ps_set (i := 6) scLBody.nd rfl (.inl rfl) (pe_ix (ix_listK (K := K) rfl) (pe_lst (pa_cons pe_int (pa_cons pe_int (pa_cons pe_int (pa_cons pe_int (pa_cons pe_int (pa_cons pe_int pa_nil))))))) (C8.pe_c CLDraw hr (by first | decide | omega) (by rfl) (pa_cons (pv 0) (pa_cons pe_int pa_nil))) (fun _ _ => rfl)))
    (C8.pss_cut (ps_if (PW.pt (pw_and (pt_cmpR op_ne (pv 2) pe_str (nomark _)) (pw_and (pt_cmpR (op_neDK (K := K) rfl hu64) (pv 3) (pe_lst pa_nil) (nomark _)) (pw_and1 (pt_cmpR op_eq (C8.pe_c CLDraw hr (by first | decide | omega) (by rfl) (pa_cons (pv 0) (pa_cons pe_int pa_nil))) pe_int (nomark _)))))) (pss_one (ps_ret (C8.pe_c CLLoop hr (by first | decide | omega) (by rfl) (pa_cons (pv 0) (pa_cons (pv 1) (pa_cons (pv 2) (pa_cons (pv 3) (pa_cons (pe_lst (pa_cons (pv 5) (pa_cons (pe_lst (pa_cons (pe_callB (call_min2 rfl) (by rfl) mmin (by decide +kernel) (pa_cons (pv 6) (pa_cons pe_int pa_nil))) pa_nil)) (pa_cons (pv 4) pa_nil)))) pa_nil)))))))) pss_nil)
    (C8.pss_cut (ps_if (PW.pt (pw_and (pt_cmpR op_eq (pv 2) pe_str (nomark _)) (pw_and (pt_cmpR (op_neDK (K := K) rfl hu64) (pv 1) (pe_lst pa_nil) (nomark _)) (pw_and1 (pt_cmpR op_eq (C8.pe_c CLDraw hr (by first | decide | omega) (by rfl) (pa_cons (pv 0) (pa_cons pe_int pa_nil))) pe_int (nomark _)))))) (pss_cons (ps_set (i := 7) scLBody.nd rfl (.inl rfl) (pe_tup (pa_cons pe_str (pa_cons (pe_ix (ix_tupK (K := K) rfl) (pe_ix (ix_listK (K := K) rfl) (pv 1) pe_int (fun _ _ => rfl)) pe_int (fun _ _ => rfl)) pa_nil))))
    (pss_cons (ps_for PassesOwn.never rfl (pi_range1 (by rfl) mrange (pa_cons (pe_ix (ix_tupK (K := K) rfl) (pe_ix (ix_listK (K := K) rfl) (pv 1) pe_int (fun _ _ => rfl)) pe_int (fun _ _ => rfl)) pa_nil)) (pg_name (i := 8) scLBody.nd rfl (.inl rfl)) (pss_one (ps_set (i := 7) scLBody.nd rfl (.inl rfl) (pe_tup (pa_cons pe_str (pa_cons (pv 7) (pa_cons (pe_tup (pa_cons pe_str (pa_cons (C8.pe_c CLDraw hr (by first | decide | omega) (by rfl) (pa_cons (pv 0) (pa_cons pe_int pa_nil))) pa_nil))) pa_nil)))))))
    (pss_one (ps_ret (pv 7))))) pss_nil)
    (pss_one (ps_ret (C8.pe_c CLPart hr (by first | decide | omega) (by rfl) (pa_cons (pv 0) (pa_cons (pv 1) (pa_cons (pv 3) (pa_cons (pe_lst (pa_cons (pv 5) (pa_cons (pe_lst (pa_cons (pv 6) pa_nil)) (pa_cons (pv 4) pa_nil)))) (pa_cons pe_str pa_nil)))))))))))), ?_⟩
  -- how deep, how many
  refine ⟨(by show 4 ≤ sizeLine; decide), fun l hl => ?_⟩
  have Eb1 := Eb0.new (o := .lst [.int 2, .int 7, .int 9, .int 11]) hl
  have hl1 : (upd H l (.lst [.int 2, .int 7, .int 9, .int 11])) l = some (.lst [.int 2, .int 7, .int 9, .int 11]) := upd_same
  have k1 : Kp [p] H (upd H l (.lst [.int 2, .int 7, .int 9, .int 11])) := Kp.new hl
  refine ⟨_, rfl, p, a, 4, rfl, Eb1.pen, (by decide), (by decide), fun g H2 k2 pen2 g0 g1 => ?_⟩
  have Eb2 := Eb1.keep k2 pen2
  have hl2 := k2.lst hl1 (not1 (Eb0.pen.apart hl).1)
  have k2 := k1.trans k2
  obtain ⟨dp, hdp, dp0, dp1⟩ : ∃ z : Int, ([.int 2, .int 7, .int 9, .int 11] : List V)[g.toNat]? = some (.int z) ∧ 0 ≤ z ∧ z ≤ 11 := by
    have h0 : g.toNat < 4 := by omega
    generalize g.toNat = j at h0
    match j, h0 with
    | 0, _ => exact ⟨_, rfl, by decide, by decide⟩
    | 1, _ => exact ⟨_, rfl, by decide, by decide⟩
    | 2, _ => exact ⟨_, rfl, by decide, by decide⟩
    | 3, _ => exact ⟨_, rfl, by decide, by decide⟩
  refine ⟨l, _, _, _, rfl, rfl, SqL.of hl2, at_of (j := g.toNat) (by omega) hdp, ?_⟩
  refine ⟨(by show 6 ≤ sizeLine; decide), fun l3 hl3 => ?_⟩
  have Eb3 := Eb2.new (o := .lst [.int 2, .int 7, .int 14, .int 24, .int 40, .int 59]) hl3
  have hl4 : (upd H2 l3 (.lst [.int 2, .int 7, .int 14, .int 24, .int 40, .int 59])) l3 = some (.lst [.int 2, .int 7, .int 14, .int 24, .int 40, .int 59]) := upd_same
  have k3 : Kp [p] H2 (upd H2 l3 (.lst [.int 2, .int 7, .int 14, .int 24, .int 40, .int 59])) := Kp.new hl3
  refine ⟨_, rfl, p, a, 6, rfl, Eb3.pen, (by decide), (by decide), fun y H4 k4 pen4 y0 y1 => ?_⟩
  have Eb4 := Eb3.keep k4 pen4
  have hl5 := k4.lst hl4 (not1 (Eb2.pen.apart hl3).1)
  have k4 := k2.trans (k3.trans k4)
  obtain ⟨n, hn, n0, n1⟩ : ∃ z : Int, ([.int 2, .int 7, .int 14, .int 24, .int 40, .int 59] : List V)[y.toNat]? = some (.int z) ∧ 0 ≤ z ∧ z ≤ 59 := by
    have h0 : y.toNat < 6 := by omega
    generalize y.toNat = j at h0
    match j, h0 with
    | 0, _ => exact ⟨_, rfl, by decide, by decide⟩
    | 1, _ => exact ⟨_, rfl, by decide, by decide⟩
    | 2, _ => exact ⟨_, rfl, by decide, by decide⟩
    | 3, _ => exact ⟨_, rfl, by decide, by decide⟩
    | 4, _ => exact ⟨_, rfl, by decide, by decide⟩
    | 5, _ => exact ⟨_, rfl, by decide, by decide⟩
  refine ⟨l3, _, _, _, rfl, rfl, SqL.of hl5, at_of (j := y.toNat) (by omega) hn, ?_⟩
  clear Eb0 Eb1 Eb2 Eb3 k1 k2 k3 hl1 hl2 hl4 hl5 pen2 pen4
  -- a loop?
  refine ⟨fun σ' H' => σ' = [some (.ref p), some (.ref wl), some (.str me), some (.ref tl), some (.ref st), some (.int dp), some (.int n), none, none] ∧ Kp [p] H H' ∧ Eb K H' W things p a wl tl st ss, ?_, ?_⟩
  · refine ⟨_, rfl, rfl, _, rfl, ?_⟩
    refine ite2 (fun c1 => ?_) (fun c1 => ⟨rfl, k4, Eb4⟩)
    have hme := emp_ne c1
    refine ⟨_, rfl, Nat.zero_le _, fun l hl => ?_⟩
    have k5 : Kp [p] H (upd H4 l (.lst [])) := k4.trans (Kp.new hl)
    have Eb5 := Eb4.new (o := .lst []) hl
    refine ⟨_, _, scope_dp Eb5.scp, nil_dp, strs_shaped Eb5.nc, nil_shaped, _, rfl, ?_⟩
    rw [eqv_nil]
    generalize upd H4 l (.lst []) = H5 at Eb5 k5 ⊢
    refine ite2 (fun c2 => ?_) (fun c2 => ⟨rfl, k5, Eb5⟩)
    obtain ⟨t0, ts, rfl⟩ : ∃ t0 ts, things = t0 :: ts := by
      cases things with
      | nil => cases c2
      | cons t ts => exact ⟨t, ts, rfl⟩
    refine ⟨_, rfl, p, a, 3, rfl, Eb5.pen, (by decide), (by decide), fun z H6 k6 pen6 z0 z1 => ?_⟩
    have Eb6 := Eb5.keep k6 pen6
    have k6 := k5.trans k6
    refine ⟨rfl, _, rfl, ?_⟩
    refine ite2 (fun c3 => ?_) (fun c3 => ⟨rfl, k6, Eb6⟩)
    refine ⟨_, rfl, _, rfl, _, rfl, _, rfl, _, rfl, _, rfl, _, _, rfl, (by show 1 ≤ sizeLine; decide), fun c hc => ?_⟩
    have hmin : (if (40 : Int) < n then (40 : Int) else n) = min n 40 := by omega
    have En7 := Eb6.en (n := if (40 : Int) < n then (40 : Int) else n) hc
    have k7 : Kp [p] H6 (upd H6 c (.lst [.int (if (40 : Int) < n then (40 : Int) else n)])) := Kp.new hc
    have k7 := k6.trans k7
    have hc0 : H c = none := k6.free hc (not1 (Eb6.pen.apart hc).1)
    refine ⟨_, rfl, (by show 3 ≤ sizeLine; decide), fun r hr2 => ?_⟩
    have En8 := En7.new (o := .lst [.int dp, .ref c, .ref st]) hr2
    have k8 : Kp [p] H _ := k7.trans (Kp.new (o := .lst [.int dp, .ref c, .ref st]) hr2)
    have l4 := Eb6.lt
    rw [List.length_cons] at l4
    refine ⟨p, a, wl, tl, r, c, st, me, t0, W, ts, ss, dp, _, rfl, En8, upd_same, (by omega), fun v d H9 k9 pen9 hd9 hL => ?_⟩
    refine D v d H9 (Kp.drop (k8.mono sub2) hc0 k9 fun x m => ?_) pen9 hd9 (.loop hme rfl ?_ ?_ hL)
    · rcases List.mem_cons.mp m with e | m
      · exact .inl (by rw [e]; exact List.mem_cons_self)
      · rcases List.mem_cons.mp m with e | m
        · exact .inr e
        · exact .inl (by rw [List.mem_singleton.mp m]; exact List.mem_cons_of_mem _ List.mem_cons_self)
    · rw [hmin]; omega
    · rw [hmin]; omega
  rintro _ H5 ⟨rfl, k5, Eb5⟩
  clear Eb4 k4
  -- the first function, asked?
  refine ⟨fun σ' H' => (∃ v7 v8, σ' = [some (.ref p), some (.ref wl), some (.str me), some (.ref tl), some (.ref st), some (.int dp), some (.int n), v7, v8]) ∧ Kp [p] H H' ∧ Eb K H' W things p a wl tl st ss, ?_, ?_⟩
  · refine ⟨_, rfl, rfl, _, rfl, ?_⟩
    refine ite2 (fun c1 => ?_) (fun c1 => ⟨⟨_, _, rfl⟩, k5, Eb5⟩)
    have hme := str_of_decide c1
    refine ⟨_, rfl, Nat.zero_le _, fun l hl => ?_⟩
    have k6 : Kp [p] H (upd H5 l (.lst [])) := k5.trans (Kp.new hl)
    have Eb6 := Eb5.new (o := .lst []) hl
    refine ⟨_, _, Eb6.wld.dp, nil_dp, wds_shaped (fun f m => (Eb6.nw f m).1), nil_shaped, _, rfl, ?_⟩
    rw [eqv_nil]
    generalize upd H5 l (.lst []) = H6 at Eb6 k6 ⊢
    refine ite2 (fun c2 => ?_) (fun c2 => ⟨⟨_, _, rfl⟩, k6, Eb6⟩)
    obtain ⟨⟨fn, wn⟩, rest, rfl⟩ : ∃ fw rest, W = fw :: rest := by
      cases W with
      | nil => cases c2
      | cons t ts => exact ⟨t, ts, rfl⟩
    refine ⟨_, rfl, p, a, 2, rfl, Eb6.pen, (by decide), (by decide), fun z H7 k7 pen7 z0 z1 => ?_⟩
    have Eb7 := Eb6.keep k7 pen7
    have k7 := k6.trans k7
    refine ⟨rfl, _, rfl, ?_⟩
    refine ite2 (fun c3 => ?_) (fun c3 => ⟨⟨_, _, rfl⟩, k7, Eb7⟩)
    obtain ⟨ws, hws, hdw⟩ := id Eb7.wld
    obtain ⟨t, wr, rfl, hT⟩ : ∃ t wr, ws = .ref t :: wr ∧ SqT K H7 t [.str fn, .int wn] := by
      cases hdw with
      | cons h1 h2 =>
        obtain ⟨t, xs, rfl, ht, hxs⟩ := h1.tup_of
        cases hxs with
        | cons h3 h4 =>
          cases h3
          cases h4 with
          | cons h5 h6 =>
            cases h5
            cases h6
            exact ⟨t, _, rfl, ht⟩
    have hw4 := (Eb7.nw _ List.mem_cons_self).2
    refine ⟨_, rfl, wl, _, _, _, rfl, rfl, SqL.of hws, at_of (j := 0) rfl rfl, t, _, _, _, rfl, rfl, hT, at_of (j := 0) rfl rfl, (by show 2 ≤ sizeLine; decide), fun q hq => ?_⟩
    have Eb8 := Eb7.new (o := .tup [.str "fun", .str fn]) hq
    have k8 : Kp [p] H7 (upd H7 q (.tup [.str "fun", .str fn])) := Kp.new hq
    have hd8 : Dp K (upd H7 q (.tup [.str "fun", .str fn])) (.ref q) (Lz.P.fn fn).data := Dp.newT hq (.cons (.str _) (.cons (.str _) .nil)) rfl
    have hws8 := k8.lst hws (fun m => Eb7.dw (sub2 _ m))
    have hT8 := k8.sqT hT
    have k8 := k7.trans k8
    generalize upd H7 q (.tup [.str "fun", .str fn]) = H8 at Eb8 k8 hd8 hws8 hT8 ⊢
    refine ⟨_, rfl, wl, _, _, _, rfl, rfl, SqL.of hws8, at_of (j := 0) rfl rfl, t, _, _, _, rfl, rfl, hT8, at_of (j := 1) rfl rfl, _, rfl, (by omega), (by omega), for_range (lo := 0) (n := wn.toNat) (fun i σ H' => ∃ (v7 : V) (ks : List Int) (v8 : Option V),
        σ = [some (.ref p), some (.ref wl), some (.str me), some (.ref tl), some (.ref st), some (.int dp), some (.int n), some v7, v8] ∧ ks.length = i ∧ (∀ k, k ∈ ks → 0 ≤ k ∧ k < 8) ∧ Kp [p] H H' ∧ PenAt H' p a ∧ Dp K H' v7 (gives (.fn fn) (ks.map .num)).data)
      ⟨.ref q, [], none, rfl, rfl, (fun k m => nomatch m), k8, Eb8.pen, hd8⟩ ?_ ?_⟩
    · rintro i σ H9 hi ⟨v7, ks, v8, rfl, hks, hk8, k9, pen9, hd9⟩
      refine ⟨_, rfl, _, rfl, p, a, 8, rfl, pen9, (by decide), (by decide), fun g H10 k10 pen10 g0 g1 => ?_⟩
      refine ⟨(by show 2 ≤ sizeLine; decide), fun q1 hq1 => ?_⟩
      have hdn : Dp K (upd H10 q1 (.tup [.str "number", .int g])) (.ref q1) (Lz.P.num g).data := Dp.newT hq1 (.cons (.str _) (.cons (.int _) .nil)) rfl
      have k11 : Kp [p] H9 (upd H10 q1 (.tup [.str "number", .int g])) := k10.trans (Kp.new hq1)
      have pen11 := pen10.new (o := .tup [.str "number", .int g]) hq1
      have hd11 := Dp.keep k11 _ _ (data_fz _) hd9
      generalize upd H10 q1 (.tup [.str "number", .int g]) = H11 at hdn k11 pen11 hd11 ⊢
      refine ⟨(by show 3 ≤ sizeLine; decide), fun q2 hq2 => ?_⟩
      refine ⟨_, ks ++ [g], _, rfl, by rw [List.length_append, hks]; rfl, ?_, k9.trans (k11.trans (Kp.new hq2)), pen11.new hq2, ?_⟩
      · intro k m
        rcases List.mem_append.mp m with m | m
        · exact hk8 k m
        · rw [List.mem_singleton.mp m]
          exact ⟨g0, g1⟩
      · rw [List.map_append]
        show Dp K _ _ (gives (.fn fn) (ks.map Lz.P.num ++ [.num g])).data
        rw [gives_snoc]
        exact op_dp hq2 (.cons hd11 (.cons hdn .nil))
    · rintro σ H9 ⟨v7, ks, v8, rfl, hks, hk8, k9, pen9, hd9⟩
      refine ⟨_, rfl, D v7 _ H9 (k9.mono sub2) pen9 hd9 (.first hme rfl (by omega) hk8)⟩
  · rintro _ H6 ⟨⟨v7, v8, rfl⟩, k6, Eb6⟩
    refine ⟨_, rfl, _, rfl, _, rfl, _, rfl, _, rfl, (by show 1 ≤ sizeLine; decide), fun c hc => ?_⟩
    have En7 := Eb6.en (n := n) hc
    have k7 : Kp [p] H6 (upd H6 c (.lst [.int n])) := Kp.new hc
    have k7 := k6.trans k7
    have hc0 : H c = none := k6.free hc (not1 (Eb6.pen.apart hc).1)
    refine ⟨_, rfl, (by show 3 ≤ sizeLine; decide), fun r hr2 => ?_⟩
    have En8 := En7.new (o := .lst [.int dp, .ref c, .ref st]) hr2
    have k8 : Kp [p] H _ := k7.trans (Kp.new (o := .lst [.int dp, .ref c, .ref st]) hr2)
    refine ⟨p, a, wl, tl, r, c, st, "any", W, things, ss, dp, n, rfl, En8, upd_same, (by omega), (by omega), .inr (.inr rfl), fun v d H9 n' ss' k9 pen9 _ _ hd9 hdr => ?_⟩
    refine D v d H9 (Kp.drop (k8.mono sub2) hc0 k9 fun x m => ?_) pen9 hd9 (.part dp0 dp1 n0 n1 hdr)
    rcases List.mem_cons.mp m with e | m
    · exact .inl (by rw [e]; exact List.mem_cons_self)
    · rcases List.mem_cons.mp m with e | m
      · exact .inr e
      · exact .inl (by rw [List.mem_singleton.mp m]; exact List.mem_cons_of_mem _ List.mem_cons_self)
end
end Lz

set_option Elab.async false
set_option linter.all false
set_option maxRecDepth 100000
set_option maxHeartbeats 4000000
namespace Lz
open PySem PySem.Spec PyProof.Rows L2
def spNames (K : PySem.W.Frag) : Sp := fun vs H Q _ => ∃ (p a : Addr) (m : Nat), vs = [.ref p, .int m] ∧ PenAt H p a ∧ m ≤ 26 ∧
  ∀ (l : Addr) (xs : List Str) (H' : Hp), Kp [p] H H' → PenAt H' p a → H l = none → H' l = some (.lst (xs.map V.str)) → xs.length = m → (∀ x, x ∈ xs → nmOk x) → xs.Nodup → Q (.ref l) H'
section
variable {P : Program} {w : World} {K : PySem.W.Frag} {mg : Str → Option Value} {base : Heap} {f : Addr} {fd : FuncData}
abbrev sLNames : Stmt := topS 12
theorem scLNames : FnScope ["_law_pen_here", "_law_many", "_law_letters", "_law_word", "_law_at", "_law_first", "_law_by", "_law_k"] ["_law_pen_here", "_law_many"] (defScope sLNames) := ⟨rfl, rfl, rfl, by decide +kernel, rfl, by decide +kernel, by decide +kernel⟩
theorem ok_names (F : Fun K "_law_names" "_law_names" sLNames f fd) (B : Bt mg) (CLDraw : C8.Cal P w K mg base 1 "_law_draw" (spDraw K) []) : FnOk P w K mg base CX0 2 f fd ["_law_pen_here", "_law_many"] (spNames K) := by
  have ml := B.len
  have mrange := B.range
  refine F.ok scLNames (fun vs H Q E h => ?_) (fun cdv A outer s H vs Q E hr h => ?_)
  · obtain ⟨p, a, m, rfl, _⟩ := h
    rfl
  obtain ⟨p, a, m, rfl, hpen, hm, k⟩ := h
  refine ⟨_, (pss_cons (ps_set (i := 2) scLNames.nd rfl (.inr rfl) pe_str)
    (pss_cons (ps_set (i := 3) scLNames.nd rfl (.inr rfl) (pe_join pe_str (pe_lc (own := [("_law_k", 7)]) rfl scLNames.nd (pi_range1 (by rfl) mrange (pa_cons (pe_op op_add pe_int (C8.pe_c CLDraw hr (by first | decide | omega) (by rfl) (pa_cons (pv 0) (pa_cons pe_int pa_nil)))) pa_nil)) (blkOk_by (N := ["_law_pen_here", "_law_many", "_law_letters", "_law_word", "_law_at", "_law_first", "_law_by", "_law_k"]) (sc := defScope sLNames) (by decide +kernel)) (fun _ _ _ _ _ => (pg_name (i := 7) scLNames.nd rfl (.inl rfl))) (fun _ _ _ _ _ => pts_nil) (fun _ _ _ _ _ => (pe_ix ix_str (pv 2) (C8.pe_c CLDraw hr (by first | decide | omega) (by rfl) (pa_cons (pv 0) (pa_cons pe_int pa_nil))) (fun _ _ => rfl))))))
    (pss_cons (ps_set (i := 4) scLNames.nd rfl (.inr rfl) (C8.pe_c CLDraw hr (by first | decide | omega) (by rfl) (pa_cons (pv 0) (pa_cons (pe_callB call_len_str (by rfl) ml PySem.boot_len (pa_cons (pv 3) pa_nil)) pa_nil))))
    (pss_cons (ps_set (i := 5) scLNames.nd rfl (.inr rfl) (C8.pe_c CLDraw hr (by first | decide | omega) (by rfl) (pa_cons (pv 0) (pa_cons pe_int pa_nil))))
    (pss_cons (ps_set (i := 6) scLNames.nd rfl (.inr rfl) (pe_ix (ix_listK (K := K) rfl) (pe_lst (pa_cons pe_int (pa_cons pe_int (pa_cons pe_int (pa_cons pe_int (pa_cons pe_int (pa_cons pe_int pa_nil))))))) (C8.pe_c CLDraw hr (by first | decide | omega) (by rfl) (pa_cons (pv 0) (pa_cons pe_int pa_nil))) (fun _ _ => rfl)))
    (pss_one (ps_ret (pe_lc (own := [("_law_k", 7)]) rfl scLNames.nd (pi_range1 (by rfl) mrange (pa_cons (pv 1) pa_nil)) (blkOk_by (N := ["_law_pen_here", "_law_many", "_law_letters", "_law_word", "_law_at", "_law_first", "_law_by", "_law_k"]) (sc := defScope sLNames) (by decide +kernel)) (fun _ _ _ _ _ => (pg_name (i := 7) scLNames.nd rfl (.inl rfl))) (fun _ _ _ _ _ => pts_nil) (fun _ _ _ _ _ => (pe_op op_add_str (pe_op op_add_str (pe_slice sl_str (pv 3) po_none (po_some (pv 4))) (pe_ix ix_str (pv 2) (pe_op op_mod (pe_op op_add (pv 5) (pe_op op_mul (pv 6) (pv 7))) pe_int) (fun _ _ => rfl))) (pe_slice sl_str (pv 3) (po_some (pe_op op_add (pv 4) pe_int)) po_none))))))))))), ?_⟩
  -- letters; the word
  refine ⟨⟨_, rfl⟩, ⟨_, rfl, p, a, 8, rfl, hpen, by decide, by decide, fun r H1 k1 pen1 r0 r1 => ?_⟩⟩
  refine ⟨_, _, rfl, rfl, _, rfl, (by omega), (by omega), fun D hD => ?_⟩
  obtain ⟨hDp, hDa⟩ := pen1.apart hD
  have hD0 : H D = none := k1.free hD (not1 hDp)
  refine lc_range (lo := 0) (n := (1 + r).toNat) (fun i H' => Kp [p] H H' ∧ PenAt H' p a ∧ ∃ cs : List Nat, H' D = some (.lst ((cs.map one).map V.str)) ∧ cs.length = i ∧ ∀ c, c ∈ cs → 97 ≤ c ∧ c ≤ 122)
    ⟨k1.mut hD0, pen1.new hD, [], upd_same, rfl, fun c h => nomatch h⟩ (fun i H2 hi ⟨kk, pn, cs, hc, hl, hcs⟩ => ?_) (fun H2 ⟨kk, pn, cs, hc, hl, hcs⟩ => ?_)
  · refine ⟨rfl, ?_⟩
    refine ⟨_, rfl, _, rfl, p, a, 26, rfl, pn, by decide, by decide, fun r2 H3 k3 pen3 r20 r21 => ?_⟩
    refine ⟨_, _, _, rfl, rfl, letters_len, letters_at r20 r21, ?_⟩
    have hc3 : H3 D = some (.lst ((cs.map one).map V.str)) := k3.lst hc (not1 hDp)
    have hc4 : (cs.map one).map V.str ++ [V.str (one (97 + r2.toNat))] = ((cs ++ [97 + r2.toNat]).map one).map V.str := by
      rw [List.map_append, List.map_append]
      rfl
    refine ⟨_, hc3, (by rw [List.length_map, List.length_map]; exact small1000 (by omega)), (kk.trans k3).mut hD0, pen3.mut hDp hDa, cs ++ [97 + r2.toNat], Eq.trans upd_same (congrArg (fun z => some (HO.lst z)) hc4), by rw [List.length_append, List.length_singleton, hl], fun c hcm => ?_⟩
    rcases List.mem_append.mp hcm with q | q
    · exact hcs c q
    · rw [List.mem_singleton.mp q]
      omega
  · have hz := join_ones cs
    have hlen : cs.length = (1 + r).toNat := hl
    refine ⟨_, D, _, rfl, rfl, .inl (SqL.of hc), (by rw [sum_ones, List.length_map]; show cs.length + cs.length * 0 ≤ _; omega), ?_⟩
    generalize hword : Txt.join ("" : Str) (cs.map one) = word at hz
    have hwl : word.length = cs.length := by rw [str_len, hz]
    have hws : word.length ≤ sizeLine := by rw [hwl]; exact Nat.le_of_lt (small1000 (by omega))
    -- at, first, by
    refine ⟨_, rfl, _, rfl, _, rfl, hws, p, a, _, rfl, pn, (by omega), (by omega), fun kat H3 k3 pen3 q0 q1 => ?_⟩
    refine ⟨_, rfl, p, a, 26, rfl, pen3, (by omega), (by decide), fun fi H4 k4 pen4 f0 f1 => ?_⟩
    refine ⟨(by show 6 ≤ sizeLine; decide), fun lb hlb => ?_⟩
    have hl5 : (upd H4 lb (.lst [.int 1, .int 3, .int 5, .int 7, .int 9, .int 11])) lb = some (.lst [.int 1, .int 3, .int 5, .int 7, .int 9, .int 11]) := upd_same
    have k5 := ((kk.trans k3).trans k4).trans (Kp.new (S := [p]) (o := .lst [.int 1, .int 3, .int 5, .int 7, .int 9, .int 11]) hlb)
    refine ⟨_, rfl, p, a, 6, rfl, pen4.new hlb, (by omega), (by decide), fun bi H6 k6 pen6 b0 b1 => ?_⟩
    have hl6 := k6.lst hl5 (not1 (pen4.apart hlb).1)
    obtain ⟨b, hb, hb6⟩ : ∃ b : Nat, ([.int 1, .int 3, .int 5, .int 7, .int 9, .int 11] : List V)[bi.toNat]? = some (.int (b : Int)) ∧ (b = 1 ∨ b = 3 ∨ b = 5 ∨ b = 7 ∨ b = 9 ∨ b = 11) := by
      have h0 : bi.toNat < 6 := by omega
      generalize bi.toNat = j at h0
      match j, h0 with
      | 0, _ => exact ⟨1, rfl, by omega⟩
      | 1, _ => exact ⟨3, rfl, by omega⟩
      | 2, _ => exact ⟨5, rfl, by omega⟩
      | 3, _ => exact ⟨7, rfl, by omega⟩
      | 4, _ => exact ⟨9, rfl, by omega⟩
      | 5, _ => exact ⟨11, rfl, by omega⟩
    refine ⟨lb, _, _, _, rfl, rfl, SqL.of hl6, at_of (j := bi.toNat) (by omega) hb, ?_⟩
    have k7 := k5.trans k6
    -- the names
    refine ⟨_, rfl, _, rfl, (by omega), (by omega), fun E1 hE => ?_⟩
    obtain ⟨hEp, hEa⟩ := pen6.apart hE
    have hE0 : H E1 = none := k7.free hE (not1 hEp)
    obtain ⟨ka, rfl⟩ : ∃ n : Nat, kat = (n : Int) := ⟨kat.toNat, by omega⟩
    obtain ⟨f, rfl⟩ : ∃ n : Nat, fi = (n : Int) := ⟨fi.toNat, by omega⟩
    refine lc_range (lo := 0) (n := (m : Int).toNat) (fun i H' => Kp [p] H H' ∧ PenAt H' p a ∧ H' E1 = some (.lst ((namesOf cs ka f b i).map V.str)))
      ⟨k7.mut hE0, pen6.new hE, upd_same⟩ (fun i H2 hi ⟨kk, pn, hc⟩ => ?_) (fun H2 ⟨kk, pn, hc⟩ => ?_)
    · refine ⟨rfl, ?_⟩
      refine ⟨_, rfl, _, rfl, _, rfl, _, rfl, hws, _, rfl, _, rfl, _, rfl, _, rfl, _, _, rfl, rfl, .inl ⟨by omega, by omega⟩, _, _, rfl, rfl, _, _, rfl, rfl, (by show (0 : Int) < 26; decide), ?_⟩
      have g0 : 0 ≤ ((f : Int) + (b : Int) * (0 + (i : Int))) % 26 := Int.emod_nonneg _ (by omega)
      have g1 : ((f : Int) + (b : Int) * (0 + (i : Int))) % 26 < 26 := Int.emod_lt_of_pos _ (by omega)
      have gz : (97 + (((f : Int) + (b : Int) * (0 + (i : Int))) % 26).toNat) = 97 + (f + b * i) % 26 := by
        have e : ((f : Int) + (b : Int) * (0 + (i : Int))) % 26 = (((f + b * i) % 26 : Nat) : Int) := by
          rw [Int.zero_add]
          norm_cast
        rw [e]
        omega
      have hw8 : word.length ≤ 8 := by omega
      have c1 := cutS_length word none (some (ka : Int))
      have c2 := cutS_length word (some ((ka : Int) + 1)) none
      have o1 : (⟨#[97 + (((f : Int) + (b : Int) * (0 + (i : Int))) % 26).toNat]⟩ : Str).length = 1 := rfl
      refine ⟨_, _, _, rfl, rfl, letters_len, letters_at g0 g1, _, _, rfl, rfl, (by rw [o1]; exact Nat.le_of_lt (small1000 (by omega))), ?_⟩
      refine ⟨_, rfl, _, rfl, _, _, rfl, rfl, _, rfl, _, rfl, hws, _, _, rfl, rfl, ?_, ?_⟩
      · rw [Str.length_append, o1]
        exact Nat.le_of_lt (small1000 (by omega))
      · refine ⟨_, hc, (by rw [List.length_map, namesOf_len]; exact small1000 (by omega)), kk.mut hE0, pn.mut hEp hEa, ?_⟩
        rw [upd_same, nameOf_eq hz, gz]
        show some (HO.lst (_ ++ [V.str _])) = _
        unfold namesOf
        rw [List.range_succ, List.map_append, List.map_append]
        rfl
    · have e : (m : Int).toNat = m := by omega
      rw [e] at hc
      have hcs1 : 1 ≤ cs.length := by omega
      exact k E1 _ H2 kk pn hE0 hc (namesOf_len _ _ _ _ _) (namesOf_ok hcs1 (by omega) (by omega) hcs) (namesOf_nodup hm hb6)
end
end Lz

set_option Elab.async false
set_option linter.all false
set_option maxRecDepth 100000
set_option maxHeartbeats 8000000
namespace Lz
open PySem PySem.Spec PyProof.Rows L2
theorem cutV_to (xs : List V) (k : Nat) : cutV xs none (some (k : Int)) = xs.take k := by
  unfold cutV
  rw [HT.sIx_none, HT.sIx_nat, List.drop_zero, Nat.sub_zero]
  by_cases h : k ≤ xs.length
  · rw [Nat.min_eq_left h]
  · rw [Nat.min_eq_right (by omega), List.take_of_length_le (Nat.le_refl _), List.take_of_length_le (by omega)]
theorem cutV_from (xs : List V) (k : Nat) : cutV xs (some (k : Int)) none = xs.drop k := by
  unfold cutV
  rw [HT.sIx_none, HT.sIx_nat]
  by_cases h : k ≤ xs.length
  · rw [Nat.min_eq_left h]
    exact List.take_of_length_le (by rw [List.length_drop]; exact Nat.le_refl _)
  · rw [Nat.min_eq_right (by omega), List.drop_eq_nil_of_le (Nat.le_refl _), List.drop_eq_nil_of_le (by omega)]
    exact List.take_nil
def spPen (K : PySem.W.Frag) : Sp := fun vs H Q _ => ∃ (s : Addr) (ns : List Int), vs = [.ref s] ∧ SqL K H s (ns.map V.int) ∧ ns.length ≤ 63 ∧ ∀ (p a : Addr) (H' : Hp), Same H H' → H p = none → H a = none → PenAt H' p a → Q (.ref p) H'
def spProgram (K : PySem.W.Frag) : Sp := fun vs H Q _ => ∃ (p a : Addr), vs = [.ref p] ∧ PenAt H p a ∧ ∀ (v : V) (fs : List Fn) (d : Lz.P) (H' : Hp), Kp [p] H H' → PenAt H' p a → Dp K H' v (progD fs d) → Prog fs d → Q v H'
theorem fd_fz : ∀ fs : List Fn, fzAll (fs.map fD) = true
  | [] => rfl
  | f :: r => by
    show ((true && (fzAll (f.2.1.map .str) && (fz f.2.2.data && true))) && fzAll (r.map fD)) = true
    rw [fd_fz r, strs_fz, data_fz]
    rfl
section
variable {P : Program} {w : World} {K : PySem.W.Frag} {mg : Str → Option Value} {base : Heap} {f : Addr} {fd : FuncData}
abbrev sLPen : Stmt := topS 10
theorem scLPen : FnScope ["_law_script"] ["_law_script"] (defScope sLPen) := ⟨rfl, rfl, rfl, by decide +kernel, rfl, by decide +kernel, by decide +kernel⟩
theorem ok_pen (F : Fun K "_law_pen" "_law_pen" sLPen f fd) (B : Bt mg) : FnOk P w K mg base CX0 1 f fd ["_law_script"] (spPen K) := by
  have mlist := B.list
  refine F.ok scLPen (fun vs H Q E h => ?_) (fun cdv A outer s H vs Q E hr h => ?_)
  · obtain ⟨s, ns, rfl, _⟩ := h
    rfl
  obtain ⟨s0, ns, rfl, hS, hlen, k⟩ := h
  refine ⟨_, (pss_one (ps_ret (pe_lst (pa_cons (pe_callTy (call_listK (K := K) rfl) (by rfl) mlist (by decide +kernel) (pa_cons (pe_slice (sl_listK (K := K) rfl) (pv 0) po_none (po_some pe_int)) pa_nil)) (pa_cons pe_int (pa_cons pe_int pa_nil)))))), ?_⟩
  refine ⟨_, rfl, _, rfl, s0, _, rfl, hS, fun l hl => ?_⟩
  have s1 : Same H (upd H l (.lst (cutV (ns.map V.int) none (some 63)))) := same_new hl
  have ec : cutV (ns.map V.int) none (some 63) = ns.map V.int := by
    have := cutV_to (ns.map V.int) 63
    rw [List.take_of_length_le (by rw [List.length_map]; exact hlen)] at this
    exact this
  refine ⟨l, _, rfl, .inl (SqL.of upd_same), fun a ha => ?_⟩
  have s2 := same_new (o := .lst (cutV (ns.map V.int) none (some 63))) ha
  refine ⟨(by show 3 ≤ sizeLine; decide), fun p hp => ?_⟩
  have s3 := same_new (o := .lst [.ref a, .int 0, .int 0]) hp
  have hap : a ≠ p := fun e => by
    rw [← e, upd_same] at hp
    cases hp
  refine k p a _ (s1.trans (s2.trans s3)) ((s1.trans s2).free hp) (s1.free ha) ⟨ns, 0, 0, upd_same, ?_, hlen, by omega, by omega⟩
  rw [upd_ne hap, upd_same, ec]
abbrev sLProgram : Stmt := topS 21
theorem scLProgram : FnScope ["_law_pen_here", "_law_names_here", "_law_world", "_law_functions", "_law_name", "_law_wanted", "_law_stock", "_law_things"] ["_law_pen_here"] (defScope sLProgram) := ⟨rfl, rfl, rfl, by decide +kernel, rfl, by decide +kernel, by decide +kernel⟩
theorem ok_program {j : Nat} (hj : 3 ≤ j) (F : Fun K "_law_program" "_law_program" sLProgram f fd) (B : Bt mg) (CLDraw : C8.Cal P w K mg base 1 "_law_draw" (spDraw K) []) (CLNames : C8.Cal P w K mg base 2 "_law_names" (spNames K) [])
    (CLBody : C8.Cal P w K mg base j "_law_body" (spBody K) []) : FnOk P w K mg base CX0 (j + 1) f fd ["_law_pen_here"] (spProgram K) := by
  have mtup := B.tuple
  refine F.ok scLProgram (fun vs H Q E h => ?_) (fun cdv A outer s H vs Q E hr h => ?_)
  · obtain ⟨p, a, rfl, _⟩ := h
    rfl
  obtain ⟨p, a, rfl, pen0, D⟩ := h
  refine ⟨_, (pss_cons (ps_set (i := 1) scLProgram.nd rfl (.inl rfl) (C8.pe_c CLNames hr (by first | decide | omega) (by rfl) (pa_cons (pv 0) (pa_cons (pe_ix (ix_listK (K := K) rfl) (pe_lst (pa_cons pe_int (pa_cons pe_int (pa_cons pe_int (pa_cons pe_int (pa_cons pe_int (pa_cons pe_int (pa_cons pe_int (pa_cons pe_int pa_nil))))))))) (C8.pe_c CLDraw hr (by first | decide | omega) (by rfl) (pa_cons (pv 0) (pa_cons pe_int pa_nil))) (fun _ _ => rfl)) pa_nil))))
    (pss_cons (ps_setLc (i := 2) (own := [("_law_name", 4)]) rfl scLProgram.nd rfl rfl (sw_true rfl rfl rfl (by decide +kernel)) (pi_listK (K := K) rfl (pv 1)) (blkOk_by (N := ["_law_pen_here", "_law_names_here", "_law_world", "_law_functions", "_law_name", "_law_wanted", "_law_stock", "_law_things"]) (sc := defScope sLProgram) (by decide +kernel)) (fun _ _ _ _ _ => (pg_name (i := 4) scLProgram.nd rfl (.inl rfl))) (fun _ _ _ _ _ => pts_nil) (fun _ _ _ _ _ => (pe_tup (pa_cons (pv 4) (pa_cons (pe_ix (ix_listK (K := K) rfl) (pe_lst (pa_cons pe_int (pa_cons pe_int (pa_cons pe_int (pa_cons pe_int (pa_cons pe_int (pa_cons pe_int (pa_cons pe_int pa_nil)))))))) (C8.pe_c CLDraw hr (by first | decide | omega) (by rfl) (pa_cons (pv 0) (pa_cons pe_int pa_nil))) (fun _ _ => rfl)) pa_nil)))))
    (pss_cons (ps_set (i := 3) scLProgram.nd rfl (.inl rfl) (pe_lst pa_nil))
    (pss_cons (ps_for PassesOwn.never rfl (pi_listK (K := K) rfl (pv 2)) (pg_tupK (K := K) (n := 2) rfl rfl (pgs_cons (pg_name (i := 4) scLProgram.nd rfl (.inl rfl)) (pgs_cons (pg_name (i := 5) scLProgram.nd rfl (.inl rfl)) pgs_nil))) (pss_cons (ps_set (i := 6) scLProgram.nd rfl (.inl rfl) (C8.pe_c CLNames hr (by first | decide | omega) (by rfl) (pa_cons (pv 0) (pa_cons pe_int pa_nil))))
    (pss_cons (ps_set (i := 7) scLProgram.nd rfl (.inl rfl) (pe_slice (sl_listK (K := K) rfl) (pv 6) po_none (po_some (pv 5))))
    (pss_one (ps_expr (pe_bmK (K := K) rfl PySem.F.plainAttrs_list PySem.F.slot_list_append PySem.F.type_list_append mt_append (pv 3) (pa_cons (pe_tup (pa_cons (pv 4) (pa_cons (pe_callTy (call_tupleK (K := K) rfl) (by rfl) mtup (by decide +kernel) (pa_cons (pv 7) pa_nil)) (pa_cons (C8.pe_c CLBody hr (by first | decide | omega) (by rfl) (pa_cons (pv 0) (pa_cons (pv 2) (pa_cons (pv 4) (pa_cons (pv 7) (pa_cons (pe_slice (sl_listK (K := K) rfl) (pv 6) (po_some (pv 5)) po_none) pa_nil)))))) pa_nil)))) pa_nil)))))))
    (pss_one (ps_ret (pe_tup (pa_cons (pe_callTy (call_tupleK (K := K) rfl) (by rfl) mtup (by decide +kernel) (pa_cons (pv 3) pa_nil)) (pa_cons (C8.pe_c CLBody hr (by first | decide | omega) (by rfl) (pa_cons (pv 0) (pa_cons (pv 2) (pa_cons pe_str (pa_cons (pe_lst pa_nil) (pa_cons (C8.pe_c CLNames hr (by first | decide | omega) (by rfl) (pa_cons (pv 0) (pa_cons pe_int pa_nil))) pa_nil)))))) pa_nil))))))))), ?_⟩
  -- the functions' names
  refine ⟨_, rfl, (by show 8 ≤ sizeLine; decide), fun l hl => ?_⟩
  have pen1 := pen0.new (o := .lst [.int 0, .int 1, .int 2, .int 3, .int 4, .int 2, .int 3, .int 8]) hl
  have hl1 : (upd H l (.lst [.int 0, .int 1, .int 2, .int 3, .int 4, .int 2, .int 3, .int 8])) l = some (.lst [.int 0, .int 1, .int 2, .int 3, .int 4, .int 2, .int 3, .int 8]) := upd_same
  have k1 : Kp [p] H (upd H l (.lst [.int 0, .int 1, .int 2, .int 3, .int 4, .int 2, .int 3, .int 8])) := Kp.new hl
  refine ⟨_, rfl, p, a, 8, rfl, pen1, (by decide), (by decide), fun g H2 k2 pen2 g0 g1 => ?_⟩
  have hl2 := k2.lst hl1 (not1 (pen0.apart hl).1)
  have k2 := k1.trans k2
  obtain ⟨m, hm, hm8⟩ : ∃ m : Nat, ([.int 0, .int 1, .int 2, .int 3, .int 4, .int 2, .int 3, .int 8] : List V)[g.toNat]? = some (.int (m : Int)) ∧ m ≤ 8 := by
    have h0 : g.toNat < 8 := by omega
    generalize g.toNat = j at h0
    match j, h0 with
    | 0, _ => exact ⟨0, rfl, by decide⟩
    | 1, _ => exact ⟨1, rfl, by decide⟩
    | 2, _ => exact ⟨2, rfl, by decide⟩
    | 3, _ => exact ⟨3, rfl, by decide⟩
    | 4, _ => exact ⟨4, rfl, by decide⟩
    | 5, _ => exact ⟨2, rfl, by decide⟩
    | 6, _ => exact ⟨3, rfl, by decide⟩
    | 7, _ => exact ⟨8, rfl, by decide⟩
  refine ⟨l, _, _, _, rfl, rfl, SqL.of hl2, at_of (j := g.toNat) (by omega) hm, ?_⟩
  refine ⟨p, a, m, rfl, pen2, (by omega), fun ln xs H3 k3 pen3 hln0 hln3 hxl hxo hxn => ?_⟩
  have hlnH : H ln = none := k2.free hln0 (not1 (pen2.apart hln0).1)
  have k3 := k2.trans k3
  have nlnp := (pen2.apart hln0).1
  have nlna := (pen2.apart hln0).2
  clear hl1 hl2 k1 k2 pen1 pen2 hl hln0
  -- the world
  refine ⟨_, rfl, ln, rfl, ⟨_, SqL.of hln3⟩, fun wl hwl => ?_⟩
  have nwp := (pen3.apart hwl).1
  have nwa := (pen3.apart hwl).2
  have nwl : ln ≠ wl := ne_of_none hln3 hwl
  have hwlH : H wl = none := k3.free hwl (not1 nwp)
  refine lc_list (K := K) (a := ln) (xs := xs.map V.str) (fun i H' => Kp [p] H H' ∧ PenAt H' p a ∧ H' ln = some (.lst (xs.map V.str)) ∧ ∃ (ws : List V) (ks : List Int), H' wl = some (.lst ws) ∧ ks.length = i ∧ (∀ k, k ∈ ks → 0 ≤ k ∧ k ≤ 4) ∧ DpAll K H' ws (((xs.take i).zip ks).map wD))
    ⟨k3.mut hwlH, pen3.new hwl, by rw [upd_ne nwl]; exact hln3, [], [], upd_same, rfl, (fun k m => nomatch m), .nil⟩ (fun i H' _ ⟨_, _, h, _⟩ => SqL.of h) ?_ ?_
  · rintro i x H4 hi ⟨k4, pen4, hln4, ws, ks, hws, hks, hk4, hdw⟩
    obtain ⟨nx, hnx, rfl⟩ : ∃ nx, xs[i]? = some nx ∧ x = V.str nx := by
      rw [List.getElem?_map] at hi
      cases e : xs[i]? with
      | none => rw [e] at hi; cases hi
      | some y => rw [e] at hi; exact ⟨y, rfl, (Option.some.inj hi).symm⟩
    have hil := (List.getElem?_eq_some_iff.mp hnx).1
    refine ⟨rfl, ?_⟩
    refine ⟨_, rfl, (by show 7 ≤ sizeLine; decide), fun l hl => ?_⟩
    have pen5 := pen4.new (o := .lst [.int 1, .int 0, .int 1, .int 2, .int 2, .int 3, .int 4]) hl
    have hl5 : (upd H4 l (.lst [.int 1, .int 0, .int 1, .int 2, .int 2, .int 3, .int 4])) l = some (.lst [.int 1, .int 0, .int 1, .int 2, .int 2, .int 3, .int 4]) := upd_same
    have k5 : Kp [p] H4 (upd H4 l (.lst [.int 1, .int 0, .int 1, .int 2, .int 2, .int 3, .int 4])) := Kp.new hl
    refine ⟨_, rfl, p, a, 7, rfl, pen5, (by decide), (by decide), fun g H6 k6 pen6 g0 g1 => ?_⟩
    have hl6 := k6.lst hl5 (not1 (pen4.apart hl).1)
    have k6 := k5.trans k6
    obtain ⟨z, hz, hz4⟩ : ∃ z : Int, ([.int 1, .int 0, .int 1, .int 2, .int 2, .int 3, .int 4] : List V)[g.toNat]? = some (.int z) ∧ 0 ≤ z ∧ z ≤ 4 := by
      have h0 : g.toNat < 7 := by omega
      generalize g.toNat = j at h0
      match j, h0 with
      | 0, _ => exact ⟨_, rfl, by decide⟩
      | 1, _ => exact ⟨_, rfl, by decide⟩
      | 2, _ => exact ⟨_, rfl, by decide⟩
      | 3, _ => exact ⟨_, rfl, by decide⟩
      | 4, _ => exact ⟨_, rfl, by decide⟩
      | 5, _ => exact ⟨_, rfl, by decide⟩
      | 6, _ => exact ⟨_, rfl, by decide⟩
    refine ⟨l, _, _, _, rfl, rfl, SqL.of hl6, at_of (j := g.toNat) (by omega) hz, (by show 2 ≤ sizeLine; decide), fun q hq => ?_⟩
    have k7 := k6.trans (Kp.new (S := [p]) (o := .tup [.str nx, .int z]) hq)
    have hws7 := k7.lst hws (not1 nwp)
    have hln7 := k7.lst hln4 (not1 nlnp)
    have hdw7 := Dp.keepAll k7 _ _ (wds_fz _) hdw
    have hr : Dp K (upd H6 q (.tup [.str nx, .int z])) (.ref q) (wD (nx, z)) := .tup (.inl (.inl upd_same)) (.cons (.str _) (.cons (.int _) .nil))
    have pen7 := pen6.new (o := .tup [.str nx, .int z]) hq
    generalize upd H6 q (.tup [.str nx, .int z]) = H7 at k7 hws7 hln7 hdw7 hr pen7 ⊢
    have hwl8 : ws.length ≤ 8 := by
      rw [hdw.length, List.length_map, List.length_zip, List.length_take]
      omega
    have kput : Kp [wl] H7 (upd H7 wl (.lst (ws ++ [.ref q]))) := Kp.put hws7 List.mem_cons_self
    refine ⟨_, hws7, small1000 (by omega), (k4.trans k7).mut hwlH, pen7.mut nwp nwa, by rw [upd_ne nwl]; exact hln7, ws ++ [.ref q], ks ++ [z], upd_same, by rw [List.length_append, hks]; rfl, ?_, ?_⟩
    · intro k m
      rcases List.mem_append.mp m with m | m
      · exact hk4 k m
      · rw [List.mem_singleton.mp m]
        exact hz4
    · have e : ((xs.take (i + 1)).zip (ks ++ [z])).map wD = ((xs.take i).zip ks).map wD ++ [wD (nx, z)] := by
        rw [List.take_add_one, hnx]
        show ((xs.take i ++ [nx]).zip (ks ++ [z])).map wD = _
        rw [List.zip_append (by rw [List.length_take]; omega), List.map_append]
        rfl
      rw [e]
      exact (Dp.keepAll kput _ _ (wds_fz _) hdw7).append (.one (Dp.keep kput _ _ rfl hr))
  · rintro H4 ⟨k4, pen4, hln4, ws, ks, hws, hks, hk4, hdw⟩
    rw [List.length_map] at hks hdw
    rw [List.take_length] at hdw
    obtain ⟨W, hW⟩ : ∃ W, W = xs.zip ks := ⟨_, rfl⟩
    rw [← hW] at hdw
    have hWm : W.map (·.1) = xs := by rw [hW]; exact List.map_fst_zip (by omega)
    have hWl : W.length = xs.length := by have := congrArg List.length hWm; rw [List.length_map] at this; exact this
    have hWo : ∀ f, f ∈ W → nmOk f.1 ∧ 0 ≤ f.2 ∧ f.2 ≤ 4 := fun f m => by
      rw [hW] at m
      exact ⟨hxo _ (List.of_mem_zip m).1, hk4 _ (List.of_mem_zip m).2⟩
    have hwt : WAt K H4 wl W := ⟨ws, hws, hdw⟩
    clear hln4 k3 pen3 hln3 hwl nwl
    -- the functions
    refine ⟨Nat.zero_le _, fun lf hlf => ?_⟩
    have pen5 := pen4.new (o := .lst []) hlf
    have nfp := (pen4.apart hlf).1
    have nfa := (pen4.apart hlf).2
    have nfw : wl ≠ lf := ne_of_none hws hlf
    have hlfH : H lf = none := k4.free hlf (not1 nfp)
    have k5 : Kp [p] H (upd H4 lf (.lst [])) := k4.mut hlfH
    have hwt5 : WAt K (upd H4 lf (.lst [])) wl W := hwt.keep (Kp.new (S := []) hlf) (fun m => nomatch m)
    have hf5 : (upd H4 lf (.lst [])) lf = some (.lst []) := upd_same
    have hws5 : (upd H4 lf (.lst [])) wl = some (.lst ws) := by rw [upd_ne nfw]; exact hws
    generalize upd H4 lf (.lst []) = H5 at pen5 k5 hwt5 hf5 hws5 ⊢
    refine ⟨_, rfl, wl, rfl, ⟨_, SqL.of hws5⟩, for_list (K := K) (a := wl) (xs := ws) (fun i σ H' => ∃ (fs : List Fn) (rs : List V) (v4 v5 v6 v7 : Option V), σ = [some (.ref p), some (.ref ln), some (.ref wl), some (.ref lf), v4, v5, v6, v7] ∧ Kp [p] H H' ∧ PenAt H' p a ∧ WAt K H' wl W ∧ H' wl = some (.lst ws) ∧
        H' lf = some (.lst rs) ∧ DpAll K H' rs (fs.map fD) ∧ fs.map (·.1) = (W.take i).map (·.1) ∧ ∀ f, f ∈ fs → FnDr W f)
      ⟨[], [], none, none, none, none, rfl, k5, pen5, hwt5, hws5, hf5, .nil, rfl, (fun f m => nomatch m)⟩ (fun i σ H' _ ⟨_, _, _, _, _, _, _, _, _, _, h, _⟩ => SqL.of h) ?_ ?_⟩
    · rintro i x σ H6 hi ⟨fs, rs, v4, v5, v6, v7, rfl, k6, pen6, hwt6, hws6, hf6, hd6, hfs, hfd⟩
      obtain ⟨ws', hws', hdw'⟩ := id hwt6
      obtain rfl : ws' = ws := by
        have := hws'.symm.trans hws6
        injection this with e
        exact HO.lst.inj e
      obtain ⟨dd, hdd, hdx⟩ := hdw'.at hi
      rw [List.getElem?_map] at hdd
      obtain ⟨⟨fn, wz⟩, hfw, rfl⟩ : ∃ fw, W[i]? = some fw ∧ dd = wD fw := by
        cases e : W[i]? with
        | none => rw [e] at hdd; cases hdd
        | some y => rw [e] at hdd; exact ⟨y, rfl, (Option.some.inj hdd).symm⟩
      have hmem : (fn, wz) ∈ W := List.mem_of_getElem? hfw
      obtain ⟨hfn, hz0, hz4⟩ := hWo _ hmem
      obtain ⟨n, rfl⟩ : ∃ n : Nat, wz = (n : Int) := ⟨wz.toNat, by have : 0 ≤ wz := hz0; omega⟩
      have hn4 : n ≤ 4 := by have : (n : Int) ≤ 4 := hz4; omega
      obtain ⟨t, xs', rfl, ht, hxs⟩ := hdx.tup_of
      obtain rfl : xs' = [.str fn, .int n] := by
        cases hxs with
        | cons h1 h2 =>
          cases h1
          cases h2 with
          | cons h3 h4 =>
            cases h3
            cases h4
            rfl
      refine ⟨t, _, rfl, ht, rfl, _, _, rfl, _, _, rfl, rfl, ?_⟩
      -- the stock, the things
      refine ⟨_, rfl, p, a, 26, rfl, pen6, (by decide), fun ls stk H7 k7 pen7 hls0 hls7 hsl hso hsn => ?_⟩
      have hstk : Stock stk := ⟨hsl, hsn, hso⟩
      have nlsp := (pen6.apart hls0).1
      have nlsa := (pen6.apart hls0).2
      have nlsw : wl ≠ ls := ne_of_none hws6 hls0
      have nlsf : lf ≠ ls := ne_of_none hf6 hls0
      refine ⟨_, rfl, _, rfl, _, rfl, ls, _, rfl, SqL.of hls7, fun lt hlt => ?_⟩
      rw [cutV_to, ← List.map_take]
      have pen8 := pen7.new (o := .lst ((stk.take n).map V.str)) hlt
      have k8 : Kp [p] H6 (upd H7 lt (.lst ((stk.take n).map V.str))) := k7.trans (Kp.new hlt)
      have hls8 : (upd H7 lt (.lst ((stk.take n).map V.str))) ls = some (.lst (stk.map V.str)) := by rw [upd_ne (ne_of_none hls7 hlt)]; exact hls7
      have hlt8 : (upd H7 lt (.lst ((stk.take n).map V.str))) lt = some (.lst ((stk.take n).map V.str)) := upd_same
      have nltp := (pen7.apart hlt).1
      generalize upd H7 lt (.lst ((stk.take n).map V.str)) = H8 at pen8 k8 hls8 hlt8 ⊢
      have hwt8 := hwt6.keep k8 (not1 (fun e => nwp e))
      have hws8 := k8.lst hws6 (not1 nwp)
      have hf8 := k8.lst hf6 (not1 nfp)
      have hd8 := Dp.keepAll k8 _ _ (fd_fz _) hd6
      have hfl : rs.length ≤ 8 := by
        have e := congrArg List.length hfs
        rw [List.length_map, List.length_map, List.length_take] at e
        rw [hd6.length, List.length_map]
        omega
      -- the function
      refine ⟨_, rfl, .inl ⟨rfl, _, SqL.of hf8⟩, _, rfl, _, rfl, lt, _, rfl, .inl ⟨SqL.of hlt8, fun tt htt => ?_⟩⟩
      have pen9 := pen8.new (o := .tup ((stk.take n).map V.str)) htt
      have k9 : Kp [p] H8 (upd H8 tt (.tup ((stk.take n).map V.str))) := Kp.new htt
      have hdt : Dp K (upd H8 tt (.tup ((stk.take n).map V.str))) (.ref tt) (.tuple ((stk.take n).map .str)) := .tup (.inl (.inl upd_same)) (DpAll.strs _)
      refine ⟨_, rfl, _, rfl, _, rfl, _, rfl, _, rfl, _, rfl, _, rfl, ls, _, rfl, SqL.of (k9.lst hls8 (not1 nlsp)), fun st hst => ?_⟩
      rw [cutV_from, ← List.map_drop]
      have pen10 := pen9.new (o := .lst ((stk.drop n).map V.str)) hst
      have k10 : Kp [p] H8 (upd (upd H8 tt (.tup ((stk.take n).map V.str))) st (.lst ((stk.drop n).map V.str))) := k9.trans (Kp.new hst)
      have hst10 : (upd (upd H8 tt (.tup ((stk.take n).map V.str))) st (.lst ((stk.drop n).map V.str))) st = some (.lst ((stk.drop n).map V.str)) := upd_same
      have hst8 : H8 st = none := (Kp.new (S := []) (o := .tup ((stk.take n).map V.str)) htt).free hst (fun m => nomatch m)
      have hdt10 := Dp.keep (Kp.new (S := []) (o := .lst ((stk.drop n).map V.str)) hst) _ _ (by show fzAll _ = true; exact strs_fz _) hdt
      have nst := pen9.apart hst
      have wst : wl ≠ st := ne_of_none hws8 hst8
      have tst : lt ≠ st := ne_of_none hlt8 hst8
      have fst' : lf ≠ st := ne_of_none hf8 hst8
      generalize upd (upd H8 tt (.tup ((stk.take n).map V.str))) st (.lst ((stk.drop n).map V.str)) = H10 at pen10 k10 hst10 hdt10 ⊢
      have Eb0 : Eb K H10 W (stk.take n) p a wl lt st (stk.drop n) :=
        ⟨pen10, hwt8.keep k10 (not1 nwp), k10.lst hlt8 (not1 nltp), hst10, not2 nwp wst, not2 nltp tst, nst.2.symm, nst.1.symm, hWo, hstk.take n, hstk.drop n, by omega, by rw [List.length_take]; omega, by rw [List.length_drop]; omega⟩
      refine ⟨p, a, wl, lt, st, fn, W, stk.take n, stk.drop n, rfl, Eb0, fun v d H11 k11 pen11 hd11 hb => ?_⟩
      have hk11 : Kp [p] H8 H11 := Kp.drop k10 hst8 k11 fun x m => by
        rcases List.mem_cons.mp m with e | m
        · exact .inl (by rw [e]; exact List.mem_cons_self)
        · exact .inr (List.mem_singleton.mp m)
      have hdt11 := Dp.keep k11 _ _ (by show fzAll _ = true; exact strs_fz _) hdt10
      refine ⟨(by show 3 ≤ sizeLine; decide), fun q hq => ?_⟩
      have k12 : Kp [p] H8 (upd H11 q (.tup [.str fn, .ref tt, v])) := hk11.trans (Kp.new hq)
      have hrow : Dp K (upd H11 q (.tup [.str fn, .ref tt, v])) (.ref q) (fD (fn, stk.take n, d)) := Dp.newT hq (.cons (.str _) (.cons hdt11 (.cons hd11 .nil))) (by
        show (true && (fzAll _ && (fz _ && true))) = true
        rw [strs_fz, data_fz]
        rfl)
      have pen12 := pen11.new (o := .tup [.str fn, .ref tt, v]) hq
      have hf12 := k12.lst hf8 (not1 nfp)
      have hws12 := k12.lst hws8 (not1 nwp)
      have hwt12 := hwt8.keep k12 (not1 nwp)
      have hd12 := Dp.keepAll k12 _ _ (fd_fz _) hd8
      generalize upd H11 q (.tup [.str fn, .ref tt, v]) = H12 at k12 hrow pen12 hf12 hws12 hwt12 hd12 ⊢
      refine ⟨lf, _, _, rfl, rfl, hf12, small1000 (by omega), ?_⟩
      have kput : Kp [lf] H12 (upd H12 lf (.lst (rs ++ [.ref q]))) := Kp.put hf12 List.mem_cons_self
      refine ⟨fs ++ [(fn, stk.take n, d)], rs ++ [.ref q], _, _, _, _, rfl, (k6.trans (k8.trans k12)).mut hlfH, pen12.mut nfp nfa, hwt12.keep kput (not1 nfw), by rw [upd_ne nfw]; exact hws12, upd_same, ?_, ?_, ?_⟩
      · rw [List.map_append]
        exact (Dp.keepAll kput _ _ (fd_fz _) hd12).append (.one (Dp.keep kput _ _ (by
          have := fd_fz [(fn, stk.take n, d)]
          show fz (fD (fn, stk.take n, d)) = true
          exact fzAll_iff.mp this _ List.mem_cons_self) hrow))
      · rw [List.map_append, hfs, List.take_add_one, hfw, List.map_append]
        rfl
      · intro f m
        rcases List.mem_append.mp m with m | m
        · exact hfd f m
        · rw [List.mem_singleton.mp m]
          exact ⟨n, stk, hmem, hn4, hstk, rfl, hb⟩
    · rintro σ H6 ⟨fs, rs, v4, v5, v6, v7, rfl, k6, pen6, hwt6, hws6, hf6, hd6, hfs, hfd⟩
      have hwlen : ws.length = W.length := by rw [hdw.length, List.length_map]
      rw [hwlen, List.take_length] at hfs
      -- the tuple of functions
      refine ⟨_, rfl, lf, _, rfl, .inl ⟨SqL.of hf6, fun tt htt => ?_⟩⟩
      have k7 : Kp [p] H6 (upd H6 tt (.tup rs)) := Kp.new htt
      have hdt : Dp K (upd H6 tt (.tup rs)) (.ref tt) (.tuple (fs.map fD)) := Dp.newT htt hd6 (fd_fz _)
      have pen7 := pen6.new (o := .tup rs) htt
      have hwt7 := hwt6.keep k7 (not1 nwp)
      have k7 := k6.trans k7
      generalize upd H6 tt (.tup rs) = H7 at k7 hdt pen7 hwt7 ⊢
      -- asked
      refine ⟨_, rfl, _, rfl, Nat.zero_le _, fun lt hlt => ?_⟩
      have k8 : Kp [p] H7 (upd H7 lt (.lst [])) := Kp.new hlt
      have pen8 := pen7.new (o := .lst []) hlt
      have hlt8 : (upd H7 lt (.lst [])) lt = some (.lst []) := upd_same
      have hwt8 := hwt7.keep k8 (not1 nwp)
      have hdt8 := Dp.keep k8 _ _ (by show fzAll _ = true; exact fd_fz _) hdt
      have nlt := pen7.apart hlt
      have k8 := k7.trans k8
      generalize upd H7 lt (.lst []) = H8 at k8 pen8 hlt8 hwt8 hdt8 ⊢
      refine ⟨_, rfl, p, a, 26, rfl, pen8, (by decide), fun st stk H9 k9 pen9 hst0 hst9 hsl hso hsn => ?_⟩
      have hstk : Stock stk := ⟨hsl, hsn, hso⟩
      have nst := pen8.apart hst0
      obtain ⟨ws8, hws8, _⟩ := id hwt8
      have wst : wl ≠ st := ne_of_none hws8 hst0
      have tst : lt ≠ st := ne_of_none hlt8 hst0
      have hstH : H st = none := k8.free hst0 (not1 nst.1)
      have Eb0 : Eb K H9 W [] p a wl lt st stk :=
        ⟨pen9, hwt8.keep k9 (not1 nwp), k9.lst hlt8 (not1 nlt.1), hst9, not2 nwp wst, not2 nlt.1 tst, nst.2.symm, nst.1.symm, hWo, (fun x m => nomatch m), hso, by omega, Nat.zero_le _, by omega⟩
      refine ⟨p, a, wl, lt, st, "", W, [], stk, rfl, Eb0, fun v d H10 k10 pen10 hd10 hb => ?_⟩
      have hk10 : Kp [p] H H10 := Kp.drop (k8.trans k9) hstH k10 fun x m => by
        rcases List.mem_cons.mp m with e | m
        · exact .inl (by rw [e]; exact List.mem_cons_self)
        · exact .inr (List.mem_singleton.mp m)
      have hdt10 := Dp.keep k10 _ _ (by show fzAll _ = true; exact fd_fz _) (Dp.keep k9 _ _ (by show fzAll _ = true; exact fd_fz _) hdt8)
      refine ⟨(by show 2 ≤ sizeLine; decide), fun q hq => ?_⟩
      refine D _ fs d _ (hk10.trans (Kp.new hq)) (pen10.new hq) (Dp.newT hq (.cons hdt10 (.cons hd10 .nil)) ?_) ⟨W, ?_, ?_, by omega, hWo, hfd, stk, hstk, hb⟩
      · show (fzAll _ && (fz _ && true)) = true
        rw [fd_fz, data_fz]
        rfl
      · rw [hfs]
      · rw [hWm]
        exact hxn
end
end Lz

set_option Elab.async false
set_option linter.all false
set_option maxRecDepth 100000
set_option maxHeartbeats 8000000
namespace Lz
open PySem PySem.Spec PyProof.Rows L2
structure PrT (fs : List Fn) (d : Lz.P) : Prop where
  len : fs.length ≤ 8
  fn : ∀ g, g ∈ fs → FnT (fs.map (·.1)) g
  ak : TxOk (fs.map (·.1)) [] d
theorem Fits.prT {fs : List Fn} {d : Lz.P} (h : Fits fs d) : PrT fs d where
  len := h.len
  fn := fun g m => by
    have m' : g ∈ fnsOf fs d := List.mem_append_left _ m
    exact ⟨(h.nm g m).1.2.1, h.few g m', (h.nm g m).2, h.bd g m', h.ft g m'⟩
  ak := by
    have m' : (("" : Str), ([] : List Str), d) ∈ fnsOf fs d := List.mem_append_right _ List.mem_cons_self
    exact ⟨h.bd _ m', h.ft _ m'⟩
def rowsT (fs : List Fn) (d : Lz.P) : List Str := (rowsW fs d).map (Str.join " ")
theorem rowsT_eq (fs : List Fn) (d : Lz.P) : rowsT fs d = fs.map (fun g => Str.join " " (fnW g)) ++ [("? " : Str) ++ d.txt] := by
  unfold rowsT rowsW
  rw [List.map_append, List.map_map, List.map_cons, List.map_nil, ask_text]
  rfl
theorem PrT.askS {fs : List Fn} {d : Lz.P} (h : PrT fs d) : shortW (("?" : Str) :: d.ws) := .cons (by decide +kernel) h.ak.short
theorem PrT.askL {fs : List Fn} {d : Lz.P} (h : PrT fs d) : (("?" : Str) :: d.ws).length ≤ 190 := by
  have := h.ak.len
  show d.ws.length + 1 ≤ 190
  omega
theorem PrT.rowL {fs : List Fn} {d : Lz.P} (h : PrT fs d) : ∀ w, w ∈ rowsT fs d → w.length ≤ 400000 := fun w m => by
  obtain ⟨l, hl, rfl⟩ := List.mem_map.mp m
  rcases List.mem_append.mp hl with m | m
  · obtain ⟨g, hg, rfl⟩ := List.mem_map.mp m
    exact fnT_len (h.fn g hg)
  · rw [List.mem_singleton.mp m]
    have h1 := join_len " " (("?" : Str) :: d.ws)
    have h2 := few_words h.askS h.askL " " (by decide +kernel)
    omega
theorem PrT.rowN {fs : List Fn} {d : Lz.P} (h : PrT fs d) : (rowsT fs d).length ≤ 9 := by
  rw [rowsT_eq, List.length_append, List.length_map]
  have := h.len
  show _ + 1 ≤ 9
  omega
theorem PrT.sum {fs : List Fn} {d : Lz.P} (h : PrT fs d) : ((rowsT fs d).map (·.length)).sum + (rowsT fs d).length * ("\n" : Str).length ≤ 16777216 := by
  have h1 := sum_le h.rowL
  have h2 := h.rowN
  have e : ("\n" : Str).length = 1 := by decide +kernel
  rw [e]
  omega
theorem lineBig : 500000 ≤ sizeLine := by decide +kernel
def spWritten (K : PySem.W.Frag) : Sp := fun vs H Q _ => ∃ (v : V) (fs : List Fn) (d : Lz.P), vs = [v] ∧ Dp K H v (progD fs d) ∧ PrT fs d ∧ ∀ H', Kp [] H H' → Q (.str (progT fs d)) H'
section
variable {P : Program} {w : World} {K : PySem.W.Frag} {mg : Str → Option Value} {base : Heap} {f : Addr} {fd : FuncData}
abbrev sWritten : Stmt := topS 8
theorem scWritten : FnScope ["program", "rows", "function"] ["program"] (defScope sWritten) := ⟨rfl, rfl, rfl, by decide +kernel, rfl, by decide +kernel, by decide +kernel⟩
theorem ok_written {j : Nat} (F : Fun K "written" "written" sWritten f fd) (CPartText : C8.Cal P w K mg base j "part_text" (spPartT K) []) (CFunctionText : C8.Cal P w K mg base j "function_text" (spFnT K) []) : FnOk P w K mg base CX0 (j + 1) f fd ["program"] (spWritten K) := by
  refine F.ok scWritten (fun vs H Q E h => ?_) (fun cdv A outer s H vs Q E hr h => ?_)
  · obtain ⟨v, fs, d, rfl, _⟩ := h
    rfl
  obtain ⟨v, fs, d, rfl, hd, hx, q⟩ := h
  refine ⟨_, (pss_cons (ps_setLc (i := 1) (own := [("function", 2)]) rfl scWritten.nd rfl rfl (sw_true rfl rfl rfl (by decide +kernel)) (pi_tupK (K := K) rfl (pe_ix (ix_tupK (K := K) rfl) (pv 0) pe_int (fun _ _ => rfl))) (blkOk_by (N := ["program", "rows", "function"]) (sc := defScope sWritten) (by decide +kernel)) (fun _ _ _ _ _ => (pg_name (i := 2) scWritten.nd rfl (.inl rfl))) (fun _ _ _ _ _ => pts_nil) (fun _ _ _ _ _ => (C8.pe_c CFunctionText hr (by first | decide | omega) (by rfl) (pa_cons (pv 2) pa_nil))))
    (pss_one (ps_ret (pe_join pe_str (pe_lst (StX.pa_starK (K := K) rfl (pv 1) (pa_cons (pe_op op_add_str pe_str (C8.pe_c CPartText hr (by first | decide | omega) (by rfl) (pa_cons (pe_ix (ix_tupK (K := K) rfl) (pv 0) pe_int (fun _ _ => rfl)) pa_nil))) pa_nil))))))), ?_⟩
  obtain ⟨pr, ft, rs, vd, rfl, hpr, hft, hrs, hvd⟩ := prog_at hd
  have hrl : rs.length = fs.length := by rw [hrs.length, List.length_map]
  have h8 := hx.len
  refine ⟨_, rfl, pr, _, _, _, rfl, rfl, hpr, at_of (j := 0) rfl rfl, ft, rfl, ⟨_, hft⟩, fun D hD => ?_⟩
  refine lc_tup (K := K) (a := ft) (xs := rs) (fun i H' => Kp [] H H' ∧ H' D = some (.lst (((fs.take i).map (fun g => Str.join " " (fnW g))).map V.str)))
    ⟨Kp.new hD, upd_same⟩ (fun i H' _ ⟨k, _⟩ => k.sqT hft) ?_ ?_
  · rintro i x H1 hi ⟨k1, h1⟩
    obtain ⟨e, he, hde⟩ := (Dp.keepAll k1 _ _ (fd_fz _) hrs).at hi
    rw [List.getElem?_map] at he
    obtain ⟨g, hg, rfl⟩ : ∃ g, fs[i]? = some g ∧ e = fD g := by
      cases e1 : fs[i]? with
      | none => rw [e1] at he; cases he
      | some y => rw [e1] at he; exact ⟨y, rfl, (Option.some.inj he).symm⟩
    refine ⟨rfl, ?_⟩
    refine ⟨_, rfl, x, g, _, rfl, hde, hx.fn g (List.mem_of_getElem? hg), fun H2 k2 => ?_⟩
    have h2 := k2.lst h1 (fun m => nomatch m)
    refine ⟨_, h2, (by rw [List.length_map, List.length_map, List.length_take]; exact small1000 (by omega)), (k1.trans k2).mut hD, ?_⟩
    rw [upd_same, List.take_add_one, hg, List.map_append, List.map_append]
    rfl
  · rintro H1 ⟨k1, h1⟩
    rw [hrl, List.take_length] at h1
    refine ⟨⟨_, rfl⟩, _, rfl, D, _, rfl, .inr (SqL.of h1), _, rfl, pr, _, _, _, rfl, rfl, k1.sqT hpr, at_of (j := 1) rfl rfl, vd, d, _, [], rfl, Dp.keep k1 _ _ (data_fz _) hvd, hx.ak, fun H2 k2 => ?_⟩
    have h9 := hx.rowN
    rw [rowsT_eq, List.length_append, List.length_map] at h9
    refine ⟨_, _, rfl, rfl, (by show 2 + d.txt.length ≤ sizeLine; have h1 := hx.ak.txt; have h2 := lineBig; omega), ?_, fun lf hlf => ?_⟩
    · rw [List.length_append, List.length_map, List.length_map]
      have := line10k
      show fs.length + 1 ≤ sizeLine
      omega
    · refine ⟨_, lf, rowsT fs d, rfl, rfl, .inl (SqL.of ?_), hx.sum, ?_⟩
      · rw [upd_same, rowsT_eq, List.map_append]
        rfl
      · rw [TL.join_eq]
        exact q _ (k1.trans (k2.trans (Kp.new hlf)))
end
end Lz

set_option Elab.async false
set_option linter.all false
set_option maxRecDepth 100000
set_option maxHeartbeats 8000000
namespace Lz
open PySem PySem.Spec PyProof.Rows L2
abbrev dkv : List (Key × V) := mergeK [] [(Sum.inr "name", .str "."), (Sum.inr "fun", .str ":")]
theorem inV_strW (x : Str) : ∀ xs : List Str, inV (.str x) (xs.map V.str) = decide (x ∈ xs)
  | [] => by
    show false = _
    rw [decide_eq_false (fun m => nomatch m)]
  | y :: r => by
    have e : inV (.str x) ((y :: r).map V.str) = ((y == x) || inV (.str x) (r.map V.str)) := rfl
    rw [e, inV_strW x r, Bool.eq_iff_iff, Bool.or_eq_true, beq_iff_eq, decide_eq_true_iff, decide_eq_true_iff, List.mem_cons]
    exact ⟨fun h => h.elim (fun h => .inl h.symm) .inr, fun h => h.elim (fun h => .inl h.symm) .inr⟩
section
variable {P : Program} {w : World} {K : PySem.W.Frag} {mg : Str → Option Value} {base : Heap} {f : Addr} {fd : FuncData}
abbrev sLWords : Stmt := topS 22
theorem scLWords : FnScope ["_law_part_here", "_law_found", "_law_row", "_law_one"] ["_law_part_here"] (defScope sLWords) := ⟨rfl, rfl, rfl, by decide +kernel, rfl, by decide +kernel, by decide +kernel⟩
theorem ok_lwords {n j : Nat} (hj : 1 ≤ j) (F : Fun K "_law_words" "_law_words" sLWords f fd) (B : Bt mg) (mstr : mg "str" = none) (CLWords : C8.Cal P w K mg base j "_law_words" (spWords K n) []) : FnOk P w K mg base CX0 (j + 1) f fd ["_law_part_here"] (spWords K (n + 1)) := by
  have ml := B.len
  refine F.ok scLWords (fun vs H Q E h => ?_) (fun cdv A outer s H vs Q E hr h => ?_)
  · obtain ⟨v, t, F, sc, rfl, _⟩ := h
    rfl
  have hu := hu_of hr
  obtain ⟨v, t, F, sc, rfl, hd, hok, hmany, hdeep, hfit, q⟩ := h
  refine ⟨_, (pss_cons (ps_if (pt_cmpR op_eq (pe_ix (ix_tupK (K := K) rfl) (pv 0) pe_int (fun _ _ => rfl)) pe_str (nomark _)) (pss_one (ps_ret (pe_lst (pa_cons (pe_callTy call_str_int (by rfl) mstr (by decide +kernel) (pa_cons (pe_ix (ix_tupK (K := K) rfl) (pv 0) pe_int (fun _ _ => rfl)) pa_nil)) pa_nil)))) pss_nil)
    (pss_cons (ps_if (pt_cmpR (op_inK (K := K) rfl) (pe_ix (ix_tupK (K := K) rfl) (pv 0) pe_int (fun _ _ => rfl)) (pe_tup (pa_cons pe_str (pa_cons pe_str pa_nil))) rfl) (pss_one (ps_ret (pe_lst (pa_cons (pe_op op_add_str (pe_dget hu (pe_disp (pps_cons pe_str pe_str (pps_cons pe_str pe_str pps_nil)) rfl rfl (by intro q; cases q) (by decide)) (pe_ix (ix_tupK (K := K) rfl) (pv 0) pe_int (fun _ _ => rfl)) (fun _ _ => rfl)) (pe_ix (ix_tupK (K := K) rfl) (pv 0) pe_int (fun _ _ => rfl))) pa_nil)))) pss_nil)
    (pss_cons (ps_if (pt_cmpR op_eq (pe_ix (ix_tupK (K := K) rfl) (pv 0) pe_int (fun _ _ => rfl)) pe_str (nomark _)) (pss_cons (ps_set (i := 1) scLWords.nd rfl (.inl rfl) (pe_lst (pa_cons pe_str (pa_cons (pe_callTy call_str_int (by rfl) mstr (by decide +kernel) (pa_cons (pe_callB (call_lenK (K := K) rfl) (by rfl) ml PySem.boot_len (pa_cons (pe_ix (ix_tupK (K := K) rfl) (pv 0) pe_int (fun _ _ => rfl)) pa_nil)) pa_nil)) pa_nil))))
    (pss_cons (ps_for PassesOwn.never rfl (pi_tupK (K := K) rfl (pe_ix (ix_tupK (K := K) rfl) (pv 0) pe_int (fun _ _ => rfl))) (pg_name (i := 2) scLWords.nd rfl (.inl rfl)) (pss_one (ps_set (i := 1) scLWords.nd rfl (.inl rfl) (pe_op op_cat (pe_op op_cat (pv 1) (pe_lst (pa_cons (pe_op op_add_str pe_str (pe_ix (ix_tupK (K := K) rfl) (pv 2) pe_int (fun _ _ => rfl))) pa_nil))) (C8.pe_c CLWords hr (by first | decide | omega) (by rfl) (pa_cons (pe_ix (ix_tupK (K := K) rfl) (pv 2) pe_int (fun _ _ => rfl)) pa_nil))))))
    (pss_one (ps_ret (pe_op op_cat (pv 1) (C8.pe_c CLWords hr (by first | decide | omega) (by rfl) (pa_cons (pe_ix (ix_tupK (K := K) rfl) (pv 0) pe_int (fun _ _ => rfl)) pa_nil))))))) pss_nil)
    (pss_cons (ps_set (i := 1) scLWords.nd rfl (.inl rfl) (pe_lst (pa_cons (pe_ix (ix_tupK (K := K) rfl) (pv 0) pe_int (fun _ _ => rfl)) pa_nil)))
    (pss_cons (ps_for PassesOwn.never rfl (pi_tupK (K := K) rfl (pe_slice (sl_tupAK (K := K) rfl) (pv 0) (po_some pe_int) po_none)) (pg_name (i := 3) scLWords.nd rfl (.inl rfl)) (pss_one (ps_set (i := 1) scLWords.nd rfl (.inl rfl) (pe_op op_cat (pv 1) (C8.pe_c CLWords hr (by first | decide | omega) (by rfl) (pa_cons (pv 3) pa_nil))))))
    (pss_one (ps_ret (pv 1)))))))), ?_⟩
  cases t with
  | num i =>
    obtain ⟨a, u, rfl, ht, hu⟩ := two_at (k := "number") (e := .int i) hd
    cases hu
    refine ⟨_, rfl, a, _, _, _, rfl, rfl, ht, at_of (j := 0) rfl rfl, rfl, _, rfl, ?_⟩
    refine ite2 (fun _ => ?_) (fun c => absurd (decide_eq_true rfl) c)
    refine ⟨_, rfl, a, _, _, _, rfl, rfl, ht, at_of (j := 1) rfl rfl, i, rfl, log60 hfit, (by show 1 ≤ sizeLine; decide), fun l hl => ?_⟩
    exact q l _ (Kp.new hl) hl upd_same
  | nam x =>
    obtain ⟨a, u, rfl, ht, hu⟩ := two_at (k := "name") (e := .str x) hd
    cases hu
    have hx8 := (show nmOk x from hok).2.1
    refine ⟨_, rfl, a, _, _, _, rfl, rfl, ht, at_of (j := 0) rfl rfl, rfl, _, rfl, ?_⟩
    refine ite2 (fun c => absurd (V.str.inj (of_decide_eq_true c)) (by decide +kernel)) (fun _ => ?_)
    refine ⟨_, rfl, a, _, _, _, rfl, rfl, ht, at_of (j := 0) rfl rfl, (by show 2 ≤ sizeLine; decide), fun T hT => ?_⟩
    have hT1 : (upd H T (.tup [.str "name", .str "fun"])) T = some (.tup [.str "name", .str "fun"]) := upd_same
    have k1 : Kp [] H (upd H T (.tup [.str "name", .str "fun"])) := Kp.new hT
    generalize upd H T (.tup [.str "name", .str "fun"]) = H1 at hT1 k1 ⊢
    refine ⟨T, _, rfl, .inr (SqT.of hT1), rfl, rfl, _, rfl, ?_⟩
    refine ite2 (fun _ => ?_) (fun c => absurd (show inV (V.str "name") [.str "name", .str "fun"] = true by decide +kernel) c)
    refine fun dd hdd => ⟨upd_same, [(Sum.inr _, .str _), (Sum.inr _, .str _)], rfl, by decide, ?_⟩
    have k2 : Kp [] H1 (upd (upd H1 dd (.dK [])) dd (.dK dkv)) := by rw [upd_upd]; exact Kp.new hdd
    have hd2 : (upd (upd H1 dd (.dK [])) dd (.dK dkv)) dd = some (.dK dkv) := upd_same
    generalize upd (upd H1 dd (.dK [])) dd (.dK dkv) = H2 at k2 hd2 ⊢
    have ht2 := (k1.trans k2).sqT ht
    refine ⟨_, rfl, a, _, _, _, rfl, rfl, ht2, at_of (j := 0) rfl rfl, dd, .str ".", rfl, (by have := DGet.k (k := Sum.inr "name") hd2; rw [show valV dkv (Sum.inr "name") = some (.str ".") by decide +kernel] at this; exact this), ?_⟩
    refine ⟨_, rfl, a, _, _, _, rfl, rfl, ht2, at_of (j := 1) rfl rfl, _, _, rfl, rfl, (by show 1 + x.length ≤ sizeLine; have := line10k; omega), (by show 1 ≤ sizeLine; decide), fun l hl => ?_⟩
    exact q l _ (k1.trans (k2.trans (Kp.new hl))) ((k1.trans k2).free hl (fun m => nomatch m)) upd_same
  | fn x =>
    obtain ⟨a, u, rfl, ht, hu⟩ := two_at (k := "fun") (e := .str x) hd
    cases hu
    have hx8 := (show nmOk x from hok).2.1
    refine ⟨_, rfl, a, _, _, _, rfl, rfl, ht, at_of (j := 0) rfl rfl, rfl, _, rfl, ?_⟩
    refine ite2 (fun c => absurd (V.str.inj (of_decide_eq_true c)) (by decide +kernel)) (fun _ => ?_)
    refine ⟨_, rfl, a, _, _, _, rfl, rfl, ht, at_of (j := 0) rfl rfl, (by show 2 ≤ sizeLine; decide), fun T hT => ?_⟩
    have hT1 : (upd H T (.tup [.str "name", .str "fun"])) T = some (.tup [.str "name", .str "fun"]) := upd_same
    have k1 : Kp [] H (upd H T (.tup [.str "name", .str "fun"])) := Kp.new hT
    generalize upd H T (.tup [.str "name", .str "fun"]) = H1 at hT1 k1 ⊢
    refine ⟨T, _, rfl, .inr (SqT.of hT1), rfl, rfl, _, rfl, ?_⟩
    refine ite2 (fun _ => ?_) (fun c => absurd (show inV (V.str "fun") [.str "name", .str "fun"] = true by decide +kernel) c)
    refine fun dd hdd => ⟨upd_same, [(Sum.inr _, .str _), (Sum.inr _, .str _)], rfl, by decide, ?_⟩
    have k2 : Kp [] H1 (upd (upd H1 dd (.dK [])) dd (.dK dkv)) := by rw [upd_upd]; exact Kp.new hdd
    have hd2 : (upd (upd H1 dd (.dK [])) dd (.dK dkv)) dd = some (.dK dkv) := upd_same
    generalize upd (upd H1 dd (.dK [])) dd (.dK dkv) = H2 at k2 hd2 ⊢
    have ht2 := (k1.trans k2).sqT ht
    refine ⟨_, rfl, a, _, _, _, rfl, rfl, ht2, at_of (j := 0) rfl rfl, dd, .str ":", rfl, (by have := DGet.k (k := Sum.inr "fun") hd2; rw [show valV dkv (Sum.inr "fun") = some (.str ":") by decide +kernel] at this; exact this), ?_⟩
    refine ⟨_, rfl, a, _, _, _, rfl, rfl, ht2, at_of (j := 1) rfl rfl, _, _, rfl, rfl, (by show 1 + x.length ≤ sizeLine; have := line10k; omega), (by show 1 ≤ sizeLine; decide), fun l hl => ?_⟩
    exact q l _ (k1.trans (k2.trans (Kp.new hl))) ((k1.trans k2).free hl (fun m => nomatch m)) upd_same
  | op k as =>
    have hk := (show (k, as.length) ∈ kinds ∧ Lz.P.oks as from hok).1
    have hp := kind_plain hk
    obtain ⟨a, vs, rfl, ht, hvs⟩ := op_atU hd
    have hvl : vs.length = as.length := by rw [hvs.length, datas_len]
    refine ⟨_, rfl, a, _, _, _, rfl, rfl, ht, at_of (j := 0) rfl rfl, rfl, _, rfl, ?_⟩
    refine ite2 (fun c => absurd (V.str.inj (of_decide_eq_true c)) hp.2.1) (fun _ => ?_)
    refine ⟨_, rfl, a, _, _, _, rfl, rfl, ht, at_of (j := 0) rfl rfl, (by show 2 ≤ sizeLine; decide), fun T hT => ?_⟩
    have hT1 : (upd H T (.tup [.str "name", .str "fun"])) T = some (.tup [.str "name", .str "fun"]) := upd_same
    have k1 : Kp [] H (upd H T (.tup [.str "name", .str "fun"])) := Kp.new hT
    generalize upd H T (.tup [.str "name", .str "fun"]) = H1 at hT1 k1 ⊢
    refine ⟨T, _, rfl, .inr (SqT.of hT1), rfl, rfl, _, rfl, ?_⟩
    refine ite2 (fun c => ?_) (fun _ => ?_)
    · have c' := of_decide_eq_true ((inV_strW k ["name", "fun"]).symm.trans c)
      rcases List.mem_cons.mp c' with e | e
      · exact absurd e hp.2.2.1
      · exact absurd (List.mem_singleton.mp e) hp.2.2.2
    have ht1 := k1.sqT ht
    refine ⟨_, rfl, a, _, _, _, rfl, rfl, ht1, at_of (j := 0) rfl rfl, rfl, _, rfl, ?_⟩
    refine ite2 (fun c => absurd (V.str.inj (of_decide_eq_true c)) hp.1) (fun _ => ?_)
    refine ⟨_, rfl, a, _, _, _, rfl, rfl, ht1, at_of (j := 0) rfl rfl, (by show 1 ≤ sizeLine; decide), fun l0 hl0 => ?_⟩
    have k2 : Kp [] H (upd H1 l0 (.lst [.str k])) := k1.trans (Kp.new hl0)
    have h20 : (upd H1 l0 (.lst [.str k])) l0 = some (.lst (([k] : List Str).map V.str)) := upd_same
    have n20 : H l0 = none := k1.free hl0 (fun m => nomatch m)
    generalize upd H1 l0 (.lst [.str k]) = H2 at k2 h20 ⊢
    have ht2 := k2.sqT ht
    refine ⟨_, rfl, _, rfl, a, _, rfl, ht2, fun z => absurd z (not_wholeU _ _), fun _ t2 ht2 => ?_⟩
    rw [cut_tlU]
    have kx : Kp [] H2 (upd H2 t2 (.tup vs)) := Kp.new ht2
    have h3t : (upd H2 t2 (.tup vs)) t2 = some (.tup vs) := upd_same
    have h30 := kx.lst h20 (fun m => nomatch m)
    have k3 := k2.trans kx
    generalize upd H2 t2 (.tup vs) = H3 at h3t h30 k3 ⊢
    refine ⟨t2, rfl, ⟨_, SqT.of h3t⟩, for_tup (K := K) (a := t2) (xs := vs) (fun i σ H' => ∃ (lc : Addr) (v2 v3 : Option V), σ = [some (.ref a), some (.ref lc), v2, v3] ∧ Kp [] H H' ∧ Kp [] H3 H' ∧ H lc = none ∧ H' lc = some (.lst (([k] ++ Lz.P.wss [] (as.take i)).map V.str)))
      ⟨l0, none, none, rfl, k3, Kp.refl _ _, n20, by rw [show Lz.P.wss [] (as.take 0) = [] from wss_nil _, List.append_nil]; exact h30⟩ (fun i σ H' _ ⟨_, _, _, _, _, k, _⟩ => SqT.of (k.tup h3t)) ?_ ?_⟩
    · rintro i x σ H4 hi ⟨lc, v2, v3, rfl, k4, k34, nlc, hlc⟩
      obtain ⟨d, had, hdd⟩ := part_atU (Dp.keepAll k4 _ _ (datas_fz _) hvs) hi
      have hlt := (List.getElem?_eq_some_iff.mp had).1
      obtain ⟨dok, dm, ddp⟩ := inn_fits (t := .op k as) hok hmany hdeep had
      have dfit := fit_inn (t := .op k as) hfit d (List.mem_of_getElem? had)
      refine ⟨_, rfl, _, rfl, x, d, F, _, rfl, hdd, dok, dm, ddp, dfit, fun l2 H5 k5 hl20 hl2 => ?_⟩
      have hlc5 := k5.lst hlc (fun m => nomatch m)
      have hdl := ws_len d
      have h1 := wss_len [] (as.take i)
      have h2 := manys_take as i
      have h3 : (Lz.P.op k as).many = 1 + Lz.P.manys as := rfl
      refine ⟨lc, l2, _, _, rfl, rfl, hlc5, hl2, ?_, fun l3 hl3 => ?_⟩
      · rw [List.length_map, List.length_map, List.length_append]
        have := line10k
        show 1 + _ + _ ≤ sizeLine
        omega
      · refine ⟨l3, _, _, rfl, k4.trans (k5.trans (Kp.new hl3)), k34.trans (k5.trans (Kp.new hl3)), (k4.trans k5).free hl3 (fun m => nomatch m), ?_⟩
        rw [upd_same, List.take_add_one, had]
        have e := wss_snoc [] (as.take i) d
        rw [preW_no (Nat.zero_le _), List.nil_append] at e
        show some (HO.lst _) = some (HO.lst (([k] ++ Lz.P.wss [] (as.take i ++ [d])).map V.str))
        rw [e, ← List.map_append, List.append_assoc]
    · rintro σ H4 ⟨lc, v2, v3, rfl, k4, k34, nlc, hlc⟩
      rw [hvl, List.take_length] at hlc
      exact ⟨_, rfl, q lc H4 k4 nlc hlc⟩
  | lt nm as b =>
    have hok' : nm.length = as.length ∧ (∀ x, x ∈ nm → nmOk x) ∧ Lz.P.oks as ∧ Lz.P.ok b := hok
    have h4 : nm.length ≤ 4 := hfit.2.1
    obtain ⟨a, r, rs, vb, rfl, ht, hrt, hrs, hvb⟩ := let_atU hd
    have hrl : rs.length = nm.length := by rw [hrs.length, List.length_zipWith, datas_len]; omega
    refine ⟨_, rfl, a, _, _, _, rfl, rfl, ht, at_of (j := 0) rfl rfl, rfl, _, rfl, ?_⟩
    refine ite2 (fun c => absurd (V.str.inj (of_decide_eq_true c)) (by decide +kernel)) (fun _ => ?_)
    refine ⟨_, rfl, a, _, _, _, rfl, rfl, ht, at_of (j := 0) rfl rfl, (by show 2 ≤ sizeLine; decide), fun T hT => ?_⟩
    have hT1 : (upd H T (.tup [.str "name", .str "fun"])) T = some (.tup [.str "name", .str "fun"]) := upd_same
    have k1 : Kp [] H (upd H T (.tup [.str "name", .str "fun"])) := Kp.new hT
    generalize upd H T (.tup [.str "name", .str "fun"]) = H1 at hT1 k1 ⊢
    refine ⟨T, _, rfl, .inr (SqT.of hT1), rfl, rfl, _, rfl, ?_⟩
    refine ite2 (fun c => absurd c (by decide +kernel)) (fun _ => ?_)
    have ht1 := k1.sqT ht
    have hrt1 := k1.sqT hrt
    refine ⟨_, rfl, a, _, _, _, rfl, rfl, ht1, at_of (j := 0) rfl rfl, rfl, _, rfl, ?_⟩
    refine ite2 (fun _ => ?_) (fun c => absurd (decide_eq_true rfl) c)
    refine ⟨_, rfl, a, _, _, _, rfl, rfl, ht1, at_of (j := 1) rfl rfl, r, _, rfl, .inr hrt1, _, rfl, log60 (small60 (by omega)), (by show 2 ≤ sizeLine; decide), fun l0 hl0 => ?_⟩
    show tSeq _ _ _ _ (upd H1 l0 (.lst [.str "let", .str (numS (rs.length : Nat))]))
    rw [hrl]
    have k2 : Kp [] H (upd H1 l0 (.lst [.str "let", .str (numS (nm.length : Nat))])) := k1.trans (Kp.new hl0)
    have h20 : (upd H1 l0 (.lst [.str "let", .str (numS (nm.length : Nat))])) l0 = some (.lst ((["let", numS (nm.length : Nat)] : List Str).map V.str)) := upd_same
    have n20 : H l0 = none := k1.free hl0 (fun m => nomatch m)
    generalize upd H1 l0 (.lst [.str "let", .str (numS (nm.length : Nat))]) = H2 at k2 h20 ⊢
    refine ⟨_, rfl, a, _, _, _, rfl, rfl, k2.sqT ht, at_of (j := 1) rfl rfl, r, rfl, ⟨_, k2.sqT hrt⟩, for_tup (K := K) (a := r) (xs := rs) (fun i σ H' => ∃ (lc : Addr) (v2 v3 : Option V), σ = [some (.ref a), some (.ref lc), v2, v3] ∧ Kp [] H H' ∧ H lc = none ∧ H' lc = some (.lst (((["let", numS (nm.length : Nat)] : List Str) ++ Lz.P.wss nm (as.take i)).map V.str)))
      ⟨l0, none, none, rfl, k2, n20, by rw [show Lz.P.wss nm (as.take 0) = [] from wss_nil _, List.append_nil]; exact h20⟩ (fun i σ H' _ ⟨_, _, _, _, k, _⟩ => k.sqT hrt) ?_ ?_⟩
    · rintro i x σ H4 hi ⟨lc, v2, v3, rfl, k4, nlc, hlc⟩
      obtain ⟨t, nx, u, d, rfl, htt, hnx, had, hud⟩ := row_atU (Dp.keepAll k4 _ _ rows_fz hrs) hi
      have hlt := (List.getElem?_eq_some_iff.mp had).1
      have hinn : (Lz.P.lt nm as b).inn[i]? = some d := by
        show (as ++ [b])[i]? = some d
        rw [List.getElem?_append_left hlt]
        exact had
      obtain ⟨dok, dm, ddp⟩ := inn_fits (t := .lt nm as b) hok hmany hdeep hinn
      have dfit := fit_inn (t := .lt nm as b) hfit d (List.mem_of_getElem? hinn)
      have hx8 := (hok'.2.1 nx (List.mem_of_getElem? hnx)).2.1
      have hdl := ws_len d
      have h1 := wss_len nm (as.take i)
      have h2 := manys_take as i
      have h3 : (Lz.P.lt nm as b).many = 1 + (Lz.P.manys as + b.many) := rfl
      have hL := line10k
      refine ⟨_, rfl, _, rfl, t, _, _, _, rfl, rfl, htt, at_of (j := 0) rfl rfl, _, _, rfl, rfl, (by show 1 + nx.length ≤ sizeLine; omega), (by show 1 ≤ sizeLine; omega), fun l1 hl1 => ?_⟩
      have k5 : Kp [] H4 (upd H4 l1 (.lst [.str (("." : Str) ++ nx)])) := Kp.new hl1
      have h51 : (upd H4 l1 (.lst [.str (("." : Str) ++ nx)])) l1 = some (.lst [.str (("." : Str) ++ nx)]) := upd_same
      have hlc5 := k5.lst hlc (fun m => nomatch m)
      generalize upd H4 l1 (.lst [.str (("." : Str) ++ nx)]) = H5 at k5 h51 hlc5 ⊢
      refine ⟨lc, l1, _, _, rfl, rfl, hlc5, h51, ?_, fun l2 hl2 => ?_⟩
      · rw [List.length_map, List.length_append]
        show 2 + _ + 1 ≤ sizeLine
        omega
      have k6 : Kp [] H5 (upd H5 l2 (.lst (((["let", numS (nm.length : Nat)] : List Str) ++ Lz.P.wss nm (as.take i)).map V.str ++ [.str (("." : Str) ++ nx)]))) := Kp.new hl2
      have h62 : (upd H5 l2 (.lst (((["let", numS (nm.length : Nat)] : List Str) ++ Lz.P.wss nm (as.take i)).map V.str ++ [.str (("." : Str) ++ nx)]))) l2 = some (.lst (((["let", numS (nm.length : Nat)] : List Str) ++ Lz.P.wss nm (as.take i)).map V.str ++ [.str (("." : Str) ++ nx)])) := upd_same
      generalize upd H5 l2 (.lst (((["let", numS (nm.length : Nat)] : List Str) ++ Lz.P.wss nm (as.take i)).map V.str ++ [.str (("." : Str) ++ nx)])) = H6 at k6 h62 ⊢
      have k46 := k5.trans k6
      refine ⟨_, rfl, t, _, _, _, rfl, rfl, k46.sqT htt, at_of (j := 1) rfl rfl, u, d, F, _, rfl, Dp.keep k46 _ _ (data_fz _) hud, dok, dm, ddp, dfit, fun l3 H7 k7 hl30 hl3 => ?_⟩
      refine ⟨l2, l3, _, _, rfl, rfl, k7.lst h62 (fun m => nomatch m), hl3, ?_, fun l4 hl4 => ?_⟩
      · rw [List.length_append, List.length_map, List.length_map, List.length_append]
        show 2 + _ + 1 + _ ≤ sizeLine
        omega
      · have k47 := k46.trans k7
        refine ⟨l4, _, _, rfl, k4.trans (k47.trans (Kp.new hl4)), (k4.trans k47).free hl4 (fun m => nomatch m), ?_⟩
        rw [upd_same, List.take_add_one, had]
        have e := wss_snoc nm (as.take i) d
        rw [List.length_take, Nat.min_eq_left (Nat.le_of_lt hlt), preW_of hnx] at e
        show some (HO.lst _) = some (HO.lst (((["let", numS (nm.length : Nat)] : List Str) ++ Lz.P.wss nm (as.take i ++ [d])).map V.str))
        rw [e]
        simp only [List.map_append, List.append_assoc, List.map_cons, List.map_nil]
    · rintro σ H4 ⟨lc, v2, v3, rfl, k4, nlc, hlc⟩
      rw [hrl, hok'.1, List.take_length] at hlc
      have hinn : (Lz.P.lt nm as b).inn[as.length]? = some b := by
        show (as ++ [b])[as.length]? = some b
        rw [List.getElem?_append_right (Nat.le_refl _), Nat.sub_self]
        rfl
      obtain ⟨dok, dm, ddp⟩ := inn_fits (t := .lt nm as b) hok hmany hdeep hinn
      have dfit := fit_inn (t := .lt nm as b) hfit b (List.mem_of_getElem? hinn)
      have hdl := ws_len b
      have h1 := wss_len nm as
      have h3 : (Lz.P.lt nm as b).many = 1 + (Lz.P.manys as + b.many) := rfl
      have hL := line10k
      refine ⟨_, rfl, _, rfl, a, _, _, _, rfl, rfl, k4.sqT ht, at_of (j := 2) rfl rfl, vb, b, F, _, rfl, Dp.keep k4 _ _ (data_fz _) hvb, dok, dm, ddp, dfit, fun l3 H7 k7 hl30 hl3 => ?_⟩
      refine ⟨lc, l3, _, _, rfl, rfl, k7.lst hlc (fun m => nomatch m), hl3, ?_, fun l4 hl4 => ?_⟩
      · rw [List.length_map, List.length_map, List.length_append]
        show 2 + _ + _ ≤ sizeLine
        omega
      · refine q l4 _ (k4.trans (k7.trans (Kp.new hl4))) ((k4.trans k7).free hl4 (fun m => nomatch m)) ?_
        rw [upd_same, ← List.map_append, List.append_assoc, ← hok'.1]
        rfl
end
end Lz

set_option Elab.async false
set_option linter.all false
set_option maxRecDepth 100000
set_option maxHeartbeats 8000000
namespace StX
open PySem L2
def rJoinK (K : PySem.W.Frag) : V → List V → Hp → VK → Prop := fun x xs H Q => ∃ a p, ∃ ys : List Str, x = .str a ∧ xs = [.ref p] ∧ (SqL K H p (ys.map V.str) ∨ SqT K H p (ys.map V.str)) ∧ (ys.map (·.length)).sum + ys.length * a.length ≤ 16777216 ∧ Q (.str (Txt.join a ys)) H
theorem pe_joinK {X : Cx} {K : PySem.W.Frag} {o e : Expr} {to te : TE} {apos pos : Pos} (h : X.K = K) (ho : PE X o to) (he : PE X e te) (hs : starEach [e] X.env = [(false, eval e X.env)] := by rfl) (hbase : attributeBase o "join" X.env (eval o X.env) = eval o X.env := by rfl) (hline : (apos.endLine == pos.line) = true := by rfl) :
    PE X (.Call (.Attribute o "join" apos) [e] [] pos) (tM1 (rJoinK K) to te) := by
  subst h
  exact pe_join ho he hs hbase hline
end StX
namespace Lz
open PySem PySem.Spec PyProof.Rows L2
/-- rows of words, as lists that are none of S -/
def RowsAt (S : List Addr) (H : Hp) : List V → List (List Str) → Prop
  | [], [] => True
  | v :: vs, ws :: r => (∃ a, v = .ref a ∧ ¬ a ∈ S ∧ H a = some (.lst (ws.map V.str))) ∧ RowsAt S H vs r
  | [], _ :: _ => False
  | _ :: _, [] => False
theorem RowsAt.keep {S : List Addr} {H H' : Hp} (k : Kp S H H') : ∀ {vs : List V} {r : List (List Str)}, RowsAt S H vs r → RowsAt S H' vs r
  | [], [], _ => True.intro
  | v :: vs, ws :: r, ⟨⟨a, e, n, h⟩, t⟩ => ⟨⟨a, e, n, k.lst h n⟩, RowsAt.keep k t⟩
  | [], _ :: _, h => h.elim
  | _ :: _, [], h => h.elim
theorem RowsAt.none {S : List Addr} {H : Hp} : ∀ {vs : List V} {r : List (List Str)}, RowsAt S H vs r → RowsAt [] H vs r
  | [], [], _ => True.intro
  | v :: vs, ws :: r, ⟨⟨a, e, n, h⟩, t⟩ => ⟨⟨a, e, fun m => (nomatch m), h⟩, RowsAt.none t⟩
  | [], _ :: _, h => h.elim
  | _ :: _, [], h => h.elim
theorem RowsAt.snoc {S : List Addr} {H : Hp} {a : Addr} {ws : List Str} (n : ¬ a ∈ S) (h : H a = some (.lst (ws.map V.str))) : ∀ {vs : List V} {r : List (List Str)}, RowsAt S H vs r → RowsAt S H (vs ++ [.ref a]) (r ++ [ws])
  | [], [], _ => ⟨⟨a, rfl, n, h⟩, True.intro⟩
  | v :: vs, w :: r, ⟨hd, t⟩ => ⟨hd, RowsAt.snoc n h t⟩
  | [], _ :: _, h => h.elim
  | _ :: _, [], h => h.elim
theorem RowsAt.length {S : List Addr} {H : Hp} : ∀ {vs : List V} {r : List (List Str)}, RowsAt S H vs r → vs.length = r.length
  | [], [], _ => rfl
  | v :: vs, w :: r, ⟨_, t⟩ => by rw [List.length_cons, List.length_cons, RowsAt.length t]
  | [], _ :: _, h => h.elim
  | _ :: _, [], h => h.elim
theorem RowsAt.at {S : List Addr} {H : Hp} : ∀ {vs : List V} {r : List (List Str)} {i : Nat} {v : V}, RowsAt S H vs r → vs[i]? = some v → ∃ a ws, v = .ref a ∧ r[i]? = some ws ∧ H a = some (.lst (ws.map V.str))
  | [], _, _, _, _, e => by simp at e
  | v :: vs, w :: r, 0, _, ⟨⟨a, e1, _, h⟩, _⟩, e => ⟨a, w, by rw [← Option.some.inj e]; exact e1, rfl, h⟩
  | v :: vs, w :: r, i + 1, x, ⟨_, t⟩, e => RowsAt.at (i := i) t e
  | _ :: _, [], _, _, h, _ => h.elim
def spLRows (K : PySem.W.Frag) : Sp := fun vs H Q _ => ∃ (v : V) (fs : List Fn) (d : Lz.P), vs = [v] ∧ Dp K H v (progD fs d) ∧ PrT fs d ∧ ∀ (l : Addr) (xs : List V) (H' : Hp), Kp [] H H' → H' l = some (.lst xs) → RowsAt [] H' xs (rowsW fs d) → Q (.ref l) H'
def spLText (K : PySem.W.Frag) : Sp := fun vs H Q _ => ∃ (l : Addr) (xs : List V) (fs : List Fn) (d : Lz.P), vs = [.ref l] ∧ H l = some (.lst xs) ∧ RowsAt [] H xs (rowsW fs d) ∧ PrT fs d ∧ ∀ H', Kp [] H H' → Q (.str (progT fs d)) H'
theorem PrT.rowW {fs : List Fn} {d : Lz.P} (h : PrT fs d) : ∀ ws, ws ∈ rowsW fs d → (ws.map (·.length)).sum + ws.length * (" " : Str).length ≤ 16777216 := fun ws m => by
  rcases List.mem_append.mp m with m | m
  · obtain ⟨g, hg, rfl⟩ := List.mem_map.mp m
    exact fnT_sum (h.fn g hg)
  · rw [List.mem_singleton.mp m]
    have := few_words h.askS h.askL " " (by decide +kernel)
    omega
section
variable {P : Program} {w : World} {K : PySem.W.Frag} {mg : Str → Option Value} {base : Heap} {f : Addr} {fd : FuncData}
abbrev sLText : Stmt := topS 24
theorem scLText : FnScope ["_law_rows_here", "_law_words_here"] ["_law_rows_here"] (defScope sLText) := ⟨rfl, rfl, rfl, by decide +kernel, rfl, by decide +kernel, by decide +kernel⟩
theorem ok_ltext (F : Fun K "_law_text" "_law_text" sLText f fd) : FnOk P w K mg base CX0 1 f fd ["_law_rows_here"] (spLText K) := by
  refine F.ok scLText (fun vs H Q E h => ?_) (fun cdv A outer s H vs Q E hr h => ?_)
  · obtain ⟨l, xs, fs, d, rfl, _⟩ := h
    rfl
  obtain ⟨l, xs, fs, d, rfl, hl, hrw, hx, q⟩ := h
  refine ⟨_, (pss_one (ps_ret (pe_join pe_str (pe_lc (own := [("_law_words_here", 1)]) rfl scLText.nd (pi_listK (K := K) rfl (pv 0)) (blkOk_by (N := ["_law_rows_here", "_law_words_here"]) (sc := defScope sLText) (by decide +kernel)) (fun _ _ _ _ _ => (pg_name (i := 1) scLText.nd rfl (.inl rfl))) (fun _ _ _ _ _ => pts_nil) (fun _ _ _ _ _ => (StX.pe_joinK (K := K) rfl pe_str (pv 1))))))), ?_⟩
  have hxl := hrw.length
  have h9 := hx.rowN
  have e9 : (rowsT fs d).length = (rowsW fs d).length := List.length_map _
  refine ⟨⟨_, rfl⟩, _, rfl, l, rfl, ⟨_, SqL.of hl⟩, fun D hD => ?_⟩
  refine lc_list (K := K) (a := l) (xs := xs) (fun i H' => Kp [] H H' ∧ H' D = some (.lst ((((rowsW fs d).take i).map (Str.join " ")).map V.str)))
      ⟨Kp.new hD, upd_same⟩ (fun i H' _ ⟨k, _⟩ => SqL.of (k.lst hl (fun m => nomatch m))) ?_ ?_
  · rintro i x H1 hi ⟨k1, h1⟩
    obtain ⟨a, ws, rfl, hws, ha⟩ := (hrw.keep k1).at hi
    refine ⟨rfl, ?_⟩
    refine ⟨⟨_, rfl⟩, _, rfl, _, a, ws, rfl, rfl, .inl (SqL.of ha), hx.rowW ws (List.mem_of_getElem? hws), ?_⟩
    rw [TL.join_eq]
    refine ⟨_, h1, (by rw [List.length_map, List.length_map, List.length_take]; exact small1000 (by omega)), k1.mut hD, ?_⟩
    rw [upd_same, List.take_add_one, hws, List.map_append, List.map_append]
    rfl
  · rintro H1 ⟨k1, h1⟩
    rw [hxl, List.take_length] at h1
    refine ⟨_, D, rowsT fs d, rfl, rfl, .inl (SqL.of h1), hx.sum, ?_⟩
    rw [TL.join_eq]
    exact q H1 k1
end
end Lz

set_option Elab.async false
set_option linter.all false
set_option maxRecDepth 100000
set_option maxHeartbeats 8000000
namespace Lz
open PySem PySem.Spec PyProof.Rows L2
section
variable {P : Program} {w : World} {K : PySem.W.Frag} {mg : Str → Option Value} {base : Heap} {f : Addr} {fd : FuncData}
abbrev sLRows : Stmt := topS 23
theorem scLRows : FnScope ["_law_program_here", "_law_found", "_law_name", "_law_names_here", "_law_body_here", "_law_one"] ["_law_program_here"] (defScope sLRows) := ⟨rfl, rfl, rfl, by decide +kernel, rfl, by decide +kernel, by decide +kernel⟩
theorem ok_lrows {j : Nat} (hj : 1 ≤ j) (F : Fun K "_law_rows" "_law_rows" sLRows f fd) (CLWords : C8.Cal P w K mg base j "_law_words" (spWords K 12) []) : FnOk P w K mg base CX0 (j + 1) f fd ["_law_program_here"] (spLRows K) := by
  refine F.ok scLRows (fun vs H Q E h => ?_) (fun cdv A outer s H vs Q E hr h => ?_)
  · obtain ⟨v, fs, d, rfl, _⟩ := h
    rfl
  obtain ⟨v, fs, d, rfl, hd, hx, q⟩ := h
  refine ⟨_, (pss_cons (ps_set (i := 1) scLRows.nd rfl (.inl rfl) (pe_lst pa_nil))
    (pss_cons (ps_for PassesOwn.never rfl (pi_tupK (K := K) rfl (pe_ix (ix_tupK (K := K) rfl) (pv 0) pe_int (fun _ _ => rfl))) (pg_tupK (K := K) (n := 3) rfl rfl (pgs_cons (pg_name (i := 2) scLRows.nd rfl (.inl rfl)) (pgs_cons (pg_name (i := 3) scLRows.nd rfl (.inl rfl)) (pgs_cons (pg_name (i := 4) scLRows.nd rfl (.inl rfl)) pgs_nil)))) (pss_one (ps_expr (pe_bmK (K := K) rfl PySem.F.plainAttrs_list PySem.F.slot_list_append PySem.F.type_list_append mt_append (pv 1) (pa_cons (pe_op op_cat (pe_op op_cat (pe_op op_cat (pe_lst (pa_cons (pv 2) pa_nil)) (pe_lc (own := [("_law_one", 5)]) rfl scLRows.nd (pi_tupK (K := K) rfl (pv 3)) (blkOk_by (N := ["_law_program_here", "_law_found", "_law_name", "_law_names_here", "_law_body_here", "_law_one"]) (sc := defScope sLRows) (by decide +kernel)) (fun _ _ _ _ _ => (pg_name (i := 5) scLRows.nd rfl (.inl rfl))) (fun _ _ _ _ _ => pts_nil) (fun _ _ _ _ _ => (pe_op op_add_str pe_str (pv 5))))) (pe_lst (pa_cons pe_str pa_nil))) (C8.pe_c CLWords hr (by first | decide | omega) (by rfl) (pa_cons (pv 4) pa_nil))) pa_nil)))))
    (pss_one (ps_ret (pe_op op_cat (pv 1) (pe_lst (pa_cons (pe_op op_cat (pe_lst (pa_cons pe_str pa_nil)) (C8.pe_c CLWords hr (by first | decide | omega) (by rfl) (pa_cons (pe_ix (ix_tupK (K := K) rfl) (pv 0) pe_int (fun _ _ => rfl)) pa_nil))) pa_nil))))))), ?_⟩
  obtain ⟨pr, ft, rs, vd, rfl, hpr, hft, hrs, hvd⟩ := prog_at hd
  have hrl : rs.length = fs.length := by rw [hrs.length, List.length_map]
  have h8 := hx.len
  have hL := line10k
  refine ⟨Nat.zero_le _, fun lf hlf => ?_⟩
  have k1 : Kp [] H (upd H lf (.lst [])) := Kp.new hlf
  have h1f : (upd H lf (.lst [])) lf = some (.lst []) := upd_same
  generalize upd H lf (.lst []) = H1 at k1 h1f ⊢
  refine ⟨_, rfl, pr, _, _, _, rfl, rfl, k1.sqT hpr, at_of (j := 0) rfl rfl, ft, rfl, ⟨_, k1.sqT hft⟩, for_tup (K := K) (a := ft) (xs := rs) (fun i σ H' => ∃ (v2 v3 v4 v5 : Option V) (ys : List V), σ = [some (.ref pr), some (.ref lf), v2, v3, v4, v5] ∧ Kp [] H H' ∧ H' lf = some (.lst ys) ∧ RowsAt [lf] H' ys ((fs.take i).map fnW))
    ⟨none, none, none, none, [], rfl, k1, h1f, True.intro⟩ (fun i σ H' _ ⟨_, _, _, _, _, _, k, _⟩ => k.sqT hft) ?_ ?_⟩
  · rintro i x σ H2 hi ⟨v2, v3, v4, v5, ys, rfl, k2, h2f, hys⟩
    obtain ⟨g, t, r, u, hg, rfl, ht, hr0, hu⟩ := fn_atU (Dp.keepAll k2 _ _ (fd_fz _) hrs) hi
    have hgx := hx.fn g (List.mem_of_getElem? hg)
    have hil := (List.getElem?_eq_some_iff.mp hg).1
    have h4 := hgx.th
    have hwl := hgx.bd.len
    refine ⟨t, _, rfl, ht, rfl, _, _, rfl, _, _, rfl, _, _, rfl, rfl, ?_⟩
    refine ⟨_, rfl, .inl ⟨rfl, _, SqL.of h2f⟩, _, rfl, (by show 1 ≤ sizeLine; omega), fun l1 hl1 => ?_⟩
    have k3 : Kp [] H2 (upd H2 l1 (.lst [.str g.1])) := Kp.new hl1
    have h31 : (upd H2 l1 (.lst [.str g.1])) l1 = some (.lst [.str g.1]) := upd_same
    generalize upd H2 l1 (.lst [.str g.1]) = H3 at k3 h31 ⊢
    refine ⟨_, rfl, r, rfl, ⟨_, k3.sqT hr0⟩, fun D hD => ?_⟩
    refine lc_tup (K := K) (a := r) (xs := g.2.1.map V.str) (fun i H' => Kp [] H3 H' ∧ H' D = some (.lst (((g.2.1.take i).map (fun x => ("." : Str) ++ x)).map V.str)))
      ⟨Kp.new hD, upd_same⟩ (fun i H' _ ⟨k, _⟩ => (k3.trans k).sqT hr0) ?_ ?_
    · rintro i x H4 hi ⟨k4, h4⟩
      rw [List.getElem?_map] at hi
      obtain ⟨y, hy, rfl⟩ : ∃ y, g.2.1[i]? = some y ∧ x = V.str y := by
        cases e : g.2.1[i]? with
        | none => rw [e] at hi; cases hi
        | some y => rw [e] at hi; exact ⟨y, rfl, (Option.some.inj hi).symm⟩
      have hy8 := (hgx.ns y (List.mem_of_getElem? hy)).2.1
      refine ⟨rfl, ?_⟩
      refine ⟨_, rfl, _, _, rfl, rfl, (by show 1 + y.length ≤ sizeLine; omega), _, h4, (by rw [List.length_map, List.length_map, List.length_take]; exact small1000 (by omega)), k4.mut hD, ?_⟩
      rw [upd_same, List.take_add_one, hy, List.map_append, List.map_append]
      rfl
    · rintro H4 ⟨k4, h4D⟩
      rw [List.length_map, List.take_length] at h4D
      have h41 := k4.lst h31 (fun m => nomatch m)
      refine ⟨l1, D, _, _, rfl, rfl, h41, h4D, (by rw [List.length_map, List.length_map]; show 1 + g.2.1.length ≤ sizeLine; omega), fun l2 hl2 => ?_⟩
      generalize hds : g.2.1.map (fun x => ("." : Str) ++ x) = ds at h4D hl2 ⊢
      have hdl : ds.length ≤ 4 := by rw [← hds, List.length_map]; exact h4
      have k5 : Kp [] H4 (upd H4 l2 (.lst ([.str g.1] ++ ds.map V.str))) := Kp.new hl2
      have h52 : (upd H4 l2 (.lst ([.str g.1] ++ ds.map V.str))) l2 = some (.lst ([.str g.1] ++ ds.map V.str)) := upd_same
      generalize upd H4 l2 (.lst ([.str g.1] ++ ds.map V.str)) = H5 at k5 h52 ⊢
      refine ⟨(by show 1 ≤ sizeLine; omega), fun l3 hl3 => ?_⟩
      have k6 : Kp [] H5 (upd H5 l3 (.lst [.str "="])) := Kp.new hl3
      have h63 : (upd H5 l3 (.lst [.str "="])) l3 = some (.lst [.str "="]) := upd_same
      have h62 := k6.lst h52 (fun m => nomatch m)
      generalize upd H5 l3 (.lst [.str "="]) = H6 at k6 h63 h62 ⊢
      refine ⟨l2, l3, _, _, rfl, rfl, h62, h63, (by rw [List.length_append, List.length_map]; show 1 + ds.length + 1 ≤ sizeLine; omega), fun l4 hl4 => ?_⟩
      have k7 : Kp [] H6 (upd H6 l4 (.lst ([.str g.1] ++ ds.map V.str ++ [.str "="]))) := Kp.new hl4
      have h74 : (upd H6 l4 (.lst ([.str g.1] ++ ds.map V.str ++ [.str "="]))) l4 = some (.lst ([.str g.1] ++ ds.map V.str ++ [.str "="])) := upd_same
      generalize upd H6 l4 (.lst ([.str g.1] ++ ds.map V.str ++ [.str "="])) = H7 at k7 h74 ⊢
      have k27 := k3.trans (k4.trans (k5.trans (k6.trans k7)))
      refine ⟨_, rfl, u, g.2.2, _, g.2.1, rfl, Dp.keep k27 _ _ (data_fz _) hu, hgx.bd.b.ok, (by have := hgx.bd.b.many; omega), hgx.bd.b.deep, hgx.bd.f, fun l5 H8 k8 hl50 hl5 => ?_⟩
      refine ⟨l4, l5, _, _, rfl, rfl, k8.lst h74 (fun m => nomatch m), hl5, (by rw [List.length_append, List.length_append, List.length_map, List.length_map]; show 1 + ds.length + 1 + g.2.2.ws.length ≤ sizeLine; omega), fun l6 hl6 => ?_⟩
      have k28 := k27.trans k8
      have h8f := k28.lst h2f (fun m => nomatch m)
      have n6f : lf ≠ l6 := ne_of_none h8f hl6
      have k9 : Kp [] H8 (upd H8 l6 (.lst ([.str g.1] ++ ds.map V.str ++ [.str "="] ++ g.2.2.ws.map V.str))) := Kp.new hl6
      have h96 : (upd H8 l6 (.lst ([.str g.1] ++ ds.map V.str ++ [.str "="] ++ g.2.2.ws.map V.str))) l6 = some (.lst ((fnW g).map V.str)) := by
        rw [upd_same]
        unfold fnW
        rw [hds]
        simp only [List.map_cons, List.map_append, List.append_assoc, List.cons_append, List.nil_append]
      generalize upd H8 l6 (.lst ([.str g.1] ++ ds.map V.str ++ [.str "="] ++ g.2.2.ws.map V.str)) = H9 at k9 h96 ⊢
      have k29 := k28.trans k9
      have h9f := k29.lst h2f (fun m => nomatch m)
      have hyl := hys.length
      rw [List.length_map, List.length_take] at hyl
      refine ⟨lf, _, _, rfl, rfl, h9f, small1000 (by omega), ?_⟩
      have kput : Kp [lf] H9 (upd H9 lf (.lst (ys ++ [.ref l6]))) := Kp.put h9f List.mem_cons_self
      refine ⟨_, _, _, _, _, rfl, (k2.trans k29).mut hlf, upd_same, ?_⟩
      rw [List.take_add_one, hg, List.map_append]
      have hrows := hys.keep ((k29.mono (fun _ m => nomatch m)).trans kput)
      exact RowsAt.snoc (not1 n6f.symm) (kput.lst h96 (not1 n6f.symm)) hrows
  · rintro σ H2 ⟨v2, v3, v4, v5, ys, rfl, k2, h2f, hys⟩
    rw [hrl, List.take_length] at hys
    have hyl := hys.length
    rw [List.length_map] at hyl
    have hwl := hx.ak.len
    refine ⟨_, rfl, (by show 1 ≤ sizeLine; omega), fun m1 hm1 => ?_⟩
    have k3 : Kp [] H2 (upd H2 m1 (.lst [.str "?"])) := Kp.new hm1
    have h31 : (upd H2 m1 (.lst [.str "?"])) m1 = some (.lst [.str "?"]) := upd_same
    generalize upd H2 m1 (.lst [.str "?"]) = H3 at k3 h31 ⊢
    have k03 := k2.trans k3
    refine ⟨_, rfl, pr, _, _, _, rfl, rfl, k03.sqT hpr, at_of (j := 1) rfl rfl, vd, d, _, [], rfl, Dp.keep k03 _ _ (data_fz _) hvd, hx.ak.b.ok, (by have := hx.ak.b.many; omega), hx.ak.b.deep, hx.ak.f, fun m2 H4 k4 hm20 hm2 => ?_⟩
    refine ⟨m1, m2, _, _, rfl, rfl, k4.lst h31 (fun m => nomatch m), hm2, (by rw [List.length_map]; show 1 + d.ws.length ≤ sizeLine; omega), fun m3 hm3 => ?_⟩
    have h4f := (k3.trans k4).lst h2f (fun m => nomatch m)
    have k5 : Kp [] H4 (upd H4 m3 (.lst ([.str "?"] ++ d.ws.map V.str))) := Kp.new hm3
    have h53 : (upd H4 m3 (.lst ([.str "?"] ++ d.ws.map V.str))) m3 = some (.lst (((("?" : Str) :: d.ws)).map V.str)) := upd_same
    have n3f : lf ≠ m3 := ne_of_none h4f hm3
    generalize upd H4 m3 (.lst ([.str "?"] ++ d.ws.map V.str)) = H5 at k5 h53 ⊢
    refine ⟨(by show 1 ≤ sizeLine; omega), fun m4 hm4 => ?_⟩
    have k6 : Kp [] H5 (upd H5 m4 (.lst [.ref m3])) := Kp.new hm4
    have h64 : (upd H5 m4 (.lst [.ref m3])) m4 = some (.lst [.ref m3]) := upd_same
    generalize upd H5 m4 (.lst [.ref m3]) = H6 at k6 h64 ⊢
    have k26 := k3.trans (k4.trans (k5.trans k6))
    refine ⟨lf, m4, _, _, rfl, rfl, k26.lst h2f (fun m => nomatch m), h64, (by rw [hyl]; show fs.length + 1 ≤ sizeLine; omega), fun m5 hm5 => ?_⟩
    have k7 : Kp [] H6 (upd H6 m5 (.lst (ys ++ [.ref m3]))) := Kp.new hm5
    refine q m5 _ _ (k2.trans (k26.trans k7)) upd_same ?_
    have hrows : RowsAt [lf] (upd H6 m5 (.lst (ys ++ [.ref m3]))) ys (fs.map fnW) := hys.keep ((k26.trans k7).mono (fun _ m => nomatch m))
    exact (RowsAt.snoc (not1 n3f.symm) ((k6.trans k7).lst h53 (fun m => nomatch m)) hrows).none
end
end Lz

set_option Elab.async false
set_option linter.all false
set_option maxRecDepth 100000
set_option maxHeartbeats 8000000
namespace Lz
open PySem PySem.Spec PyProof.Rows L2
def spLaw (K : PySem.W.Frag) : Sp := fun vs H Q _ => ∃ (s : Addr) (ns : List Int), vs = [.ref s] ∧ SqL K H s (ns.map V.int) ∧ ns.length ≤ 63 ∧ ∀ H', Q (.bl true) H'
theorem shape_opW {t : Lz.P} (h : ¬ t.hd ∈ (["number", "name", "fun", "let"] : List Str)) : ∃ k as, t = .op k as := by
  cases t with
  | num i => exact absurd (show ("number" : Str) ∈ (["number", "name", "fun", "let"] : List Str) by decide +kernel) h
  | nam i => exact absurd (show ("name" : Str) ∈ (["number", "name", "fun", "let"] : List Str) by decide +kernel) h
  | fn i => exact absurd (show ("fun" : Str) ∈ (["number", "name", "fun", "let"] : List Str) by decide +kernel) h
  | lt nm as b => exact absurd (show ("let" : Str) ∈ (["number", "name", "fun", "let"] : List Str) by decide +kernel) h
  | op k as => exact ⟨k, as, rfl⟩
theorem TxOk.inn {F sc : List Str} {t a : Lz.P} (h : TxOk F sc t) (m : a ∈ t.inn) : TxOk F (sc ++ t.own) a := by
  obtain ⟨i, hi⟩ := List.mem_iff_getElem?.mp m
  have h1 := inn_deep m
  have h2 := many_inn t
  have h4 : ∀ as : List Lz.P, a ∈ as → a.many ≤ Lz.P.manys as := fun as => by
    induction as with
    | nil => exact fun m => nomatch m
    | cons x r ih =>
      intro m
      show a.many ≤ x.many + Lz.P.manys r
      rcases List.mem_cons.mp m with e | m
      · rw [e]; omega
      · have := ih m
        omega
  have h3 := h4 _ m
  have h5 := h.b.many
  have h6 := h.b.deep
  exact ⟨⟨inn_ok h.b.ok a m, by omega, by omega⟩, fit_inn h.f a m⟩
section
variable {P : Program} {w : World} {K : PySem.W.Frag} {mg : Str → Option Value} {base : Heap} {f : Addr} {fd : FuncData}
abbrev sLaw : Stmt := topS 25
theorem scLaw : FnScope ["_law_script", "_law_pen_here", "_law_turn", "_law_program_here", "_law_body_here", "_law_found", "_law_due", "_law_part_here", "_law_name", "_law_names_here"] ["_law_script"] (defScope sLaw) := ⟨rfl, rfl, rfl, by decide +kernel, rfl, by decide +kernel, by decide +kernel⟩
theorem ok_law {j : Nat} (hj : 20 ≤ j) (F : Fun K "law" "law" sLaw f fd) (B : Bt mg) (mstr : mg "str" = none) (CLPen : C8.Cal P w K mg base 1 "_law_pen" (spPen K) []) (CLDraw : C8.Cal P w K mg base 1 "_law_draw" (spDraw K) []) (CLProgram : C8.Cal P w K mg base j "_law_program" (spProgram K) [])
    (CPartText : C8.Cal P w K mg base 14 "part_text" (spPartT K) []) (CWritten : C8.Cal P w K mg base 15 "written" (spWritten K) []) (CLWords : C8.Cal P w K mg base 13 "_law_words" (spWords K 12) []) (CLRows : C8.Cal P w K mg base 14 "_law_rows" (spLRows K) []) (CLText : C8.Cal P w K mg base 1 "_law_text" (spLText K) []) : FnOk P w K mg base CX0 (j + 1) f fd ["_law_script"] (spLaw K) := by
  have ml := B.len
  have mmax := B.max
  have mmin := B.min
  have mis := B.isinstance
  have mrange := B.range
  refine F.ok scLaw (fun vs H Q E h => ?_) (fun cdv A outer s H vs Q E hr h => ?_)
  · obtain ⟨s0, ns, rfl, _⟩ := h
    rfl
  obtain ⟨s0, ns, rfl, hS, hlen, q⟩ := h
  refine ⟨_, (pss_cons (ps_set (i := 1) scLaw.nd rfl (.inl rfl) (C8.pe_c CLPen hr (by first | decide | omega) (by rfl) (pa_cons (pv 0) pa_nil)))
    (pss_cons (ps_for PassesOwn.never rfl (pi_range1 (by rfl) mrange (pa_cons (pe_callB (call_max2 rfl) (by rfl) mmax (by decide +kernel) (pa_cons pe_int (pa_cons (pe_callB (call_min2 rfl) (by rfl) mmin (by decide +kernel) (pa_cons pe_int (pa_cons (pe_callB (call_lenK (K := K) rfl) (by rfl) ml PySem.boot_len (pa_cons (pv 0) pa_nil)) pa_nil))) pa_nil))) pa_nil)) (pg_name (i := 2) scLaw.nd rfl (.inl rfl)) (pss_cons (ps_set (i := 3) scLaw.nd rfl (.inl rfl) (C8.pe_c CLProgram hr (by first | decide | omega) (by rfl) (pa_cons (pv 1) pa_nil)))
    (pss_cons (ps_for PassesOwn.never rfl (pi_listK (K := K) rfl (pe_op op_cat (pe_lc (own := [("_law_name", 8), ("_law_names_here", 9), ("_law_body_here", 4)]) rfl scLaw.nd (pi_tupK (K := K) rfl (pe_ix (ix_tupK (K := K) rfl) (pv 3) pe_int (fun _ _ => rfl))) (blkOk_by (N := ["_law_script", "_law_pen_here", "_law_turn", "_law_program_here", "_law_body_here", "_law_found", "_law_due", "_law_part_here", "_law_name", "_law_names_here"]) (sc := defScope sLaw) (by decide +kernel)) (fun _ _ _ _ _ => (pg_tupK (K := K) (n := 3) rfl rfl (pgs_cons (pg_name (i := 8) scLaw.nd rfl (.inl rfl)) (pgs_cons (pg_name (i := 9) scLaw.nd rfl (.inl rfl)) (pgs_cons (pg_name (i := 4) scLaw.nd rfl (.inl rfl)) pgs_nil))))) (fun _ _ _ _ _ => pts_nil) (fun _ _ _ _ _ => (pv 4))) (pe_lst (pa_cons (pe_ix (ix_tupK (K := K) rfl) (pv 3) pe_int (fun _ _ => rfl)) pa_nil)))) (pg_name (i := 4) scLaw.nd rfl (.inl rfl)) (pss_cons (ps_set (i := 5) scLaw.nd rfl (.inl rfl) (C8.pe_c CPartText hr (by first | decide | omega) (by rfl) (pa_cons (pv 4) pa_nil)))
    (pss_one (ps_if (PW.pt (pw_or (pt_not (pt_truthK (K := K) rfl (pe_callB (call_isK (K := K) rfl) (by rfl) mis (by decide +kernel) (pa_cons (pv 5) (pa_cons (pe_bltn (v := .ty "str") (by rfl) mstr (by decide +kernel) rfl) pa_nil))) (fun _ => rfl))) (pw_or1 (pt_cmpR op_ne (pv 5) (pe_join pe_str (C8.pe_c CLWords hr (by first | decide | omega) (by rfl) (pa_cons (pv 4) pa_nil))) (nomark _))))) (pss_one (ps_ret pe_bl)) pss_nil))))
    (pss_cons (ps_set (i := 6) scLaw.nd rfl (.inl rfl) (C8.pe_c CLText hr (by first | decide | omega) (by rfl) (pa_cons (C8.pe_c CLRows hr (by first | decide | omega) (by rfl) (pa_cons (pv 3) pa_nil)) pa_nil)))
    (pss_cons (ps_if (PW.pt (pw_or (pt_not (pt_truthK (K := K) rfl (pe_callB (call_isK (K := K) rfl) (by rfl) mis (by decide +kernel) (pa_cons (C8.pe_c CWritten hr (by first | decide | omega) (by rfl) (pa_cons (pv 3) pa_nil)) (pa_cons (pe_bltn (v := .ty "str") (by rfl) mstr (by decide +kernel) rfl) pa_nil))) (fun _ => rfl))) (pw_or (pt_cmpR op_ne (C8.pe_c CWritten hr (by first | decide | omega) (by rfl) (pa_cons (pv 3) pa_nil)) (pv 6) (nomark _)) (pw_or1 (pt_cmpR op_ne (C8.pe_c CWritten hr (by first | decide | omega) (by rfl) (pa_cons (pv 3) pa_nil)) (pv 6) (nomark _)))))) (pss_one (ps_ret pe_bl)) pss_nil)
    (pss_cons (ps_set (i := 7) scLaw.nd rfl (.inl rfl) (pe_ix (ix_tupK (K := K) rfl) (pv 3) pe_int (fun _ _ => rfl)))
    (pss_one (ps_while PassesOwn.never (pt_cmpR (op_notInK (K := K) rfl) (pe_ix (ix_tupK (K := K) rfl) (pv 7) pe_int (fun _ _ => rfl)) (pe_tup (pa_cons pe_str (pa_cons pe_str (pa_cons pe_str (pa_cons pe_str pa_nil))))) rfl) (pss_cons (ps_set (i := 7) scLaw.nd rfl (.inl rfl) (pe_ix (ix_tupK (K := K) rfl) (pv 7) (pe_op op_add pe_int (C8.pe_c CLDraw hr (by first | decide | omega) (by rfl) (pa_cons (pv 1) (pa_cons (pe_op op_sub (pe_callB (call_lenK (K := K) rfl) (by rfl) ml PySem.boot_len (pa_cons (pv 7) pa_nil)) pe_int) pa_nil)))) (fun _ _ => rfl)))
    (pss_one (ps_if (pt_cmpR op_ne (C8.pe_c CPartText hr (by first | decide | omega) (by rfl) (pa_cons (pv 7) pa_nil)) (pe_join pe_str (C8.pe_c CLWords hr (by first | decide | omega) (by rfl) (pa_cons (pv 7) pa_nil))) (nomark _)) (pss_one (ps_ret pe_bl)) pss_nil)))))))))))
    (pss_one (ps_ret pe_bl)))), ?_⟩
  refine ⟨_, rfl, s0, ns, rfl, hS, hlen, fun p a H1 s1 hp ha pen1 => ?_⟩
  refine ⟨_, rfl, s0, _, rfl, .inl (s1.seq hS), _, _, rfl, _, _, rfl, _, rfl, ?_⟩
  have hml : (ns.map V.int).length ≤ 63 := by rw [List.length_map]; exact hlen
  generalize (ns.map V.int).length = nl at hml ⊢
  refine ⟨by split <;> split <;> omega, by split <;> split <;> omega, for_range (lo := 0) (fun i σ H' => ∃ (v2 v3 v4 v5 v6 v7 : Option V), σ = [some (.ref s0), some (.ref p), v2, v3, v4, v5, v6, v7, none, none] ∧ PenAt H' p a)
      ⟨none, none, none, none, none, none, rfl, pen1⟩ ?_ ?_⟩
  · rintro i σ H2 hi ⟨v2, v3, v4, v5, v6, v7, rfl, pen2⟩
    refine ⟨_, rfl, p, a, rfl, pen2, fun v fs d H3 k3 pen3 hd3 hprog => ?_⟩
    have hft := hprog.fits
    have hx := hft.prT
    obtain ⟨pr, ft, rs, vd, rfl, hpr, hft0, hrs, hvd⟩ := prog_at hd3
    have hrl : rs.length = fs.length := by rw [hrs.length, List.length_map]
    have hfl := hx.len
    refine ⟨_, rfl, pr, _, _, _, rfl, rfl, hpr, at_of (j := 0) rfl rfl, ft, rfl, ⟨_, hft0⟩, fun D hD => ?_⟩
    refine lc_tup (K := K) (a := ft) (xs := rs) (fun i H' => Kp [] H3 H' ∧ ∃ ys, H' D = some (.lst ys) ∧ DpAll K H' ys (Lz.P.datas ((fs.take i).map (·.2.2))))
      ⟨Kp.new hD, [], upd_same, .nil⟩ (fun i H' _ ⟨k, _⟩ => k.sqT hft0) ?_ ?_
    · rintro i x H4 hi ⟨k4, ys, hys, hdy⟩
      obtain ⟨g, t, r, u, hg, rfl, ht, hr0, hu⟩ := fn_atU (Dp.keepAll k4 _ _ (fd_fz _) hrs) hi
      have hil := (List.getElem?_eq_some_iff.mp hg).1
      refine ⟨t, _, rfl, ht, rfl, _, _, rfl, _, _, rfl, _, _, rfl, rfl, ?_⟩
      refine ⟨rfl, ?_⟩
      refine ⟨_, rfl, ys, hys, ?_, k4.mut hD, ys ++ [u], upd_same, ?_⟩
      · rw [hdy.length, datas_len, List.length_map, List.length_take]
        exact small1000 (by omega)
      · have kput : Kp [D] H4 (upd H4 D (.lst (ys ++ [u]))) := Kp.put hys List.mem_cons_self
        rw [List.take_add_one, hg, List.map_append, datas_map, List.map_append, ← datas_map]
        exact (Dp.keepAll kput _ _ (datas_fz _) hdy).append (.one (Dp.keep kput _ _ (data_fz _) hu))
    rintro H4 ⟨k4, ys, hys, hdy⟩
    rw [hrl, List.take_length] at hdy
    have hyl : ys.length ≤ 8 := by rw [hdy.length, datas_len, List.length_map]; exact hfl
    refine ⟨_, rfl, pr, _, _, _, rfl, rfl, k4.sqT hpr, at_of (j := 1) rfl rfl, (by show 1 ≤ sizeLine; decide), fun l hl => ?_⟩
    have k5 : Kp [] H4 (upd H4 l (.lst [vd])) := Kp.new hl
    refine ⟨D, l, _, _, rfl, rfl, by rw [upd_ne (ne_of_none hys hl)]; exact hys, upd_same, (by rw [List.length_singleton]; exact Nat.le_of_lt (small1000 (by omega))), fun R hR => ?_⟩
    have k6 := k5.trans (Kp.new (S := []) (o := .lst (ys ++ [vd])) hR)
    have hR6 : (upd (upd H4 l (.lst [vd])) R (.lst (ys ++ [vd]))) R = some (.lst (ys ++ [vd])) := upd_same
    have hd6 : DpAll K (upd (upd H4 l (.lst [vd])) R (.lst (ys ++ [vd]))) (ys ++ [vd]) (Lz.P.datas (fs.map (·.2.2) ++ [d])) := by
      rw [datas_map, List.map_append, ← datas_map]
      exact (Dp.keepAll k6 _ _ (datas_fz _) hdy).append (.one (Dp.keep (k4.trans k6) _ _ (data_fz _) hvd))
    have k36 := k4.trans k6
    generalize upd (upd H4 l (.lst [vd])) R (.lst (ys ++ [vd])) = H6 at hR6 hd6 k36 ⊢
    have hall : ∀ t, t ∈ fs.map (·.2.2) ++ [d] → ∃ sc, TxOk (fs.map (·.1)) sc t := fun t m => by
      rcases List.mem_append.mp m with m | m
      · obtain ⟨g, hg, rfl⟩ := List.mem_map.mp m
        exact ⟨_, (hx.fn g hg).bd⟩
      · rw [List.mem_singleton.mp m]
        exact ⟨_, hx.ak⟩
    generalize fs.map (·.2.2) ++ [d] = ts0 at hd6 hall
    generalize ys ++ [vd] = xs0 at hR6 hd6
    refine ⟨R, rfl, ⟨_, SqL.of hR6⟩, for_list (K := K) (a := R) (xs := xs0) (fun z σ H' => ∃ (v4 v5 : Option V), σ = [some (.ref s0), some (.ref p), some (.int (0 + (i : Int))), some (.ref pr), v4, v5, v6, v7, none, none] ∧ Kp [] H6 H')
      ⟨_, _, rfl, Kp.refl _ _⟩ (fun z σ H' _ ⟨_, _, _, k⟩ => SqL.of (k.lst hR6 (fun m => nomatch m))) ?_ ?_⟩
    · rintro z x σ H7 hz ⟨v4, v5, rfl, k7⟩
      obtain ⟨t, htm, hdd⟩ := part_atU (Dp.keepAll k7 _ _ (datas_fz _) hd6) hz
      obtain ⟨sc, hxt⟩ := hall t (List.mem_of_getElem? htm)
      refine ⟨_, rfl, x, t, _, sc, rfl, hdd, hxt, fun H8 k8 => ?_⟩
      refine ⟨_, rfl, .str t.txt, .ty "str", .type "str", .type "str", true, rfl, .ty _, .base (.str _), kit_ty (by decide +kernel), true, rfl, ?_⟩
      refine ⟨_, rfl, ⟨_, rfl⟩, _, rfl, x, t, _, sc, rfl, Dp.keep k8 _ _ (data_fz _) hdd, hxt.b.ok, (by have := hxt.b.many; omega), hxt.b.deep, hxt.f, fun l2 H9 k9 hl20 hl2 => ?_⟩
      refine ⟨_, l2, t.ws, rfl, rfl, .inl (SqL.of hl2), hxt.sum, ?_⟩
      rw [TL.join_eq]
      refine ⟨rfl, _, rfl, ?_⟩
      refine ite2 (fun c => ?_) (fun _ => ⟨_, _, rfl, k7.trans (k8.trans k9)⟩)
      rw [show decide (V.str t.txt = V.str (Str.join " " t.ws)) = true from decide_eq_true rfl] at c
      cases c
    · rintro σ H7 ⟨v4, v5, rfl, k7⟩
      have k37 := k36.trans k7
      refine ⟨_, rfl, .ref pr, fs, d, rfl, Dp.keep k37 _ _ (progU_fz _ _) hd3, hx, fun lr xr H8 k8 hlr hrows => ⟨lr, xr, fs, d, rfl, hlr, hrows, hx, fun H9 k9 => ?_⟩⟩
      have k39 := k37.trans (k8.trans k9)
      refine ⟨_, rfl, .ref pr, fs, d, rfl, Dp.keep k39 _ _ (progU_fz _ _) hd3, hx, fun H10 k10 => ?_⟩
      refine ⟨.str (progT fs d), .ty "str", .type "str", .type "str", true, rfl, .ty _, .base (.str _), kit_ty (by decide +kernel), true, rfl, ?_⟩
      have k310 := k39.trans k10
      refine ⟨_, rfl, .ref pr, fs, d, rfl, Dp.keep k310 _ _ (progU_fz _ _) hd3, hx, fun H11 k11 => ?_⟩
      have edec : (!decide (V.str (progT fs d) = V.str (progT fs d))) = false := by simp
      refine ⟨_, rfl, rfl, _, rfl, ?_⟩
      rw [edec]
      have k311 := k310.trans k11
      refine ⟨_, rfl, .ref pr, fs, d, rfl, Dp.keep k311 _ _ (progU_fz _ _) hd3, hx, fun H12 k12 => ?_⟩
      refine ⟨_, rfl, rfl, _, rfl, ?_⟩
      rw [edec]
      have k312 := k311.trans k12
      refine ⟨_, rfl, pr, _, _, _, rfl, rfl, k312.sqT hpr, at_of (j := 1) rfl rfl, ?_⟩
      refine ⟨fun m σ H' => ∃ (v4 v5 v6 : Option V) (v : V) (t : Lz.P) (sc : List Str), σ = [some (.ref s0), some (.ref p), some (.int (0 + (i : Int))), some (.ref pr), v4, v5, v6, some v, none, none] ∧ PenAt H' p a ∧ Dp K H' v t.data ∧ TxOk (fs.map (·.1)) sc t ∧ m = t.many,
        ⟨_, v4, v5, _, vd, d, [], rfl, pen3.keep k312 (fun m => nomatch m) (fun m => nomatch m), Dp.keep k312 _ _ (data_fz _) hvd, hx.ak, rfl⟩, ?_⟩
      clear k39 k310 k311 k312 edec k37 k7 hrows hlr
      rintro m σ H13 ⟨v4, v5, v6, v, t, sc, rfl, pen13, hd13, hxt, rfl⟩
      obtain ⟨at', xs, rfl, hta, hxs⟩ := hd_at hd13
      refine ⟨_, rfl, at', _, _, _, rfl, rfl, hta, at_of (j := 0) rfl rfl, (by show 4 ≤ sizeLine; decide), fun T hT => ?_⟩
      have kT : Kp [] H13 (upd H13 T (.tup [.str "number", .str "name", .str "fun", .str "let"])) := Kp.new hT
      have hT14 : (upd H13 T (.tup [.str "number", .str "name", .str "fun", .str "let"])) T = some (.tup [.str "number", .str "name", .str "fun", .str "let"]) := upd_same
      have pen14 := pen13.new (o := .tup [.str "number", .str "name", .str "fun", .str "let"]) hT
      have hta14 := kT.sqT hta
      have hd14 := Dp.keep kT _ _ (data_fz _) hd13
      generalize upd H13 T (.tup [.str "number", .str "name", .str "fun", .str "let"]) = H14 at kT hT14 pen14 hta14 hd14 ⊢
      refine ⟨T, _, rfl, .inr (SqT.of hT14), rfl, rfl, _, rfl, ?_⟩
      refine ite2 (fun c => ?_) (fun _ => ⟨_, _, _, _, _, _, rfl, pen14⟩)
      have c1 : ¬ t.hd ∈ (["number", "name", "fun", "let"] : List Str) := fun m => by
        have e : inV (V.str t.hd) [.str "number", .str "name", .str "fun", .str "let"] = true := (inU t.hd ["number", "name", "fun", "let"]).trans (decide_eq_true m)
        have c' : (!inV (V.str t.hd) [.str "number", .str "name", .str "fun", .str "let"]) = true := c
        rw [e] at c'
        cases c'
      obtain ⟨k, as, rfl⟩ := shape_opW c1
      refine ⟨fun σ' H' => ∃ m', m' < (Lz.P.op k as).many ∧ ∃ (v4 v5 v6 : Option V) (v : V) (t : Lz.P) (sc : List Str), σ' = [some (.ref s0), some (.ref p), some (.int (0 + (i : Int))), some (.ref pr), v4, v5, v6, some v, none, none] ∧ PenAt H' p a ∧ Dp K H' v t.data ∧ TxOk (fs.map (·.1)) sc t ∧ m' = t.many, fun σ' H' h => h, ?_⟩
      obtain ⟨a2, vs, e, hop, hvs⟩ := op_atU hd14
      obtain rfl := V.ref.inj e
      have hvl : vs.length = as.length := by rw [hvs.length, datas_len]
      have hk := (show (k, as.length) ∈ kinds ∧ Lz.P.oks as from hxt.b.ok).1
      have har := arity_le hk
      refine ⟨_, rfl, _, rfl, _, rfl, at', _, rfl, .inr hop, _, _, rfl, rfl, p, a, _, rfl, pen14, ?_, ?_, fun r H15 k15 pen15 r0 r1 => ?_⟩
      · rw [List.length_cons]; omega
      · rw [List.length_cons]
        have : (2 : Nat) ^ 250 = 2 ^ 250 := rfl
        have h2 : (10 : Nat) ≤ 2 ^ 250 := by decide +kernel
        exact Nat.lt_of_lt_of_le (by omega) h2
      rw [List.length_cons] at r1
      have hr : r.toNat < as.length := by omega
      obtain ⟨w', hw, hwd⟩ := (Dp.keepAll (k15.mono (T := [p]) (fun _ m => m)) _ _ (datas_fz _) hvs).get (i := r.toNat) (d := (as[r.toNat]).data) (by rw [datas_map, List.getElem?_map, List.getElem?_eq_getElem hr]; rfl)
      have hmem := List.getElem_mem hr
      generalize as[r.toNat] = t' at hwd hmem
      have hxt' := hxt.inn (a := t') hmem
      have hlt : t'.many < (Lz.P.op k as).many := by
        have h1 := many_inn (.op k as)
        have h2 : ∀ as : List Lz.P, t' ∈ as → t'.many ≤ Lz.P.manys as := fun as => by
          induction as with
          | nil => exact fun m => nomatch m
          | cons x r ih =>
            intro m
            show t'.many ≤ x.many + Lz.P.manys r
            rcases List.mem_cons.mp m with e | m
            · rw [e]; omega
            · have := ih m
              omega
        have h3 := h2 as hmem
        have h4 : (Lz.P.op k as).many = 1 + Lz.P.manys as := rfl
        omega
      refine ⟨_, _, rfl, rfl, at', _, _, _, rfl, rfl, k15.sqT hop, at_of (j := 1 + r.toNat) (by omega) (by rw [Nat.add_comm, List.getElem?_cons_succ]; exact hw), ?_⟩
      refine ⟨_, rfl, w', t', _, _, rfl, hwd, hxt', fun H16 k16 => ?_⟩
      refine ⟨⟨_, rfl⟩, _, rfl, w', t', _, _, rfl, Dp.keep k16 _ _ (data_fz _) hwd, hxt'.b.ok, (by have := hxt'.b.many; omega), hxt'.b.deep, hxt'.f, fun l2 H17 k17 hl20 hl2 => ?_⟩
      refine ⟨_, l2, t'.ws, rfl, rfl, .inl (SqL.of hl2), hxt'.sum, ?_⟩
      rw [TL.join_eq]
      refine ⟨rfl, _, rfl, ?_⟩
      refine ite2 (fun c => ?_) (fun _ => ⟨_, hlt, v4, v5, v6, w', t', _, rfl, pen15.keep (k16.trans k17) (fun m => nomatch m) (fun m => nomatch m), Dp.keep (k16.trans k17) _ _ (data_fz _) hwd, hxt', rfl⟩)
      rw [show decide (V.str t'.txt = V.str (Str.join " " t'.ws)) = true from decide_eq_true rfl] at c
      cases c
  · rintro σ H2 ⟨v2, v3, v4, v5, v6, v7, rfl, pen2⟩
    exact q _
end
end Lz

set_option Elab.async false
set_option linter.all false
set_option maxRecDepth 100000
set_option maxHeartbeats 8000000
namespace Lz
open PySem PySem.Spec PyProof.Rows L2
theorem no_part {P : Program} {w : World} {K : PySem.W.Frag} {mg : Str → Option Value} {base : Heap} {f : Addr} {fd : FuncData} {j : Nat} {ps : List Str} : FnOk P w K mg base CX0 j f fd ps (spPart K 0) := by
  have no : ∀ vs H Q E, ¬ spPart K 0 vs H Q E := fun vs H Q E h => by
    obtain ⟨_, _, _, _, _, _, _, _, _, _, _, _, _, _, _, _, h1, h2, _⟩ := h
    omega
  exact ⟨fun vs H Q E h => absurd h (no vs H Q E), fun A outer s H args us vs Q E _ _ _ _ h => absurd h (no vs H Q E)⟩
theorem no_words {P : Program} {w : World} {K : PySem.W.Frag} {mg : Str → Option Value} {base : Heap} {f : Addr} {fd : FuncData} {j : Nat} {ps : List Str} : FnOk P w K mg base CX0 j f fd ps (spWords K 0) := by
  have no : ∀ vs H Q E, ¬ spWords K 0 vs H Q E := fun vs H Q E h => by
    obtain ⟨_, t, _, _, _, _, _, _, h1, _⟩ := h
    have := deep_pos t
    omega
  exact ⟨fun vs H Q E h => absurd h (no vs H Q E), fun A outer s H args us vs Q E _ _ _ _ h => absurd h (no vs H Q E)⟩
/-- PARTS_OF as the top leaves it -/
theorem po_mk {K : PySem.W.Frag} {pd : Addr} {u1 u2 u3 u4 u5 u6 u7 u8 u9 : Value} (h1 : PySem.W.nsIn K pd "give" = some (some u1)) (h2 : PySem.W.nsIn K pd "plus" = some (some u2)) (h3 : PySem.W.nsIn K pd "less" = some (some u3)) (h4 : PySem.W.nsIn K pd "times" = some (some u4)) (h5 : PySem.W.nsIn K pd "below" = some (some u5))
    (h6 : PySem.W.nsIn K pd "when" = some (some u6)) (h7 : PySem.W.nsIn K pd "pair" = some (some u7)) (h8 : PySem.W.nsIn K pd "left" = some (some u8)) (h9 : PySem.W.nsIn K pd "right" = some (some u9)) (n1 : PySem.W.nsIn K pd "number" = some none) (n2 : PySem.W.nsIn K pd "name" = some none) (n3 : PySem.W.nsIn K pd "fun" = some none) : PO K pd := by
  refine ⟨fun k n h => ?_, n1, n2, n3⟩
  have hk : k = "give" ∨ k = "plus" ∨ k = "less" ∨ k = "times" ∨ k = "below" ∨ k = "when" ∨ k = "pair" ∨ k = "left" ∨ k = "right" := by
    unfold kinds at h
    simp only [List.mem_cons, Prod.mk.injEq, List.not_mem_nil, or_false] at h
    rcases h with h | h | h | h | h | h | h | h | h
    · exact .inl h.1
    · exact .inr (.inl h.1)
    · exact .inr (.inr (.inl h.1))
    · exact .inr (.inr (.inr (.inl h.1)))
    · exact .inr (.inr (.inr (.inr (.inl h.1))))
    · exact .inr (.inr (.inr (.inr (.inr (.inl h.1)))))
    · exact .inr (.inr (.inr (.inr (.inr (.inr (.inl h.1))))))
    · exact .inr (.inr (.inr (.inr (.inr (.inr (.inr (.inl h.1)))))))
    · exact .inr (.inr (.inr (.inr (.inr (.inr (.inr (.inr h.1)))))))
  rcases hk with rfl | rfl | rfl | rfl | rfl | rfl | rfl | rfl | rfl
  · exact ⟨_, h1⟩
  · exact ⟨_, h2⟩
  · exact ⟨_, h3⟩
  · exact ⟨_, h4⟩
  · exact ⟨_, h5⟩
  · exact ⟨_, h6⟩
  · exact ⟨_, h7⟩
  · exact ⟨_, h8⟩
  · exact ⟨_, h9⟩
theorem all_mk {l : PySem.W.OpenLaw} {w : World} {K : PySem.W.Frag} {h : Heap} {mg : Str → Option Value} {fa : Addr} (X : K.In h) (G : h.Ns mainGlobals mg) (hfa : mg "law" = some (.ref fa))
    {pd : Addr} {es : Array DictEntry} {n : Nat} {u1 u2 u3 u4 u5 u6 u7 u8 u9 : Value}
    {fRowNames : Addr} {odRowNames anRowNames : Option Addr} {slRowNames : Array (Option Value)} {ocRowNames kVRowNames dcRowNames pmRowNames cdRowNames ctRowNames : Value}
    (aRowNames : PySem.W.nsIn K mainGlobals "row_names" = some (some (.ref fRowNames))) (lRowNames : K.lookup fRowNames = some ⟨ocRowNames, odRowNames, .func (PySem.W.fnOf "row_names" "row_names" (defArgs sRowNames) (defBody sRowNames) (defScope sRowNames) .none kVRowNames dcRowNames pmRowNames anRowNames cdRowNames ctRowNames), slRowNames⟩) (cRowNames : PySem.W.codeIn K cdRowNames "row_names" = true) (kRowNames : PySem.W.keepIn K (.ref fRowNames) = true)
    {fWithin : Addr} {odWithin anWithin : Option Addr} {slWithin : Array (Option Value)} {ocWithin kVWithin dcWithin pmWithin cdWithin ctWithin : Value}
    (aWithin : PySem.W.nsIn K mainGlobals "within" = some (some (.ref fWithin))) (lWithin : K.lookup fWithin = some ⟨ocWithin, odWithin, .func (PySem.W.fnOf "within" "within" (defArgs sWithin) (defBody sWithin) (defScope sWithin) .none kVWithin dcWithin pmWithin anWithin cdWithin ctWithin), slWithin⟩) (cWithin : PySem.W.codeIn K cdWithin "within" = true) (kWithin : PySem.W.keepIn K (.ref fWithin) = true)
    {fWordsOf : Addr} {odWordsOf anWordsOf : Option Addr} {slWordsOf : Array (Option Value)} {ocWordsOf kVWordsOf dcWordsOf pmWordsOf cdWordsOf ctWordsOf : Value}
    (aWordsOf : PySem.W.nsIn K mainGlobals "words_of" = some (some (.ref fWordsOf))) (lWordsOf : K.lookup fWordsOf = some ⟨ocWordsOf, odWordsOf, .func (PySem.W.fnOf "words_of" "words_of" (defArgs sWordsOf) (defBody sWordsOf) (defScope sWordsOf) .none kVWordsOf dcWordsOf pmWordsOf anWordsOf cdWordsOf ctWordsOf), slWordsOf⟩) (cWordsOf : PySem.W.codeIn K cdWordsOf "words_of" = true) (kWordsOf : PySem.W.keepIn K (.ref fWordsOf) = true)
    {fPartText : Addr} {odPartText anPartText : Option Addr} {slPartText : Array (Option Value)} {ocPartText kVPartText dcPartText pmPartText cdPartText ctPartText : Value}
    (aPartText : PySem.W.nsIn K mainGlobals "part_text" = some (some (.ref fPartText))) (lPartText : K.lookup fPartText = some ⟨ocPartText, odPartText, .func (PySem.W.fnOf "part_text" "part_text" (defArgs sPartText) (defBody sPartText) (defScope sPartText) .none kVPartText dcPartText pmPartText anPartText cdPartText ctPartText), slPartText⟩) (cPartText : PySem.W.codeIn K cdPartText "part_text" = true) (kPartText : PySem.W.keepIn K (.ref fPartText) = true)
    {fFunctionText : Addr} {odFunctionText anFunctionText : Option Addr} {slFunctionText : Array (Option Value)} {ocFunctionText kVFunctionText dcFunctionText pmFunctionText cdFunctionText ctFunctionText : Value}
    (aFunctionText : PySem.W.nsIn K mainGlobals "function_text" = some (some (.ref fFunctionText))) (lFunctionText : K.lookup fFunctionText = some ⟨ocFunctionText, odFunctionText, .func (PySem.W.fnOf "function_text" "function_text" (defArgs sFunctionText) (defBody sFunctionText) (defScope sFunctionText) .none kVFunctionText dcFunctionText pmFunctionText anFunctionText cdFunctionText ctFunctionText), slFunctionText⟩) (cFunctionText : PySem.W.codeIn K cdFunctionText "function_text" = true) (kFunctionText : PySem.W.keepIn K (.ref fFunctionText) = true)
    {fWritten : Addr} {odWritten anWritten : Option Addr} {slWritten : Array (Option Value)} {ocWritten kVWritten dcWritten pmWritten cdWritten ctWritten : Value}
    (aWritten : PySem.W.nsIn K mainGlobals "written" = some (some (.ref fWritten))) (lWritten : K.lookup fWritten = some ⟨ocWritten, odWritten, .func (PySem.W.fnOf "written" "written" (defArgs sWritten) (defBody sWritten) (defScope sWritten) .none kVWritten dcWritten pmWritten anWritten cdWritten ctWritten), slWritten⟩) (cWritten : PySem.W.codeIn K cdWritten "written" = true) (kWritten : PySem.W.keepIn K (.ref fWritten) = true)
    {fLPen : Addr} {odLPen anLPen : Option Addr} {slLPen : Array (Option Value)} {ocLPen kVLPen dcLPen pmLPen cdLPen ctLPen : Value}
    (aLPen : PySem.W.nsIn K mainGlobals "_law_pen" = some (some (.ref fLPen))) (lLPen : K.lookup fLPen = some ⟨ocLPen, odLPen, .func (PySem.W.fnOf "_law_pen" "_law_pen" (defArgs sLPen) (defBody sLPen) (defScope sLPen) .none kVLPen dcLPen pmLPen anLPen cdLPen ctLPen), slLPen⟩) (cLPen : PySem.W.codeIn K cdLPen "_law_pen" = true) (kLPen : PySem.W.keepIn K (.ref fLPen) = true)
    {fLDraw : Addr} {odLDraw anLDraw : Option Addr} {slLDraw : Array (Option Value)} {ocLDraw kVLDraw dcLDraw pmLDraw cdLDraw ctLDraw : Value}
    (aLDraw : PySem.W.nsIn K mainGlobals "_law_draw" = some (some (.ref fLDraw))) (lLDraw : K.lookup fLDraw = some ⟨ocLDraw, odLDraw, .func (PySem.W.fnOf "_law_draw" "_law_draw" (defArgs sLDraw) (defBody sLDraw) (defScope sLDraw) .none kVLDraw dcLDraw pmLDraw anLDraw cdLDraw ctLDraw), slLDraw⟩) (cLDraw : PySem.W.codeIn K cdLDraw "_law_draw" = true) (kLDraw : PySem.W.keepIn K (.ref fLDraw) = true)
    {fLNames : Addr} {odLNames anLNames : Option Addr} {slLNames : Array (Option Value)} {ocLNames kVLNames dcLNames pmLNames cdLNames ctLNames : Value}
    (aLNames : PySem.W.nsIn K mainGlobals "_law_names" = some (some (.ref fLNames))) (lLNames : K.lookup fLNames = some ⟨ocLNames, odLNames, .func (PySem.W.fnOf "_law_names" "_law_names" (defArgs sLNames) (defBody sLNames) (defScope sLNames) .none kVLNames dcLNames pmLNames anLNames cdLNames ctLNames), slLNames⟩) (cLNames : PySem.W.codeIn K cdLNames "_law_names" = true) (kLNames : PySem.W.keepIn K (.ref fLNames) = true)
    {fLNumber : Addr} {odLNumber anLNumber : Option Addr} {slLNumber : Array (Option Value)} {ocLNumber kVLNumber dcLNumber pmLNumber cdLNumber ctLNumber : Value}
    (aLNumber : PySem.W.nsIn K mainGlobals "_law_number" = some (some (.ref fLNumber))) (lLNumber : K.lookup fLNumber = some ⟨ocLNumber, odLNumber, .func (PySem.W.fnOf "_law_number" "_law_number" (defArgs sLNumber) (defBody sLNumber) (defScope sLNumber) .none kVLNumber dcLNumber pmLNumber anLNumber cdLNumber ctLNumber), slLNumber⟩) (cLNumber : PySem.W.codeIn K cdLNumber "_law_number" = true) (kLNumber : PySem.W.keepIn K (.ref fLNumber) = true)
    {fLLeaf : Addr} {odLLeaf anLLeaf : Option Addr} {slLLeaf : Array (Option Value)} {ocLLeaf kVLLeaf dcLLeaf pmLLeaf cdLLeaf ctLLeaf : Value}
    (aLLeaf : PySem.W.nsIn K mainGlobals "_law_leaf" = some (some (.ref fLLeaf))) (lLLeaf : K.lookup fLLeaf = some ⟨ocLLeaf, odLLeaf, .func (PySem.W.fnOf "_law_leaf" "_law_leaf" (defArgs sLLeaf) (defBody sLLeaf) (defScope sLLeaf) .none kVLLeaf dcLLeaf pmLLeaf anLLeaf cdLLeaf ctLLeaf), slLLeaf⟩) (cLLeaf : PySem.W.codeIn K cdLLeaf "_law_leaf" = true) (kLLeaf : PySem.W.keepIn K (.ref fLLeaf) = true)
    {fLFits : Addr} {odLFits anLFits : Option Addr} {slLFits : Array (Option Value)} {ocLFits kVLFits dcLFits pmLFits cdLFits ctLFits : Value}
    (aLFits : PySem.W.nsIn K mainGlobals "_law_fits" = some (some (.ref fLFits))) (lLFits : K.lookup fLFits = some ⟨ocLFits, odLFits, .func (PySem.W.fnOf "_law_fits" "_law_fits" (defArgs sLFits) (defBody sLFits) (defScope sLFits) .none kVLFits dcLFits pmLFits anLFits cdLFits ctLFits), slLFits⟩) (cLFits : PySem.W.codeIn K cdLFits "_law_fits" = true) (kLFits : PySem.W.keepIn K (.ref fLFits) = true)
    {fLCall : Addr} {odLCall anLCall : Option Addr} {slLCall : Array (Option Value)} {ocLCall kVLCall dcLCall pmLCall cdLCall ctLCall : Value}
    (aLCall : PySem.W.nsIn K mainGlobals "_law_call" = some (some (.ref fLCall))) (lLCall : K.lookup fLCall = some ⟨ocLCall, odLCall, .func (PySem.W.fnOf "_law_call" "_law_call" (defArgs sLCall) (defBody sLCall) (defScope sLCall) .none kVLCall dcLCall pmLCall anLCall cdLCall ctLCall), slLCall⟩) (cLCall : PySem.W.codeIn K cdLCall "_law_call" = true) (kLCall : PySem.W.keepIn K (.ref fLCall) = true)
    {fLLet : Addr} {odLLet anLLet : Option Addr} {slLLet : Array (Option Value)} {ocLLet kVLLet dcLLet pmLLet cdLLet ctLLet : Value}
    (aLLet : PySem.W.nsIn K mainGlobals "_law_let" = some (some (.ref fLLet))) (lLLet : K.lookup fLLet = some ⟨ocLLet, odLLet, .func (PySem.W.fnOf "_law_let" "_law_let" (defArgs sLLet) (defBody sLLet) (defScope sLLet) .none kVLLet dcLLet pmLLet anLLet cdLLet ctLLet), slLLet⟩) (cLLet : PySem.W.codeIn K cdLLet "_law_let" = true) (kLLet : PySem.W.keepIn K (.ref fLLet) = true)
    {fLPart : Addr} {odLPart anLPart : Option Addr} {slLPart : Array (Option Value)} {ocLPart kVLPart dcLPart pmLPart cdLPart ctLPart : Value}
    (aLPart : PySem.W.nsIn K mainGlobals "_law_part" = some (some (.ref fLPart))) (lLPart : K.lookup fLPart = some ⟨ocLPart, odLPart, .func (PySem.W.fnOf "_law_part" "_law_part" (defArgs sLPart) (defBody sLPart) (defScope sLPart) .none kVLPart dcLPart pmLPart anLPart cdLPart ctLPart), slLPart⟩) (cLPart : PySem.W.codeIn K cdLPart "_law_part" = true) (kLPart : PySem.W.keepIn K (.ref fLPart) = true)
    {fLLoop : Addr} {odLLoop anLLoop : Option Addr} {slLLoop : Array (Option Value)} {ocLLoop kVLLoop dcLLoop pmLLoop cdLLoop ctLLoop : Value}
    (aLLoop : PySem.W.nsIn K mainGlobals "_law_loop" = some (some (.ref fLLoop))) (lLLoop : K.lookup fLLoop = some ⟨ocLLoop, odLLoop, .func (PySem.W.fnOf "_law_loop" "_law_loop" (defArgs sLLoop) (defBody sLLoop) (defScope sLLoop) .none kVLLoop dcLLoop pmLLoop anLLoop cdLLoop ctLLoop), slLLoop⟩) (cLLoop : PySem.W.codeIn K cdLLoop "_law_loop" = true) (kLLoop : PySem.W.keepIn K (.ref fLLoop) = true)
    {fLBody : Addr} {odLBody anLBody : Option Addr} {slLBody : Array (Option Value)} {ocLBody kVLBody dcLBody pmLBody cdLBody ctLBody : Value}
    (aLBody : PySem.W.nsIn K mainGlobals "_law_body" = some (some (.ref fLBody))) (lLBody : K.lookup fLBody = some ⟨ocLBody, odLBody, .func (PySem.W.fnOf "_law_body" "_law_body" (defArgs sLBody) (defBody sLBody) (defScope sLBody) .none kVLBody dcLBody pmLBody anLBody cdLBody ctLBody), slLBody⟩) (cLBody : PySem.W.codeIn K cdLBody "_law_body" = true) (kLBody : PySem.W.keepIn K (.ref fLBody) = true)
    {fLProgram : Addr} {odLProgram anLProgram : Option Addr} {slLProgram : Array (Option Value)} {ocLProgram kVLProgram dcLProgram pmLProgram cdLProgram ctLProgram : Value}
    (aLProgram : PySem.W.nsIn K mainGlobals "_law_program" = some (some (.ref fLProgram))) (lLProgram : K.lookup fLProgram = some ⟨ocLProgram, odLProgram, .func (PySem.W.fnOf "_law_program" "_law_program" (defArgs sLProgram) (defBody sLProgram) (defScope sLProgram) .none kVLProgram dcLProgram pmLProgram anLProgram cdLProgram ctLProgram), slLProgram⟩) (cLProgram : PySem.W.codeIn K cdLProgram "_law_program" = true) (kLProgram : PySem.W.keepIn K (.ref fLProgram) = true)
    {fLWords : Addr} {odLWords anLWords : Option Addr} {slLWords : Array (Option Value)} {ocLWords kVLWords dcLWords pmLWords cdLWords ctLWords : Value}
    (aLWords : PySem.W.nsIn K mainGlobals "_law_words" = some (some (.ref fLWords))) (lLWords : K.lookup fLWords = some ⟨ocLWords, odLWords, .func (PySem.W.fnOf "_law_words" "_law_words" (defArgs sLWords) (defBody sLWords) (defScope sLWords) .none kVLWords dcLWords pmLWords anLWords cdLWords ctLWords), slLWords⟩) (cLWords : PySem.W.codeIn K cdLWords "_law_words" = true) (kLWords : PySem.W.keepIn K (.ref fLWords) = true)
    {fLRows : Addr} {odLRows anLRows : Option Addr} {slLRows : Array (Option Value)} {ocLRows kVLRows dcLRows pmLRows cdLRows ctLRows : Value}
    (aLRows : PySem.W.nsIn K mainGlobals "_law_rows" = some (some (.ref fLRows))) (lLRows : K.lookup fLRows = some ⟨ocLRows, odLRows, .func (PySem.W.fnOf "_law_rows" "_law_rows" (defArgs sLRows) (defBody sLRows) (defScope sLRows) .none kVLRows dcLRows pmLRows anLRows cdLRows ctLRows), slLRows⟩) (cLRows : PySem.W.codeIn K cdLRows "_law_rows" = true) (kLRows : PySem.W.keepIn K (.ref fLRows) = true)
    {fLText : Addr} {odLText anLText : Option Addr} {slLText : Array (Option Value)} {ocLText kVLText dcLText pmLText cdLText ctLText : Value}
    (aLText : PySem.W.nsIn K mainGlobals "_law_text" = some (some (.ref fLText))) (lLText : K.lookup fLText = some ⟨ocLText, odLText, .func (PySem.W.fnOf "_law_text" "_law_text" (defArgs sLText) (defBody sLText) (defScope sLText) .none kVLText dcLText pmLText anLText cdLText ctLText), slLText⟩) (cLText : PySem.W.codeIn K cdLText "_law_text" = true) (kLText : PySem.W.keepIn K (.ref fLText) = true)
    {fLaw : Addr} {odLaw anLaw : Option Addr} {slLaw : Array (Option Value)} {ocLaw kVLaw dcLaw pmLaw cdLaw ctLaw : Value}
    (aLaw : PySem.W.nsIn K mainGlobals "law" = some (some (.ref fLaw))) (lLaw : K.lookup fLaw = some ⟨ocLaw, odLaw, .func (PySem.W.fnOf "law" "law" (defArgs sLaw) (defBody sLaw) (defScope sLaw) .none kVLaw dcLaw pmLaw anLaw cdLaw ctLaw), slLaw⟩) (cLaw : PySem.W.codeIn K cdLaw "law" = true) (kLaw : PySem.W.keepIn K (.ref fLaw) = true)
    (zlen : PySem.W.nsIn K mainGlobals "len" = some none)
    (zmax : PySem.W.nsIn K mainGlobals "max" = some none)
    (zmin : PySem.W.nsIn K mainGlobals "min" = some none)
    (zabs : PySem.W.nsIn K mainGlobals "abs" = some none)
    (zrange : PySem.W.nsIn K mainGlobals "range" = some none)
    (zint : PySem.W.nsIn K mainGlobals "int" = some none)
    (zlist : PySem.W.nsIn K mainGlobals "list" = some none)
    (ztuple : PySem.W.nsIn K mainGlobals "tuple" = some none)
    (zsum : PySem.W.nsIn K mainGlobals "sum" = some none)
    (zisinstance : PySem.W.nsIn K mainGlobals "isinstance" = some none)
    (zstr : PySem.W.nsIn K mainGlobals "str" = some none)
    (zenumerate : PySem.W.nsIn K mainGlobals "enumerate" = some none)
    (aP : PySem.W.nsIn K mainGlobals "PARTS_OF" = some (some (.ref pd))) (lP : K.lookup pd = some ⟨.type "dict", none, .dict es n, #[]⟩) (tP : PySem.W.KeysLit w.params es.toList) (wP : (pd == sysModules) = false)
    (h1 : PySem.W.nsIn K pd "give" = some (some u1)) (h2 : PySem.W.nsIn K pd "plus" = some (some u2)) (h3 : PySem.W.nsIn K pd "less" = some (some u3)) (h4 : PySem.W.nsIn K pd "times" = some (some u4)) (h5 : PySem.W.nsIn K pd "below" = some (some u5))
    (h6 : PySem.W.nsIn K pd "when" = some (some u6)) (h7 : PySem.W.nsIn K pd "pair" = some (some u7)) (h8 : PySem.W.nsIn K pd "left" = some (some u8)) (h9 : PySem.W.nsIn K pd "right" = some (some u9)) (n1 : PySem.W.nsIn K pd "number" = some none) (n2 : PySem.W.nsIn K pd "name" = some none) (n3 : PySem.W.nsIn K pd "fun" = some none) :
    ∃ fd : FuncData, (∀ (s : Shared) (v : Value), BindsTo s fd ⟨[v], []⟩ [("_law_script", v)]) ∧ ∀ base : Heap, K.In base → base.Ns mainGlobals mg → FnOk l.prog w K mg base CX0 32 fa fd ["_law_script"] (spLaw K) := by
  have e := hfa.symm.trans (PySem.W.mg_of X G aLaw)
  cases e
  have FRowNames := fun_mk (st := sRowNames) lRowNames cRowNames kRowNames
  have bRowNames := FRowNames.binds (ps := ["part"]) fun _ _ _ _ _ _ us hl => match us, hl with | [_], _ => rfl
  have mRowNames := PySem.W.mg_of X G aRowNames
  have FWithin := fun_mk (st := sWithin) lWithin cWithin kWithin
  have bWithin := FWithin.binds (ps := ["part"]) fun _ _ _ _ _ _ us hl => match us, hl with | [_], _ => rfl
  have mWithin := PySem.W.mg_of X G aWithin
  have FWordsOf := fun_mk (st := sWordsOf) lWordsOf cWordsOf kWordsOf
  have bWordsOf := FWordsOf.binds (ps := ["part"]) fun _ _ _ _ _ _ us hl => match us, hl with | [_], _ => rfl
  have mWordsOf := PySem.W.mg_of X G aWordsOf
  have FPartText := fun_mk (st := sPartText) lPartText cPartText kPartText
  have bPartText := FPartText.binds (ps := ["part"]) fun _ _ _ _ _ _ us hl => match us, hl with | [_], _ => rfl
  have mPartText := PySem.W.mg_of X G aPartText
  have FFunctionText := fun_mk (st := sFunctionText) lFunctionText cFunctionText kFunctionText
  have bFunctionText := FFunctionText.binds (ps := ["function"]) fun _ _ _ _ _ _ us hl => match us, hl with | [_], _ => rfl
  have mFunctionText := PySem.W.mg_of X G aFunctionText
  have FWritten := fun_mk (st := sWritten) lWritten cWritten kWritten
  have bWritten := FWritten.binds (ps := ["program"]) fun _ _ _ _ _ _ us hl => match us, hl with | [_], _ => rfl
  have mWritten := PySem.W.mg_of X G aWritten
  have FLPen := fun_mk (st := sLPen) lLPen cLPen kLPen
  have bLPen := FLPen.binds (ps := ["_law_script"]) fun _ _ _ _ _ _ us hl => match us, hl with | [_], _ => rfl
  have mLPen := PySem.W.mg_of X G aLPen
  have FLDraw := fun_mk (st := sLDraw) lLDraw cLDraw kLDraw
  have bLDraw := FLDraw.binds (ps := ["_law_pen_here", "_law_many"]) fun _ _ _ _ _ _ us hl => match us, hl with | [_, _], _ => rfl
  have mLDraw := PySem.W.mg_of X G aLDraw
  have FLNames := fun_mk (st := sLNames) lLNames cLNames kLNames
  have bLNames := FLNames.binds (ps := ["_law_pen_here", "_law_many"]) fun _ _ _ _ _ _ us hl => match us, hl with | [_, _], _ => rfl
  have mLNames := PySem.W.mg_of X G aLNames
  have FLNumber := fun_mk (st := sLNumber) lLNumber cLNumber kLNumber
  have bLNumber := FLNumber.binds (ps := ["_law_pen_here"]) fun _ _ _ _ _ _ us hl => match us, hl with | [_], _ => rfl
  have mLNumber := PySem.W.mg_of X G aLNumber
  have FLLeaf := fun_mk (st := sLLeaf) lLLeaf cLLeaf kLLeaf
  have bLLeaf := FLLeaf.binds (ps := ["_law_pen_here", "_law_world", "_law_scope", "_law_want"]) fun _ _ _ _ _ _ us hl => match us, hl with | [_, _, _, _], _ => rfl
  have mLLeaf := PySem.W.mg_of X G aLLeaf
  have FLFits := fun_mk (st := sLFits) lLFits cLFits kLFits
  have bLFits := FLFits.binds (ps := ["_law_room", "_law_many"]) fun _ _ _ _ _ _ us hl => match us, hl with | [_, _], _ => rfl
  have mLFits := PySem.W.mg_of X G aLFits
  have FLCall := fun_mk (st := sLCall) lLCall cLCall kLCall
  have bLCall := FLCall.binds (ps := ["_law_pen_here", "_law_world", "_law_scope", "_law_room", "_law_want"]) fun _ _ _ _ _ _ us hl => match us, hl with | [_, _, _, _, _], _ => rfl
  have mLCall := PySem.W.mg_of X G aLCall
  have FLLet := fun_mk (st := sLLet) lLLet cLLet kLLet
  have bLLet := FLLet.binds (ps := ["_law_pen_here", "_law_world", "_law_scope", "_law_room", "_law_want"]) fun _ _ _ _ _ _ us hl => match us, hl with | [_, _, _, _, _], _ => rfl
  have mLLet := PySem.W.mg_of X G aLLet
  have FLPart := fun_mk (st := sLPart) lLPart cLPart kLPart
  have bLPart := FLPart.binds (ps := ["_law_pen_here", "_law_world", "_law_scope", "_law_room", "_law_want"]) fun _ _ _ _ _ _ us hl => match us, hl with | [_, _, _, _, _], _ => rfl
  have mLPart := PySem.W.mg_of X G aLPart
  have FLLoop := fun_mk (st := sLLoop) lLLoop cLLoop kLLoop
  have bLLoop := FLLoop.binds (ps := ["_law_pen_here", "_law_world", "_law_me", "_law_things", "_law_room"]) fun _ _ _ _ _ _ us hl => match us, hl with | [_, _, _, _, _], _ => rfl
  have mLLoop := PySem.W.mg_of X G aLLoop
  have FLBody := fun_mk (st := sLBody) lLBody cLBody kLBody
  have bLBody := FLBody.binds (ps := ["_law_pen_here", "_law_world", "_law_me", "_law_things", "_law_stock"]) fun _ _ _ _ _ _ us hl => match us, hl with | [_, _, _, _, _], _ => rfl
  have mLBody := PySem.W.mg_of X G aLBody
  have FLProgram := fun_mk (st := sLProgram) lLProgram cLProgram kLProgram
  have bLProgram := FLProgram.binds (ps := ["_law_pen_here"]) fun _ _ _ _ _ _ us hl => match us, hl with | [_], _ => rfl
  have mLProgram := PySem.W.mg_of X G aLProgram
  have FLWords := fun_mk (st := sLWords) lLWords cLWords kLWords
  have bLWords := FLWords.binds (ps := ["_law_part_here"]) fun _ _ _ _ _ _ us hl => match us, hl with | [_], _ => rfl
  have mLWords := PySem.W.mg_of X G aLWords
  have FLRows := fun_mk (st := sLRows) lLRows cLRows kLRows
  have bLRows := FLRows.binds (ps := ["_law_program_here"]) fun _ _ _ _ _ _ us hl => match us, hl with | [_], _ => rfl
  have mLRows := PySem.W.mg_of X G aLRows
  have FLText := fun_mk (st := sLText) lLText cLText kLText
  have bLText := FLText.binds (ps := ["_law_rows_here"]) fun _ _ _ _ _ _ us hl => match us, hl with | [_], _ => rfl
  have mLText := PySem.W.mg_of X G aLText
  have FLaw := fun_mk (st := sLaw) lLaw cLaw kLaw
  have bLaw := FLaw.binds (ps := ["_law_script"]) fun _ _ _ _ _ _ us hl => match us, hl with | [_], _ => rfl
  have mLaw := PySem.W.mg_of X G aLaw
  have B : Bt mg := ⟨PySem.W.mg_none_of X G zlen, PySem.W.mg_none_of X G zmax, PySem.W.mg_none_of X G zmin, PySem.W.mg_none_of X G zabs, PySem.W.mg_none_of X G zrange, PySem.W.mg_none_of X G zint, PySem.W.mg_none_of X G zlist, PySem.W.mg_none_of X G ztuple, PySem.W.mg_none_of X G zsum, PySem.W.mg_none_of X G zisinstance⟩
  refine ⟨PySem.W.fnOf "law" "law" (defArgs sLaw) (defBody sLaw) (defScope sLaw) .none kVLaw dcLaw pmLaw anLaw cdLaw ctLaw, fun s v => .of_eq rfl, fun base _ _ => ?_⟩
  have DK : KDict K w pd es n := ⟨lP, tP, wP⟩
  have O := po_mk h1 h2 h3 h4 h5 h6 h7 h8 h9 n1 n2 n3
  have CLDraw := cal_mk (P := l.prog) (w := w) (base := base) FLDraw (ok_draw FLDraw B) mLDraw bLDraw
  have CLNames := cal_mk (P := l.prog) (w := w) (base := base) FLNames (ok_names FLNames B CLDraw) mLNames bLNames
  have CLNumber := cal_mk (P := l.prog) (w := w) (base := base) FLNumber (ok_number FLNumber B CLDraw) mLNumber bLNumber
  have CLLeaf := cal_mk (P := l.prog) (w := w) (base := base) FLLeaf (ok_leaf FLLeaf B CLDraw CLNumber) mLLeaf bLLeaf
  have CLFits := cal_mk (P := l.prog) (w := w) (base := base) FLFits (ok_fits FLFits) mLFits bLFits
  have parts : ∀ k, C8.Cal l.prog w K mg base (2 * k + 4) "_law_part" (spPart K k) [] := fun k => by
    induction k with
    | zero => exact cal_mk FLPart no_part mLPart bLPart
    | succ k ih =>
      have c1 := cal_mk FLCall (ok_call (by omega) FLCall B CLDraw CLLeaf CLFits ih) mLCall bLCall
      have c2 := cal_mk FLLet (ok_let (by omega) FLLet B CLDraw CLLeaf CLFits ih) mLLet bLLet
      exact cal_mk FLPart (ok_part (by omega) FLPart B CLDraw CLLeaf CLFits ih c1 c2) mLPart bLPart
  have CLPart := parts 12
  have CLLoop := cal_mk FLLoop (ok_loop (by omega) (by omega) FLLoop B CLDraw CLPart) mLLoop bLLoop
  have CLBody := cal_mk FLBody (ok_body (by omega) FLBody B CLDraw CLPart CLLoop) mLBody bLBody
  have CLProgram := cal_mk FLProgram (ok_program (by omega) FLProgram B CLDraw CLNames CLBody) mLProgram bLProgram
  have CLPen := cal_mk (P := l.prog) (w := w) (base := base) FLPen (ok_pen FLPen B) mLPen bLPen
  have CWithin := cal_mk (P := l.prog) (w := w) (base := base) FWithin (ok_within FWithin B (PySem.W.mg_of X G aP) DK O) mWithin bWithin
  have CRowNames := cal_mk (P := l.prog) (w := w) (base := base) FRowNames (ok_rowNames FRowNames) mRowNames bRowNames
  have mstr := PySem.W.mg_none_of X G zstr
  have menum := PySem.W.mg_none_of X G zenumerate
  have words : ∀ k, C8.Cal l.prog w K mg base (k + 1) "words_of" (spWords K k) [] := fun k => by
    induction k with
    | zero => exact cal_mk FWordsOf no_words mWordsOf bWordsOf
    | succ k ih => exact cal_mk FWordsOf (ok_words (by omega) FWordsOf B mstr menum CRowNames CWithin ih) mWordsOf bWordsOf
  have lwords : ∀ k, C8.Cal l.prog w K mg base (k + 1) "_law_words" (spWords K k) [] := fun k => by
    induction k with
    | zero => exact cal_mk FLWords no_words mLWords bLWords
    | succ k ih => exact cal_mk FLWords (ok_lwords (by omega) FLWords B mstr ih) mLWords bLWords
  have CPartText := cal_mk FPartText (ok_partT (by omega) FPartText (words 12)) mPartText bPartText
  have CFunctionText := cal_mk FFunctionText (ok_fnT (by omega) FFunctionText (words 12)) mFunctionText bFunctionText
  have CWritten := cal_mk FWritten (ok_written FWritten CPartText CFunctionText) mWritten bWritten
  have CLRows := cal_mk FLRows (ok_lrows (by omega) FLRows (lwords 12)) mLRows bLRows
  have CLText := cal_mk (P := l.prog) (w := w) (K := K) (base := base) FLText (ok_ltext FLText) mLText bLText
  exact ok_law (by omega) FLaw B mstr CLPen CLDraw CLProgram CPartText CWritten (lwords 12) CLRows CLText
end Lz
open PySem PySem.W PyProof.Rows
set_option maxRecDepth 100000 in
set_option maxHeartbeats 0 in
theorem PySem.Challenge.cw_lazywebs_k70_programs_written_holds : PySem.Challenge.rw_lazywebs_k70_programs_written.Holds := by
  w_on; o_law; k_head; (case hw => w_witness2)
  k_fill
  refine L2.walk_of (l := PySem.Challenge.rw_lazywebs_k70_programs_written) (n := 63) (k := 32) (x := "_law_script") (CX := fun _ => L2.CX0) (sp := fun w => Lz.spLaw _) rfl (by decide) rfl ⟨rfl, by decide, by decide⟩ (fun w h Y => PySem.W.kIn_of Y) ?F (fun _ _ a ns hl _ hS => ⟨a, ns, rfl, hS, hl, fun _ => rfl⟩) (fun _ _ _ _ _ h => h)
  case F =>
    intro w mg fa h KX G hmg
    refine' Lz.all_mk KX G hmg ?aRowNames ?lRowNames ?cRowNames ?kRowNames ?aWithin ?lWithin ?cWithin ?kWithin ?aWordsOf ?lWordsOf ?cWordsOf ?kWordsOf ?aPartText ?lPartText ?cPartText ?kPartText ?aFunctionText ?lFunctionText ?cFunctionText ?kFunctionText ?aWritten ?lWritten ?cWritten ?kWritten ?aLPen ?lLPen ?cLPen ?kLPen ?aLDraw ?lLDraw ?cLDraw ?kLDraw ?aLNames ?lLNames ?cLNames ?kLNames ?aLNumber ?lLNumber ?cLNumber ?kLNumber ?aLLeaf ?lLLeaf ?cLLeaf ?kLLeaf ?aLFits ?lLFits ?cLFits ?kLFits ?aLCall ?lLCall ?cLCall ?kLCall ?aLLet ?lLLet ?cLLet ?kLLet ?aLPart ?lLPart ?cLPart ?kLPart ?aLLoop ?lLLoop ?cLLoop ?kLLoop ?aLBody ?lLBody ?cLBody ?kLBody ?aLProgram ?lLProgram ?cLProgram ?kLProgram ?aLWords ?lLWords ?cLWords ?kLWords ?aLRows ?lLRows ?cLRows ?kLRows ?aLText ?lLText ?cLText ?kLText ?aLaw ?lLaw ?cLaw ?kLaw ?zlen ?zmax ?zmin ?zabs ?zrange ?zint ?zlist ?ztuple ?zsum ?zisinstance ?zstr ?zenumerate ?aP ?lP ?tP ?wP ?h1 ?h2 ?h3 ?h4 ?h5 ?h6 ?h7 ?h8 ?h9 ?n1 ?n2 ?n3
    (case aRowNames => k_is); (case lRowNames => k_is); (case cRowNames => k_is); (case kRowNames => k_is)
    (case aWithin => k_is); (case lWithin => k_is); (case cWithin => k_is); (case kWithin => k_is)
    (case aWordsOf => k_is); (case lWordsOf => k_is); (case cWordsOf => k_is); (case kWordsOf => k_is)
    (case aPartText => k_is); (case lPartText => k_is); (case cPartText => k_is); (case kPartText => k_is)
    (case aFunctionText => k_is); (case lFunctionText => k_is); (case cFunctionText => k_is); (case kFunctionText => k_is)
    (case aWritten => k_is); (case lWritten => k_is); (case cWritten => k_is); (case kWritten => k_is)
    (case aLPen => k_is); (case lLPen => k_is); (case cLPen => k_is); (case kLPen => k_is)
    (case aLDraw => k_is); (case lLDraw => k_is); (case cLDraw => k_is); (case kLDraw => k_is)
    (case aLNames => k_is); (case lLNames => k_is); (case cLNames => k_is); (case kLNames => k_is)
    (case aLNumber => k_is); (case lLNumber => k_is); (case cLNumber => k_is); (case kLNumber => k_is)
    (case aLLeaf => k_is); (case lLLeaf => k_is); (case cLLeaf => k_is); (case kLLeaf => k_is)
    (case aLFits => k_is); (case lLFits => k_is); (case cLFits => k_is); (case kLFits => k_is)
    (case aLCall => k_is); (case lLCall => k_is); (case cLCall => k_is); (case kLCall => k_is)
    (case aLLet => k_is); (case lLLet => k_is); (case cLLet => k_is); (case kLLet => k_is)
    (case aLPart => k_is); (case lLPart => k_is); (case cLPart => k_is); (case kLPart => k_is)
    (case aLLoop => k_is); (case lLLoop => k_is); (case cLLoop => k_is); (case kLLoop => k_is)
    (case aLBody => k_is); (case lLBody => k_is); (case cLBody => k_is); (case kLBody => k_is)
    (case aLProgram => k_is); (case lLProgram => k_is); (case cLProgram => k_is); (case kLProgram => k_is)
    (case aLWords => k_is); (case lLWords => k_is); (case cLWords => k_is); (case kLWords => k_is)
    (case aLRows => k_is); (case lLRows => k_is); (case cLRows => k_is); (case kLRows => k_is)
    (case aLText => k_is); (case lLText => k_is); (case cLText => k_is); (case kLText => k_is)
    (case aLaw => k_is); (case lLaw => k_is); (case cLaw => k_is); (case kLaw => k_is)
    (case zlen => k_is)
    (case zmax => k_is)
    (case zmin => k_is)
    (case zabs => k_is)
    (case zrange => k_is)
    (case zint => k_is)
    (case zlist => k_is)
    (case ztuple => k_is)
    (case zsum => k_is)
    (case zisinstance => k_is)
    (case zstr => k_is)
    (case zenumerate => k_is)
    (case aP => k_is); (case lP => k_is)
    (case tP => exact ⟨⟨_, _, rfl, rfl⟩, ⟨_, _, rfl, rfl⟩, ⟨_, _, rfl, rfl⟩, ⟨_, _, rfl, rfl⟩, ⟨_, _, rfl, rfl⟩, ⟨_, _, rfl, rfl⟩, ⟨_, _, rfl, rfl⟩, ⟨_, _, rfl, rfl⟩, ⟨_, _, rfl, rfl⟩, True.intro⟩)
    (case wP => rfl)
    (case h1 => k_is); (case h2 => k_is); (case h3 => k_is); (case h4 => k_is); (case h5 => k_is); (case h6 => k_is); (case h7 => k_is); (case h8 => k_is); (case h9 => k_is)
    (case n1 => k_is); (case n2 => k_is); (case n3 => k_is)

