import PyProof.Rows.All
import Wide.All
import OpenK.AllK
import Wide.FinOn
import PyProof.EqLayable
import PyProof.P3Eq
import HandS.ForMost
import HandS.IsInst
import HandS.TupAny
import HandS.Wide
import HandS.Codes
import HandS.Text
import HandS.Style
import HandS.SortKw
import HandS.More
import HandS.Star
import HandS.Walk
import HandS.Iter
import KE.DatumOrd
import PyProof.Rows.RegStrFacts
import KE.IntTextLaws
import HandS.Zip
import PySem.Challenge.RW_lazywebs_k71_programs_read_back
set_option Elab.async false
set_option linter.all false
set_option maxRecDepth 100000
set_option maxHeartbeats 4000000
/-! Parts, and what a drawing makes of them: plain Lean. -/
namespace Lz
open PySem

/-! ### data without lists stays what it is -/
mutual
def fz : PyData → Bool
  | .none => true
  | .bool _ => true
  | .int _ => true
  | .str _ => true
  | .tuple xs => fzAll xs
  | .list _ => false
  | .dict _ => false
def fzAll : List PyData → Bool
  | [] => true
  | x :: xs => fz x && fzAll xs
end
theorem fzAll_iff : ∀ {ds : List PyData}, fzAll ds = true ↔ ∀ d, d ∈ ds → fz d = true
  | [] => ⟨fun _ _ h => (nomatch h), fun _ => rfl⟩
  | x :: xs => by
    show (fz x && fzAll xs) = true ↔ _
    rw [Bool.and_eq_true, fzAll_iff]
    refine ⟨fun h d m => ?_, fun h => ⟨h x List.mem_cons_self, fun d m => h d (List.mem_cons_of_mem _ m)⟩⟩
    rcases List.mem_cons.mp m with e | m
    · rw [e]; exact h.1
    · exact h.2 d m
theorem layAll_iff : ∀ {ds : List PyData}, PyData.canLayAll0 ds = true ↔ ∀ d, d ∈ ds → d.canLay0 = true
  | [] => ⟨fun _ _ h => (nomatch h), fun _ => by simp only [PyData.canLayAll0]⟩
  | x :: xs => by
    have e : PyData.canLayAll0 (x :: xs) = (x.canLay0 && PyData.canLayAll0 xs) := by rw [PyData.canLayAll0]
    rw [e, Bool.and_eq_true, layAll_iff]
    refine ⟨fun h d m => ?_, fun h => ⟨h x List.mem_cons_self, fun d m => h d (List.mem_cons_of_mem _ m)⟩⟩
    rcases List.mem_cons.mp m with e | m
    · rw [e]; exact h.1
    · exact h.2 d m
theorem depthAll_le : ∀ {ds : List PyData} {n : Nat}, (∀ d, d ∈ ds → d.depth ≤ n) → PyData.depthAll ds ≤ n
  | [], n, _ => by simp only [PyData.depthAll, Nat.zero_le]
  | x :: xs, n, h => by
    have h1 := h x List.mem_cons_self
    have h2 := depthAll_le (ds := xs) (n := n) fun d m => h d (List.mem_cons_of_mem _ m)
    simp only [PyData.depthAll]
    omega
theorem depth_mem : ∀ {ds : List PyData} {d : PyData}, d ∈ ds → d.depth ≤ PyData.depthAll ds
  | x :: xs, d, h => by
    have e : PyData.depthAll (x :: xs) = max x.depth (PyData.depthAll xs) := by simp only [PyData.depthAll]
    rw [e]
    rcases List.mem_cons.mp h with e | m
    · subst e
      omega
    · have := depth_mem m
      omega
inductive P where
  | num (i : Int)
  | nam (x : Str)
  | fn (x : Str)
  | op (k : Str) (as : List P)
  | lt (nm : List Str) (as : List P) (b : P)

def kinds : List (Str × Nat) := [("give", 2), ("plus", 2), ("less", 2), ("times", 2), ("below", 2), ("when", 3), ("pair", 2), ("left", 1), ("right", 1)]
def nmOk (x : Str) : Prop := 1 ≤ x.length ∧ x.length ≤ 8 ∧ ∀ c, c ∈ x.cps.toList → 97 ≤ c ∧ c ≤ 122
theorem nmOk.strOk {x : Str} (h : nmOk x) : PyData.strOk x = true := by
  unfold PyData.strOk
  rw [Array.all_eq_true_iff_forall_mem]
  intro c hc
  have := h.2.2 c (by simpa using hc)
  exact decide_eq_true (by omega)

def rowD (x : Str) (d : PyData) : PyData := .tuple [.str x, d]
mutual
def P.data : P → PyData
  | .num i => .tuple [.str "number", .int i]
  | .nam x => .tuple [.str "name", .str x]
  | .fn x => .tuple [.str "fun", .str x]
  | .op k as => .tuple (.str k :: P.datas as)
  | .lt nm as b => .tuple [.str "let", .tuple (List.zipWith rowD nm (P.datas as)), P.data b]
def P.datas : List P → List PyData
  | [] => []
  | a :: as => P.data a :: P.datas as
end
theorem datas_map : ∀ as : List P, P.datas as = as.map P.data
  | [] => rfl
  | a :: as => by
    show P.data a :: P.datas as = P.data a :: as.map P.data
    rw [datas_map as]
theorem datas_len (as : List P) : (P.datas as).length = as.length := by rw [datas_map, List.length_map]

mutual
def P.many : P → Nat
  | .op _ as => 1 + P.manys as
  | .lt _ as b => 1 + (P.manys as + P.many b)
  | _ => 1
def P.manys : List P → Nat
  | [] => 0
  | a :: as => P.many a + P.manys as
end
mutual
def P.deep : P → Nat
  | .op _ as => 1 + P.deeps as
  | .lt _ as b => 1 + max (P.deeps as) (P.deep b)
  | _ => 1
def P.deeps : List P → Nat
  | [] => 0
  | a :: as => max (P.deep a) (P.deeps as)
end
mutual
/-- it is a part: kinds, names -/
def P.ok : P → Prop
  | .num _ => True
  | .nam x => nmOk x
  | .fn x => nmOk x
  | .op k as => (k, as.length) ∈ kinds ∧ P.oks as
  | .lt nm as b => nm.length = as.length ∧ (∀ x, x ∈ nm → nmOk x) ∧ P.oks as ∧ P.ok b
def P.oks : List P → Prop
  | [] => True
  | a :: as => P.ok a ∧ P.oks as
end
def P.inn : P → List P
  | .op _ as => as
  | .lt _ as b => as ++ [b]
  | _ => []

theorem oks_iff : ∀ {as : List P}, P.oks as ↔ ∀ a, a ∈ as → a.ok
  | [] => ⟨fun _ _ h => (nomatch h), fun _ => True.intro⟩
  | x :: xs => by
    show (P.ok x ∧ P.oks xs) ↔ _
    rw [oks_iff]
    refine ⟨fun h d m => ?_, fun h => ⟨h x List.mem_cons_self, fun d m => h d (List.mem_cons_of_mem _ m)⟩⟩
    rcases List.mem_cons.mp m with e | m
    · rw [e]; exact h.1
    · exact h.2 d m
theorem manys_append : ∀ as bs : List P, P.manys (as ++ bs) = P.manys as + P.manys bs
  | [], bs => by
    show P.manys bs = 0 + P.manys bs
    omega
  | a :: as, bs => by
    show P.many a + P.manys (as ++ bs) = P.many a + P.manys as + P.manys bs
    rw [manys_append as bs]
    omega
theorem deeps_append : ∀ as bs : List P, P.deeps (as ++ bs) = max (P.deeps as) (P.deeps bs)
  | [], bs => by
    show P.deeps bs = max 0 (P.deeps bs)
    omega
  | a :: as, bs => by
    show max (P.deep a) (P.deeps (as ++ bs)) = max (max (P.deep a) (P.deeps as)) (P.deeps bs)
    rw [deeps_append as bs]
    omega
theorem deeps_mem : ∀ {as : List P} {a : P}, a ∈ as → a.deep ≤ P.deeps as
  | x :: xs, a, h => by
    show a.deep ≤ max x.deep (P.deeps xs)
    rcases List.mem_cons.mp h with e | m
    · subst e
      omega
    · have := deeps_mem m
      omega
theorem deeps_le : ∀ {as : List P} {n : Nat}, (∀ a, a ∈ as → a.deep ≤ n) → P.deeps as ≤ n
  | [], n, _ => Nat.zero_le _
  | x :: xs, n, h => by
    show max x.deep (P.deeps xs) ≤ n
    have h1 := h x List.mem_cons_self
    have h2 := deeps_le (as := xs) (n := n) fun d m => h d (List.mem_cons_of_mem _ m)
    omega
theorem manys_map : ∀ as : List P, P.manys as = (as.map P.many).sum
  | [] => rfl
  | a :: as => by
    show P.many a + P.manys as = _
    rw [manys_map as, List.map_cons, List.sum_cons]
theorem many_inn : ∀ t : P, t.many = 1 + P.manys t.inn
  | .num _ => rfl
  | .nam _ => rfl
  | .fn _ => rfl
  | .op _ _ => rfl
  | .lt nm as b => by
    show 1 + (P.manys as + P.many b) = 1 + P.manys (as ++ [b])
    rw [manys_append]
    rfl
theorem deep_inn : ∀ t : P, t.deep = 1 + P.deeps t.inn
  | .num _ => rfl
  | .nam _ => rfl
  | .fn _ => rfl
  | .op _ _ => rfl
  | .lt nm as b => by
    show 1 + max (P.deeps as) (P.deep b) = 1 + P.deeps (as ++ [b])
    rw [deeps_append]
    show 1 + max (P.deeps as) (P.deep b) = 1 + max (P.deeps as) (max (P.deep b) 0)
    omega
theorem inn_ok : ∀ {t : P}, t.ok → ∀ a, a ∈ t.inn → a.ok
  | .num _, _, _, m => nomatch m
  | .nam _, _, _, m => nomatch m
  | .fn _, _, _, m => nomatch m
  | .op _ as, h, a, m => oks_iff.mp h.2 a m
  | .lt nm as b, h, a, m => by
    rcases List.mem_append.mp (show a ∈ as ++ [b] from m) with m | m
    · exact oks_iff.mp h.2.2.1 a m
    · rw [List.mem_singleton.mp m]
      exact h.2.2.2
theorem many_pos (t : P) : 1 ≤ t.many := by
  rw [many_inn]
  omega
theorem deep_pos (t : P) : 1 ≤ t.deep := by
  rw [deep_inn]
  omega
theorem inn_deep {t a : P} (m : a ∈ t.inn) : a.deep + 1 ≤ t.deep := by
  have := deeps_mem m
  rw [deep_inn t]
  omega
theorem len_manys : ∀ as : List P, as.length ≤ P.manys as
  | [] => Nat.le_refl _
  | a :: as => by
    show as.length + 1 ≤ P.many a + P.manys as
    have h1 := len_manys as
    have h2 := many_pos a
    omega

/-! ### as data: no list, no strange sign, not too deep -/
theorem zip_mem : ∀ {nm : List Str} {ds : List PyData} {d : PyData}, d ∈ List.zipWith rowD nm ds → ∃ x e, x ∈ nm ∧ e ∈ ds ∧ d = rowD x e
  | [], _, _, h => by simp at h
  | _ :: _, [], _, h => by simp at h
  | x :: nm, e :: ds, d, h => by
    rw [List.zipWith_cons_cons] at h
    rcases List.mem_cons.mp h with q | m
    · exact ⟨x, e, List.mem_cons_self, List.mem_cons_self, q⟩
    · obtain ⟨y, f, h1, h2, h3⟩ := zip_mem m
      exact ⟨y, f, List.mem_cons_of_mem _ h1, List.mem_cons_of_mem _ h2, h3⟩
theorem kind_str {k : Str} {n : Nat} (h : (k, n) ∈ kinds) : PyData.strOk k = true := by
  have h0 : kinds.all (fun p => PyData.strOk p.1) = true := by decide +kernel
  exact List.all_eq_true.mp h0 _ h
mutual
theorem data_fz : ∀ t : P, fz t.data = true
  | .num _ => rfl
  | .nam _ => rfl
  | .fn _ => rfl
  | .op k as => datas_fz as
  | .lt nm as b => by
    show (fz (.tuple (List.zipWith rowD nm (P.datas as))) && (fz b.data && true)) = true
    rw [data_fz b, Bool.and_true, Bool.and_true]
    refine fzAll_iff.mpr fun d m => ?_
    obtain ⟨x, e, _, he, rfl⟩ := zip_mem m
    have := fzAll_iff.mp (datas_fz as) e he
    show (fz e && true) = true
    rw [this]
    rfl
theorem datas_fz : ∀ as : List P, fzAll (P.datas as) = true
  | [] => rfl
  | a :: as => by
    show (fz a.data && fzAll (P.datas as)) = true
    rw [data_fz a, datas_fz as]
    rfl
end
theorem lay_tup (xs : List PyData) : (PyData.tuple xs).canLay0 = PyData.canLayAll0 xs := by rw [PyData.canLay0]
theorem lay_str (x : Str) : (PyData.str x).canLay0 = PyData.strOk x := by rw [PyData.canLay0]
theorem lay_cons (x : PyData) (xs : List PyData) : PyData.canLayAll0 (x :: xs) = (x.canLay0 && PyData.canLayAll0 xs) := by rw [PyData.canLayAll0]
theorem lay_nil : PyData.canLayAll0 [] = true := by rw [PyData.canLayAll0]
mutual
theorem data_lay : ∀ t : P, t.ok → t.data.canLay0 = true
  | .num _, _ => by
    show (PyData.tuple [.str "number", .int _]).canLay0 = true
    rw [lay_tup, lay_cons, lay_cons, lay_nil, lay_str]
    simp only [PyData.canLay0]
    decide +kernel
  | .nam x, h => by
    show (PyData.tuple [.str "name", .str x]).canLay0 = true
    rw [lay_tup, lay_cons, lay_cons, lay_nil, lay_str, lay_str, nmOk.strOk (show nmOk x from h)]
    decide +kernel
  | .fn x, h => by
    show (PyData.tuple [.str "fun", .str x]).canLay0 = true
    rw [lay_tup, lay_cons, lay_cons, lay_nil, lay_str, lay_str, nmOk.strOk (show nmOk x from h)]
    decide +kernel
  | .op k as, h => by
    show (PyData.tuple (.str k :: P.datas as)).canLay0 = true
    have h' : (k, as.length) ∈ kinds ∧ P.oks as := h
    rw [lay_tup, lay_cons, lay_str, kind_str h'.1, datas_lay as h'.2]
    rfl
  | .lt nm as b, h => by
    show (PyData.tuple [.str "let", .tuple (List.zipWith rowD nm (P.datas as)), b.data]).canLay0 = true
    have h' : nm.length = as.length ∧ (∀ x, x ∈ nm → nmOk x) ∧ P.oks as ∧ P.ok b := h
    have hr : PyData.canLayAll0 (List.zipWith rowD nm (P.datas as)) = true := layAll_iff.mpr fun d m => by
      obtain ⟨x, e, hx, he, rfl⟩ := zip_mem m
      have q := layAll_iff.mp (datas_lay as h'.2.2.1) e he
      show (PyData.tuple [.str x, e]).canLay0 = true
      rw [lay_tup, lay_cons, lay_cons, lay_nil, lay_str, nmOk.strOk (h'.2.1 x hx), q]
      rfl
    rw [lay_tup, lay_cons, lay_cons, lay_cons, lay_nil, lay_str, lay_tup, hr, data_lay b h'.2.2.2]
    decide +kernel
theorem datas_lay : ∀ as : List P, P.oks as → PyData.canLayAll0 (P.datas as) = true
  | [], _ => lay_nil
  | a :: as, h => by
    have h' : P.ok a ∧ P.oks as := h
    show PyData.canLayAll0 (a.data :: P.datas as) = true
    rw [lay_cons, data_lay a h'.1, datas_lay as h'.2]
    rfl
end
theorem depth_tup (xs : List PyData) : (PyData.tuple xs).depth = PyData.depthAll xs + 1 := by simp only [PyData.depth]; try omega
theorem depth_str (x : Str) : (PyData.str x).depth = 0 := by simp only [PyData.depth]
theorem depthAll_cons (x : PyData) (xs : List PyData) : PyData.depthAll (x :: xs) = max x.depth (PyData.depthAll xs) := by simp only [PyData.depthAll]
mutual
theorem data_depth : ∀ t : P, t.data.depth ≤ 3 * t.deep
  | .num i => by
    show (PyData.tuple [.str "number", .int i]).depth ≤ 3 * 1
    simp only [PyData.depth, PyData.depthAll]
    try omega
  | .nam x => by
    show (PyData.tuple [.str "name", .str x]).depth ≤ 3 * 1
    simp only [PyData.depth, PyData.depthAll]
    try omega
  | .fn x => by
    show (PyData.tuple [.str "fun", .str x]).depth ≤ 3 * 1
    simp only [PyData.depth, PyData.depthAll]
    try omega
  | .op k as => by
    show (PyData.tuple (.str k :: P.datas as)).depth ≤ 3 * (1 + P.deeps as)
    have h1 := datas_depth as
    have h2 := depth_str k
    rw [depth_tup, depthAll_cons]
    omega
  | .lt nm as b => by
    show (PyData.tuple [.str "let", .tuple (List.zipWith rowD nm (P.datas as)), b.data]).depth ≤ 3 * (1 + max (P.deeps as) b.deep)
    have h1 := datas_depth as
    have h2 := data_depth b
    have h3 := depth_str "let"
    have h4 : PyData.depthAll (List.zipWith rowD nm (P.datas as)) ≤ 3 * P.deeps as + 1 := depthAll_le fun d m => by
      obtain ⟨x, e, hx, he, rfl⟩ := zip_mem m
      have q : e.depth ≤ PyData.depthAll (P.datas as) := depth_mem he
      show (PyData.tuple [.str x, e]).depth ≤ _
      have h5 := depth_str x
      rw [depth_tup, depthAll_cons, depthAll_cons]
      simp only [PyData.depthAll]
      omega
    rw [depth_tup, depthAll_cons, depthAll_cons, depthAll_cons, depth_tup]
    simp only [PyData.depthAll]
    omega
theorem datas_depth : ∀ as : List P, PyData.depthAll (P.datas as) ≤ 3 * P.deeps as
  | [] => by
    show PyData.depthAll [] ≤ _
    simp only [PyData.depthAll]
    try omega
  | a :: as => by
    have h1 := data_depth a
    have h2 := datas_depth as
    show PyData.depthAll (a.data :: P.datas as) ≤ 3 * max a.deep (P.deeps as)
    rw [depthAll_cons]
    omega
end
theorem data_shaped {t : P} (h : t.ok) (hd : t.deep ≤ 20) : SeqAt.shaped t.data = true := by
  have h1 := data_depth t
  unfold SeqAt.shaped
  rw [data_lay t h, Bool.true_and]
  exact decide_eq_true (by omega)
theorem datas_shaped {as : List P} (h : P.oks as) (hd : P.deeps as ≤ 20) : SeqAt.shaped (.list (P.datas as)) = true := by
  have h1 := datas_depth as
  have e : (PyData.list (P.datas as)).depth = PyData.depthAll (P.datas as) + 1 := by simp only [PyData.depth]; try omega
  have e2 : (PyData.list (P.datas as)).canLay0 = PyData.canLayAll0 (P.datas as) := by rw [PyData.canLay0]
  unfold SeqAt.shaped
  rw [e2, datas_lay as h, Bool.true_and]
  exact decide_eq_true (by omega)

/-! ### what a drawing makes -/
def gives (f : P) (as : List P) : P := as.foldl (fun a d => .op "give" [a, d]) f
theorem gives_snoc (f : P) (as : List P) (d : P) : gives f (as ++ [d]) = .op "give" [gives f as, d] := by
  unfold gives
  rw [List.foldl_append]
  rfl
/-- parts drawn one behind the other: of the functions W, the scope, the depth, with n parts and the names ss left ahead, n' and ss' behind -/
inductive Dr (W : List (Str × Int)) : List Str → Int → Int → List Str → Int → List Str → List P → Prop
  | nil {sc : List Str} {dp n : Int} {ss : List Str} : Dr W sc dp n ss n ss []
  | num {sc ss ss' : List Str} {dp n n' i : Int} {ds : List P} : i.natAbs < 10 ^ 60 → Dr W sc dp n ss n' ss' ds → Dr W sc dp n ss n' ss' (.num i :: ds)
  | nam {sc ss ss' : List Str} {dp n n' : Int} {x : Str} {ds : List P} : x ∈ sc → Dr W sc dp n ss n' ss' ds → Dr W sc dp n ss n' ss' (.nam x :: ds)
  | fn {sc ss ss' : List Str} {dp n n' w : Int} {f : Str} {ds : List P} : (f, w) ∈ W → Dr W sc dp n ss n' ss' ds → Dr W sc dp n ss n' ss' (.fn f :: ds)
  | call {sc ss ss1 ss' : List Str} {dp n n1 n' w : Int} {f : Str} {as ds : List P} : (f, w) ∈ W → 6 ≤ dp → as.length ≤ 5 → 2 * (as.length : Int) ≤ n →
      Dr W sc (dp - 1 - as.length) (n - 2 * as.length) ss n1 ss1 as → Dr W sc dp n1 ss1 n' ss' ds → Dr W sc dp n ss n' ss' (gives (.fn f) as :: ds)
  | lt {sc nm ss ss1 ss' : List Str} {dp n n1 n' : Int} {as ds : List P} {b : P} {k : Nat} : 1 ≤ dp → 1 ≤ nm.length → nm.length ≤ 4 → ss.drop k = nm.reverse → k + nm.length = ss.length → nm.length = as.length → (nm.length : Int) + 1 ≤ n →
      Dr W (sc ++ nm) (dp - 1) (n - (nm.length + 1)) (ss.take k) n1 ss1 (as ++ [b]) → Dr W sc dp n1 ss1 n' ss' ds → Dr W sc dp n ss n' ss' (.lt nm as b :: ds)
  | op {sc ss ss1 ss' : List Str} {dp n n1 n' : Int} {k : Str} {as ds : List P} : (k, as.length) ∈ kinds → 1 ≤ dp → (as.length : Int) ≤ n →
      Dr W sc (dp - 1) (n - as.length) ss n1 ss1 as → Dr W sc dp n1 ss1 n' ss' ds → Dr W sc dp n ss n' ss' (.op k as :: ds)

theorem Dr.append {W : List (Str × Int)} {sc ss ss1 ss' : List Str} {dp n n1 n' : Int} {as bs : List P} (h : Dr W sc dp n ss n1 ss1 as) : Dr W sc dp n1 ss1 n' ss' bs → Dr W sc dp n ss n' ss' (as ++ bs) := by
  induction h with
  | nil => exact id
  | num a _ ih => exact fun k => .num a (ih k)
  | nam a _ ih => exact fun k => .nam a (ih k)
  | fn a _ ih => exact fun k => .fn a (ih k)
  | call a b c d e _ _ ih => exact fun k => .call a b c d e (ih k)
  | lt a b c d e f g h _ _ ih => exact fun k => .lt a b c d e f g h (ih k)
  | op a b c d _ _ ih => exact fun k => .op a b c d (ih k)
/-- the names left are those ahead, some at the end gone -/
theorem Dr.names {W : List (Str × Int)} {sc ss ss' : List Str} {dp n n' : Int} {ds : List P} (h : Dr W sc dp n ss n' ss' ds) : ∃ m, ss' = ss.take m := by
  induction h with
  | nil => exact ⟨_, List.take_length.symm⟩
  | num _ _ ih => exact ih
  | nam _ _ ih => exact ih
  | fn _ _ ih => exact ih
  | call _ _ _ _ _ _ i1 i2 =>
    obtain ⟨m1, rfl⟩ := i1
    obtain ⟨m2, rfl⟩ := i2
    exact ⟨_, List.take_take⟩
  | lt _ _ _ _ _ _ _ _ _ i1 i2 =>
    obtain ⟨m1, rfl⟩ := i1
    obtain ⟨m2, rfl⟩ := i2
    exact ⟨_, by rw [List.take_take, List.take_take]⟩
  | op _ _ _ _ _ i1 i2 =>
    obtain ⟨m1, rfl⟩ := i1
    obtain ⟨m2, rfl⟩ := i2
    exact ⟨_, List.take_take⟩
theorem Dr.sub {W : List (Str × Int)} {sc ss ss' : List Str} {dp n n' : Int} {ds : List P} (h : Dr W sc dp n ss n' ss' ds) : ∀ x, x ∈ ss' → x ∈ ss := fun x m => by
  obtain ⟨k, rfl⟩ := h.names
  exact List.mem_of_mem_take m
theorem Dr.len {W : List (Str × Int)} {sc ss ss' : List Str} {dp n n' : Int} {ds : List P} (h : Dr W sc dp n ss n' ss' ds) : ss'.length ≤ ss.length := by
  obtain ⟨k, rfl⟩ := h.names
  rw [List.length_take]
  omega
theorem gives_ok : ∀ {as : List P} {f : P}, f.ok → (∀ a, a ∈ as → a.ok) → (gives f as).ok
  | [], _, h, _ => h
  | a :: as, f, h, k => by
    show (gives (.op "give" [f, a]) as).ok
    refine gives_ok ⟨?_, h, k a List.mem_cons_self, True.intro⟩ fun b m => k b (List.mem_cons_of_mem _ m)
    show (("give" : Str), 2) ∈ kinds
    exact List.mem_cons_self
theorem gives_many : ∀ {as : List P} {f : P}, (gives f as).many = f.many + P.manys as + as.length
  | [], f => by
    show f.many = f.many + 0 + 0
    omega
  | a :: as, f => by
    show (gives (.op "give" [f, a]) as).many = f.many + (a.many + P.manys as) + (as.length + 1)
    rw [gives_many]
    show 1 + (f.many + (a.many + 0)) + _ + _ = _
    omega
theorem gives_deep : ∀ {as : List P} {f : P}, (gives f as).deep ≤ max f.deep (P.deeps as) + as.length
  | [], f => by
    show f.deep ≤ max f.deep 0 + 0
    omega
  | a :: as, f => by
    have h := gives_deep (as := as) (f := .op "give" [f, a])
    have e : (P.op "give" [f, a]).deep = 1 + max f.deep (max a.deep 0) := rfl
    show (gives (.op "give" [f, a]) as).deep ≤ max f.deep (max a.deep (P.deeps as)) + (as.length + 1)
    omega
/-- names of functions, of the scope and those left are names -/
structure Nms (W : List (Str × Int)) (sc ss : List Str) : Prop where
  w : ∀ f, f ∈ W → nmOk f.1
  c : ∀ x, x ∈ sc → nmOk x
  s : ∀ x, x ∈ ss → nmOk x
theorem Dr.ok {W : List (Str × Int)} {sc ss ss' : List Str} {dp n n' : Int} {ds : List P} (h : Dr W sc dp n ss n' ss' ds) : Nms W sc ss → ∀ d, d ∈ ds → d.ok := by
  induction h with
  | nil => exact fun _ _ m => nomatch m
  | num _ _ ih =>
    intro N d m
    rcases List.mem_cons.mp m with e | m
    · rw [e]; exact True.intro
    · exact ih N d m
  | nam hx _ ih =>
    intro N d m
    rcases List.mem_cons.mp m with e | m
    · rw [e]; exact N.c _ hx
    · exact ih N d m
  | fn hf _ ih =>
    intro N d m
    rcases List.mem_cons.mp m with e | m
    · rw [e]; exact N.w _ hf
    · exact ih N d m
  | call hf _ _ _ k1 k2 i1 i2 =>
    intro N d m
    rcases List.mem_cons.mp m with e | m
    · rw [e]
      exact gives_ok (N.w _ hf) (i1 N)
    · exact i2 ⟨N.w, N.c, fun x hx => N.s x (k1.sub x hx)⟩ d m
  | @lt sc nm ss ss1 ss' dp n n1 n' as ds b k _ _ _ e1 e2 e3 _ k1 k2 i1 i2 =>
    intro N d m
    have hnm : ∀ x, x ∈ nm → x ∈ ss := fun x hx => by
      have : x ∈ ss.drop k := by rw [e1]; exact List.mem_reverse.mpr hx
      exact List.mem_of_mem_drop this
    rcases List.mem_cons.mp m with e | m
    · have q := i1 ⟨N.w, fun x hx => (List.mem_append.mp hx).elim (N.c x) fun hx => N.s x (hnm x hx), fun x hx => N.s x (List.mem_of_mem_take hx)⟩
      rw [e]
      exact ⟨e3, fun x hx => N.s x (hnm x hx), oks_iff.mpr fun a ha => q a (List.mem_append_left _ ha), q b (List.mem_append_right _ List.mem_cons_self)⟩
    · exact i2 ⟨N.w, N.c, fun x hx => N.s x (List.mem_of_mem_take (k1.sub x hx))⟩ d m
  | op hk _ _ k1 k2 i1 i2 =>
    intro N d m
    rcases List.mem_cons.mp m with e | m
    · rw [e]
      exact ⟨hk, oks_iff.mpr (i1 N)⟩
    · exact i2 ⟨N.w, N.c, fun x hx => N.s x (k1.sub x hx)⟩ d m
theorem Dr.many {W : List (Str × Int)} {sc ss ss' : List Str} {dp n n' : Int} {ds : List P} (h : Dr W sc dp n ss n' ss' ds) : (P.manys ds : Int) = ds.length + (n - n') := by
  induction h with
  | nil =>
    show ((0 : Nat) : Int) = ((0 : Nat) : Int) + _
    omega
  | @num sc ss ss' dp n n' i ds _ _ ih =>
    show ((1 + P.manys ds : Nat) : Int) = ((ds.length + 1 : Nat) : Int) + (n - n')
    omega
  | @nam sc ss ss' dp n n' i ds _ _ ih =>
    show ((1 + P.manys ds : Nat) : Int) = ((ds.length + 1 : Nat) : Int) + (n - n')
    omega
  | @fn sc ss ss' dp n n' i f ds _ _ ih =>
    show ((1 + P.manys ds : Nat) : Int) = ((ds.length + 1 : Nat) : Int) + (n - n')
    omega
  | @call sc ss ss1 ss' dp n n1 n' w f as ds _ _ _ _ _ _ i1 i2 =>
    have e : (gives (.fn f) as).many = 1 + P.manys as + as.length := gives_many
    show (((gives (.fn f) as).many + P.manys ds : Nat) : Int) = ((ds.length + 1 : Nat) : Int) + (n - n')
    rw [e]
    omega
  | @lt sc nm ss ss1 ss' dp n n1 n' as ds b k _ _ _ e1 e2 e3 _ k1 k2 i1 i2 =>
    rw [manys_append] at i1
    have e : P.manys [b] = b.many + 0 := rfl
    rw [List.length_append] at i1
    show ((1 + (P.manys as + b.many) + P.manys ds : Nat) : Int) = ((ds.length + 1 : Nat) : Int) + (n - n')
    have e5 : [b].length = 1 := rfl
    omega
  | @op sc ss ss1 ss' dp n n1 n' kd as ds _ _ _ _ _ i1 i2 =>
    show ((1 + P.manys as + P.manys ds : Nat) : Int) = ((ds.length + 1 : Nat) : Int) + (n - n')
    omega
theorem Dr.less {W : List (Str × Int)} {sc ss ss' : List Str} {dp n n' : Int} {ds : List P} (h : Dr W sc dp n ss n' ss' ds) : n' ≤ n := by
  have := h.many
  have := len_manys ds
  omega
theorem Dr.nonneg {W : List (Str × Int)} {sc ss ss' : List Str} {dp n n' : Int} {ds : List P} (h : Dr W sc dp n ss n' ss' ds) : 0 ≤ n → 0 ≤ n' := by
  induction h with
  | nil => exact id
  | num _ _ ih => exact ih
  | nam _ _ ih => exact ih
  | fn _ _ ih => exact ih
  | call _ _ _ _ _ _ i1 i2 => exact fun h => i2 (i1 (by omega))
  | lt _ _ _ _ _ _ _ _ _ i1 i2 => exact fun h => i2 (i1 (by omega))
  | op _ _ _ _ _ i1 i2 => exact fun h => i2 (i1 (by omega))
theorem Dr.deep {W : List (Str × Int)} {sc ss ss' : List Str} {dp n n' : Int} {ds : List P} (h : Dr W sc dp n ss n' ss' ds) : P.deeps ds ≤ dp.toNat + 1 := by
  induction h with
  | nil => exact Nat.zero_le _
  | num _ _ ih =>
    show max 1 (P.deeps _) ≤ _
    omega
  | nam _ _ ih =>
    show max 1 (P.deeps _) ≤ _
    omega
  | fn _ _ ih =>
    show max 1 (P.deeps _) ≤ _
    omega
  | @call sc ss ss1 ss' dp n n1 n' w f as ds _ _ _ _ _ _ i1 i2 =>
    have e : (gives (.fn f) as).deep ≤ max 1 (P.deeps as) + as.length := gives_deep
    show max (gives (.fn f) as).deep (P.deeps ds) ≤ _
    omega
  | @lt sc nm ss ss1 ss' dp n n1 n' as ds b k _ _ _ e1 e2 e3 _ k1 k2 i1 i2 =>
    rw [deeps_append] at i1
    have e : P.deeps [b] = max b.deep 0 := rfl
    show max (1 + max (P.deeps as) b.deep) (P.deeps ds) ≤ _
    omega
  | @op sc ss ss1 ss' dp n n1 n' kd as ds _ _ _ _ _ i1 i2 =>
    show max (1 + P.deeps as) (P.deeps ds) ≤ _
    omega
theorem kind_plain {k : Str} {n : Nat} (h : (k, n) ∈ kinds) : k ≠ "let" ∧ k ≠ "number" ∧ k ≠ "name" ∧ k ≠ "fun" := by
  have h0 : kinds.all (fun p => decide (p.1 ≠ "let") && decide (p.1 ≠ "number") && decide (p.1 ≠ "name") && decide (p.1 ≠ "fun")) = true := by decide +kernel
  have q := List.all_eq_true.mp h0 _ h
  simp only [Bool.and_eq_true, decide_eq_true_eq] at q
  exact ⟨q.1.1.1, q.1.1.2, q.1.2, q.2⟩
/-- the greatest of the depths -/
theorem deeps_is : ∀ {as : List P} {m : Int}, m ∈ as.map (fun t => (t.deep : Int)) → (∀ y, y ∈ as.map (fun t => (t.deep : Int)) → y ≤ m) → m = (P.deeps as : Int)
  | as, m, h, k => by
    obtain ⟨t, ht, rfl⟩ := List.mem_map.mp h
    have h1 := deeps_mem ht
    have h2 : P.deeps as ≤ t.deep := deeps_le fun a ha => by
      have := k (a.deep : Int) (List.mem_map.mpr ⟨a, ha, rfl⟩)
      omega
    omega
theorem manys_sum : ∀ as : List P, (as.map (fun t => (t.many : Int))).sum = (P.manys as : Int)
  | [] => rfl
  | a :: as => by
    rw [List.map_cons, List.sum_cons, manys_sum as]
    show (a.many : Int) + (P.manys as : Int) = ((a.many + P.manys as : Nat) : Int)
    omega
theorem arity_le {k : Str} {n : Nat} (h : (k, n) ∈ kinds) : 1 ≤ n ∧ n ≤ 3 := by
  have h0 : kinds.all (fun p => decide (1 ≤ p.2) && decide (p.2 ≤ 3)) = true := by decide +kernel
  have q := List.all_eq_true.mp h0 _ h
  simp only [Bool.and_eq_true, decide_eq_true_eq] at q
  exact q
theorem rows_fz {nm : List Str} {as : List P} : fzAll (List.zipWith rowD nm (P.datas as)) = true := fzAll_iff.mpr fun d m => by
  obtain ⟨x, e, _, he, rfl⟩ := zip_mem m
  have := fzAll_iff.mp (datas_fz as) e he
  show (true && (fz e && true)) = true
  rw [this]
  rfl
end Lz

set_option Elab.async false
set_option linter.all false
set_option maxRecDepth 100000
set_option maxHeartbeats 4000000
/-! What is kept while lists of a few addresses change; parts as data; what a drawing may make. -/
namespace Lz
open PySem PySem.Spec PyProof.Rows L2

/-! ### heaps: all is kept but the lists at the addresses of S -/
def Kp (S : List Addr) (H H' : Hp) : Prop := ∀ b o, H b = some o → (b ∈ S → ∀ xs, o ≠ HO.lst xs) → H' b = some o
section
variable {S T : List Addr} {H H1 H2 H' : Hp} {K : PySem.W.Frag} {a b p : Addr} {xs ys : List V} {o : HO}
theorem Kp.refl (S : List Addr) (H : Hp) : Kp S H H := fun _ _ h _ => h
theorem Kp.trans (h : Kp S H H1) (k : Kp S H1 H2) : Kp S H H2 := fun c o e n => k c o (h c o e n) n
theorem Kp.mono (h : Kp S H H') (m : ∀ x, x ∈ S → x ∈ T) : Kp T H H' := fun c o e n => h c o e fun i => n (m c i)
theorem Kp.same (h : Same H H') : Kp S H H' := fun b o e _ => h b o e
theorem Kp.new (h : H p = none) : Kp S H (upd H p o) := fun b x e _ => by
  rw [upd_ne (ne_of_none e h)]
  exact e
theorem Kp.put (h : H p = some (.lst xs)) (m : p ∈ S) : Kp S H (upd H p o) := fun b x e n => by
  by_cases q : b = p
  · subst q
    exact absurd (Option.some.inj (e.symm.trans h)) (n m xs)
  · rw [upd_ne q]
    exact e
theorem Kp.lst (k : Kp S H H') (h : H a = some (.lst xs)) (n : ¬ a ∈ S) : H' a = some (.lst xs) := k a _ h fun m => absurd m n
theorem Kp.tup (k : Kp S H H') (h : H a = some (.tup xs)) : H' a = some (.tup xs) := k a _ h fun _ _ => fun e => nomatch e
theorem Kp.sqT (k : Kp S H H') (h : SqT K H a xs) : SqT K H' a xs := by
  rcases h with (h | ⟨o, h⟩) | h
  · exact .inl (.inl (k.tup h))
  · exact .inl (.inr ⟨o, k a _ h fun _ _ e => nomatch e⟩)
  · exact .inr h
theorem Kp.sqL (k : Kp S H H') (h : SqL K H a xs) (n : ¬ a ∈ S) : SqL K H' a xs := by
  rcases h with (h | ⟨o, h⟩) | h
  · exact .inl (.inl (k.lst h n))
  · exact .inl (.inr ⟨o, k a _ h fun _ _ e => nomatch e⟩)
  · exact .inr h
theorem Kp.free (k : Kp S H H1) (h : H1 p = none) (n : ¬ p ∈ S) : H p = none := by
  cases e : H p with
  | none => rfl
  | some o =>
    have := k p o e fun m => absurd m n
    rw [h] at this
    cases this
/-- an object that H does not know may change -/
theorem Kp.mut (k : Kp S H H') (h : H p = none) : Kp S H (upd H' p o) := fun b x e n => by
  rw [upd_ne (ne_of_none e h)]
  exact k b x e n
theorem same_new (h : H p = none) : Same H (upd H p o) := fun b u q => by
  rw [upd_ne (ne_of_none q h)]
  exact q
end

end Lz
namespace L2
open PySem PySem.Spec PyProof.Rows Lz
section
variable {S : List Addr} {H H' : Hp} {K : PySem.W.Frag}
mutual
theorem Dp.keep (k : Kp S H H') : ∀ (d : PyData) (v : V), fz d = true → Dp K H v d → Dp K H' v d
  | .none, _, _, h => by cases h; exact .non
  | .bool b, _, _, h => by cases h; exact .bl b
  | .int i, _, _, h => by cases h; exact .int i
  | .str x, _, _, h => by cases h; exact .str x
  | .list ds, _, f, _ => by
    have : false = true := f
    cases this
  | .tuple ds, _, f, h => by
    cases h with
    | tup hs ha => exact .tup (k.sqT hs) (Dp.keepAll k ds _ f ha)
  | .dict _, _, _, h => by cases h
theorem Dp.keepAll (k : Kp S H H') : ∀ (ds : List PyData) (vs : List V), fzAll ds = true → DpAll K H vs ds → DpAll K H' vs ds
  | [], _, _, h => by cases h; exact .nil
  | d :: ds, _, f, h => by
    have f' : fz d = true ∧ fzAll ds = true := by
      have : (fz d && fzAll ds) = true := f
      rwa [Bool.and_eq_true] at this
    cases h with
    | cons h1 h2 => exact .cons (Dp.keep k d _ f'.1 h1) (Dp.keepAll k ds _ f'.2 h2)
end
theorem DpAll.length : ∀ {vs : List V} {ds : List PyData}, DpAll K H vs ds → vs.length = ds.length
  | _, _, .nil => rfl
  | _, _, .cons _ t => by rw [List.length_cons, List.length_cons, DpAll.length t]
theorem DpAll.get : ∀ {vs : List V} {ds : List PyData} {i : Nat} {d : PyData}, DpAll K H vs ds → ds[i]? = some d → ∃ v, vs[i]? = some v ∧ Dp K H v d
  | _, _, _, _, .nil, e => by simp at e
  | _, _, 0, _, .cons h _, e => by
    have e' := Option.some.inj e
    subst e'
    exact ⟨_, rfl, h⟩
  | _, _, i + 1, d, .cons _ t, e => by
    obtain ⟨v, h1, h2⟩ := DpAll.get (i := i) (d := d) t e
    exact ⟨v, h1, h2⟩
theorem DpAll.at : ∀ {vs : List V} {ds : List PyData} {i : Nat} {v : V}, DpAll K H vs ds → vs[i]? = some v → ∃ d, ds[i]? = some d ∧ Dp K H v d
  | _, _, _, _, .nil, e => by simp at e
  | _, _, 0, _, .cons h _, e => by
    have e' := Option.some.inj e
    subst e'
    exact ⟨_, rfl, h⟩
  | _, _, i + 1, d, .cons _ t, e => by
    obtain ⟨v, h1, h2⟩ := DpAll.at (i := i) (v := d) t e
    exact ⟨v, h1, h2⟩
theorem DpAll.append : ∀ {vs ws : List V} {ds es : List PyData}, DpAll K H vs ds → DpAll K H ws es → DpAll K H (vs ++ ws) (ds ++ es)
  | _, _, _, _, .nil, t => t
  | _, _, _, _, .cons h s, t => .cons h (DpAll.append s t)
theorem DpAll.one {v : V} {d : PyData} (h : Dp K H v d) : DpAll K H [v] [d] := .cons h .nil
theorem DpAll.take : ∀ {vs : List V} {ds : List PyData} (n : Nat), DpAll K H vs ds → DpAll K H (vs.take n) (ds.take n)
  | _, _, 0, _ => .nil
  | _, _, _ + 1, .nil => .nil
  | _, _, n + 1, .cons h t => .cons h (DpAll.take n t)
theorem DpAll.drop : ∀ {vs : List V} {ds : List PyData} (n : Nat), DpAll K H vs ds → DpAll K H (vs.drop n) (ds.drop n)
  | _, _, 0, h => h
  | _, _, _ + 1, .nil => .nil
  | _, _, n + 1, .cons _ t => DpAll.drop n t
theorem DpAll.strs : ∀ (xs : List Str), DpAll K H (xs.map V.str) (xs.map PyData.str)
  | [] => .nil
  | x :: xs => .cons (.str x) (DpAll.strs xs)
theorem Dp.tup_of {v : V} {ds : List PyData} (h : Dp K H v (.tuple ds)) : ∃ a xs, v = .ref a ∧ SqT K H a xs ∧ DpAll K H xs ds := by
  cases h with
  | tup hs ha => exact ⟨_, _, rfl, hs, ha⟩
theorem Dp.lst_of {v : V} {ds : List PyData} (h : Dp K H v (.list ds)) : ∃ a xs, v = .ref a ∧ SqL K H a xs ∧ DpAll K H xs ds := by
  cases h with
  | lst hs ha => exact ⟨_, _, rfl, hs, ha⟩
theorem Dp.str_of {v : V} {x : Str} (h : Dp K H v (.str x)) : v = .str x := by cases h; rfl
theorem Dp.int_of {v : V} {i : Int} (h : Dp K H v (.int i)) : v = .int i := by cases h; rfl
/-- a new tuple of data -/
theorem Dp.newT {p : Addr} {xs : List V} {ds : List PyData} (hp : H p = none) (h : DpAll K H xs ds) (f : fzAll ds = true) : Dp K (upd H p (.tup xs)) (.ref p) (.tuple ds) :=
  .tup (.inl (.inl upd_same)) (Dp.keepAll (S := []) (Kp.new hp) ds xs f h)
end
end L2

set_option Elab.async false
set_option linter.all false
set_option maxRecDepth 100000
set_option maxHeartbeats 4000000
/-! Texts: letters, names; small facts of lists as data. -/
namespace Lz
open PySem PySem.Spec PyProof.Rows L2
abbrev letters : Str := "abcdefghijklmnopqrstuvwxyz"
theorem letters_at {r : Int} (h0 : 0 ≤ r) (h1 : r < 26) : atI letters.cps.toList r = some (97 + r.toNat) := by
  have h : ∀ j, j < 26 → letters.cps.toList[j]? = some (97 + j) := by decide +kernel
  have q := atI_nat (xs := letters.cps.toList) (h r.toNat (by omega))
  rwa [Int.toNat_of_nonneg h0] at q
theorem letters_len : letters.length ≤ sizeLine := by decide +kernel
theorem glue_list (sep : Str) (hs : sep.cps = #[]) : ∀ (rest : List Str) (acc : Array Nat), (rest.foldl (fun acc p => acc ++ sep.cps ++ p.cps) acc).toList = acc.toList ++ (rest.map (·.cps.toList)).flatten
  | [], acc => by simp
  | x :: r, acc => by
    rw [List.foldl_cons, glue_list sep hs r, hs]
    simp
theorem join_list (ys : List Str) : (Txt.join ("" : Str) ys).cps.toList = (ys.map (·.cps.toList)).flatten := by
  have hs : ("" : Str).cps = #[] := by decide +kernel
  show ((ys.drop 1).foldl (fun acc p => acc ++ ("" : Str).cps ++ p.cps) (ys.headD Str.empty).cps).toList = _
  rw [glue_list _ hs]
  cases ys with
  | nil => rfl
  | cons x r => simp
def one (c : Nat) : Str := ⟨#[c]⟩
theorem join_ones (cs : List Nat) : (Txt.join ("" : Str) (cs.map one)).cps.toList = cs := by
  rw [join_list, List.map_map]
  induction cs with
  | nil => rfl
  | cons c r ih =>
    rw [List.map_cons, List.flatten_cons, ih]
    rfl
theorem sum_ones : ∀ cs : List Nat, ((cs.map one).map (·.length)).sum = cs.length
  | [] => rfl
  | c :: r => by
    rw [List.map_cons, List.map_cons, List.sum_cons, sum_ones r, List.length_cons]
    show 1 + _ = _
    omega
theorem str_len (z : Str) : z.length = z.cps.toList.length := by
  show z.cps.size = _
  simp
theorem str_ext {a b : Str} (h : a.cps.toList = b.cps.toList) : a = b := by
  cases a
  cases b
  simp only [Str.mk.injEq]
  exact Array.toList_inj.mp h
theorem cat_list (a b : Str) : (a ++ b).cps.toList = a.cps.toList ++ b.cps.toList := by
  show (a.cps ++ b.cps).toList = _
  simp
theorem cut_to (z : Str) (k : Nat) : (cutS z none (some (k : Int))).cps.toList = z.cps.toList.take k := by
  unfold cutS
  rw [HT.sIx_none, HT.sIx_nat, str_len]
  simp
theorem cut_from (z : Str) (k : Nat) : (cutS z (some (k : Int)) none).cps.toList = z.cps.toList.drop k := by
  unfold cutS
  rw [HT.sIx_none, HT.sIx_nat, str_len]
  by_cases h : k ≤ z.cps.toList.length
  · rw [Nat.min_eq_left h]
    exact List.take_of_length_le (by rw [List.length_drop]; exact Nat.le_refl _)
  · rw [List.drop_eq_nil_of_le (by omega : z.cps.toList.length ≤ k), List.drop_eq_nil_of_le (by omega)]
    simp
def nameOf (wd : List Nat) (k : Nat) (c : Nat) : Str := ⟨(wd.take k ++ [c] ++ wd.drop (k + 1)).toArray⟩
theorem nameOf_eq {z : Str} {wd : List Nat} {k : Nat} {c : Nat} (hz : z.cps.toList = wd) : (cutS z none (some (k : Int)) ++ (⟨#[c]⟩ : Str)) ++ cutS z (some ((k : Int) + 1)) none = nameOf wd k c := by
  apply str_ext
  have e : ((k : Int) + 1) = ((k + 1 : Nat) : Int) := by omega
  rw [cat_list, cat_list, cut_to, e, cut_from, hz]
  unfold nameOf
  simp
theorem nameOf_ok {wd : List Nat} {k c : Nat} (h1 : 1 ≤ wd.length) (h8 : wd.length ≤ 8) (hk : k < wd.length) (hw : ∀ c, c ∈ wd → 97 ≤ c ∧ c ≤ 122) (hc : 97 ≤ c ∧ c ≤ 122) : nmOk (nameOf wd k c) := by
  have e : (nameOf wd k c).cps.toList = wd.take k ++ [c] ++ wd.drop (k + 1) := by unfold nameOf; simp
  have el : (nameOf wd k c).length = wd.length := by
    rw [str_len, e, List.length_append, List.length_append, List.length_take, List.length_drop, List.length_singleton]
    omega
  refine ⟨by omega, by omega, fun d hd => ?_⟩
  rw [e] at hd
  rcases List.mem_append.mp hd with hd | hd
  · rcases List.mem_append.mp hd with hd | hd
    · exact hw d (List.mem_of_mem_take hd)
    · rw [List.mem_singleton.mp hd]
      exact hc
  · exact hw d (List.mem_of_mem_drop hd)
theorem nameOf_inj {wd : List Nat} {k c d : Nat} (h : nameOf wd k c = nameOf wd k d) : c = d := by
  unfold nameOf at h
  have h' := congrArg (fun z : Str => z.cps.toList) h
  simp at h'
  exact h'
theorem nodup_map_of {α β : Type} {f : α → β} : ∀ {l : List α}, l.Nodup → (∀ a, a ∈ l → ∀ b, b ∈ l → f a = f b → a = b) → (l.map f).Nodup
  | [], _, _ => List.nodup_nil
  | x :: r, h, k => by
    rw [List.nodup_cons] at h
    rw [List.map_cons, List.nodup_cons]
    refine ⟨fun m => ?_, nodup_map_of h.2 fun a ha b hb => k a (List.mem_cons_of_mem _ ha) b (List.mem_cons_of_mem _ hb)⟩
    obtain ⟨y, hy, e⟩ := List.mem_map.mp m
    have := k y (List.mem_cons_of_mem _ hy) x List.mem_cons_self e
    exact h.1 (this ▸ hy)
/-- the names drawn from a word -/
def namesOf (wd : List Nat) (k fi b m : Nat) : List Str := (List.range m).map fun j => nameOf wd k (97 + (fi + b * j) % 26)
theorem namesOf_len (wd : List Nat) (k fi b m : Nat) : (namesOf wd k fi b m).length = m := by
  unfold namesOf
  rw [List.length_map, List.length_range]
theorem namesOf_ok {wd : List Nat} {k fi b m : Nat} (h1 : 1 ≤ wd.length) (h8 : wd.length ≤ 8) (hk : k < wd.length) (hw : ∀ c, c ∈ wd → 97 ≤ c ∧ c ≤ 122) : ∀ x, x ∈ namesOf wd k fi b m → nmOk x := fun x hx => by
  obtain ⟨j, _, rfl⟩ := List.mem_map.mp hx
  exact nameOf_ok h1 h8 hk hw ⟨by omega, by omega⟩
theorem namesOf_nodup {wd : List Nat} {k fi b m : Nat} (hm : m ≤ 26) (hb : b = 1 ∨ b = 3 ∨ b = 5 ∨ b = 7 ∨ b = 9 ∨ b = 11) : (namesOf wd k fi b m).Nodup := by
  refine nodup_map_of List.nodup_range fun i hi j hj e => ?_
  have e' := nameOf_inj e
  have hi' := List.mem_range.mp hi
  have hj' := List.mem_range.mp hj
  rcases hb with rfl | rfl | rfl | rfl | rfl | rfl <;> omega
/-! ### lists as data -/
theorem eqv_nil (xs : List PyData) : PyData.eqv (.list xs) (.list []) = xs.isEmpty := by
  rw [PyData.eqv]
  cases xs with
  | nil => rfl
  | cons x r => rfl
theorem nil_shaped : SeqAt.shaped (.list []) = true := by decide +kernel
theorem strs_shaped {xs : List Str} (h : ∀ x, x ∈ xs → nmOk x) : SeqAt.shaped (.list (xs.map .str)) = true := by
  have e : (PyData.list (xs.map .str)).depth = PyData.depthAll (xs.map .str) + 1 := by simp only [PyData.depth]
  have e2 : (PyData.list (xs.map .str)).canLay0 = PyData.canLayAll0 (xs.map .str) := by rw [PyData.canLay0]
  have h1 : PyData.depthAll (xs.map .str) ≤ 0 := depthAll_le fun d m => by
    obtain ⟨x, _, rfl⟩ := List.mem_map.mp m
    rw [depth_str]
    exact Nat.le_refl _
  have h2 : PyData.canLayAll0 (xs.map .str) = true := layAll_iff.mpr fun d m => by
    obtain ⟨x, hx, rfl⟩ := List.mem_map.mp m
    rw [lay_str]
    exact (h x hx).strOk
  unfold SeqAt.shaped
  rw [e2, h2, Bool.true_and]
  exact decide_eq_true (by omega)
def wD (f : Str × Int) : PyData := .tuple [.str f.1, .int f.2]
theorem wds_shaped {W : List (Str × Int)} (h : ∀ f, f ∈ W → nmOk f.1) : SeqAt.shaped (.list (W.map wD)) = true := by
  have e : (PyData.list (W.map wD)).depth = PyData.depthAll (W.map wD) + 1 := by simp only [PyData.depth]
  have e2 : (PyData.list (W.map wD)).canLay0 = PyData.canLayAll0 (W.map wD) := by rw [PyData.canLay0]
  have h1 : PyData.depthAll (W.map wD) ≤ 1 := depthAll_le fun d m => by
    obtain ⟨x, _, rfl⟩ := List.mem_map.mp m
    show (PyData.tuple [.str x.1, .int x.2]).depth ≤ 1
    simp only [PyData.depth, PyData.depthAll]
    omega
  have h2 : PyData.canLayAll0 (W.map wD) = true := layAll_iff.mpr fun d m => by
    obtain ⟨x, hx, rfl⟩ := List.mem_map.mp m
    show (PyData.tuple [.str x.1, .int x.2]).canLay0 = true
    rw [lay_tup, lay_cons, lay_cons, lay_nil, lay_str, (h x hx).strOk]
    simp only [PyData.canLay0]
    rfl
  unfold SeqAt.shaped
  rw [e2, h2, Bool.true_and]
  exact decide_eq_true (by omega)
theorem wds_fz : ∀ W : List (Str × Int), fzAll (W.map wD) = true
  | [] => rfl
  | _ :: r => by
    show (true && fzAll (r.map wD)) = true
    rw [wds_fz r]
    rfl
theorem strs_fz : ∀ xs : List Str, fzAll (xs.map .str) = true
  | [] => rfl
  | _ :: r => by
    show (true && fzAll (r.map .str)) = true
    rw [strs_fz r]
    rfl
end Lz

set_option Elab.async false
set_option linter.all false
set_option maxRecDepth 100000
set_option maxHeartbeats 4000000
/-! The rules by a written part that is named: so they serve within a comprehension too. -/
namespace Lz
open PySem PySem.Spec PyProof.Rows L2
section
variable {X : Cx} {K : PySem.W.Frag}
theorem ix_listK (h : X.K = K) : IxR X (rIxL K) := by subst h; exact ix_list
theorem ix_tupK (h : X.K = K) : IxR X (rIxT K) := by subst h; exact ix_tup
theorem sl_listK (h : X.K = K) : SlR X (rSlL K) := by subst h; exact sl_list
theorem sl_tupAK (h : X.K = K) : SlR X (rSlA K) := by subst h; exact sl_tupA
theorem op_eqDK (h : X.K = K) (hu : X.A.units + 64 < cLine) : OpR X (compareOp .Eq) (rEqD K) := by subst h; exact op_eqD hu
theorem op_neDK (h : X.K = K) (hu : X.A.units + 64 < cLine) : OpR X (compareOp .NotEq) (rNeD K) := by subst h; exact op_neD hu
theorem op_catAK (h : X.K = K) : OpR X (binaryOp .Add) (rCatA K) := by subst h; exact op_catA
theorem op_inK (h : X.K = K) : OpR X (compareOp .In) (rIn K false) := by subst h; exact op_in_seq
theorem op_notInK (h : X.K = K) : OpR X (compareOp .NotIn) (rIn K true) := by subst h; exact op_notIn_seq
def rLenS (K : PySem.W.Frag) : List V → Hp → VK → Prop := fun xs H Q => ∃ p ys, xs = [.ref p] ∧ (SqL K H p ys ∨ SqT K H p ys) ∧ Q (.int ys.length) H
theorem call_lenK (h : X.K = K) : CallR X (.builtin "len") (rLenS K) := by subst h; exact call_len_seq
def rListOf (K : PySem.W.Frag) : List V → Hp → VK → Prop := fun xs H Q => ∃ p ys, xs = [.ref p] ∧ (SqL K H p ys ∨ SqT K H p ys) ∧ ∀ l, H l = none → Q (.ref l) (upd H l (.lst ys))
theorem call_listK (h : X.K = K) : CallR X (.type "list") (rListOf K) := by subst h; exact call_list_of
def rTupOf (K : PySem.W.Frag) : List V → Hp → VK → Prop := fun xs H Q => ∃ p ys, xs = [.ref p] ∧ ((SqL K H p ys ∧ ∀ l, H l = none → Q (.ref l) (upd H l (.tup ys))) ∨ (SqT K H p ys ∧ Q (.ref p) H))
theorem call_tupleK (h : X.K = K) : CallR X (.type "tuple") (rTupOf K) := by subst h; exact call_tuple_of
theorem call_isK (h : X.K = K) : CallR X (.builtin "isinstance") (rIsi K) := by subst h; exact call_isi
theorem call_sumK (h : X.K = K) (hc : X.calm = true) : CallR X (.builtin "sum") (rSum K) := by subst h; exact cr_sum hc
theorem call_maxK (h : X.K = K) (hc : X.calm = true) : CallR X (.builtin "max") (rMax K) := by subst h; exact cr_max hc
theorem call_allK (h : X.K = K) (hc : X.calm = true) : CallR X (.builtin "all") (rAll K) := by subst h; exact cr_all hc
def tTruK (K : PySem.W.Frag) (ta : TE) : TT := fun σ H Q => ta σ H fun x H' => ∃ k, TruV K x H' k ∧ Q k H'
theorem pt_truthK {a : Expr} {ta : TE} (h : X.K = K) (ha : PE X a ta) (he : ∀ whole, isTrue a X.env whole = (do let v ← whole; standAt a.pos; holding [v] (truthy v))) : PT X a (tTruK K ta) := by subst h; exact pt_truth ha he
theorem pe_bm0K {T id : String} {name : Str} {r : V → List V → Hp → VK → Prop} {o : Expr} {to : TE} {apos cpos : Pos} (h : X.K = K) (pa : PlainAttrs T) (slot : Slot T name id) (hty : typeOf (.builtin id) = pure (.type "method_descriptor")) (hm : MtR X id r) (ho : PE X o to)
    (hbase : attributeBase o name X.env (eval o X.env) = eval o X.env := by rfl) (hline : (apos.endLine == cpos.line) = true := by rfl) : PE X (.Call (.Attribute o name apos) [] [] cpos) (tBM0 K T r to) := by
  subst h
  exact pe_bm0 pa slot hty hm ho hbase hline
theorem pe_bmK {T id : String} {name : Str} {r : V → List V → Hp → VK → Prop} {o e : Expr} {es : List Expr} {to : TE} {t : TA} {apos cpos : Pos} (h : X.K = K) (pa : PlainAttrs T) (slot : Slot T name id) (hty : typeOf (.builtin id) = pure (.type "method_descriptor")) (hm : MtR X id r) (ho : PE X o to) (ha : PA X (e :: es) t)
    (hbase : attributeBase o name X.env (eval o X.env) = eval o X.env := by rfl)
    (hfew : ((backTo cpos (starEach (e :: es) X.env)).all (fun x => !x.1) && (backToKw cpos (keywordEach [] X.env)).all (fun x => x.1.isSome)
      && decide ((e :: es).length + ([] : List Keyword).length + (if ([] : List Keyword).isEmpty then 0 else 1) < 30)) = true := by rfl)
    (hline : (apos.endLine == cpos.line) = true := by rfl) (hs : starEach (e :: es) X.env = (false, eval e X.env) :: starEach es X.env := by rfl) (hplain : (backTo cpos (starEach es X.env)).any (·.1) = false := by rfl) :
    PE X (.Call (.Attribute o name apos) (e :: es) [] cpos) (tBM K T r to t) := by
  subst h
  exact pe_bm pa slot hty hm ho ha hbase hfew hline hs hplain
theorem pi_listK {tg l : Expr} {tl : TE} (h : X.K = K) (hl : PE X l tl) : PI X tg l (iList K tl) := by subst h; exact pi_list hl
theorem pi_tupK {tg l : Expr} {tl : TE} (h : X.K = K) (hl : PE X l tl) : PI X tg l (iTup K tl) := by subst h; exact pi_tup hl
theorem pg_tupK {es : List Expr} {k : Nat} {t : TGs} {n : Nat} {pos : Pos} (h : X.K = K) (hc : X.calm = true) (hs : PGs X es t)
    (hn : (assignEach es X.env).length = n := by rfl) (hst : (assignEach es X.env).findIdx? (·.1) = none := by rfl) : PG X (.Tuple es k pos) (gTup K n t) := by subst h; exact pg_tup hc hs hn hst
/-- max(l, default=d) of whole numbers -/
def rMaxDef (K : PySem.W.Frag) : List V → List V → Hp → VK → Prop := fun xs zs H Q => ∃ (a : Addr) (ns : List Int) (d : Int), xs = [.ref a] ∧ zs = [.int d] ∧ SqL K H a (ns.map V.int) ∧ (ns = [] → Q (.int d) H) ∧ ∀ m, m ∈ ns → (∀ y, y ∈ ns → y ≤ m) → Q (.int m) H
theorem maxOf_facts : ∀ (ys : List Int) (y : Int), PySem.W.maxOf y ys ∈ y :: ys ∧ ∀ z, z ∈ y :: ys → z ≤ PySem.W.maxOf y ys
  | [], y => ⟨List.mem_cons_self, fun z m => by rw [List.mem_singleton.mp m]; exact Int.le_refl _⟩
  | x :: r, y => by
    have e : PySem.W.maxOf y (x :: r) = PySem.W.maxOf (if y < x then x else y) r := by
      show List.foldl _ (if decide (y < x) = true then x else y) r = _
      by_cases h : y < x
      · rw [if_pos (decide_eq_true h), if_pos h]
        rfl
      · rw [if_neg (fun q => h (of_decide_eq_true q)), if_neg h]
        rfl
    obtain ⟨h1, h2⟩ := maxOf_facts r (if y < x then x else y)
    rw [e]
    have h3 := h2 _ List.mem_cons_self
    generalize PySem.W.maxOf (if y < x then x else y) r = M at h1 h2 h3 ⊢
    refine ⟨?_, fun z m => ?_⟩
    · rcases List.mem_cons.mp h1 with q | q
      · rw [q]
        split
        · exact List.mem_cons_of_mem _ List.mem_cons_self
        · exact List.mem_cons_self
      · exact List.mem_cons_of_mem _ (List.mem_cons_of_mem _ q)
    · rcases List.mem_cons.mp m with q | m
      · rw [q]
        split at h3 <;> omega
      · rcases List.mem_cons.mp m with q | m
        · rw [q]
          split at h3 <;> omega
        · exact h2 z (List.mem_cons_of_mem _ m)
theorem reads_ints {h : Heap} : ∀ {ns : List Int} {us : List Value}, Vals (ns.map V.int) us → ∃ as, ReadsAll h us (ns.map PyData.int) as
  | [], _, r => by cases r; exact ⟨_, .nil⟩
  | n :: ns, _, r => by
    cases r with
    | cons r1 r2 =>
      obtain ⟨t, rfl⟩ := r1
      obtain ⟨as, q⟩ := reads_ints r2
      exact ⟨_, .cons (.int n t) q⟩
theorem cr_maxDef (hc : X.calm = true) (hu : X.A.units + 64 < cLine) : CallRK X (.builtin "max") [Str.ofString "default"] (rMaxDef X.K) := by
  intro pins s σ H xs zs us ws Q I rx rz h
  obtain ⟨a, ns, d, rfl, rfl, hs, h0, h1⟩ := h
  obtain ⟨its, rv, hl, _⟩ := I.list hs
  rw [Vals.ref1 rx]
  cases rz with
  | cons r1 r2 =>
    cases r2
    obtain ⟨t, rfl⟩ := r1
    refine PySem.W.max_list_datum_default (α := Int) (xs := ns) (I.ok.hd hc) hl.isList (reads_ints rv) (by show X.A.units + 1 + 0 < cLine; omega) (fun e h' tk hk => ⟨.int d, H, I.kept hk, ⟨_, rfl⟩, h0 e⟩) fun y ys i v h' tk e hi hh hk => ?_
    obtain ⟨as, hr⟩ := hh
    obtain ⟨f1, f2⟩ := maxOf_facts ys y
    have hv : ∃ t, v = Value.int (PySem.W.maxOf y ys) t := by
      generalize PySem.W.maxOf y ys = m at hr
      have hr' : Reads h' v (.int m) as := hr
      cases hr'
      exact ⟨_, rfl⟩
    obtain ⟨t', rfl⟩ := hv
    exact ⟨.int _, H, I.kept hk, ⟨_, rfl⟩, h1 _ (by rw [e]; exact f1) (by rw [e]; exact f2)⟩
theorem call_maxDefK (h : X.K = K) (hc : X.calm = true) (hu : X.A.units + 64 < cLine) : CallRK X (.builtin "max") [Str.ofString "default"] (rMaxDef K) := by subst h; exact cr_maxDef hc hu
theorem op_in_kdK {d : Addr} {es : Array DictEntry} {n : Nat} (h : X.K = K) (D : KDict X.K X.w d es n) : OpR X (compareOp .In) (fun x y H Q => ∃ (z : Str) (r : Option Value), x = .str z ∧ y = .ref d ∧ PySem.W.nsIn K d z = some r ∧ Q (.bl r.isSome) H) := by subst h; exact op_in_kd D
theorem pi_enumK {e : Expr} {ta : TA} {p pos tpos : Pos} {elts : List Expr} {kk : Nat} (h : X.K = K) (hg : Gl X "enumerate") (hm : X.mg "enumerate" = none) (ha : PA X [e] ta) (hs : starEach [e] X.env = [(false, eval e X.env)] := by rfl) :
    PI X (.Tuple elts kk tpos) (.Call (.Name "enumerate" p) [e] [] pos) (iEnum K ta) := by subst h; exact pi_enum hg hm ha hs
theorem mt_indexK (h : X.K = K) : MtR X "list.index" (rIndex K) := by subst h; exact mt_index
end
end Lz
namespace StX
open PySem L2
theorem pa_starK {X : Cx} {K : PySem.W.Frag} {e : Expr} {es : List Expr} {p : Pos} {te : TE} {t : TA} (h : X.K = K) (he : PE X e te) (hr : PA X es t) (hs : starEach (.Starred e p :: es) X.env = (true, eval e X.env) :: starEach es X.env := by rfl) : PA X (.Starred e p :: es) (tStar K te t) := by subst h; exact pa_star he hr hs
end StX

set_option Elab.async false
set_option linter.all false
set_option maxRecDepth 100000
set_option maxHeartbeats 4000000
namespace Lz
open PySem PySem.Spec PyProof.Rows L2
def topS (i : Nat) : Stmt := PySem.Challenge.pw_lazywebs_k71_programs_read_back.main.body.getD i (.Pass ⟨0, 0, 0, 0⟩)
/-- the built-ins are still there -/
structure Bt (mg : Str → Option Value) : Prop where
  len : mg "len" = none
  max : mg "max" = none
  min : mg "min" = none
  abs : mg "abs" = none
  range : mg "range" = none
  int : mg "int" = none
  list : mg "list" = none
  tuple : mg "tuple" = none
  sum : mg "sum" = none
  isinstance : mg "isinstance" = none

/-- a pen at p, its cells at a -/
def PenAt (H : Hp) (p a : Addr) : Prop := ∃ (ns : List Int) (t q : Int), H p = some (.lst [.ref a, .int t, .int q]) ∧ H a = some (.lst (ns.map V.int)) ∧ ns.length ≤ 63 ∧ 0 ≤ t ∧ 0 ≤ q
theorem PenAt.ne {H : Hp} {p a : Addr} (h : PenAt H p a) : a ≠ p := by
  obtain ⟨ns, t, q, h1, h2, _⟩ := h
  refine ne_of h2 h1 fun e => ?_
  have e' := HO.lst.inj e
  cases ns with
  | nil => cases e'
  | cons x r => cases e'
theorem PenAt.keep {S : List Addr} {H H' : Hp} {p a : Addr} (h : PenAt H p a) (k : Kp S H H') (hp : ¬ p ∈ S) (ha : ¬ a ∈ S) : PenAt H' p a := by
  obtain ⟨ns, t, q, h1, h2, h3⟩ := h
  exact ⟨ns, t, q, k.lst h1 hp, k.lst h2 ha, h3⟩
theorem PenAt.mut {H : Hp} {p a D : Addr} {o : HO} (h : PenAt H p a) (hp : D ≠ p) (ha : D ≠ a) : PenAt (upd H D o) p a := by
  obtain ⟨ns, t, q, h1, h2, h3⟩ := h
  exact ⟨ns, t, q, by rw [upd_ne hp.symm]; exact h1, by rw [upd_ne ha.symm]; exact h2, h3⟩
theorem PenAt.new {H : Hp} {p a D : Addr} {o : HO} (h : PenAt H p a) (hD : H D = none) : PenAt (upd H D o) p a := h.keep (S := []) (Kp.new hD) (fun h => nomatch h) (fun h => nomatch h)
theorem PenAt.apart {H : Hp} {p a D : Addr} (h : PenAt H p a) (hD : H D = none) : D ≠ p ∧ D ≠ a := by
  obtain ⟨ns, t, q, h1, h2, h3⟩ := h
  exact ⟨(ne_of_none h1 hD).symm, (ne_of_none h2 hD).symm⟩
theorem not1 {p D : Addr} (h : D ≠ p) : ¬ D ∈ [p] := fun m => h (List.mem_singleton.mp m)
theorem cal_mk {P : Program} {w : World} {K : PySem.W.Frag} {mg : Str → Option Value} {base : Heap} {k : Nat} {x : Str} {st : Stmt} {f : Addr} {fd : FuncData} {ps : List Str} {sp : Sp} (F : Fun K x x st f fd) (G : FnOk P w K mg base CX0 k f fd ps sp) (m : mg x = some (.ref f)) (b : Binds K fd ps []) : C8.Cal P w K mg base k x sp [] :=
  ⟨⟨f, fd, ps, [], G, m, F.kp, b, .nil⟩⟩
def spDraw (K : PySem.W.Frag) : Sp := fun vs H Q _ => ∃ (p a : Addr) (m : Int), vs = [.ref p, .int m] ∧ PenAt H p a ∧ 1 ≤ m ∧ m.natAbs < 2 ^ 250 ∧
  ∀ r H', Kp [p] H H' → PenAt H' p a → 0 ≤ r → r < m → Q (.int r) H'
section
variable {P : Program} {w : World} {K : PySem.W.Frag} {mg : Str → Option Value} {base : Heap} {f : Addr} {fd : FuncData}
abbrev sLDraw : Stmt := topS 56
theorem scLDraw : FnScope ["_law_pen_here", "_law_many", "_law_digit", "_law_at", "_law_cell", "_law_prime", "_law_number_here"] ["_law_pen_here", "_law_many"] (defScope sLDraw) := ⟨rfl, rfl, rfl, by decide +kernel, rfl, by decide +kernel, by decide +kernel⟩
theorem pen_put {H : Hp} {p a : Addr} {ns : List Int} {t q t' q' : Int} (h1 : H p = some (.lst [.ref a, .int t, .int q])) (h2 : H a = some (.lst (ns.map V.int))) (h3 : ns.length ≤ 63) (ht : 0 ≤ t') (hq : 0 ≤ q') : PenAt (upd H p (.lst [.ref a, .int t', .int q'])) p a := by
  have na : a ≠ p := ne_of h2 h1 fun e => by
    have e' := HO.lst.inj e
    cases ns with
    | nil => cases e'
    | cons x r => cases e'
  exact ⟨ns, t', q', upd_same, by rw [upd_ne na]; exact h2, h3, ht, hq⟩
theorem ok_draw (F : Fun K "_law_draw" "_law_draw" sLDraw f fd) (B : Bt mg) : FnOk P w K mg base CX0 1 f fd ["_law_pen_here", "_law_many"] (spDraw K) := by
  have ml := B.len
  have mmax := B.max
  have mabs := B.abs
  refine F.ok scLDraw (fun vs H Q E h => ?_) (fun cdv A outer s H vs Q E hr h => ?_)
  · obtain ⟨p, a, m, rfl, _⟩ := h
    rfl
  obtain ⟨p, a, m, rfl, hpen, hm1, hm2, k⟩ := h
  obtain ⟨ns, t, q, h1, h2, h3, ht, hq⟩ := id hpen
  have hpos : (0 : Int) < m := by omega
  have hw : CDivW q m := wide_div hpos hm2 (by decide) (by decide)
  refine ⟨_, (pss_cons (ps_if (pt_cmpR op_gt (pe_ix (ix_listK (K := K) rfl) (pv 0) pe_int (fun _ _ => rfl)) pe_int (nomark _)) (pss_cons (ps_set (i := 2) scLDraw.nd rfl (.inl rfl) (pe_op op_mod (pe_ix (ix_listK (K := K) rfl) (pv 0) pe_int (fun _ _ => rfl)) (pv 1)))
    (pss_cons (ps_asg (pe_op op_fdivW (pe_ix (ix_listK (K := K) rfl) (pv 0) pe_int (fun _ _ => rfl)) (pv 1)) (pg_sub (pv 0) pe_int set_list))
    (pss_one (ps_ret (pv 2))))) pss_nil)
    (pss_cons (ps_set (i := 3) scLDraw.nd rfl (.inl rfl) (pe_ix (ix_listK (K := K) rfl) (pv 0) pe_int (fun _ _ => rfl)))
    (pss_cons (ps_asg (pe_op op_add (pv 3) pe_int) (pg_sub (pv 0) pe_int set_list))
    (pss_cons (ps_set (i := 4) scLDraw.nd rfl (.inl rfl) (pe_ix (ix_listK (K := K) rfl) (pe_op op_cat (pe_ix (ix_listK (K := K) rfl) (pv 0) pe_int (fun _ _ => rfl)) (pe_lst (pa_cons pe_int pa_nil))) (pe_op op_mod (pv 3) (pe_callB (call_max2 rfl) (by rfl) mmax (by decide +kernel) (pa_cons pe_int (pa_cons (pe_callB (call_lenK (K := K) rfl) (by rfl) ml PySem.boot_len (pa_cons (pe_ix (ix_listK (K := K) rfl) (pv 0) pe_int (fun _ _ => rfl)) pa_nil)) pa_nil)))) (fun _ _ => rfl)))
    (C8.pss_cut (ps_if (PW.pt (pw_and (pt_cmpR op_lt (pv 3) (pe_callB (call_lenK (K := K) rfl) (by rfl) ml PySem.boot_len (pa_cons (pe_ix (ix_listK (K := K) rfl) (pv 0) pe_int (fun _ _ => rfl)) pa_nil)) (nomark _)) (pw_and1 (pt_cmpR op_ge (pe_callB call_abs (by rfl) mabs (by decide +kernel) (pa_cons (pv 4) pa_nil)) (pe_op op_pow pe_int pe_int) (nomark _))))) (pss_cons (ps_asg (pe_op op_fdivW (pe_callB call_abs (by rfl) mabs (by decide +kernel) (pa_cons (pv 4) pa_nil)) (pv 1)) (pg_sub (pv 0) pe_int set_list))
    (pss_one (ps_ret (pe_op op_mod (pe_callB call_abs (by rfl) mabs (by decide +kernel) (pa_cons (pv 4) pa_nil)) (pv 1))))) pss_nil)
    (pss_cons (ps_set (i := 5) scLDraw.nd rfl (.inl rfl) (pe_ix (ix_listK (K := K) rfl) (pe_lst (pa_cons pe_int (pa_cons pe_int (pa_cons pe_int (pa_cons pe_int (pa_cons pe_int (pa_cons pe_int (pa_cons pe_int pa_nil)))))))) (pe_op op_mod (pv 3) pe_int) (fun _ _ => rfl)))
    (pss_cons (ps_set (i := 6) scLDraw.nd rfl (.inl rfl) (pe_op op_mod (pe_op op_mul (pe_op op_add (pe_op op_add (pe_op op_mod (pv 4) pe_int) (pe_op op_mul pe_int (pv 3))) pe_int) pe_int) (pv 5)))
    (pss_cons (ps_set (i := 6) scLDraw.nd rfl (.inl rfl) (pe_op op_mod (pe_op op_add (pe_op op_add (pe_op op_mul (pv 6) (pv 6)) (pe_op op_mul pe_int (pv 6))) (pv 3)) pe_int))
    (pss_cons (ps_set (i := 6) scLDraw.nd rfl (.inl rfl) (pe_op op_mod (pe_op op_mul (pv 6) pe_int) pe_int))
    (C8.pss_cut (ps_if (pt_cmpR op_gt (pv 1) (pe_op op_pow pe_int pe_int) (nomark _)) (pss_one (ps_set (i := 6) scLDraw.nd rfl (.inl rfl) (pe_op op_pow (pv 6) pe_int))) pss_nil)
    (pss_one (ps_ret (pe_op op_mod (pe_op op_fdiv (pv 6) pe_int) (pv 1)))))))))))))), ?_⟩
  refine ⟨_, rfl, p, _, _, _, rfl, rfl, SqL.of h1, at_of (j := 2) rfl rfl, _, _, rfl, rfl, _, rfl, ?_⟩
  refine ite2 (fun c => ?_) (fun c => ?_)
  · refine ⟨_, rfl, p, _, _, _, rfl, rfl, SqL.of h1, at_of (j := 2) rfl rfl, _, rfl, _, _, rfl, rfl, hpos, ?_⟩
    refine ⟨_, rfl, p, _, _, _, rfl, rfl, SqL.of h1, at_of (j := 2) rfl rfl, _, rfl, _, _, rfl, rfl, hw, ?_⟩
    refine ⟨_, rfl, p, _, _, 2, rfl, rfl, h1, rfl, _, rfl, ?_⟩
    exact k _ _ (Kp.put h1 List.mem_cons_self) (pen_put h1 h2 h3 ht (Int.ediv_nonneg hq (by omega))) (Int.emod_nonneg _ (by omega)) (Int.emod_lt_of_pos _ hpos)
  · have na : a ≠ p := hpen.ne
    -- at = pen[1]; pen[1] = at + 1
    refine ⟨_, rfl, p, _, _, _, rfl, rfl, SqL.of h1, at_of (j := 1) rfl rfl, ?_⟩
    refine ⟨_, rfl, _, _, rfl, rfl, _, rfl, p, _, _, 1, rfl, rfl, h1, rfl, ?_⟩
    have hp1 : (upd H p (.lst [.ref a, .int (t + 1), .int q])) p = some (.lst [.ref a, .int (t + 1), .int q]) := upd_same
    have ha1 : (upd H p (.lst [.ref a, .int (t + 1), .int q])) a = some (.lst (ns.map V.int)) := by rw [upd_ne na]; exact h2
    have k1 : Kp [p] H (upd H p (.lst [.ref a, .int (t + 1), .int q])) := Kp.put h1 List.mem_cons_self
    show tSeq _ _ _ _ (upd H p (.lst [.ref a, .int (t + 1), .int q]))
    generalize upd H p (.lst [.ref a, .int (t + 1), .int q]) = H1 at hp1 ha1 k1
    -- cell
    refine ⟨_, rfl, p, _, _, _, rfl, rfl, SqL.of hp1, at_of (j := 0) rfl rfl, (by show 1 ≤ sizeLine; decide), fun l hl => ?_⟩
    have nla : a ≠ l := ne_of_none ha1 hl
    refine ⟨a, l, _, _, rfl, rfl, by rw [upd_ne nla]; exact ha1, upd_same, (by rw [List.length_map, List.length_singleton]; exact Nat.le_of_lt (small1000 (by omega))), fun l2 hl2 => ?_⟩
    have k2 : Kp [p] H1 (upd (upd H1 l (.lst [.int 7])) l2 (.lst (ns.map V.int ++ [.int 7]))) := (Kp.new hl).trans (Kp.new hl2)
    have hp2 : (upd (upd H1 l (.lst [.int 7])) l2 (.lst (ns.map V.int ++ [.int 7]))) p = some (.lst [.ref a, .int (t + 1), .int q]) := by
      have e1 : p ≠ l := ne_of_none hp1 hl
      have e2 : (upd H1 l (.lst [.int 7])) p = some (.lst [.ref a, .int (t + 1), .int q]) := by rw [upd_ne e1]; exact hp1
      rw [upd_ne (ne_of_none e2 hl2)]
      exact e2
    have ha2 : (upd (upd H1 l (.lst [.int 7])) l2 (.lst (ns.map V.int ++ [.int 7]))) a = some (.lst (ns.map V.int)) := by
      have e2 : (upd H1 l (.lst [.int 7])) a = some (.lst (ns.map V.int)) := by rw [upd_ne nla]; exact ha1
      rw [upd_ne (ne_of_none e2 hl2)]
      exact e2
    have hl3 : (upd (upd H1 l (.lst [.int 7])) l2 (.lst (ns.map V.int ++ [.int 7]))) l2 = some (.lst (ns.map V.int ++ [.int 7])) := upd_same
    show tOp _ _ _ _ (upd (upd H1 l (.lst [.int 7])) l2 (.lst (ns.map V.int ++ [.int 7]))) _
    generalize upd (upd H1 l (.lst [.int 7])) l2 (.lst (ns.map V.int ++ [.int 7])) = H2 at hp2 ha2 hl3 k2
    have hmx : (if (((ns.map V.int).length : Nat) : Int) > 1 then (((ns.map V.int).length : Nat) : Int) else 1) = max 1 (ns.length : Int) := by
      rw [List.length_map]
      omega
    refine ⟨_, rfl, _, rfl, p, _, _, _, rfl, rfl, SqL.of hp2, at_of (j := 0) rfl rfl, a, _, rfl, .inl (SqL.of ha2), _, _, rfl, ?_⟩
    refine ⟨_, _, rfl, rfl, (by show (0 : Int) < (if (((ns.map V.int).length : Nat) : Int) > 1 then _ else 1); rw [hmx]; omega), ?_⟩
    show rIxL _ _ (V.int (t % (if (((ns.map V.int).length : Nat) : Int) > 1 then _ else 1))) _ _
    rw [hmx]
    have hj0 : 0 ≤ t % max 1 (ns.length : Int) := Int.emod_nonneg _ (by omega)
    have hj1 : t % max 1 (ns.length : Int) < max 1 (ns.length : Int) := Int.emod_lt_of_pos _ (by omega)
    obtain ⟨cell, hcell⟩ : ∃ z : Int, (ns ++ [7])[(t % max 1 (ns.length : Int)).toNat]? = some z := by
      have : (t % max 1 (ns.length : Int)).toNat < (ns ++ [7]).length := by
        rw [List.length_append, List.length_singleton]
        omega
      exact ⟨_, List.getElem?_eq_getElem this⟩
    have hcell' : (ns.map V.int ++ [V.int 7])[(t % max 1 (ns.length : Int)).toNat]? = some (.int cell) := by
      have e : ns.map V.int ++ [V.int 7] = (ns ++ [7]).map V.int := by rw [List.map_append]; rfl
      rw [e, List.getElem?_map, hcell]
      rfl
    refine ⟨l2, _, _, _, rfl, rfl, SqL.of hl3, at_of (j := (t % max 1 (ns.length : Int)).toNat) (by omega) hcell', ?_⟩
    have pen2 : PenAt H2 p a := ⟨ns, t + 1, q, hp2, ha2, h3, by omega, hq⟩
    have kk : Kp [p] H H2 := k1.trans k2
    -- the great cells
    refine ⟨fun σ' H' => σ' = [some (.ref p), some (.int m), none, some (.int t), some (.int cell), none, none] ∧ H' = H2, ?_, ?_⟩
    · refine ⟨_, rfl, _, rfl, p, _, _, _, rfl, rfl, SqL.of hp2, at_of (j := 0) rfl rfl, a, _, rfl, .inl (SqL.of ha2), _, _, rfl, rfl, _, rfl, ?_⟩
      refine ite2 (fun c1 => ?_) (fun c1 => ⟨rfl, rfl⟩)
      refine ⟨_, rfl, _, rfl, _, _, rfl, rfl, ⟨by decide, by decide, by decide⟩, _, _, rfl, rfl, _, rfl, ?_⟩
      refine ite2 (fun c2 => ?_) (fun c2 => ⟨rfl, rfl⟩)
      have hab : 0 ≤ (if cell < 0 then -cell else cell) := by split <;> omega
      refine ⟨_, rfl, _, rfl, _, rfl, _, _, rfl, rfl, wide_div hpos hm2 (by decide) (by decide), ?_⟩
      refine ⟨_, rfl, p, _, _, 2, rfl, rfl, hp2, rfl, _, rfl, _, rfl, _, rfl, _, _, rfl, rfl, hpos, ?_⟩
      exact k _ _ (kk.trans (Kp.put hp2 List.mem_cons_self)) (pen_put hp2 ha2 h3 (by omega) (Int.ediv_nonneg hab (by omega))) (Int.emod_nonneg _ (by omega)) (Int.emod_lt_of_pos _ hpos)
    · rintro _ H2 ⟨rfl, rfl⟩
      -- a prime
      refine ⟨by show 7 ≤ sizeLine; decide, fun l3 hl3' => ?_⟩
      have k3 : Kp [p] H2 (upd H2 l3 (.lst [.int 2147483647, .int 2147483629, .int 2147483587, .int 2147483579, .int 2147483563, .int 2147483549, .int 2147483543])) := Kp.new hl3'
      have pen3 : PenAt (upd H2 l3 (.lst [.int 2147483647, .int 2147483629, .int 2147483587, .int 2147483579, .int 2147483563, .int 2147483549, .int 2147483543])) p a := ⟨ns, t + 1, q, by rw [upd_ne (ne_of_none hp2 hl3')]; exact hp2, by rw [upd_ne (ne_of_none ha2 hl3')]; exact ha2, h3, by omega, hq⟩
      obtain ⟨pr, hpr, hpr0, hpr1⟩ : ∃ z : Int, ([.int 2147483647, .int 2147483629, .int 2147483587, .int 2147483579, .int 2147483563, .int 2147483549, .int 2147483543] : List V)[(t % 7).toNat]? = some (.int z) ∧ 0 < z ∧ z < 2 ^ 32 := by
        have h0 : (t % 7).toNat < 7 := by omega
        generalize (t % 7).toNat = j at h0
        match j, h0 with
        | 0, _ => exact ⟨_, rfl, by decide, by decide⟩
        | 1, _ => exact ⟨_, rfl, by decide, by decide⟩
        | 2, _ => exact ⟨_, rfl, by decide, by decide⟩
        | 3, _ => exact ⟨_, rfl, by decide, by decide⟩
        | 4, _ => exact ⟨_, rfl, by decide, by decide⟩
        | 5, _ => exact ⟨_, rfl, by decide, by decide⟩
        | 6, _ => exact ⟨_, rfl, by decide, by decide⟩
      refine ⟨_, rfl, _, _, rfl, rfl, (by show (0 : Int) < 7; decide), l3, _, _, _, rfl, rfl, SqL.of upd_same, at_of (j := (t % 7).toNat) (by show t % 7 = _; omega) hpr, ?_⟩
      -- the number
      refine ⟨_, rfl, _, _, rfl, rfl, (by show (0 : Int) < 2147483497; decide), _, rfl, _, _, rfl, rfl, .inl ⟨by decide, by decide⟩, _, _, rfl, rfl, _, _, rfl, rfl, _, _, rfl, rfl, .inr ⟨by decide, by decide⟩, _, rfl, _, _, rfl, rfl, hpr0, ?_⟩
      show tSeq _ _ _ [some (.ref p), some (.int m), none, some (.int t), some (.int cell), some (.int pr), some (.int ((cell % 2147483497 + 69621 * t + 13) * 48271 % pr))] _
      have n0 : 0 ≤ (cell % 2147483497 + 69621 * t + 13) * 48271 % pr := Int.emod_nonneg _ (by omega)
      have n1 : (cell % 2147483497 + 69621 * t + 13) * 48271 % pr < pr := Int.emod_lt_of_pos _ hpr0
      generalize (cell % 2147483497 + 69621 * t + 13) * 48271 % pr = nu at n0 n1
      refine ⟨_, rfl, _, rfl, _, _, rfl, rfl, .inl ⟨by omega, by omega⟩, _, rfl, _, _, rfl, rfl, .inl ⟨by decide, by decide⟩, _, _, rfl, rfl, _, rfl, _, _, rfl, rfl, _, _, rfl, rfl, (by show (0 : Int) < 2147483489; decide), ?_⟩
      show tSeq _ _ _ [some (.ref p), some (.int m), none, some (.int t), some (.int cell), some (.int pr), some (.int ((nu * nu + 40692 * nu + t) % 2147483489))] _
      generalize (nu * nu + 40692 * nu + t) % 2147483489 = nv
      refine ⟨_, rfl, _, _, rfl, rfl, .inr ⟨by decide, by decide⟩, _, _, rfl, rfl, (by show (0 : Int) < 2147483477; decide), ?_⟩
      show C8.tCut _ _ _ [some (.ref p), some (.int m), none, some (.int t), some (.int cell), some (.int pr), some (.int (nv * 16807 % 2147483477))] _
      have v0 : 0 ≤ nv * 16807 % 2147483477 := Int.emod_nonneg _ (by omega)
      have v1 : nv * 16807 % 2147483477 < 2147483477 := Int.emod_lt_of_pos _ (by omega)
      generalize nv * 16807 % 2147483477 = nw at v0 v1
      have kl := kk.trans k3
      generalize upd H2 l3 _ = H3 at pen3 kl ⊢
      refine ⟨fun σ' H' => (∃ z : Int, σ' = [some (.ref p), some (.int m), none, some (.int t), some (.int cell), some (.int pr), some (.int z)]) ∧ H' = H3, ?_, ?_⟩
      · refine ⟨_, rfl, _, _, rfl, rfl, ⟨by decide, by decide, by decide⟩, _, _, rfl, rfl, _, rfl, ?_⟩
        refine ite2 (fun c1 => ?_) (fun c1 => ⟨⟨_, rfl⟩, rfl⟩)
        exact ⟨_, rfl, _, _, rfl, rfl, ⟨by decide, by decide, (by omega)⟩, ⟨_, rfl⟩, rfl⟩
      · rintro _ H3 ⟨⟨z, rfl⟩, rfl⟩
        refine ⟨_, rfl, _, _, rfl, rfl, ⟨by decide, by decide⟩, _, rfl, _, _, rfl, rfl, hpos, ?_⟩
        exact k _ _ kl pen3 (Int.emod_nonneg _ (by omega)) (Int.emod_lt_of_pos _ hpos)
end
end Lz

set_option Elab.async false
set_option linter.all false
set_option maxRecDepth 100000
set_option maxHeartbeats 8000000
namespace Lz
open PySem PySem.Spec PyProof.Rows L2
/-- the kinds that PARTS_OF has -/
structure PO (K : PySem.W.Frag) (pd : Addr) : Prop where
  op : ∀ k n, (k, n) ∈ kinds → ∃ u, PySem.W.nsIn K pd k = some (some u)
  num : PySem.W.nsIn K pd "number" = some none
  nam : PySem.W.nsIn K pd "name" = some none
  fn : PySem.W.nsIn K pd "fun" = some none
def leafKind (k : Str) : Prop := k = "number" ∨ k = "name" ∨ k = "fun"
/-- a part as a tuple -/
theorem shape_of {K : PySem.W.Frag} {H : Hp} {v : V} {t : Lz.P} (h : Dp K H v t.data) (ok : t.ok) : ∃ a, v = .ref a ∧
    ((∃ k x, t.inn = [] ∧ leafKind k ∧ SqT K H a [.str k, x]) ∨ (∃ k vs as, t = .op k as ∧ SqT K H a (.str k :: vs) ∧ DpAll K H vs (P.datas as) ∧ (k, as.length) ∈ kinds) ∨
      ∃ nm as b r rs vb, t = .lt nm as b ∧ SqT K H a [.str "let", .ref r, vb] ∧ SqT K H r rs ∧ DpAll K H rs (List.zipWith rowD nm (P.datas as)) ∧ Dp K H vb b.data ∧ nm.length = as.length) := by
  cases t with
  | num i =>
    obtain ⟨a, xs, rfl, ht, hx⟩ := Dp.tup_of (ds := [.str "number", .int i]) h
    refine ⟨a, rfl, .inl ⟨"number", .int i, rfl, .inl rfl, ?_⟩⟩
    cases hx with
    | cons h1 h2 =>
      cases h1
      cases h2 with
      | cons h3 h4 =>
        cases h3
        cases h4
        exact ht
  | nam x =>
    obtain ⟨a, xs, rfl, ht, hx⟩ := Dp.tup_of (ds := [.str "name", .str x]) h
    refine ⟨a, rfl, .inl ⟨"name", .str x, rfl, .inr (.inl rfl), ?_⟩⟩
    cases hx with
    | cons h1 h2 =>
      cases h1
      cases h2 with
      | cons h3 h4 =>
        cases h3
        cases h4
        exact ht
  | fn x =>
    obtain ⟨a, xs, rfl, ht, hx⟩ := Dp.tup_of (ds := [.str "fun", .str x]) h
    refine ⟨a, rfl, .inl ⟨"fun", .str x, rfl, .inr (.inr rfl), ?_⟩⟩
    cases hx with
    | cons h1 h2 =>
      cases h1
      cases h2 with
      | cons h3 h4 =>
        cases h3
        cases h4
        exact ht
  | op k as =>
    obtain ⟨a, xs, rfl, ht, hx⟩ := Dp.tup_of (ds := .str k :: P.datas as) h
    cases hx with
    | cons h1 h2 =>
      cases h1
      exact ⟨a, rfl, .inr (.inl ⟨k, _, as, rfl, ht, h2, (show (k, as.length) ∈ kinds ∧ P.oks as from ok).1⟩)⟩
  | lt nm as b =>
    obtain ⟨a, xs, rfl, ht, hx⟩ := Dp.tup_of (ds := [.str "let", .tuple (List.zipWith rowD nm (P.datas as)), b.data]) h
    cases hx with
    | cons h1 h2 =>
      cases h1
      cases h2 with
      | cons h3 h4 =>
        obtain ⟨r, rs, rfl, hr, hrs⟩ := h3.tup_of
        cases h4 with
        | cons h5 h6 =>
          cases h6
          exact ⟨a, rfl, .inr (.inr ⟨nm, as, b, r, rs, _, rfl, ht, hr, hrs, h5, ok.1⟩)⟩
def spInn (K : PySem.W.Frag) : Sp := fun vs H Q _ => ∃ (v : V) (t : Lz.P), vs = [v] ∧ Dp K H v t.data ∧ t.ok ∧ t.many ≤ 1000 ∧ ∀ (l : Addr) (xs : List V) (H' : Hp), Kp [] H H' → H l = none → H' l = some (.lst xs) → DpAll K H' xs (P.datas t.inn) → Q (.ref l) H'
theorem flat_str (x : Str) : flatV (.str x) = true := rfl
theorem cut_tl (x : V) (xs : List V) : cutV (x :: xs) (some 1) none = xs := by
  unfold cutV
  rw [HT.sIx_none, show HT.sIx (x :: xs).length 0 (some 1) = min 1 (x :: xs).length from HT.sIx_nat _ _ 1]
  have e : min 1 (x :: xs).length = 1 := by rw [List.length_cons]; omega
  rw [e]
  exact List.take_of_length_le (by show xs.length ≤ (x :: xs).length - 1; rw [List.length_cons]; omega)
theorem not_whole (x : V) (xs : List V) : ¬ (HT.sIx (x :: xs).length 0 (some 1) = 0 ∧ HT.sIx (x :: xs).length (x :: xs).length none = (x :: xs).length) := fun h => by
  have e := h.1
  rw [show HT.sIx (x :: xs).length 0 (some 1) = min 1 (x :: xs).length from HT.sIx_nat _ _ 1, List.length_cons] at e
  omega
/-- the second things of rows are the parts -/
theorem row_at {K : PySem.W.Frag} {H : Hp} {rs : List V} {nm : List Str} {as : List Lz.P} {i : Nat} {v : V} (h : DpAll K H rs (List.zipWith rowD nm (P.datas as))) (hi : rs[i]? = some v) : ∃ (t : Addr) (x : Str) (u : V) (d : Lz.P), v = .ref t ∧ SqT K H t [.str x, u] ∧ as[i]? = some d ∧ Dp K H u d.data := by
  obtain ⟨e, he, hd⟩ := h.at hi
  rw [List.getElem?_zipWith] at he
  cases hx : nm[i]? with
  | none => rw [hx] at he; cases he
  | some x =>
    rw [hx, datas_map, List.getElem?_map] at he
    cases ha : as[i]? with
    | none => rw [ha] at he; cases he
    | some d =>
      rw [ha] at he
      obtain rfl : rowD x d.data = e := Option.some.inj he
      obtain ⟨t, xs, rfl, ht, hxs⟩ := Dp.tup_of (ds := [.str x, d.data]) hd
      cases hxs with
      | cons h1 h2 =>
        cases h1
        cases h2 with
        | cons h3 h4 =>
          cases h4
          exact ⟨t, x, _, d, rfl, ht, rfl, h3⟩
section
variable {P : Program} {w : World} {K : PySem.W.Frag} {mg : Str → Option Value} {base : Heap} {f : Addr} {fd : FuncData}
abbrev sWithin : Stmt := topS 16
theorem scWithin : FnScope ["part", "kind", "row"] ["part"] (defScope sWithin) := ⟨rfl, rfl, rfl, by decide +kernel, rfl, by decide +kernel, by decide +kernel⟩
theorem ok_within {pd : Addr} {es : Array DictEntry} {n : Nat} (F : Fun K "within" "within" sWithin f fd) (B : Bt mg) (mPO : mg "PARTS_OF" = some (.ref pd)) (DK : KDict K w pd es n) (O : PO K pd) : FnOk P w K mg base CX0 1 f fd ["part"] (spInn K) := by
  have mlist := B.list
  refine F.ok scWithin (fun vs H Q E h => ?_) (fun cdv A outer s H vs Q E hr h => ?_)
  · obtain ⟨v, t, rfl, _⟩ := h
    rfl
  obtain ⟨v, t, rfl, hd, hok, hmany, q⟩ := h
  refine ⟨_, (pss_cons (ps_set (i := 1) scWithin.nd rfl (.inl rfl) (pe_ix (ix_tupK (K := K) rfl) (pv 0) pe_int (fun _ _ => rfl)))
    (pss_cons (ps_if (pt_cmpR op_eq (pv 1) pe_str (nomark _)) (pss_one (ps_ret (pe_op op_cat (pe_lc (own := [("row", 2)]) rfl scWithin.nd (pi_tupK (K := K) rfl (pe_ix (ix_tupK (K := K) rfl) (pv 0) pe_int (fun _ _ => rfl))) (blkOk_by (N := ["part", "kind", "row"]) (sc := defScope sWithin) (by decide +kernel)) (fun _ _ _ _ _ => (pg_name (i := 2) scWithin.nd rfl (.inl rfl))) (fun _ _ _ _ _ => pts_nil) (fun _ _ _ _ _ => (pe_ix (ix_tupK (K := K) rfl) (pv 2) pe_int (fun _ _ => rfl)))) (pe_lst (pa_cons (pe_ix (ix_tupK (K := K) rfl) (pv 0) pe_int (fun _ _ => rfl)) pa_nil))))) pss_nil)
    (pss_cons (ps_if (pt_cmpR (op_in_kdK (K := K) rfl DK) (pv 1) (pe_glob (v := .ref pd) (by rfl) mPO rfl) rfl) (pss_one (ps_ret (pe_callTy (call_listK (K := K) rfl) (by rfl) mlist (by decide +kernel) (pa_cons (pe_slice (sl_tupAK (K := K) rfl) (pv 0) (po_some pe_int) po_none) pa_nil)))) pss_nil)
    (pss_one (ps_ret (pe_lst pa_nil)))))), ?_⟩
  obtain ⟨a, rfl, h | h | h⟩ := shape_of hd hok
  · obtain ⟨k, x, hi, hk, ht⟩ := h
    refine ⟨_, rfl, a, _, _, _, rfl, rfl, ht, at_of (j := 0) rfl rfl, ?_⟩
    refine ⟨_, rfl, rfl, _, rfl, ?_⟩
    refine ite2 (fun c => ?_) (fun _ => ?_)
    · have e : k = "let" := V.str.inj (of_decide_eq_true c)
      rcases hk with rfl | rfl | rfl <;> exact absurd e (by decide +kernel)
    have hn : PySem.W.nsIn K pd k = some none := by
      rcases hk with rfl | rfl | rfl
      · exact O.num
      · exact O.nam
      · exact O.fn
    refine ⟨_, rfl, k, _, rfl, rfl, hn, _, rfl, ?_⟩
    refine ⟨Nat.zero_le _, fun l hl => ?_⟩
    exact q l [] _ (Kp.new hl) hl upd_same (by rw [hi]; exact .nil)
  · obtain ⟨k, xs, as, rfl, ht, hx, hk⟩ := h
    have hp := kind_plain hk
    refine ⟨_, rfl, a, _, _, _, rfl, rfl, ht, at_of (j := 0) rfl rfl, ?_⟩
    refine ⟨_, rfl, rfl, _, rfl, ?_⟩
    refine ite2 (fun c => absurd (V.str.inj (of_decide_eq_true c)) hp.1) (fun _ => ?_)
    obtain ⟨u, hu⟩ := O.op k _ hk
    refine ⟨_, rfl, k, _, rfl, rfl, hu, _, rfl, ?_⟩
    refine ⟨_, rfl, _, rfl, a, _, rfl, ht, fun z => absurd z (not_whole _ _), fun _ t2 ht2 => ?_⟩
    refine ⟨t2, _, rfl, .inr (.inl (.inl upd_same)), fun l hl => ?_⟩
    rw [cut_tl]
    have k1 : Kp [] H (upd H t2 (.tup xs)) := Kp.new ht2
    have k2 : Kp [] (upd H t2 (.tup xs)) (upd (upd H t2 (.tup xs)) l (.lst xs)) := Kp.new (by rw [cut_tl] at hl; exact hl)
    exact q l xs _ (k1.trans k2) (k1.free (by rw [cut_tl] at hl; exact hl) (fun m => nomatch m)) upd_same (Dp.keepAll (k1.trans k2) _ _ (datas_fz _) hx)
  · obtain ⟨nm, as, b, r, rs, vb, rfl, ht, hrt, hrs, hb, hl⟩ := h
    refine ⟨_, rfl, a, _, _, _, rfl, rfl, ht, at_of (j := 0) rfl rfl, ?_⟩
    refine ⟨_, rfl, rfl, _, rfl, ?_⟩
    refine ite2 (fun _ => ?_) (fun c => absurd (decide_eq_true rfl) c)
    refine ⟨_, rfl, a, _, _, _, rfl, rfl, ht, at_of (j := 1) rfl rfl, r, rfl, ⟨_, hrt⟩, fun D hD => ?_⟩
    have hrl : rs.length = as.length := by rw [hrs.length, List.length_zipWith, datas_len]; omega
    have hlen : as.length ≤ 999 := by
      have h1 := len_manys as
      have h2 : 1 + (Lz.P.manys as + b.many) ≤ 1000 := hmany
      omega
    refine lc_tup (K := K) (a := r) (xs := rs) (fun i H' => Kp [] H H' ∧ ∃ xs, H' D = some (.lst xs) ∧ DpAll K H' xs (Lz.P.datas (as.take i)))
      ⟨Kp.new hD, [], upd_same, .nil⟩ (fun i H' _ ⟨k, _⟩ => k.sqT hrt) ?_ ?_
    · rintro i x H1 hi ⟨k1, xs, hxs, hdx⟩
      obtain ⟨t, nx, u, d, rfl, htt, had, hud⟩ := row_at (Dp.keepAll k1 _ _ rows_fz hrs) hi
      refine ⟨rfl, ?_⟩
      refine ⟨_, rfl, t, _, _, _, rfl, rfl, htt, at_of (j := 1) rfl rfl, xs, hxs, ?_, k1.mut hD, xs ++ [u], upd_same, ?_⟩
      · rw [hdx.length, datas_len, List.length_take]
        exact small1000 (by omega)
      · have kput : Kp [D] H1 (upd H1 D (.lst (xs ++ [u]))) := Kp.put hxs List.mem_cons_self
        rw [datas_map, List.take_add_one, had, List.map_append, ← datas_map]
        exact (Dp.keepAll kput _ _ (datas_fz _) hdx).append (.one (Dp.keep kput _ _ (data_fz _) hud))
    · rintro H1 ⟨k1, xs, hxs, hdx⟩
      rw [hrl, List.take_length] at hdx
      refine ⟨_, rfl, a, _, _, _, rfl, rfl, k1.sqT ht, at_of (j := 2) rfl rfl, (by show 1 ≤ sizeLine; decide), fun l2 hl2 => ?_⟩
      have k2 : Kp [] H1 (upd H1 l2 (.lst [vb])) := Kp.new hl2
      have hx2 : (upd H1 l2 (.lst [vb])) D = some (.lst xs) := by rw [upd_ne (ne_of_none hxs hl2)]; exact hxs
      refine ⟨D, l2, _, _, rfl, rfl, hx2, upd_same, ?_, fun l hl => ?_⟩
      · rw [hdx.length, datas_len, List.length_singleton]
        exact Nat.le_of_lt (small1000 (by omega))
      · have k3 := k2.trans (Kp.new (S := []) (o := .lst (xs ++ [vb])) hl)
        have e : Lz.P.datas (Lz.P.lt nm as b).inn = Lz.P.datas as ++ [b.data] := by
          show Lz.P.datas (as ++ [b]) = _
          rw [datas_map, datas_map, List.map_append]
          rfl
        refine q l _ _ (k1.trans k3) ((k1.trans k2).free hl (fun m => nomatch m)) upd_same ?_
        rw [e]
        exact (Dp.keepAll k3 _ _ (datas_fz _) hdx).append (.one (Dp.keep (k1.trans k3) _ _ (data_fz _) hb))
end
end Lz

set_option Elab.async false
set_option linter.all false
set_option maxRecDepth 100000
set_option maxHeartbeats 4000000
/-! Bodies and programs as they are drawn: plain Lean. -/
namespace Lz
open PySem
/-- one thing handed on: the name itself, or what was drawn for it -/
def argOf (t : Str) (o a : P) : Prop := a = .nam t ∨ a = o
inductive Args : List Str → List P → List P → Prop
  | nil : Args [] [] []
  | snoc {ts : List Str} {os as : List P} {t : Str} {o a : P} : Args ts os as → argOf t o a → Args (ts ++ [t]) (os ++ [o]) (as ++ [a])
theorem Args.len {ts : List Str} {os as : List P} (h : Args ts os as) : as.length = ts.length ∧ os.length = ts.length := by
  induction h with
  | nil => exact ⟨rfl, rfl⟩
  | snoc _ _ ih =>
    rw [List.length_append, List.length_append, List.length_append, ih.1, ih.2]
    exact ⟨rfl, rfl⟩
theorem Args.many {ts : List Str} {os as : List P} (h : Args ts os as) : P.manys as ≤ P.manys os := by
  induction h with
  | nil => exact Nat.le_refl _
  | @snoc ts os as t o a _ ha ih =>
    rw [manys_append, manys_append]
    have h1 := many_pos o
    have e1 : P.manys [a] = a.many + 0 := rfl
    have e2 : P.manys [o] = o.many + 0 := rfl
    rcases ha with rfl | rfl
    · have : (P.nam t).many = 1 := rfl
      omega
    · omega
theorem Args.deep {ts : List Str} {os as : List P} (h : Args ts os as) : P.deeps as ≤ max 1 (P.deeps os) := by
  induction h with
  | nil => exact Nat.zero_le _
  | @snoc ts os as t o a _ ha ih =>
    rw [deeps_append, deeps_append]
    have e1 : P.deeps [a] = max a.deep 0 := rfl
    have e2 : P.deeps [o] = max o.deep 0 := rfl
    rcases ha with rfl | rfl
    · have : (P.nam t).deep = 1 := rfl
      omega
    · omega
theorem Args.ok {ts : List Str} {os as : List P} (h : Args ts os as) : (∀ x, x ∈ ts → nmOk x) → (∀ o, o ∈ os → o.ok) → ∀ a, a ∈ as → a.ok := by
  induction h with
  | nil => exact fun _ _ _ m => nomatch m
  | snoc _ ha ih =>
    intro h1 h2 b m
    rcases List.mem_append.mp m with m | m
    · exact ih (fun x hx => h1 x (List.mem_append_left _ hx)) (fun o ho => h2 o (List.mem_append_left _ ho)) b m
    · rw [List.mem_singleton.mp m]
      rcases ha with rfl | rfl
      · exact h1 _ (List.mem_append_right _ List.mem_cons_self)
      · exact h2 _ (List.mem_append_right _ List.mem_cons_self)
/-- the call of a loop's own function -/
def again (me t0 : Str) (as : List P) : P := gives (.fn me) (.op "less" [.nam t0, .num 1] :: as)
/-- what stands where the count is not nought -/
inductive More (one call : P) : P → Prop
  | call : More one call call
  | plus : More one call (.op "plus" [one, call])
  | pair : More one call (.op "pair" [one, call])
  | turn : More one call (.op "plus" [call, one])
/-- a body that calls itself -/
structure Lp (W : List (Str × Int)) (me t0 : Str) (ts : List Str) (n : Int) (ss : List Str) (d : P) : Prop where
  ex : ∃ (os as : List P) (one more last : P) (n1 n2 n3 : Int) (s1 s2 s3 : List Str), Dr W (t0 :: ts) 2 n ss n1 s1 os ∧ Args ts os as ∧ Dr W (t0 :: ts) 3 n1 s1 n2 s2 [one] ∧ More one (again me t0 as) more ∧ Dr W (t0 :: ts) 3 n2 s2 n3 s3 [last] ∧ d = .op "when" [.nam t0, more, last]
/-- a body -/
inductive Bd (W : List (Str × Int)) (me : Str) (things ss : List Str) : P → Prop
  | part {dp n n' : Int} {ss' : List Str} {d : P} : 0 ≤ dp → dp ≤ 11 → 0 ≤ n → n ≤ 59 → Dr W things dp n ss n' ss' [d] → Bd W me things ss d
  | loop {t0 : Str} {ts : List Str} {n : Int} {d : P} : me ≠ "" → things = t0 :: ts → 0 ≤ n → n ≤ 40 → Lp W me t0 ts n ss d → Bd W me things ss d
  | first {f : Str} {w : Int} {r : List (Str × Int)} {ks : List Int} : me = "" → W = (f, w) :: r → (ks.length : Int) = w → (∀ k, k ∈ ks → 0 ≤ k ∧ k < 8) → Bd W me things ss (gives (.fn f) (ks.map .num))
theorem kind_when : (("when" : Str), 3) ∈ kinds := by decide +kernel
theorem kind_less : (("less" : Str), 2) ∈ kinds := by decide +kernel
theorem kind_plus : (("plus" : Str), 2) ∈ kinds := by decide +kernel
theorem kind_pair : (("pair" : Str), 2) ∈ kinds := by decide +kernel
theorem kind_give : (("give" : Str), 2) ∈ kinds := by decide +kernel
theorem Dr.one_many {W : List (Str × Int)} {sc ss ss' : List Str} {dp n n' : Int} {d : P} (h : Dr W sc dp n ss n' ss' [d]) : (d.many : Int) = 1 + (n - n') := by
  have := h.many
  have e : P.manys [d] = d.many + 0 := rfl
  have e2 : [d].length = 1 := rfl
  omega
theorem Dr.one_deep {W : List (Str × Int)} {sc ss ss' : List Str} {dp n n' : Int} {d : P} (h : Dr W sc dp n ss n' ss' [d]) : d.deep ≤ dp.toNat + 1 := by
  have := h.deep
  have e : P.deeps [d] = max d.deep 0 := rfl
  omega
theorem two_ok {k : Str} {a b : P} (hk : (k, 2) ∈ kinds) (ha : a.ok) (hb : b.ok) : (P.op k [a, b]).ok := ⟨hk, ha, hb, True.intro⟩
theorem Bd.facts {W : List (Str × Int)} {me : Str} {things ss : List Str} {d : P} (h : Bd W me things ss d) (N : Nms W things ss) (hme : me ≠ "" → nmOk me) (hW : ∀ f, f ∈ W → 0 ≤ f.2 ∧ f.2 ≤ 4) (hl : things.length ≤ 4) : d.ok ∧ d.many ≤ 60 ∧ d.deep ≤ 12 := by
  cases h with
  | @part dp n n' ss' _ h0 h1 h2 h3 hd =>
    have e1 := hd.one_many
    have e2 := hd.one_deep
    have e3 := hd.nonneg h2
    exact ⟨hd.ok N d List.mem_cons_self, by omega, by omega⟩
  | @loop t0 ts n _ hm ht h0 h1 hL =>
    obtain ⟨os, as, one, more, last, n1, n2, n3, s1, s2, s3, d1, ha, d2, hmo, d3, rfl⟩ := hL.ex
    subst ht
    have N1 : Nms W (t0 :: ts) s1 := ⟨N.w, N.c, fun x hx => N.s x (d1.sub x hx)⟩
    have N2 : Nms W (t0 :: ts) s2 := ⟨N.w, N.c, fun x hx => N1.s x (d2.sub x hx)⟩
    have o1 := d1.ok N
    have o2 := d2.ok N1 one List.mem_cons_self
    have o3 := d3.ok N2 last List.mem_cons_self
    have oa := ha.ok (fun x hx => N.c x (List.mem_cons_of_mem _ hx)) o1
    have ht0 : (P.nam t0).ok := N.c t0 List.mem_cons_self
    have oc : (again me t0 as).ok := gives_ok (hme hm) fun b m => by
      rcases List.mem_cons.mp m with e | m
      · rw [e]
        exact two_ok kind_less ht0 True.intro
      · exact oa b m
    have l1 := ha.len
    have m1 := d1.many
    have m2 := d2.one_many
    have m3 := d3.one_many
    have ma := ha.many
    have p1 := d1.deep
    have p2 := d2.one_deep
    have p3 := d3.one_deep
    have pa := ha.deep
    have nn := d3.nonneg (d2.nonneg (d1.nonneg h0))
    have mc : (again me t0 as).many = 1 + (1 + (1 + (1 + 0)) + P.manys as) + (as.length + 1) := gives_many
    have pc : (again me t0 as).deep ≤ max 1 (max (1 + max 1 (max 1 0)) (P.deeps as)) + (as.length + 1) := gives_deep
    rw [List.length_cons] at hl
    have two : ∀ (k : Str) (x y : P), (P.op k [x, y]).many = 1 + (x.many + (y.many + 0)) := fun _ _ _ => rfl
    have twd : ∀ (k : Str) (x y : P), (P.op k [x, y]).deep = 1 + max x.deep (max y.deep 0) := fun _ _ _ => rfl
    have hmore : more.ok ∧ more.many ≤ 1 + one.many + (again me t0 as).many ∧ more.deep ≤ 1 + max one.deep (again me t0 as).deep := by
      cases hmo with
      | call => exact ⟨oc, by omega, by omega⟩
      | plus => exact ⟨two_ok kind_plus o2 oc, by rw [two]; omega, by rw [twd]; omega⟩
      | pair => exact ⟨two_ok kind_pair o2 oc, by rw [two]; omega, by rw [twd]; omega⟩
      | turn => exact ⟨two_ok kind_plus oc o2, by rw [two]; omega, by rw [twd]; omega⟩
    refine ⟨⟨kind_when, ht0, hmore.1, o3, True.intro⟩, ?_, ?_⟩
    · show 1 + (1 + (more.many + (last.many + 0))) ≤ 60
      omega
    · show 1 + max 1 (max more.deep (max last.deep 0)) ≤ 12
      omega
  | @first f w r ks hm hw hk h8 =>
    have hf : (f, w) ∈ W := by rw [hw]; exact List.mem_cons_self
    have hw4 := hW _ hf
    have hn : ∀ a, a ∈ ks.map P.num → a.ok := fun a m => by
      obtain ⟨k, _, rfl⟩ := List.mem_map.mp m
      exact True.intro
    have e1 : ∀ ks : List Int, P.manys (ks.map P.num) = ks.length := fun ks => by
      induction ks with
      | nil => rfl
      | cons k r ih =>
        show 1 + P.manys (r.map P.num) = r.length + 1
        rw [ih]
        omega
    have e2 : P.deeps (ks.map P.num) ≤ 1 := deeps_le fun a m => by
      obtain ⟨k, _, rfl⟩ := List.mem_map.mp m
      exact Nat.le_refl _
    have em := gives_many (as := ks.map P.num) (f := .fn f)
    have ed := gives_deep (as := ks.map P.num) (f := .fn f)
    rw [List.length_map] at em ed
    rw [e1] at em
    have f1 : (P.fn f).many = 1 := rfl
    have f2 : (P.fn f).deep = 1 := rfl
    refine ⟨gives_ok (N.w _ hf) hn, ?_, ?_⟩ <;> omega

/-! ### programs -/
abbrev Fn := Str × List Str × P
def fD (f : Fn) : PyData := .tuple [.str f.1, .tuple (f.2.1.map .str), f.2.2.data]
def progD (fs : List Fn) (d : P) : PyData := .tuple [.tuple (fs.map fD), d.data]
/-- six and twenty names, unlike -/
structure Stock (stk : List Str) : Prop where
  len : stk.length = 26
  nd : stk.Nodup
  ok : ∀ x, x ∈ stk → nmOk x
structure FnDr (W : List (Str × Int)) (f : Fn) : Prop where
  ex : ∃ (w : Nat) (stk : List Str), (f.1, (w : Int)) ∈ W ∧ w ≤ 4 ∧ Stock stk ∧ f.2.1 = stk.take w ∧ Bd W f.1 f.2.1 (stk.drop w) f.2.2
structure Prog (fs : List Fn) (d : P) : Prop where
  ex : ∃ W : List (Str × Int), W.map (·.1) = fs.map (·.1) ∧ (W.map (·.1)).Nodup ∧ W.length ≤ 8 ∧ (∀ f, f ∈ W → nmOk f.1 ∧ 0 ≤ f.2 ∧ f.2 ≤ 4) ∧ (∀ f, f ∈ fs → FnDr W f) ∧ ∃ stk, Stock stk ∧ Bd W "" [] stk d
theorem Stock.take {stk : List Str} (h : Stock stk) (w : Nat) : ∀ x, x ∈ stk.take w → nmOk x := fun x m => h.ok x (List.mem_of_mem_take m)
theorem Stock.drop {stk : List Str} (h : Stock stk) (w : Nat) : ∀ x, x ∈ stk.drop w → nmOk x := fun x m => h.ok x (List.mem_of_mem_drop m)
structure BodyOk (d : P) : Prop where
  ok : d.ok
  many : d.many ≤ 60
  deep : d.deep ≤ 12
theorem Prog.bodies {fs : List Fn} {d : P} (h : Prog fs d) : (∀ f, f ∈ fs → nmOk f.1 ∧ f.2.1.length ≤ 4 ∧ (∀ x, x ∈ f.2.1 → nmOk x) ∧ BodyOk f.2.2) ∧ BodyOk d ∧ fs.length ≤ 8 := by
  obtain ⟨W, e, nd, l8, hW, hf, stk, hs, hb⟩ := h.ex
  have hl : fs.length = W.length := by
    have := congrArg List.length e
    rw [List.length_map, List.length_map] at this
    exact this.symm
  refine ⟨fun f m => ?_, ?_, by omega⟩
  · obtain ⟨w, stk, hm, hw, hs, e, hb⟩ := (hf f m).ex
    have hl4 : f.2.1.length ≤ 4 := by rw [e, List.length_take]; omega
    have hn : ∀ x, x ∈ f.2.1 → nmOk x := by rw [e]; exact hs.take w
    have q := hb.facts ⟨fun g hg => (hW g hg).1, hn, hs.drop w⟩ (fun _ => (hW _ hm).1) (fun g hg => (hW g hg).2) hl4
    exact ⟨(hW _ hm).1, hl4, hn, q.1, q.2.1, q.2.2⟩
  · have q := hb.facts ⟨fun g hg => (hW g hg).1, (fun _ m => nomatch m), hs.ok⟩ (fun h => absurd rfl h) (fun g hg => (hW g hg).2) (Nat.zero_le _)
    exact ⟨q.1, q.2.1, q.2.2⟩
end Lz

set_option Elab.async false
set_option linter.all false
set_option maxRecDepth 100000
set_option maxHeartbeats 4000000
/-! Places: plain Lean. -/
namespace Lz
open PySem
mutual
/-- the part and all within it, each ahead of those within it -/
def P.all : P → List P
  | .op k as => .op k as :: P.alls as
  | .lt nm as b => .lt nm as b :: (P.alls as ++ P.all b)
  | .num i => [.num i]
  | .nam x => [.nam x]
  | .fn x => [.fn x]
def P.alls : List P → List P
  | [] => []
  | a :: as => P.all a ++ P.alls as
end
theorem alls_append : ∀ as bs : List P, P.alls (as ++ bs) = P.alls as ++ P.alls bs
  | [], bs => rfl
  | a :: as, bs => by
    show P.all a ++ P.alls (as ++ bs) = P.all a ++ P.alls as ++ P.alls bs
    rw [alls_append as bs, List.append_assoc]
theorem all_inn : ∀ t : P, t.all = t :: P.alls t.inn
  | .num _ => rfl
  | .nam _ => rfl
  | .fn _ => rfl
  | .op _ _ => rfl
  | .lt nm as b => by
    show P.lt nm as b :: (P.alls as ++ P.all b) = P.lt nm as b :: P.alls (as ++ [b])
    rw [alls_append]
    show _ = P.lt nm as b :: (P.alls as ++ (P.all b ++ []))
    rw [List.append_nil]
mutual
theorem all_len : ∀ t : P, t.all.length = t.many
  | .num _ => rfl
  | .nam _ => rfl
  | .fn _ => rfl
  | .op k as => by
    show (P.alls as).length + 1 = 1 + P.manys as
    rw [alls_len as]
    omega
  | .lt nm as b => by
    show (P.alls as ++ P.all b).length + 1 = 1 + (P.manys as + P.many b)
    rw [List.length_append, alls_len as, all_len b]
    omega
theorem alls_len : ∀ as : List P, (P.alls as).length = P.manys as
  | [] => rfl
  | a :: as => by
    show (P.all a ++ P.alls as).length = P.many a + P.manys as
    rw [List.length_append, all_len a, alls_len as]
end
mutual
theorem all_ok : ∀ t : P, t.ok → ∀ d, d ∈ t.all → d.ok ∧ d.deep ≤ t.deep
  | .num i, h, d, m => by
    rw [List.mem_singleton.mp (show d ∈ [P.num i] from m)]
    exact ⟨h, Nat.le_refl _⟩
  | .nam x, h, d, m => by
    rw [List.mem_singleton.mp (show d ∈ [P.nam x] from m)]
    exact ⟨h, Nat.le_refl _⟩
  | .fn x, h, d, m => by
    rw [List.mem_singleton.mp (show d ∈ [P.fn x] from m)]
    exact ⟨h, Nat.le_refl _⟩
  | .op k as, h, d, m => by
    rcases List.mem_cons.mp (show d ∈ P.op k as :: P.alls as from m) with e | m
    · rw [e]; exact ⟨h, Nat.le_refl _⟩
    · have q := alls_ok as h.2 d m
      refine ⟨q.1, ?_⟩
      show d.deep ≤ 1 + P.deeps as
      have := q.2
      omega
  | .lt nm as b, h, d, m => by
    rcases List.mem_cons.mp (show d ∈ P.lt nm as b :: (P.alls as ++ P.all b) from m) with e | m
    · rw [e]; exact ⟨h, Nat.le_refl _⟩
    · have e : (P.lt nm as b).deep = 1 + max (P.deeps as) b.deep := rfl
      rcases List.mem_append.mp m with m | m
      · have q := alls_ok as h.2.2.1 d m
        exact ⟨q.1, by have := q.2; omega⟩
      · have q := all_ok b h.2.2.2 d m
        exact ⟨q.1, by have := q.2; omega⟩
theorem alls_ok : ∀ as : List P, P.oks as → ∀ d, d ∈ P.alls as → d.ok ∧ d.deep ≤ P.deeps as
  | [], _, _, m => nomatch m
  | a :: as, h, d, m => by
    have e : P.deeps (a :: as) = max a.deep (P.deeps as) := rfl
    rcases List.mem_append.mp (show d ∈ P.all a ++ P.alls as from m) with m | m
    · have q := all_ok a h.1 d m
      exact ⟨q.1, by have := q.2; omega⟩
    · have q := alls_ok as h.2 d m
      exact ⟨q.1, by have := q.2; omega⟩
end
/-- a place -/
def plD (n : Nat) (t : P) : PyData := .tuple [t.data, .int (n : Nat)]
/-- the places of bodies from number n on -/
def plcs (n : Nat) : List P → List PyData
  | [] => []
  | b :: r => b.all.map (plD n) ++ plcs (n + 1) r
theorem plcs_append : ∀ (n : Nat) (as : List P) (b : P), plcs n (as ++ [b]) = plcs n as ++ b.all.map (plD (n + as.length))
  | n, [], b => by
    show b.all.map (plD n) ++ [] = b.all.map (plD n)
    rw [List.append_nil]
  | n, a :: as, b => by
    show a.all.map (plD n) ++ plcs (n + 1) (as ++ [b]) = a.all.map (plD n) ++ plcs (n + 1) as ++ b.all.map (plD (n + (as.length + 1)))
    rw [plcs_append (n + 1) as b, List.append_assoc]
    have e : n + 1 + as.length = n + (as.length + 1) := by omega
    rw [e]
theorem plcs_len : ∀ (n : Nat) (as : List P), (plcs n as).length = P.manys as
  | n, [] => rfl
  | n, a :: as => by
    show (a.all.map (plD n) ++ plcs (n + 1) as).length = a.many + P.manys as
    rw [List.length_append, List.length_map, all_len, plcs_len (n + 1) as]
theorem plD_fz (n : Nat) (t : P) : fz (plD n t) = true := by
  show (fz t.data && (true && true)) = true
  rw [data_fz]
  rfl
theorem plcs_mem : ∀ (n : Nat) (as : List P) (d : PyData), d ∈ plcs n as → ∃ a t m, a ∈ as ∧ t ∈ a.all ∧ d = plD m t
  | n, [], d, h => nomatch h
  | n, a :: as, d, h => by
    rcases List.mem_append.mp (show d ∈ a.all.map (plD n) ++ plcs (n + 1) as from h) with m | m
    · obtain ⟨t, ht, rfl⟩ := List.mem_map.mp m
      exact ⟨a, t, n, List.mem_cons_self, ht, rfl⟩
    · obtain ⟨b, t, k, hb, ht, e⟩ := plcs_mem (n + 1) as d m
      exact ⟨b, t, k, List.mem_cons_of_mem _ hb, ht, e⟩
theorem plcs_fz (n : Nat) (as : List P) : fzAll (plcs n as) = true := fzAll_iff.mpr fun d m => by
  obtain ⟨a, t, k, _, _, rfl⟩ := plcs_mem n as d m
  exact plD_fz _ _
theorem plcs_shaped {n : Nat} {as : List P} (h : ∀ a, a ∈ as → a.ok ∧ a.deep ≤ 12) : SeqAt.shaped (.list (plcs n as)) = true ∧ PyData.canLayAll0 (plcs n as) = true := by
  have h1 : PyData.canLayAll0 (plcs n as) = true := layAll_iff.mpr fun d m => by
    obtain ⟨a, t, k, ha, ht, rfl⟩ := plcs_mem n as d m
    have q := all_ok a (h a ha).1 t ht
    show (PyData.tuple [t.data, .int (k : Nat)]).canLay0 = true
    rw [lay_tup, lay_cons, lay_cons, lay_nil, data_lay t q.1]
    simp only [PyData.canLay0]
    rfl
  have h2 : PyData.depthAll (plcs n as) ≤ 40 := depthAll_le fun d m => by
    obtain ⟨a, t, k, ha, ht, rfl⟩ := plcs_mem n as d m
    have q := (all_ok a (h a ha).1 t ht).2
    have q2 := (h a ha).2
    have q3 := data_depth t
    show (PyData.tuple [t.data, .int (k : Nat)]).depth ≤ 40
    rw [depth_tup, depthAll_cons, depthAll_cons]
    simp only [PyData.depth, PyData.depthAll]
    omega
  have e : (PyData.list (plcs n as)).depth = PyData.depthAll (plcs n as) + 1 := by simp only [PyData.depth]
  have e2 : (PyData.list (plcs n as)).canLay0 = PyData.canLayAll0 (plcs n as) := by rw [PyData.canLay0]
  refine ⟨?_, h1⟩
  unfold SeqAt.shaped
  rw [e2, h1, Bool.true_and]
  exact decide_eq_true (by omega)
theorem plcs_same {n : Nat} {as : List P} (h : ∀ a, a ∈ as → a.ok ∧ a.deep ≤ 12) : PyData.eqv (.list (plcs n as)) (.list (plcs n as)) = true := by
  rw [PyData.eqv]
  exact SeqAt.eqvAll_refl _ (plcs_shaped h).2
/-! ### a program as its functions and what is asked -/
def askedFn (d : P) : Fn := (("" : Str), [], d)
def fnsOf (fs : List Fn) (d : P) : List Fn := fs ++ [askedFn d]
def bodies (fs : List Fn) : List P := fs.map (·.2.2)
structure PrOk (fs : List Fn) (d : P) : Prop where
  len : fs.length ≤ 8
  nd : ((fnsOf fs d).map (·.1)).Nodup
  bd : ∀ f, f ∈ fnsOf fs d → BodyOk f.2.2 ∧ f.2.1.length ≤ 4
theorem Prog.prOk {fs : List Fn} {d : P} (h : Prog fs d) : PrOk fs d := by
  obtain ⟨h1, h2, h3⟩ := h.bodies
  obtain ⟨W, e, nd, _⟩ := h.ex
  refine ⟨h3, ?_, fun f m => ?_⟩
  · unfold fnsOf
    rw [List.map_append, List.nodup_append]
    refine ⟨by rw [← e]; exact nd, by simp, fun a ha b hb => ?_⟩
    obtain ⟨f, hf, rfl⟩ := List.mem_map.mp ha
    have hb' : b = "" := by
      have := List.mem_singleton.mp (show b ∈ [(askedFn d).1] from hb)
      exact this
    intro q
    have := (h1 f hf).1.1
    rw [q, hb'] at this
    exact absurd this (by decide +kernel)
  · rcases List.mem_append.mp m with m | m
    · exact ⟨(h1 f m).2.2.2, (h1 f m).2.1⟩
    · rw [List.mem_singleton.mp m]
      exact ⟨h2, Nat.zero_le _⟩
theorem bodies_append (fs gs : List Fn) : bodies (fs ++ gs) = bodies fs ++ bodies gs := List.map_append
end Lz

set_option Elab.async false
set_option linter.all false
set_option maxRecDepth 100000
set_option maxHeartbeats 4000000
/-! What fits: plain Lean. -/
namespace Lz
open PySem
mutual
/-- numbers small enough, names known, one to four rows -/
def P.fit (F : List Str) : P → List Str → Prop
  | .num i, _ => i.natAbs < 10 ^ 60
  | .nam x, sc => x ∈ sc
  | .fn x, _ => x ∈ F
  | .op _ as, sc => P.fits F as sc
  | .lt nm as b, sc => 1 ≤ nm.length ∧ nm.length ≤ 4 ∧ P.fits F as (sc ++ nm) ∧ P.fit F b (sc ++ nm)
def P.fits (F : List Str) : List P → List Str → Prop
  | [], _ => True
  | a :: as, sc => P.fit F a sc ∧ P.fits F as sc
end
mutual
/-- the names of all rows within -/
def P.rown : P → List Str
  | .op _ as => P.rowns as
  | .lt nm as b => nm ++ (P.rowns as ++ P.rown b)
  | .num _ => []
  | .nam _ => []
  | .fn _ => []
def P.rowns : List P → List Str
  | [] => []
  | a :: as => P.rown a ++ P.rowns as
end
def P.own : P → List Str
  | .lt nm _ _ => nm
  | _ => []
theorem fits_iff {F : List Str} {sc : List Str} : ∀ {as : List P}, P.fits F as sc ↔ ∀ a, a ∈ as → a.fit F sc
  | [] => ⟨fun _ _ h => (nomatch h), fun _ => True.intro⟩
  | x :: xs => by
    show (P.fit F x sc ∧ P.fits F xs sc) ↔ _
    rw [fits_iff]
    refine ⟨fun h d m => ?_, fun h => ⟨h x List.mem_cons_self, fun d m => h d (List.mem_cons_of_mem _ m)⟩⟩
    rcases List.mem_cons.mp m with e | m
    · rw [e]; exact h.1
    · exact h.2 d m
theorem fits_append {F : List Str} {sc : List Str} {as bs : List P} : P.fits F (as ++ bs) sc ↔ P.fits F as sc ∧ P.fits F bs sc := by
  rw [fits_iff, fits_iff, fits_iff]
  exact ⟨fun h => ⟨fun a m => h a (List.mem_append_left _ m), fun a m => h a (List.mem_append_right _ m)⟩, fun h a m => (List.mem_append.mp m).elim (h.1 a) (h.2 a)⟩
theorem rowns_append : ∀ as bs : List P, P.rowns (as ++ bs) = P.rowns as ++ P.rowns bs
  | [], bs => rfl
  | a :: as, bs => by
    show P.rown a ++ P.rowns (as ++ bs) = P.rown a ++ P.rowns as ++ P.rowns bs
    rw [rowns_append as bs, List.append_assoc]
theorem rown_one (b : P) : P.rowns [b] = b.rown := List.append_nil _
/-- what is within a part that fits -/
theorem fit_inn {F : List Str} {t : P} {sc : List Str} (h : t.fit F sc) : ∀ a, a ∈ t.inn → a.fit F (sc ++ t.own) := fun a m => by
  cases t with
  | num i => exact nomatch m
  | nam i => exact nomatch m
  | fn i => exact nomatch m
  | op k as =>
    show a.fit F (sc ++ [])
    rw [List.append_nil]
    exact fits_iff.mp h a m
  | lt nm as b =>
    rcases List.mem_append.mp (show a ∈ as ++ [b] from m) with m | m
    · exact fits_iff.mp h.2.2.1 a m
    · rw [List.mem_singleton.mp m]
      exact h.2.2.2
theorem own_len {F : List Str} {t : P} {sc : List Str} (h : t.fit F sc) : t.own.length ≤ 4 := by
  cases t with
  | lt nm as b => exact h.2.1
  | _ => exact Nat.zero_le _
mutual
theorem all_own : ∀ t : P, t.all.flatMap P.own = t.rown
  | .num _ => rfl
  | .nam _ => rfl
  | .fn _ => rfl
  | .op k as => by
    show P.own (.op k as) ++ (P.alls as).flatMap P.own = P.rowns as
    rw [alls_own as]
    rfl
  | .lt nm as b => by
    show nm ++ (P.alls as ++ P.all b).flatMap P.own = nm ++ (P.rowns as ++ P.rown b)
    rw [List.flatMap_append, alls_own as, all_own b]
theorem alls_own : ∀ as : List P, (P.alls as).flatMap P.own = P.rowns as
  | [] => rfl
  | a :: as => by
    show (P.all a ++ P.alls as).flatMap P.own = P.rown a ++ P.rowns as
    rw [List.flatMap_append, all_own a, alls_own as]
end
theorem gives_rown : ∀ {as : List P} {f : P}, (gives f as).rown = f.rown ++ P.rowns as
  | [], f => (List.append_nil _).symm
  | a :: as, f => by
    show (gives (.op "give" [f, a]) as).rown = f.rown ++ (a.rown ++ P.rowns as)
    rw [gives_rown (as := as)]
    show (f.rown ++ (a.rown ++ [])) ++ P.rowns as = _
    rw [List.append_nil, List.append_assoc]
theorem gives_fit {F sc : List Str} : ∀ {as : List P} {f : P}, f.fit F sc → P.fits F as sc → (gives f as).fit F sc
  | [], f, h, _ => h
  | a :: as, f, h, k => gives_fit (as := as) (f := .op "give" [f, a]) (show P.fit F f sc ∧ P.fit F a sc ∧ True from ⟨h, k.1, True.intro⟩) k.2
theorem Dr.fits {W : List (Str × Int)} {sc ss ss' : List Str} {dp n n' : Int} {ds : List P} (h : Dr W sc dp n ss n' ss' ds) : P.fits (W.map (·.1)) ds sc := by
  induction h with
  | nil => exact True.intro
  | num a _ ih => exact ⟨a, ih⟩
  | nam a _ ih => exact ⟨a, ih⟩
  | fn a _ ih => exact ⟨List.mem_map.mpr ⟨_, a, rfl⟩, ih⟩
  | call a b c d _ _ i1 i2 => exact ⟨gives_fit (show _ ∈ _ from List.mem_map.mpr ⟨_, a, rfl⟩) i1, i2⟩
  | lt _ a b _ _ _ _ _ _ i1 i2 =>
    have q := fits_append.mp i1
    exact ⟨⟨a, b, q.1, q.2.1⟩, i2⟩
  | op _ _ _ _ _ i1 i2 => exact ⟨i1, i2⟩
theorem Dr.rows {W : List (Str × Int)} {sc ss ss' : List Str} {dp n n' : Int} {ds : List P} (h : Dr W sc dp n ss n' ss' ds) : (P.rowns ds ++ ss').Perm ss := by
  induction h with
  | nil => exact List.Perm.refl _
  | num a _ ih => exact ih
  | nam a _ ih => exact ih
  | fn a _ ih => exact ih
  | @call sc ss ss1 ss' dp n n1 n' w f as ds a b c d _ _ i1 i2 =>
    show ((gives (.fn f) as).rown ++ P.rowns ds ++ ss').Perm ss
    rw [gives_rown, List.append_assoc]
    exact (i2.append_left _).trans i1
  | @lt sc nm ss ss1 ss' dp n n1 n' as ds b k _ _ _ e1 _ _ _ _ _ i1 i2 =>
    show (nm ++ (P.rowns as ++ b.rown) ++ P.rowns ds ++ ss').Perm ss
    rw [rowns_append, rown_one] at i1
    rw [List.append_assoc, List.append_assoc]
    refine (((i2.append_left _).trans i1).append_left nm).trans ?_
    refine (List.perm_append_comm).trans ?_
    have e := List.take_append_drop k ss
    rw [e1] at e
    have : (ss.take k ++ nm).Perm (ss.take k ++ nm.reverse) := (List.reverse_perm nm).symm.append_left _
    rw [e] at this
    exact this
  | @op sc ss ss1 ss' dp n n1 n' k as ds _ _ _ _ _ i1 i2 =>
    show (P.rowns as ++ P.rowns ds ++ ss').Perm ss
    rw [List.append_assoc]
    exact (i2.append_left _).trans i1
theorem Dr.nodup {W : List (Str × Int)} {sc ss ss' : List Str} {dp n n' : Int} {ds : List P} (h : Dr W sc dp n ss n' ss' ds) (nd : ss.Nodup) : (P.rowns ds ++ ss').Nodup := (h.rows.nodup_iff).mpr nd
theorem Dr.mem {W : List (Str × Int)} {sc ss ss' : List Str} {dp n n' : Int} {ds : List P} (h : Dr W sc dp n ss n' ss' ds) : ∀ x, x ∈ P.rowns ds → x ∈ ss := fun x m => h.rows.mem_iff.mp (List.mem_append_left _ m)
theorem Args.rows {ts : List Str} {os as : List P} (h : Args ts os as) : (P.rowns as).Sublist (P.rowns os) := by
  induction h with
  | nil => exact List.Sublist.refl _
  | @snoc ts os as t o a _ ha ih =>
    rw [rowns_append, rowns_append, rown_one, rown_one]
    refine ih.append ?_
    rcases ha with rfl | rfl
    · exact List.nil_sublist _
    · exact List.Sublist.refl _
theorem Args.fits {ts : List Str} {os as : List P} {F sc : List Str} (h : Args ts os as) : (∀ x, x ∈ ts → x ∈ sc) → P.fits F os sc → P.fits F as sc := by
  induction h with
  | nil => exact fun _ _ => True.intro
  | @snoc ts os as t o a _ ha ih =>
    intro h1 h2
    rw [fits_append] at h2 ⊢
    refine ⟨ih (fun x m => h1 x (List.mem_append_left _ m)) h2.1, ?_, True.intro⟩
    rcases ha with rfl | rfl
    · exact h1 _ (List.mem_append_right _ List.mem_cons_self)
    · exact h2.2.1
theorem again_rown (me t0 : Str) (as : List P) : (again me t0 as).rown = P.rowns as := by
  unfold again
  rw [gives_rown]
  rfl
theorem Bd.more {W : List (Str × Int)} {me : Str} {things ss : List Str} {d : P} (h : Bd W me things ss d) (hme : me ≠ "" → me ∈ W.map (·.1)) (nd : ss.Nodup) : d.fit (W.map (·.1)) things ∧ d.rown.Nodup ∧ ∀ x, x ∈ d.rown → x ∈ ss := by
  cases h with
  | @part dp n n' ss' _ h0 h1 h2 h3 hd =>
    have e1 := hd.fits
    have e2 := hd.nodup nd
    have e3 := hd.mem
    rw [rown_one] at e2 e3
    exact ⟨e1.1, (List.nodup_append.mp e2).1, e3⟩
  | @loop t0 ts n _ hm ht h0 h1 hL =>
    obtain ⟨os, as, one, more, last, n1, n2, n3, s1, s2, s3, d1, ha, d2, hmo, d3, rfl⟩ := hL.ex
    subst ht
    have f1 := d1.fits
    have f2 := d2.fits.1
    have f3 := d3.fits.1
    have fa := ha.fits (fun x m => List.mem_cons_of_mem _ m) f1
    have ft : (P.nam t0).fit (W.map (·.1)) (t0 :: ts) := (List.mem_cons_self : t0 ∈ t0 :: ts)
    have fl : (P.op "less" [.nam t0, .num 1]).fit (W.map (·.1)) (t0 :: ts) := ⟨ft, (by show (1 : Int).natAbs < 10 ^ 60; decide +kernel), True.intro⟩
    have fc : (again me t0 as).fit (W.map (·.1)) (t0 :: ts) := gives_fit (show me ∈ _ from hme hm) ⟨fl, fa⟩
    have r1 := d1.rows
    have r2 := d2.rows
    have r3 := d3.rows
    rw [rown_one] at r2 r3
    have rr : (P.rowns os ++ (one.rown ++ (last.rown ++ s3))).Perm ss := (((r3.append_left _).trans r2).append_left _).trans r1
    have nn := rr.nodup_iff.mpr nd
    have hs := ha.rows
    have hr : (P.op "when" [.nam t0, more, last]).rown = more.rown ++ last.rown := by
      show [] ++ (more.rown ++ (last.rown ++ [])) = _
      rw [List.append_nil]
      rfl
    have key : ∀ L : List Str, L.Sublist (P.rowns os ++ (one.rown ++ (last.rown ++ s3))) ∨ L.Sublist (one.rown ++ (P.rowns os ++ (last.rown ++ s3))) → L.Nodup ∧ ∀ x, x ∈ L → x ∈ ss := fun L h => by
      rcases h with h | h
      · exact ⟨h.nodup nn, fun x m => rr.mem_iff.mp (h.subset m)⟩
      · have sw : (one.rown ++ (P.rowns os ++ (last.rown ++ s3))).Perm (P.rowns os ++ (one.rown ++ (last.rown ++ s3))) := by
          rw [← List.append_assoc, ← List.append_assoc (P.rowns os)]
          exact List.perm_append_comm.append_right _
        have nn2 := sw.nodup_iff.mpr nn
        exact ⟨h.nodup nn2, fun x m => rr.mem_iff.mp (sw.mem_iff.mp (h.subset m))⟩
    have sl : last.rown.Sublist (last.rown ++ s3) := List.sublist_append_left _ _
    have ac := again_rown me t0 as
    cases hmo with
    | call =>
      refine ⟨⟨ft, fc, f3, True.intro⟩, ?_⟩
      rw [hr, ac]
      exact key _ (.inl (hs.append (sl.trans (List.sublist_append_right _ _))))
    | plus =>
      refine ⟨⟨ft, ⟨f2, fc, True.intro⟩, f3, True.intro⟩, ?_⟩
      rw [hr]
      have e : (P.op "plus" [one, again me t0 as]).rown = one.rown ++ P.rowns as := by
        show one.rown ++ ((again me t0 as).rown ++ []) = _
        rw [List.append_nil, ac]
      rw [e, List.append_assoc]
      exact key _ (.inr ((List.Sublist.refl _).append (hs.append sl)))
    | pair =>
      refine ⟨⟨ft, ⟨f2, fc, True.intro⟩, f3, True.intro⟩, ?_⟩
      rw [hr]
      have e : (P.op "pair" [one, again me t0 as]).rown = one.rown ++ P.rowns as := by
        show one.rown ++ ((again me t0 as).rown ++ []) = _
        rw [List.append_nil, ac]
      rw [e, List.append_assoc]
      exact key _ (.inr ((List.Sublist.refl _).append (hs.append sl)))
    | turn =>
      refine ⟨⟨ft, ⟨fc, f2, True.intro⟩, f3, True.intro⟩, ?_⟩
      rw [hr]
      have e : (P.op "plus" [again me t0 as, one]).rown = P.rowns as ++ one.rown := by
        show (again me t0 as).rown ++ (one.rown ++ []) = _
        rw [List.append_nil, ac]
      rw [e, List.append_assoc]
      exact key _ (.inl (hs.append ((List.Sublist.refl _).append sl)))
  | @first f w r ks hm hw hk h8 =>
    have hf : f ∈ W.map (·.1) := by rw [hw]; exact List.mem_cons_self
    have e : (gives (.fn f) (ks.map P.num)).rown = [] := by
      rw [gives_rown]
      show [] ++ P.rowns (ks.map P.num) = []
      rw [List.nil_append]
      clear hk h8
      induction ks with
      | nil => rfl
      | cons k r ih => exact ih
    refine ⟨gives_fit hf (fits_iff.mpr fun a m => ?_), ?_⟩
    · obtain ⟨k, hk, rfl⟩ := List.mem_map.mp m
      have := h8 k hk
      show k.natAbs < 10 ^ 60
      have h60 : (8 : Nat) ≤ 10 ^ 60 := by decide +kernel
      generalize (10 : Nat) ^ 60 = z at h60 ⊢
      omega
    · rw [e]
      exact ⟨List.nodup_nil, fun x m => nomatch m⟩
/-- a program that fits -/
structure Fits (fs : List Fn) (d : P) : Prop where
  len : fs.length ≤ 8
  nm : ∀ g, g ∈ fs → nmOk g.1 ∧ ∀ x, x ∈ g.2.1 → nmOk x
  nd : (fs.map (·.1)).Nodup
  few : ∀ g, g ∈ fnsOf fs d → g.2.1.length ≤ 4
  bd : ∀ g, g ∈ fnsOf fs d → BodyOk g.2.2
  ft : ∀ g, g ∈ fnsOf fs d → g.2.2.fit (fs.map (·.1)) g.2.1
  hid : ∀ g, g ∈ fnsOf fs d → (g.2.1 ++ g.2.2.rown).Nodup
theorem Prog.fits {fs : List Fn} {d : P} (h : Prog fs d) : Fits fs d := by
  obtain ⟨h1, h2, h3⟩ := h.bodies
  obtain ⟨W, e, nd, l8, hW, hf, stk, hs, hb⟩ := h.ex
  have q2 := hb.more (fun q => absurd rfl q) hs.nd
  rw [e] at q2
  have key : ∀ g, g ∈ fnsOf fs d → g.2.1.length ≤ 4 ∧ BodyOk g.2.2 ∧ g.2.2.fit (fs.map (·.1)) g.2.1 ∧ (g.2.1 ++ g.2.2.rown).Nodup := fun g m => by
    rcases List.mem_append.mp m with m | m
    · obtain ⟨w, stk, hm, hw, hs, e2, hb⟩ := (hf g m).ex
      have hme : g.1 ∈ W.map (·.1) := List.mem_map.mpr ⟨_, hm, rfl⟩
      have q := hb.more (fun _ => hme) (hs.nd.sublist (List.drop_sublist _ _))
      rw [e] at q
      refine ⟨(h1 g m).2.1, (h1 g m).2.2.2, q.1, ?_⟩
      have hn := hs.nd
      rw [← List.take_append_drop w stk] at hn
      have hn := List.nodup_append.mp hn
      rw [e2, List.nodup_append]
      rw [e2] at q
      exact ⟨hn.1, q.2.1, fun a ha b hb => hn.2.2 a ha b (q.2.2 b hb)⟩
    · rw [List.mem_singleton.mp m]
      exact ⟨Nat.zero_le _, h2, q2.1, q2.2.1⟩
  exact ⟨h3, fun g m => ⟨(h1 g m).1, (h1 g m).2.2.1⟩, by rw [← e]; exact nd, fun g m => (key g m).1, fun g m => (key g m).2.1, fun g m => (key g m).2.2.1, fun g m => (key g m).2.2.2⟩
end Lz

set_option Elab.async false
set_option linter.all false
set_option maxRecDepth 100000
set_option maxHeartbeats 4000000
/-! The words of parts, programs as texts: plain Lean. -/
namespace Lz
open PySem
def numS (i : Int) : Str := Str.ofString (toString i)
mutual
/-- the words of a part -/
def P.ws : P → List Str
  | .num i => [numS i]
  | .nam x => [("." : Str) ++ x]
  | .fn x => [(":" : Str) ++ x]
  | .op k as => k :: P.wss [] as
  | .lt nm as b => "let" :: numS (nm.length : Nat) :: (P.wss nm as ++ P.ws b)
/-- the words of some parts, names of rows ahead of the first ones -/
def P.wss : List Str → List P → List Str
  | _, [] => []
  | [], a :: as => P.ws a ++ P.wss [] as
  | x :: nm, a :: as => (("." : Str) ++ x) :: (P.ws a ++ P.wss nm as)
end
def preW (nm : List Str) (i : Nat) : List Str := match nm[i]? with
  | some x => [("." : Str) ++ x]
  | none => []
theorem wss_snoc : ∀ (nm : List Str) (as : List P) (a : P), P.wss nm (as ++ [a]) = P.wss nm as ++ (preW nm as.length ++ a.ws)
  | [], [], a => by
    show a.ws ++ P.wss [] [] = [] ++ ([] ++ a.ws)
    show a.ws ++ [] = [] ++ ([] ++ a.ws)
    rw [List.append_nil]; rfl
  | x :: nm, [], a => by
    show (("." : Str) ++ x) :: (a.ws ++ P.wss nm []) = [] ++ ([("." : Str) ++ x] ++ a.ws)
    have e : P.wss nm [] = [] := by cases nm <;> rfl
    rw [e, List.append_nil]; rfl
  | [], b :: as, a => by
    show b.ws ++ P.wss [] (as ++ [a]) = (b.ws ++ P.wss [] as) ++ ([] ++ a.ws)
    rw [wss_snoc [] as a, List.append_assoc]
    rfl
  | x :: nm, b :: as, a => by
    show (("." : Str) ++ x) :: (b.ws ++ P.wss nm (as ++ [a])) = (("." : Str) ++ x) :: (b.ws ++ P.wss nm as) ++ (preW (x :: nm) (as.length + 1) ++ a.ws)
    rw [wss_snoc nm as a]
    have e : preW (x :: nm) (as.length + 1) = preW nm as.length := by
      unfold preW
      rw [List.getElem?_cons_succ]
    rw [e, List.cons_append, List.append_assoc]
theorem preW_of {nm : List Str} {i : Nat} {x : Str} (h : nm[i]? = some x) : preW nm i = [("." : Str) ++ x] := by
  unfold preW
  rw [h]
theorem preW_no {nm : List Str} {i : Nat} (h : nm.length ≤ i) : preW nm i = [] := by
  unfold preW
  rw [List.getElem?_eq_none h]
mutual
theorem ws_len : ∀ t : P, (P.ws t).length + 1 ≤ 3 * t.many
  | .num _ => by show 1 + 1 ≤ 3 * 1; decide
  | .nam _ => by show 1 + 1 ≤ 3 * 1; decide
  | .fn _ => by show 1 + 1 ≤ 3 * 1; decide
  | .op k as => by
    have h := wss_len [] as
    show (P.wss [] as).length + 1 + 1 ≤ 3 * (1 + P.manys as)
    omega
  | .lt nm as b => by
    have h := wss_len nm as
    have h2 := ws_len b
    show (P.wss nm as ++ P.ws b).length + 1 + 1 + 1 ≤ 3 * (1 + (P.manys as + b.many))
    rw [List.length_append]
    omega
theorem wss_len : ∀ (nm : List Str) (as : List P), (P.wss nm as).length ≤ 3 * P.manys as
  | nm, [] => by
    have e : P.wss nm [] = [] := by cases nm <;> rfl
    rw [e]
    exact Nat.zero_le _
  | [], a :: as => by
    have h := wss_len [] as
    have h2 := ws_len a
    show (P.ws a ++ P.wss [] as).length ≤ 3 * (a.many + P.manys as)
    rw [List.length_append]
    omega
  | x :: nm, a :: as => by
    have h := wss_len nm as
    have h2 := ws_len a
    show (P.ws a ++ P.wss nm as).length + 1 ≤ 3 * (a.many + P.manys as)
    rw [List.length_append]
    omega
end
theorem log60 {i : Int} (h : i.natAbs < 10 ^ 60) : i.natAbs.log2 < 1920 := by
  by_cases h0 : i.natAbs = 0
  · rw [h0]
    decide
  · have h1 : (10 : Nat) ^ 60 ≤ 2 ^ 200 := by decide +kernel
    have h2 : i.natAbs.log2 < 200 := (Nat.log2_lt h0).mpr (Nat.lt_of_lt_of_le h h1)
    omega
theorem numS_len {i : Int} (h : i.natAbs < 10 ^ 60) : (numS i).length ≤ 1921 := PyProof.Rows.int_text_len_1921 (log60 h)
theorem small60 {n : Nat} (h : n ≤ 1000) : ((n : Nat) : Int).natAbs < 10 ^ 60 := by
  have h1 : (1000 : Nat) < 10 ^ 60 := by decide +kernel
  have e : ((n : Nat) : Int).natAbs = n := Int.natAbs_natCast n
  rw [e]
  exact Nat.lt_of_le_of_lt h h1
theorem one_name {x : Str} (h : nmOk x) {c : Str} (hc : c.length = 1) : (c ++ x).length ≤ 1921 := by
  rw [Str.length_append, hc]
  have := h.2.1
  omega
theorem kind_len {k : Str} {n : Nat} (h : (k, n) ∈ kinds) : k.length ≤ 1921 := by
  have h0 : kinds.all (fun p => decide (p.1.length ≤ 1921)) = true := by decide +kernel
  exact of_decide_eq_true (List.all_eq_true.mp h0 _ h)
def shortW (l : List Str) : Prop := ∀ w, w ∈ l → w.length ≤ 1921
theorem shortW.app {l m : List Str} (h : shortW l) (k : shortW m) : shortW (l ++ m) := fun w q => (List.mem_append.mp q).elim (h w) (k w)
theorem shortW.cons {x : Str} {m : List Str} (h : x.length ≤ 1921) (k : shortW m) : shortW (x :: m) := fun w q => (List.mem_cons.mp q).elim (fun e => by rw [e]; exact h) (k w)
theorem shortW.nil : shortW [] := fun _ q => nomatch q
mutual
theorem ws_short {F : List Str} : ∀ (t : P) (sc : List Str), t.ok → t.fit F sc → shortW t.ws
  | .num i, _, _, h => .cons (numS_len h) .nil
  | .nam x, _, h, _ => .cons (one_name h (by decide +kernel)) .nil
  | .fn x, _, h, _ => .cons (one_name h (by decide +kernel)) .nil
  | .op k as, sc, h, h2 => .cons (kind_len h.1) (wss_short [] as sc (fun _ q => nomatch q) h.2 h2)
  | .lt nm as b, sc, h, h2 => .cons (by decide +kernel) (.cons (numS_len (small60 (by have := h2.2.1; omega))) ((wss_short nm as (sc ++ nm) h.2.1 h.2.2.1 h2.2.2.1).app (ws_short b (sc ++ nm) h.2.2.2 h2.2.2.2)))
theorem wss_short {F : List Str} : ∀ (nm : List Str) (as : List P) (sc : List Str), (∀ x, x ∈ nm → nmOk x) → P.oks as → P.fits F as sc → shortW (P.wss nm as)
  | nm, [], _, _, _, _ => by
    have e : P.wss nm [] = [] := by cases nm <;> rfl
    rw [e]
    exact .nil
  | [], a :: as, sc, hn, h, h2 => (ws_short a sc h.1 h2.1).app (wss_short [] as sc hn h.2 h2.2)
  | x :: nm, a :: as, sc, hn, h, h2 => .cons (one_name (hn x List.mem_cons_self) (by decide +kernel)) ((ws_short a sc h.1 h2.1).app (wss_short nm as sc (fun y m => hn y (List.mem_cons_of_mem _ m)) h.2 h2.2))
end
theorem sum_le {c : Nat} : ∀ {l : List Str}, (∀ w, w ∈ l → w.length ≤ c) → (l.map (·.length)).sum ≤ c * l.length
  | [], _ => Nat.zero_le _
  | x :: l, h => by
    have h1 := h x List.mem_cons_self
    have h2 := sum_le (l := l) fun w m => h w (List.mem_cons_of_mem _ m)
    show x.length + (l.map (·.length)).sum ≤ c * (l.length + 1)
    rw [Nat.mul_add]
    omega
theorem join_len (s : Str) : ∀ l : List Str, (Str.join s l).length ≤ (l.map (·.length)).sum + l.length * s.length
  | [] => Nat.zero_le _
  | [x] => by
    show x.length ≤ x.length + 0 + 1 * s.length
    omega
  | x :: y :: r => by
    have h := join_len s (y :: r)
    show (x ++ s ++ Str.join s (y :: r)).length ≤ x.length + ((y :: r).map (·.length)).sum + ((y :: r).length + 1) * s.length
    rw [Str.length_append, Str.length_append, Nat.add_mul]
    omega
/-- the text of a part -/
def P.txt (t : P) : Str := Str.join " " t.ws
/-- the words of a function's row -/
def fnW (g : Fn) : List Str := g.1 :: (g.2.1.map (fun x => ("." : Str) ++ x) ++ ("=" : Str) :: g.2.2.ws)
def rowsW (fs : List Fn) (d : P) : List (List Str) := fs.map fnW ++ [("?" : Str) :: d.ws]
def progT (fs : List Fn) (d : P) : Str := Str.join "\n" ((rowsW fs d).map (Str.join " "))
theorem ws_ne : ∀ t : P, ∃ x r, t.ws = x :: r
  | .num _ => ⟨_, _, rfl⟩
  | .nam _ => ⟨_, _, rfl⟩
  | .fn _ => ⟨_, _, rfl⟩
  | .op _ _ => ⟨_, _, rfl⟩
  | .lt _ _ _ => ⟨_, _, rfl⟩
theorem ask_text (d : P) : Str.join " " (("?" : Str) :: d.ws) = ("? " : Str) ++ d.txt := by
  obtain ⟨x, r, e⟩ := ws_ne d
  unfold P.txt
  rw [e]
  show ("?" : Str) ++ " " ++ Str.join " " (x :: r) = _
  rfl
end Lz

set_option Elab.async false
set_option linter.all false
set_option maxRecDepth 100000
set_option maxHeartbeats 4000000
/-! Closed parts, shut ones among them: plain Lean. -/
namespace Lz
open PySem
theorem small9000 {n : Nat} (h : n ≤ 9000) : n < 2 ^ 24 := by
  have : (2 : Nat) ^ 24 = 16777216 := by decide
  omega
def kinds2 : List (Str × Nat) := ("shut", 1) :: kinds
mutual
/-- it is a closed part: kinds, shut ones too, names, functions that are there -/
def P.okS (F : List Str) : P → Prop
  | .num _ => True
  | .nam x => nmOk x
  | .fn x => nmOk x ∧ x ∈ F
  | .op k as => (k, as.length) ∈ kinds2 ∧ P.okSs F as
  | .lt nm as b => nm.length = as.length ∧ (∀ x, x ∈ nm → nmOk x) ∧ P.okSs F as ∧ P.okS F b
def P.okSs (F : List Str) : List P → Prop
  | [] => True
  | a :: as => P.okS F a ∧ P.okSs F as
end
theorem okSs_iff {F : List Str} : ∀ {as : List P}, P.okSs F as ↔ ∀ a, a ∈ as → a.okS F
  | [] => ⟨fun _ _ h => (nomatch h), fun _ => True.intro⟩
  | x :: xs => by
    show (P.okS F x ∧ P.okSs F xs) ↔ _
    rw [okSs_iff]
    refine ⟨fun h d m => ?_, fun h => ⟨h x List.mem_cons_self, fun d m => h d (List.mem_cons_of_mem _ m)⟩⟩
    rcases List.mem_cons.mp m with e | m
    · rw [e]; exact h.1
    · exact h.2 d m
theorem kinds_sub {k : Str} {n : Nat} (h : (k, n) ∈ kinds) : (k, n) ∈ kinds2 := List.mem_cons_of_mem _ h
mutual
theorem okS_of {F : List Str} : ∀ (t : P) (sc : List Str), t.ok → t.fit F sc → t.okS F
  | .num _, _, _, _ => True.intro
  | .nam _, _, h, _ => h
  | .fn _, _, h, k => ⟨h, k⟩
  | .op k as, sc, h, f => ⟨kinds_sub h.1, okSs_of as sc h.2 f⟩
  | .lt nm as b, sc, h, f => ⟨h.1, h.2.1, okSs_of as _ h.2.2.1 f.2.2.1, okS_of b _ h.2.2.2 f.2.2.2⟩
theorem okSs_of {F : List Str} : ∀ (as : List P) (sc : List Str), P.oks as → P.fits F as sc → P.okSs F as
  | [], _, _, _ => True.intro
  | a :: as, sc, h, f => ⟨okS_of a sc h.1 f.1, okSs_of as sc h.2 f.2⟩
end
theorem kind2_str {k : Str} {n : Nat} (h : (k, n) ∈ kinds2) : PyData.strOk k = true := by
  have h0 : kinds2.all (fun p => PyData.strOk p.1) = true := by decide +kernel
  exact List.all_eq_true.mp h0 _ h
theorem kind2_len {k : Str} {n : Nat} (h : (k, n) ∈ kinds2) : 1 ≤ n ∧ n ≤ 3 := by
  have h0 : kinds2.all (fun p => decide (1 ≤ p.2) && decide (p.2 ≤ 3)) = true := by decide +kernel
  have q := List.all_eq_true.mp h0 _ h
  simp only [Bool.and_eq_true, decide_eq_true_eq] at q
  exact q
theorem kind2_plain {k : Str} {n : Nat} (h : (k, n) ∈ kinds2) : k ≠ "let" ∧ k ≠ "number" ∧ k ≠ "name" ∧ k ≠ "fun" := by
  have h0 : kinds2.all (fun p => decide (p.1 ≠ "let") && decide (p.1 ≠ "number") && decide (p.1 ≠ "name") && decide (p.1 ≠ "fun")) = true := by decide +kernel
  have q := List.all_eq_true.mp h0 _ h
  simp only [Bool.and_eq_true, decide_eq_true_eq] at q
  exact ⟨q.1.1.1, q.1.1.2, q.1.2, q.2⟩
theorem give_two {n : Nat} (h : (("give" : Str), n) ∈ kinds2) : n = 2 := by
  have h0 : kinds2.all (fun p => !decide (p.1 = "give") || decide (p.2 = 2)) = true := by decide +kernel
  have q := List.all_eq_true.mp h0 _ h
  simpa using q
mutual
theorem data_layS {F : List Str} : ∀ t : P, t.okS F → t.data.canLay0 = true
  | .num _, _ => by
    show (PyData.tuple [.str "number", .int _]).canLay0 = true
    rw [lay_tup, lay_cons, lay_cons, lay_nil, lay_str]
    simp only [PyData.canLay0]
    decide +kernel
  | .nam x, h => by
    show (PyData.tuple [.str "name", .str x]).canLay0 = true
    rw [lay_tup, lay_cons, lay_cons, lay_nil, lay_str, lay_str, nmOk.strOk (show nmOk x from h)]
    decide +kernel
  | .fn x, h => by
    show (PyData.tuple [.str "fun", .str x]).canLay0 = true
    have h' : nmOk x ∧ x ∈ F := h
    rw [lay_tup, lay_cons, lay_cons, lay_nil, lay_str, lay_str, nmOk.strOk h'.1]
    decide +kernel
  | .op k as, h => by
    show (PyData.tuple (.str k :: P.datas as)).canLay0 = true
    have h' : (k, as.length) ∈ kinds2 ∧ P.okSs F as := h
    rw [lay_tup, lay_cons, lay_str, kind2_str h'.1, datas_layS as h'.2]
    rfl
  | .lt nm as b, h => by
    show (PyData.tuple [.str "let", .tuple (List.zipWith rowD nm (P.datas as)), b.data]).canLay0 = true
    have h' : nm.length = as.length ∧ (∀ x, x ∈ nm → nmOk x) ∧ P.okSs F as ∧ P.okS F b := h
    have hr : PyData.canLayAll0 (List.zipWith rowD nm (P.datas as)) = true := layAll_iff.mpr fun d m => by
      obtain ⟨x, e, hx, he, rfl⟩ := zip_mem m
      have q := layAll_iff.mp (datas_layS as h'.2.2.1) e he
      show (PyData.tuple [.str x, e]).canLay0 = true
      rw [lay_tup, lay_cons, lay_cons, lay_nil, lay_str, nmOk.strOk (h'.2.1 x hx), q]
      rfl
    rw [lay_tup, lay_cons, lay_cons, lay_cons, lay_nil, lay_str, lay_tup, hr, data_layS b h'.2.2.2]
    decide +kernel
theorem datas_layS {F : List Str} : ∀ as : List P, P.okSs F as → PyData.canLayAll0 (P.datas as) = true
  | [], _ => lay_nil
  | a :: as, h => by
    have h' : P.okS F a ∧ P.okSs F as := h
    show PyData.canLayAll0 (a.data :: P.datas as) = true
    rw [lay_cons, data_layS a h'.1, datas_layS as h'.2]
    rfl
end
theorem datas_shapedS {F : List Str} {as : List P} (h : P.okSs F as) (hd : P.deeps as ≤ 20) : SeqAt.shaped (.list (P.datas as)) = true := by
  have h1 := datas_depth as
  have e : (PyData.list (P.datas as)).depth = PyData.depthAll (P.datas as) + 1 := by simp only [PyData.depth]; try omega
  have e2 : (PyData.list (P.datas as)).canLay0 = PyData.canLayAll0 (P.datas as) := by rw [PyData.canLay0]
  unfold SeqAt.shaped
  rw [e2, datas_layS as h, Bool.true_and]
  exact decide_eq_true (by omega)
/-- the kind of a part -/
def P.hd : P → Str
  | .num _ => "number"
  | .nam _ => "name"
  | .fn _ => "fun"
  | .op k _ => k
  | .lt _ _ _ => "let"
def P.tl : P → List PyData
  | .num i => [.int i]
  | .nam x => [.str x]
  | .fn x => [.str x]
  | .op _ as => P.datas as
  | .lt nm as b => [.tuple (List.zipWith rowD nm (P.datas as)), b.data]
theorem data_hd : ∀ t : P, t.data = .tuple (.str t.hd :: t.tl)
  | .num _ => rfl
  | .nam _ => rfl
  | .fn _ => rfl
  | .op _ _ => rfl
  | .lt _ _ _ => rfl
theorem hd_give {F : List Str} {t : P} (h : t.okS F) (e : t.hd = "give") : ∃ a b, t = .op "give" [a, b] := by
  cases t with
  | num i => exact absurd (show ("number" : Str) = "give" from e) (by decide +kernel)
  | nam i => exact absurd (show ("name" : Str) = "give" from e) (by decide +kernel)
  | fn i => exact absurd (show ("fun" : Str) = "give" from e) (by decide +kernel)
  | lt nm as b => exact absurd (show ("let" : Str) = "give" from e) (by decide +kernel)
  | op k as =>
    obtain rfl : k = "give" := e
    have h2 := give_two (show (("give" : Str), as.length) ∈ kinds2 ∧ P.okSs F as from h).1
    match as, h2 with
    | [a, b], _ => exact ⟨a, b, rfl⟩
theorem hd_fun {F : List Str} {t : P} (h : t.okS F) (e : t.hd = "fun") : ∃ f, t = .fn f ∧ f ∈ F := by
  cases t with
  | num i => exact absurd (show ("number" : Str) = "fun" from e) (by decide +kernel)
  | nam i => exact absurd (show ("name" : Str) = "fun" from e) (by decide +kernel)
  | fn i => exact ⟨i, rfl, (show nmOk i ∧ i ∈ F from h).2⟩
  | lt nm as b => exact absurd (show ("let" : Str) = "fun" from e) (by decide +kernel)
  | op k as => exact absurd e (kind2_plain (show (k, as.length) ∈ kinds2 ∧ P.okSs F as from h).1).2.2.2
/-- so many gives, and what stands at their head -/
inductive Spine : P → Nat → P → Prop
  | stop {t : P} : t.hd ≠ "give" → Spine t 0 t
  | give {a b h : P} {n : Nat} : Spine a n h → Spine (.op "give" [a, b]) (n + 1) h
theorem spine_ex {F : List Str} : ∀ (n : Nat) (t : P), t.many ≤ n → t.okS F → ∃ k h, Spine t k h ∧ h.okS F ∧ h.hd ≠ "give"
  | 0, t, h, _ => by
    have := many_pos t
    omega
  | n + 1, t, h, ok => by
    by_cases e : t.hd = "give"
    · obtain ⟨a, b, rfl⟩ := hd_give ok e
      have hm : 1 + (a.many + (b.many + 0)) ≤ n + 1 := h
      have oa : a.okS F := (show _ ∧ (P.okS F a ∧ _) from ok).2.1
      obtain ⟨k, hh, h1, h2, h3⟩ := spine_ex n a (by omega) oa
      exact ⟨k + 1, hh, .give h1, h2, h3⟩
    · exact ⟨0, t, .stop e, ok, e⟩
/-- how many things the function of this name wants -/
def wantsOf (fs : List Fn) (f : Str) : Nat := match fs.find? (fun g => g.1 == f) with
  | some g => g.2.1.length
  | none => 0
theorem wants_at : ∀ {fs : List Fn} {i : Nat} {g : Fn}, (fs.map (·.1)).Nodup → fs[i]? = some g → wantsOf fs g.1 = g.2.1.length
  | [], i, g, _, h => by simp at h
  | f :: fs, 0, g, _, h => by
    obtain rfl : f = g := Option.some.inj h
    unfold wantsOf
    rw [List.find?_cons_of_pos (by simp)]
  | f :: fs, i + 1, g, nd, h => by
    have h' : fs[i]? = some g := h
    rw [List.map_cons, List.nodup_cons] at nd
    have hne : f.1 ≠ g.1 := fun e => nd.1 (List.mem_map.mpr ⟨g, List.mem_of_getElem? h', e.symm⟩)
    have q := wants_at nd.2 h'
    unfold wantsOf at q ⊢
    rw [List.find?_cons_of_neg (by simpa using hne)]
    exact q
def worthB (fs : List Fn) (n : Nat) (h : P) : Bool := match h with
  | .fn f => decide (n < wantsOf fs f)
  | h => decide (n = 0) && (decide (h.hd = "number") || decide (h.hd = "pair"))
theorem worth_fn (fs : List Fn) (n : Nat) (f : Str) : worthB fs n (.fn f) = decide (n < wantsOf fs f) := rfl
theorem worth_not {fs : List Fn} {n : Nat} {h : P} (e : h.hd ≠ "fun") : worthB fs n h = (decide (n = 0) && (decide (h.hd = "number") || decide (h.hd = "pair"))) := by
  cases h with
  | fn f => exact absurd rfl e
  | num _ => rfl
  | nam _ => rfl
  | op _ _ => rfl
  | lt _ _ _ => rfl
theorem wants_le {fs : List Fn} {f : Str} {m : Nat} (h : ∀ g, g ∈ fs → g.2.1.length ≤ m) : wantsOf fs f ≤ m := by
  unfold wantsOf
  cases e : fs.find? (fun g => g.1 == f) with
  | none => exact Nat.zero_le _
  | some g => exact h g (List.mem_of_find?_eq_some e)
/-- of what is within a part there are fewer -/
theorem inn_room {t a : P} (m : a ∈ t.inn) : a.many + t.inn.length ≤ t.many := by
  have h : ∀ as : List P, a ∈ as → a.many + as.length ≤ P.manys as + 1 := fun as => by
    induction as with
    | nil => exact fun m => nomatch m
    | cons x r ih =>
      intro m
      show a.many + (r.length + 1) ≤ x.many + P.manys r + 1
      have h1 := many_pos x
      have h2 := len_manys r
      rcases List.mem_cons.mp m with e | m
      · subst e; omega
      · have := ih m
        omega
  have h1 := h _ m
  rw [many_inn t]
  omega
theorem manys_le {c : Nat} : ∀ {as : List P}, (∀ a, a ∈ as → a.many ≤ c) → P.manys as ≤ c * as.length
  | [], _ => Nat.zero_le _
  | x :: r, h => by
    show x.many + P.manys r ≤ c * (r.length + 1)
    have h1 := h x List.mem_cons_self
    have h2 := manys_le (as := r) fun a m => h a (List.mem_cons_of_mem _ m)
    rw [Nat.mul_add]
    omega
end Lz

set_option Elab.async false
set_option linter.all false
set_option maxRecDepth 100000
set_option maxHeartbeats 4000000
/-! Parts and programs as they lie in the heap, of whatever kinds. -/
namespace Lz
open PySem PySem.Spec PyProof.Rows L2
section
variable {K : PySem.W.Frag} {H : Hp}
theorem hd_at {v : V} {t : Lz.P} (h : Dp K H v t.data) : ∃ a xs, v = .ref a ∧ SqT K H a (.str t.hd :: xs) ∧ DpAll K H xs t.tl := by
  rw [data_hd] at h
  obtain ⟨a, xs, rfl, ht, hx⟩ := h.tup_of
  cases hx with
  | cons h1 h2 =>
    cases h1
    exact ⟨a, _, rfl, ht, h2⟩
theorem op_atU {v : V} {k : Str} {as : List Lz.P} (h : Dp K H v (Lz.P.op k as).data) : ∃ a xs, v = .ref a ∧ SqT K H a (.str k :: xs) ∧ DpAll K H xs (Lz.P.datas as) := hd_at (t := .op k as) h
theorem str_at {v : V} {t : Lz.P} {x : Str} (h : Dp K H v t.data) (e : t.tl = [.str x]) : ∃ a, v = .ref a ∧ SqT K H a [.str t.hd, .str x] := by
  obtain ⟨a, xs, rfl, ht, hx⟩ := hd_at h
  rw [e] at hx
  cases hx with
  | cons h1 h2 =>
    cases h1
    cases h2
    exact ⟨a, rfl, ht⟩
theorem give_at {v : V} {a b : Lz.P} (h : Dp K H v (Lz.P.op "give" [a, b]).data) : ∃ p va vb, v = .ref p ∧ SqT K H p [.str "give", va, vb] ∧ Dp K H va a.data ∧ Dp K H vb b.data := by
  obtain ⟨p, xs, rfl, ht, hx⟩ := op_atU h
  cases hx with
  | cons h1 h2 =>
    cases h2 with
    | cons h3 h4 =>
      cases h4
      exact ⟨p, _, _, rfl, ht, h1, h3⟩
theorem let_atU {v : V} {nm : List Str} {as : List Lz.P} {b : Lz.P} (h : Dp K H v (Lz.P.lt nm as b).data) : ∃ a r rs vb, v = .ref a ∧ SqT K H a [.str "let", .ref r, vb] ∧ SqT K H r rs ∧ DpAll K H rs (List.zipWith rowD nm (Lz.P.datas as)) ∧ Dp K H vb b.data := by
  obtain ⟨a, xs, rfl, ht, hx⟩ := hd_at h
  cases hx with
  | cons h3 h4 =>
    obtain ⟨r, rs, rfl, hr, hrs⟩ := h3.tup_of
    cases h4 with
    | cons h5 h6 =>
      cases h6
      exact ⟨a, r, rs, _, rfl, ht, hr, hrs, h5⟩
theorem prog_at {v : V} {fs : List Fn} {d : Lz.P} (h : Dp K H v (progD fs d)) : ∃ pr ft rs vd, v = .ref pr ∧ SqT K H pr [.ref ft, vd] ∧ SqT K H ft rs ∧ DpAll K H rs (fs.map fD) ∧ Dp K H vd d.data := by
  obtain ⟨pr, xs, rfl, hpr, hxs⟩ := Dp.tup_of (ds := [.tuple (fs.map fD), d.data]) h
  cases hxs with
  | cons h1 h2 =>
    obtain ⟨ft, rs, rfl, hft, hrs⟩ := h1.tup_of
    cases h2 with
    | cons h3 h4 =>
      cases h4
      exact ⟨pr, ft, rs, _, rfl, hpr, hft, hrs, h3⟩
theorem strs_of : ∀ {ss : List Str} {rs : List V}, DpAll K H rs (ss.map .str) → rs = ss.map V.str
  | [], _, h => by cases h; rfl
  | s :: r, _, h => by
    cases h with
    | cons a b =>
      cases a
      rw [strs_of b]
      rfl
/-- a function's tuple -/
theorem fn_atU {xs : List V} {gs : List Fn} {i : Nat} {x : V} (h : DpAll K H xs (gs.map fD)) (hi : xs[i]? = some x) : ∃ g t r u, gs[i]? = some g ∧ x = .ref t ∧ SqT K H t [.str g.1, .ref r, u] ∧ SqT K H r (g.2.1.map V.str) ∧ Dp K H u g.2.2.data := by
  obtain ⟨e, he, hd⟩ := h.at hi
  rw [List.getElem?_map] at he
  obtain ⟨g, hg, rfl⟩ : ∃ g, gs[i]? = some g ∧ e = fD g := by
    cases e1 : gs[i]? with
    | none => rw [e1] at he; cases he
    | some y => rw [e1] at he; exact ⟨y, rfl, (Option.some.inj he).symm⟩
  obtain ⟨t, zs, rfl, ht, hzs⟩ := Dp.tup_of (ds := [.str g.1, .tuple (g.2.1.map .str), g.2.2.data]) hd
  cases hzs with
  | cons h1 h2 =>
    cases h1
    cases h2 with
    | cons h3 h4 =>
      obtain ⟨r, rs, rfl, hr, hrs⟩ := h3.tup_of
      rw [strs_of hrs] at hr
      cases h4 with
      | cons h5 h6 =>
        cases h6
        exact ⟨g, t, r, _, hg, rfl, ht, hr, h5⟩
theorem part_atU {xs : List V} {ts : List Lz.P} {i : Nat} {v : V} (h : DpAll K H xs (Lz.P.datas ts)) (hi : xs[i]? = some v) : ∃ d, ts[i]? = some d ∧ Dp K H v d.data := by
  obtain ⟨e, he, hd⟩ := h.at hi
  rw [datas_map, List.getElem?_map] at he
  cases ha : ts[i]? with
  | none => rw [ha] at he; cases he
  | some d =>
    rw [ha] at he
    obtain rfl : d.data = e := Option.some.inj he
    exact ⟨d, rfl, hd⟩
theorem row_atU {rs : List V} {nm : List Str} {as : List Lz.P} {i : Nat} {v : V} (h : DpAll K H rs (List.zipWith rowD nm (Lz.P.datas as))) (hi : rs[i]? = some v) : ∃ (t : Addr) (x : Str) (u : V) (d : Lz.P), v = .ref t ∧ SqT K H t [.str x, u] ∧ nm[i]? = some x ∧ as[i]? = some d ∧ Dp K H u d.data := by
  obtain ⟨e, he, hd⟩ := h.at hi
  rw [List.getElem?_zipWith] at he
  cases hx : nm[i]? with
  | none => rw [hx] at he; cases he
  | some x =>
    rw [hx, datas_map, List.getElem?_map] at he
    cases ha : as[i]? with
    | none => rw [ha] at he; cases he
    | some d =>
      rw [ha] at he
      obtain rfl : rowD x d.data = e := Option.some.inj he
      obtain ⟨t, xs, rfl, ht, hxs⟩ := Dp.tup_of (ds := [.str x, d.data]) hd
      cases hxs with
      | cons h1 h2 =>
        cases h1
        cases h2 with
        | cons h3 h4 =>
          cases h4
          exact ⟨t, x, _, d, rfl, ht, rfl, rfl, h3⟩
end
theorem cut_tlU (x : V) (xs : List V) : cutV (x :: xs) (some 1) none = xs := by
  unfold cutV
  rw [HT.sIx_none, show HT.sIx (x :: xs).length 0 (some 1) = min 1 (x :: xs).length from HT.sIx_nat _ _ 1]
  have e : min 1 (x :: xs).length = 1 := by rw [List.length_cons]; omega
  rw [e]
  exact List.take_of_length_le (by show xs.length ≤ (x :: xs).length - 1; rw [List.length_cons]; omega)
theorem not_wholeU (x : V) (xs : List V) : ¬ (HT.sIx (x :: xs).length 0 (some 1) = 0 ∧ HT.sIx (x :: xs).length (x :: xs).length none = (x :: xs).length) := fun h => by
  have e := h.1
  rw [show HT.sIx (x :: xs).length 0 (some 1) = min 1 (x :: xs).length from HT.sIx_nat _ _ 1, List.length_cons] at e
  omega
theorem inU (x : Str) : ∀ xs : List Str, inV (.str x) (xs.map V.str) = decide (x ∈ xs)
  | [] => by
    show false = _
    rw [decide_eq_false (fun m => nomatch m)]
  | y :: r => by
    have e : inV (.str x) ((y :: r).map V.str) = ((y == x) || inV (.str x) (r.map V.str)) := rfl
    rw [e, inU x r, Bool.eq_iff_iff, Bool.or_eq_true, beq_iff_eq, decide_eq_true_iff, decide_eq_true_iff, List.mem_cons]
    exact ⟨fun h => h.elim (fun h => .inl h.symm) .inr, fun h => h.elim (fun h => .inl h.symm) .inr⟩
theorem flatU (xs : List Str) : (xs.map V.str).all flatV = true := by
  rw [List.all_eq_true]
  intro z hz
  obtain ⟨s, _, rfl⟩ := List.mem_map.mp hz
  rfl
theorem progU_fz (fs : List Fn) (d : Lz.P) : fz (progD fs d) = true := by
  show (fzAll (fs.map fD) && (fz d.data && true)) = true
  rw [show fzAll (fs.map fD) = true from fzAll_iff.mpr fun e m => by
    obtain ⟨f, _, rfl⟩ := List.mem_map.mp m
    show (true && (fzAll (f.2.1.map .str) && (fz f.2.2.data && true))) = true
    rw [strs_fz, data_fz]
    rfl, data_fz]
  rfl
theorem fdU_fz (fs : List Fn) : fzAll (fs.map fD) = true := fzAll_iff.mpr fun e m => by
  obtain ⟨f, _, rfl⟩ := List.mem_map.mp m
  show (true && (fzAll (f.2.1.map .str) && (fz f.2.2.data && true))) = true
  rw [strs_fz, data_fz]
  rfl
theorem flenU {fs : List Fn} {d : Lz.P} (h : PrOk fs d) : (fnsOf fs d).length ≤ 9 := by
  have := h.len
  show (fs ++ [askedFn d]).length ≤ 9
  rw [List.length_append, List.length_singleton]
  omega
theorem PrOk.ndf {fs : List Fn} {d : Lz.P} (h : PrOk fs d) : (fs.map (·.1)).Nodup := by
  have q := h.nd
  unfold fnsOf at q
  rw [List.map_append, List.nodup_append] at q
  exact q.1
theorem fns_get {fs : List Fn} {d : Lz.P} {i : Nat} {g : Fn} (h : fs[i]? = some g) : (fnsOf fs d)[i]? = some g := by
  unfold fnsOf
  rw [List.getElem?_append_left (List.getElem?_eq_some_iff.mp h).1]
  exact h
theorem fn_get {fs : List Fn} {f : Str} (h : f ∈ fs.map (·.1)) : ∃ (i : Nat) (g : Fn), fs[i]? = some g ∧ g.1 = f := by
  obtain ⟨g, hg, rfl⟩ := List.mem_map.mp h
  obtain ⟨i, hi⟩ := List.mem_iff_getElem?.mp hg
  exact ⟨i, g, hi, rfl⟩
end Lz

set_option Elab.async false
set_option linter.all false
set_option maxRecDepth 100000
set_option maxHeartbeats 8000000
namespace Lz
open PySem PySem.Spec PyProof.Rows L2
abbrev beyond : Int := 1000000000000000000000000000000000000000000000000000000000000
theorem beyond_pow : ((10 ^ 60 : Nat) : Int) = beyond := by decide +kernel
/-- the numbers that stand in the module -/
structure Ut (mg : Str → Option Value) : Prop where
  letters : ∃ t, mg "LETTERS" = some (.str letters t)
  l : ∃ t, mg "MOST_LETTERS" = some (.int 8 t)
  r : ∃ t, mg "MOST_ROWS" = some (.int 4 t)
  t : ∃ t, mg "MOST_THINGS" = some (.int 4 t)
  f : ∃ t, mg "MOST_FUNCTIONS" = some (.int 8 t)
  p : ∃ t, mg "MOST_PARTS" = some (.int 60 t)
  d : ∃ t, mg "MOST_DEEP" = some (.int 12 t)
  b : ∃ t, mg "BEYOND" = some (.int beyond t)
structure Bu (mg : Str → Option Value) : Prop extends Bt mg where
  bool : mg "bool" = none
  str : mg "str" = none
  all : mg "all" = none
  enumerate : mg "enumerate" = none
/-- how many parts each kind has -/
structure PN (K : PySem.W.Frag) (pd : Addr) : Prop where
  op : ∀ k n, (k, n) ∈ kinds → ∃ t, PySem.W.nsIn K pd k = some (some (.int (n : Nat) t))
theorem ix_kdK {X : Cx} {K : PySem.W.Frag} {d : Addr} {es : Array DictEntry} {n : Nat} (h : X.K = K) (D : KDict K X.w d es n) : IxR X (fun x y H Q => ∃ (z : Str) (u0 : Value) (v0 : V), x = .ref d ∧ y = .str z ∧ PySem.W.nsIn K d z = some (some u0) ∧ RelV v0 u0 ∧ Q v0 H) := by
  subst h
  intro value slice pins s σ H x y v u Q I rx ry h hs
  obtain ⟨z, u0, v0, rfl, rfl, e, r, q⟩ := h
  exact ix_kdict value slice pins s σ H _ _ v u Q I rx ry ⟨d, z, v0, rfl, rfl, ⟨es, n, u0, D.at_, D.lit, e, r⟩, q⟩ hs
theorem tyT {K : PySem.W.Frag} {H : Hp} {a : Addr} {xs : List V} (h : SqT K H a xs) : TyX K H (.ref a) (.type "tuple") := by
  rcases h with (h | ⟨o, h⟩) | ⟨o, its, n, h, h2, _⟩
  · exact .base (.tup h)
  · exact .fTuple h
  · exact .kTuple h h2
def spTupOf (K : PySem.W.Frag) : Sp := fun vs H Q _ => ∃ (a : Addr) (xs : List V), vs = [.ref a, .int (xs.length : Nat)] ∧ SqT K H a xs ∧ Q (.bl true) H
def spIsName : Sp := fun vs H Q _ => ∃ x : Str, vs = [.str x] ∧ nmOk x ∧ ∀ H', Kp [] H H' → Q (.bl true) H'
def spWholeI : Sp := fun vs H Q _ => ∃ i : Int, vs = [.int i] ∧ Q (.bl true) H
def spFitsI : Sp := fun vs H Q _ => ∃ i : Int, vs = [.int i] ∧ Q (.bl (decide ((if i < 0 then -i else i) < beyond))) H
def spIsNum : Sp := fun vs H Q _ => ∃ i : Int, vs = [.int i] ∧ i.natAbs < 10 ^ 60 ∧ Q (.bl true) H
def spRows (K : PySem.W.Frag) : Sp := fun vs H Q _ => ∃ (r : Addr) (rs : List V) (nm : List Str) (as : List Lz.P), vs = [.ref r] ∧ SqT K H r rs ∧ DpAll K H rs (List.zipWith rowD nm (Lz.P.datas as)) ∧ nm.length = as.length ∧ 1 ≤ nm.length ∧ nm.length ≤ 4 ∧ (∀ x, x ∈ nm → nmOk x) ∧ ∀ H', Kp [] H H' → Q (.bl true) H'
def spSelf (K : PySem.W.Frag) : Sp := fun vs H Q _ => ∃ (v : V) (t : Lz.P) (F sc : List Str), vs = [v] ∧ Dp K H v t.data ∧ t.ok ∧ t.fit F sc ∧ ∀ H', Kp [] H H' → Q (.bl true) H'
/-- a row's tuple, its name among the names -/
theorem row_at2 {K : PySem.W.Frag} {H : Hp} {rs : List V} {nm : List Str} {as : List Lz.P} {i : Nat} {v : V} (h : DpAll K H rs (List.zipWith rowD nm (Lz.P.datas as))) (hi : rs[i]? = some v) : ∃ (x : Str) (t : Addr) (u : V), nm[i]? = some x ∧ v = .ref t ∧ SqT K H t [.str x, u] := by
  obtain ⟨e, he, hd⟩ := h.at hi
  rw [List.getElem?_zipWith] at he
  cases hx : nm[i]? with
  | none => rw [hx] at he; cases he
  | some x =>
    rw [hx] at he
    cases hy : (Lz.P.datas as)[i]? with
    | none => rw [hy] at he; cases he
    | some y =>
      rw [hy] at he
      obtain rfl : rowD x y = e := Option.some.inj he
      obtain ⟨t, zs, rfl, ht, hzs⟩ := Dp.tup_of (ds := [.str x, y]) hd
      cases hzs with
      | cons h1 h2 =>
        cases h1
        cases h2 with
        | cons h3 h4 =>
          cases h4
          exact ⟨x, t, _, rfl, rfl, ht⟩
theorem in_letters (c : Nat) (h : 97 ≤ c ∧ c ≤ 122) : (!(Builtin.Str.occurrences letters ⟨#[c]⟩ 0 letters.length 1).isEmpty) = true := by
  have h : ∀ j, j < 26 → (!(Builtin.Str.occurrences letters ⟨#[97 + j]⟩ 0 letters.length 1).isEmpty) = true := by decide +kernel
  have q := h (c - 97) (by omega)
  rwa [show 97 + (c - 97) = c by omega] at q
theorem all_true : ∀ k : Nat, (List.replicate k true).all id = true
  | 0 => rfl
  | k + 1 => by
    rw [List.replicate_succ]
    exact all_true k
section
variable {P : Program} {w : World} {K : PySem.W.Frag} {mg : Str → Option Value} {base : Heap} {f : Addr} {fd : FuncData}
abbrev sIsTupleOf : Stmt := topS 12
theorem scIsTupleOf : FnScope ["thing", "many"] ["thing", "many"] (defScope sIsTupleOf) := ⟨rfl, rfl, rfl, by decide +kernel, rfl, by decide +kernel, by decide +kernel⟩
theorem ok_tupOf (F : Fun K "is_tuple_of" "is_tuple_of" sIsTupleOf f fd) (B : Bu mg) : FnOk P w K mg base CX0 1 f fd ["thing", "many"] (spTupOf K) := by
  have mis := B.isinstance
  have mtup := B.tuple
  have ml := B.len
  refine F.ok scIsTupleOf (fun vs H Q E h => ?_) (fun cdv A outer s H vs Q E hr h => ?_)
  · obtain ⟨a, xs, rfl, _⟩ := h
    rfl
  obtain ⟨a, xs, rfl, hx, q⟩ := h
  refine ⟨_, (pss_one (ps_ret (pe_and (pe_callB (call_isK (K := K) rfl) (by rfl) mis (by decide +kernel) (pa_cons (pv 0) (pa_cons (pe_bltn (v := .ty "tuple") (by rfl) mtup (by decide +kernel) rfl) pa_nil))) (pe_one (pe_cmpR op_eq (pe_callB (call_lenK (K := K) rfl) (by rfl) ml PySem.boot_len (pa_cons (pv 0) pa_nil)) (pv 1) (nomark _)))))), ?_⟩
  refine ⟨_, rfl, .ref a, .ty "tuple", .type "tuple", .type "tuple", true, rfl, .ty _, tyT hx, kit_ty (by decide +kernel), ?_⟩
  refine ⟨true, rfl, ?_⟩
  refine ⟨_, rfl, a, xs, rfl, .inr hx, _, rfl, rfl, ?_⟩
  rw [decide_eq_true (rfl : V.int (xs.length : Nat) = V.int (xs.length : Nat))]
  exact q
abbrev sIsName : Stmt := topS 29
theorem scIsName : FnScope ["thing", "sign"] ["thing"] (defScope sIsName) := ⟨rfl, rfl, rfl, by decide +kernel, rfl, by decide +kernel, by decide +kernel⟩
theorem ok_name (F : Fun K "is_name" "is_name" sIsName f fd) (B : Bu mg) (U : Ut mg) : FnOk P w K mg base CX0 1 f fd ["thing"] spIsName := by
  have mis := B.isinstance
  have mstr := B.str
  have mall := B.all
  have ml := B.len
  obtain ⟨_, mLETTERS⟩ := U.letters
  obtain ⟨_, mMOST_LETTERS⟩ := U.l
  refine F.ok scIsName (fun vs H Q E h => ?_) (fun cdv A outer s H vs Q E hr h => ?_)
  · obtain ⟨x, rfl, _⟩ := h
    rfl
  obtain ⟨x, rfl, ⟨n1, n8, hc⟩, q⟩ := h
  refine ⟨_, (pss_cons (ps_if (PW.pt (pw_or (pt_not (pt_truthK (K := K) rfl (pe_callB (call_isK (K := K) rfl) (by rfl) mis (by decide +kernel) (pa_cons (pv 0) (pa_cons (pe_bltn (v := .ty "str") (by rfl) mstr (by decide +kernel) rfl) pa_nil))) (fun _ => rfl))) (pw_or1 (pt_not (pt_chain op_le op_le pe_int (pe_callB call_len_str (by rfl) ml PySem.boot_len (pa_cons (pv 0) pa_nil)) (pe_glob (v := .int 8) (by rfl) mMOST_LETTERS ⟨_, rfl⟩)))))) (pss_one (ps_ret pe_bl)) pss_nil)
    (pss_one (ps_ret (pe_callB (call_allK (K := K) rfl rfl) (by rfl) mall (by decide +kernel) (pa_cons (pe_lc (own := [("sign", 1)]) rfl scIsName.nd (pi_str (pv 0)) (blkOk_by (N := ["thing", "sign"]) (sc := defScope sIsName) (by decide +kernel)) (fun _ _ _ _ _ => (pg_name (i := 1) scIsName.nd rfl (.inl rfl))) (fun _ _ _ _ _ => pts_nil) (fun _ _ _ _ _ => (pe_cmpR op_in_str (pv 1) (pe_glob (v := .str letters) (by rfl) mLETTERS ⟨_, rfl⟩) rfl))) pa_nil))))), ?_⟩
  refine ⟨_, rfl, .str x, .ty "str", .type "str", .type "str", true, rfl, .ty _, .base (.str x), kit_ty (by decide +kernel), true, rfl, ?_⟩
  refine ⟨_, rfl, x, rfl, Nat.le_of_lt (small1000 (by omega)), _, _, rfl, rfl, _, rfl, ?_⟩
  rw [if_pos (decide_eq_true (show (1 : Int) ≤ (x.length : Nat) by omega))]
  refine ⟨_, _, rfl, rfl, _, rfl, ?_⟩
  rw [decide_eq_true (show ((x.length : Nat) : Int) ≤ 8 by omega)]
  refine ⟨_, rfl, x, rfl, fun D hD => ?_⟩
  refine lc_it (walk_str (z := x)) (fun i H' => Kp [] H H' ∧ H' D = some (.lst ((List.replicate i true).map V.bl)))
    ⟨Kp.new hD, upd_same⟩ (fun i H' _ _ => True.intro) ?_ ?_
  · rintro i y H1 H2 hi ⟨k1, h1⟩ ⟨rfl, c, hcx, rfl⟩
    have hcm : c ∈ x.cps.toList := by
      have := Array.mem_of_getElem? hcx
      simpa using this
    refine ⟨rfl, ?_⟩
    refine ⟨_, rfl, _, _, rfl, rfl, ?_⟩
    refine ⟨_, h1, ?_, k1.mut hD, ?_⟩
    · rw [List.length_map, List.length_replicate]
      have : x.cps.size = x.length := rfl
      exact small1000 (by omega)
    · rw [upd_same, in_letters c (hc c hcm), List.replicate_succ', List.map_append]
      rfl
  · rintro H1 ⟨k1, h1⟩
    refine ⟨D, _, rfl, SqL.of h1, ?_⟩
    rw [all_true]
    exact q H1 k1
abbrev sIsWhole : Stmt := topS 11
theorem scIsWhole : FnScope ["thing"] ["thing"] (defScope sIsWhole) := ⟨rfl, rfl, rfl, by decide +kernel, rfl, by decide +kernel, by decide +kernel⟩
theorem ok_whI (F : Fun K "is_whole" "is_whole" sIsWhole f fd) (B : Bu mg) : FnOk P w K mg base CX0 1 f fd ["thing"] spWholeI := by
  have mis := B.isinstance
  have mint := B.int
  have mbool := B.bool
  refine F.ok scIsWhole (fun vs H Q E h => ?_) (fun cdv A outer s H vs Q E hr h => ?_)
  · obtain ⟨x, rfl, _⟩ := h
    rfl
  obtain ⟨i, rfl, q⟩ := h
  refine ⟨_, (pss_one (ps_ret (pe_and (pe_callB (call_isK (K := K) rfl) (by rfl) mis (by decide +kernel) (pa_cons (pv 0) (pa_cons (pe_bltn (v := .ty "int") (by rfl) mint (by decide +kernel) rfl) pa_nil))) (pe_one (pe_not (pe_callB (call_isK (K := K) rfl) (by rfl) mis (by decide +kernel) (pa_cons (pv 0) (pa_cons (pe_bltn (v := .ty "bool") (by rfl) mbool (by decide +kernel) rfl) pa_nil)))))))), ?_⟩
  refine ⟨_, rfl, .int i, .ty "int", .type "int", .type "int", true, rfl, .ty _, .base (.int i), kit_ty (by decide +kernel), true, rfl, ?_⟩
  refine ⟨_, rfl, .int i, .ty "bool", .type "int", .type "bool", false, rfl, .ty _, .base (.int i), kit_ty (by decide +kernel), false, rfl, ?_⟩
  exact q
abbrev sFits : Stmt := topS 9
theorem scFits : FnScope ["n"] ["n"] (defScope sFits) := ⟨rfl, rfl, rfl, by decide +kernel, rfl, by decide +kernel, by decide +kernel⟩
theorem ok_fitI (F : Fun K "fits" "fits" sFits f fd) (B : Bu mg) (U : Ut mg) : FnOk P w K mg base CX0 1 f fd ["n"] spFitsI := by
  have mabs := B.abs
  obtain ⟨_, mBEYOND⟩ := U.b
  refine F.ok scFits (fun vs H Q E h => ?_) (fun cdv A outer s H vs Q E hr h => ?_)
  · obtain ⟨x, rfl, _⟩ := h
    rfl
  obtain ⟨i, rfl, q⟩ := h
  refine ⟨_, (pss_one (ps_ret (pe_cmpR op_lt (pe_callB call_abs (by rfl) mabs (by decide +kernel) (pa_cons (pv 0) pa_nil)) (pe_glob (v := .int beyond) (by rfl) mBEYOND ⟨_, rfl⟩) (nomark _)))), ?_⟩
  refine ⟨_, rfl, i, rfl, _, _, rfl, rfl, ?_⟩
  exact q
abbrev sIsNumber : Stmt := topS 30
theorem scIsNumber : FnScope ["thing"] ["thing"] (defScope sIsNumber) := ⟨rfl, rfl, rfl, by decide +kernel, rfl, by decide +kernel, by decide +kernel⟩
theorem ok_num (F : Fun K "is_number" "is_number" sIsNumber f fd) (CIsWhole : C8.Cal P w K mg base 1 "is_whole" spWholeI []) (CFits : C8.Cal P w K mg base 1 "fits" spFitsI []) : FnOk P w K mg base CX0 2 f fd ["thing"] spIsNum := by
  refine F.ok scIsNumber (fun vs H Q E h => ?_) (fun cdv A outer s H vs Q E hr h => ?_)
  · obtain ⟨x, rfl, _⟩ := h
    rfl
  obtain ⟨i, rfl, hi, q⟩ := h
  refine ⟨_, (pss_one (ps_ret (pe_and (C8.pe_c CIsWhole hr (by first | decide | omega) (by rfl) (pa_cons (pv 0) pa_nil)) (pe_one (C8.pe_c CFits hr (by first | decide | omega) (by rfl) (pa_cons (pv 0) pa_nil)))))), ?_⟩
  refine ⟨_, rfl, i, rfl, true, rfl, ?_⟩
  refine ⟨_, rfl, i, rfl, ?_⟩
  have e : (if i < 0 then -i else i) < beyond := by
    rw [← beyond_pow]
    generalize (10 : Nat) ^ 60 = z at hi ⊢
    split <;> omega
  rw [decide_eq_true e]
  exact q
abbrev sAreLetRows : Stmt := topS 31
theorem scAreLetRows : FnScope ["thing", "row"] ["thing"] (defScope sAreLetRows) := ⟨rfl, rfl, rfl, by decide +kernel, rfl, by decide +kernel, by decide +kernel⟩
theorem ok_rows (F : Fun K "are_let_rows" "are_let_rows" sAreLetRows f fd) (B : Bu mg) (U : Ut mg) (CIsTupleOf : C8.Cal P w K mg base 1 "is_tuple_of" (spTupOf K) []) (CIsName : C8.Cal P w K mg base 1 "is_name" spIsName []) : FnOk P w K mg base CX0 2 f fd ["thing"] (spRows K) := by
  have mis := B.isinstance
  have mtup := B.tuple
  have mall := B.all
  have ml := B.len
  obtain ⟨_, mMOST_ROWS⟩ := U.r
  refine F.ok scAreLetRows (fun vs H Q E h => ?_) (fun cdv A outer s H vs Q E hr h => ?_)
  · obtain ⟨r, rs, nm, as, rfl, _⟩ := h
    rfl
  obtain ⟨r, rs, nm, as, rfl, hr0, hdr, hna, n1, n4, hok, q⟩ := h
  refine ⟨_, (pss_cons (ps_if (PW.pt (pw_or (pt_not (pt_truthK (K := K) rfl (pe_callB (call_isK (K := K) rfl) (by rfl) mis (by decide +kernel) (pa_cons (pv 0) (pa_cons (pe_bltn (v := .ty "tuple") (by rfl) mtup (by decide +kernel) rfl) pa_nil))) (fun _ => rfl))) (pw_or1 (pt_not (pt_chain op_le op_le pe_int (pe_callB (call_lenK (K := K) rfl) (by rfl) ml PySem.boot_len (pa_cons (pv 0) pa_nil)) (pe_glob (v := .int 4) (by rfl) mMOST_ROWS ⟨_, rfl⟩)))))) (pss_one (ps_ret pe_bl)) pss_nil)
    (pss_one (ps_ret (pe_callB (call_allK (K := K) rfl rfl) (by rfl) mall (by decide +kernel) (pa_cons (pe_lc (own := [("row", 1)]) rfl scAreLetRows.nd (pi_tupK (K := K) rfl (pv 0)) (blkOk_by (N := ["thing", "row"]) (sc := defScope sAreLetRows) (by decide +kernel)) (fun _ _ _ _ _ => (pg_name (i := 1) scAreLetRows.nd rfl (.inl rfl))) (fun _ _ _ _ _ => pts_nil) (fun _ _ _ _ _ => (pe_and (C8.pe_c CIsTupleOf hr (by first | decide | omega) (by rfl) (pa_cons (pv 1) (pa_cons pe_int pa_nil))) (pe_one (C8.pe_c CIsName hr (by first | decide | omega) (by rfl) (pa_cons (pe_ix (ix_tupK (K := K) rfl) (pv 1) pe_int (fun _ _ => rfl)) pa_nil)))))) pa_nil))))), ?_⟩
  have hrl : rs.length = nm.length := by rw [hdr.length, List.length_zipWith, datas_len]; omega
  refine ⟨_, rfl, .ref r, .ty "tuple", .type "tuple", .type "tuple", true, rfl, .ty _, tyT hr0, kit_ty (by decide +kernel), true, rfl, ?_⟩
  refine ⟨_, rfl, r, rs, rfl, .inr hr0, _, _, rfl, rfl, _, rfl, ?_⟩
  rw [if_pos (decide_eq_true (show (1 : Int) ≤ (rs.length : Nat) by omega))]
  refine ⟨_, _, rfl, rfl, _, rfl, ?_⟩
  rw [decide_eq_true (show ((rs.length : Nat) : Int) ≤ 4 by omega)]
  refine ⟨_, rfl, r, rfl, ⟨_, hr0⟩, fun D hD => ?_⟩
  refine lc_tup (K := K) (a := r) (xs := rs) (fun i H' => Kp [] H H' ∧ H' D = some (.lst ((List.replicate i true).map V.bl)))
    ⟨Kp.new hD, upd_same⟩ (fun i H' _ ⟨k, _⟩ => k.sqT hr0) ?_ ?_
  · rintro i y H1 hi ⟨k1, h1⟩
    have hil := (List.getElem?_eq_some_iff.mp hi).1
    obtain ⟨x, t, u, hx, rfl, ht⟩ := row_at2 (Dp.keepAll k1 _ _ rows_fz hdr) hi
    refine ⟨rfl, ?_⟩
    refine ⟨_, rfl, t, [.str x, u], rfl, ht, true, rfl, ?_⟩
    refine ⟨_, rfl, t, _, _, _, rfl, rfl, ht, at_of (j := 0) rfl rfl, x, rfl, hok x (List.mem_of_getElem? hx), fun H2 k2 => ?_⟩
    refine ⟨_, k2.lst h1 (fun m => nomatch m), ?_, (k1.trans k2).mut hD, ?_⟩
    · rw [List.length_map, List.length_replicate]
      exact small1000 (by omega)
    · rw [upd_same, List.replicate_succ', List.map_append]
      rfl
  · rintro H1 ⟨k1, h1⟩
    refine ⟨D, _, rfl, SqL.of h1, ?_⟩
    rw [all_true]
    exact q H1 k1
end
end Lz

set_option Elab.async false
set_option linter.all false
set_option maxRecDepth 100000
set_option maxHeartbeats 8000000
namespace Lz
open PySem PySem.Spec PyProof.Rows L2
theorem two_at {K : PySem.W.Frag} {H : Hp} {v : V} {k : Str} {e : PyData} (h : Dp K H v (.tuple [.str k, e])) : ∃ a u, v = .ref a ∧ SqT K H a [.str k, u] ∧ Dp K H u e := by
  obtain ⟨a, xs, rfl, ht, hx⟩ := h.tup_of
  cases hx with
  | cons h1 h2 =>
    cases h1
    cases h2 with
    | cons h3 h4 =>
      cases h4
      exact ⟨a, _, rfl, ht, h3⟩
theorem let_at {K : PySem.W.Frag} {H : Hp} {v : V} {nm : List Str} {as : List Lz.P} {b : Lz.P} (h : Dp K H v (Lz.P.lt nm as b).data) : ∃ a r rs vb, v = .ref a ∧ SqT K H a [.str "let", .ref r, vb] ∧ SqT K H r rs ∧ DpAll K H rs (List.zipWith rowD nm (Lz.P.datas as)) := by
  obtain ⟨a, xs, rfl, ht, hx⟩ := Dp.tup_of (ds := [.str "let", .tuple (List.zipWith rowD nm (Lz.P.datas as)), b.data]) h
  cases hx with
  | cons h1 h2 =>
    cases h1
    cases h2 with
    | cons h3 h4 =>
      obtain ⟨r, rs, rfl, hr, hrs⟩ := h3.tup_of
      cases h4 with
      | cons h5 h6 =>
        cases h6
        exact ⟨a, r, rs, _, rfl, ht, hr, hrs⟩
theorem op_at {K : PySem.W.Frag} {H : Hp} {v : V} {k : Str} {as : List Lz.P} (h : Dp K H v (Lz.P.op k as).data) : ∃ a vs, v = .ref a ∧ SqT K H a (.str k :: vs) ∧ vs.length = as.length := by
  obtain ⟨a, xs, rfl, ht, hx⟩ := Dp.tup_of (ds := .str k :: Lz.P.datas as) h
  cases hx with
  | cons h1 h2 =>
    cases h1
    exact ⟨a, _, rfl, ht, by rw [h2.length, datas_len]⟩
theorem in2 (k : Str) : inV (.str k) [.str "name", .str "fun"] = (decide (k = "name") || decide (k = "fun")) := by
  show (eqV (.str "name") (.str k) || (eqV (.str "fun") (.str k) || false)) = _
  have e : ∀ a b : Str, eqV (.str a) (.str b) = decide (b = a) := fun a b => by
    show (a == b) = decide (b = a)
    rw [Bool.eq_iff_iff, beq_iff_eq, decide_eq_true_iff]
    exact ⟨fun h => h.symm, fun h => h.symm⟩
  rw [e, e, Bool.or_false]
section
variable {P : Program} {w : World} {K : PySem.W.Frag} {mg : Str → Option Value} {base : Heap} {f : Addr} {fd : FuncData}
abbrev sIsPartByItself : Stmt := topS 32
theorem scIsPartByItself : FnScope ["thing", "kind"] ["thing"] (defScope sIsPartByItself) := ⟨rfl, rfl, rfl, by decide +kernel, rfl, by decide +kernel, by decide +kernel⟩
theorem ok_self {pd : Addr} {es : Array DictEntry} {n : Nat} (F : Fun K "is_part_by_itself" "is_part_by_itself" sIsPartByItself f fd) (B : Bu mg) (mPO : mg "PARTS_OF" = some (.ref pd)) (DK : KDict K w pd es n) (O : PN K pd) (CIsName : C8.Cal P w K mg base 1 "is_name" spIsName []) (CIsNumber : C8.Cal P w K mg base 2 "is_number" spIsNum [])
    (CAreLetRows : C8.Cal P w K mg base 2 "are_let_rows" (spRows K) []) : FnOk P w K mg base CX0 3 f fd ["thing"] (spSelf K) := by
  have mis := B.isinstance
  have mtup := B.tuple
  have mstr := B.str
  have ml := B.len
  refine F.ok scIsPartByItself (fun vs H Q E h => ?_) (fun cdv A outer s H vs Q E hr h => ?_)
  · obtain ⟨v, t, Fs, sc, rfl, _⟩ := h
    rfl
  obtain ⟨v, t, Fs, sc, rfl, hd, hok, hfit, q⟩ := h
  refine ⟨_, (pss_cons (ps_if (PW.pt (pw_or (pt_not (pt_truthK (K := K) rfl (pe_callB (call_isK (K := K) rfl) (by rfl) mis (by decide +kernel) (pa_cons (pv 0) (pa_cons (pe_bltn (v := .ty "tuple") (by rfl) mtup (by decide +kernel) rfl) pa_nil))) (fun _ => rfl))) (pw_or (pt_not (pt_truthK (K := K) rfl (pv 0) (fun _ => rfl))) (pw_or1 (pt_not (pt_truthK (K := K) rfl (pe_callB (call_isK (K := K) rfl) (by rfl) mis (by decide +kernel) (pa_cons (pe_ix (ix_tupK (K := K) rfl) (pv 0) pe_int (fun _ _ => rfl)) (pa_cons (pe_bltn (v := .ty "str") (by rfl) mstr (by decide +kernel) rfl) pa_nil))) (fun _ => rfl))))))) (pss_one (ps_ret pe_bl)) pss_nil)
    (pss_cons (ps_set (i := 1) scIsPartByItself.nd rfl (.inl rfl) (pe_ix (ix_tupK (K := K) rfl) (pv 0) pe_int (fun _ _ => rfl)))
    (pss_cons (ps_if (pt_cmpR op_eq (pv 1) pe_str (nomark _)) (pss_one (ps_ret (pe_and (pe_cmpR op_eq (pe_callB (call_lenK (K := K) rfl) (by rfl) ml PySem.boot_len (pa_cons (pv 0) pa_nil)) pe_int (nomark _)) (pe_one (C8.pe_c CIsNumber hr (by first | decide | omega) (by rfl) (pa_cons (pe_ix (ix_tupK (K := K) rfl) (pv 0) pe_int (fun _ _ => rfl)) pa_nil)))))) pss_nil)
    (pss_cons (ps_if (pt_cmpR (op_inK (K := K) rfl) (pv 1) (pe_tup (pa_cons pe_str (pa_cons pe_str pa_nil))) rfl) (pss_one (ps_ret (pe_and (pe_cmpR op_eq (pe_callB (call_lenK (K := K) rfl) (by rfl) ml PySem.boot_len (pa_cons (pv 0) pa_nil)) pe_int (nomark _)) (pe_one (C8.pe_c CIsName hr (by first | decide | omega) (by rfl) (pa_cons (pe_ix (ix_tupK (K := K) rfl) (pv 0) pe_int (fun _ _ => rfl)) pa_nil)))))) pss_nil)
    (pss_cons (ps_if (pt_cmpR op_eq (pv 1) pe_str (nomark _)) (pss_one (ps_ret (pe_and (pe_cmpR op_eq (pe_callB (call_lenK (K := K) rfl) (by rfl) ml PySem.boot_len (pa_cons (pv 0) pa_nil)) pe_int (nomark _)) (pe_one (C8.pe_c CAreLetRows hr (by first | decide | omega) (by rfl) (pa_cons (pe_ix (ix_tupK (K := K) rfl) (pv 0) pe_int (fun _ _ => rfl)) pa_nil)))))) pss_nil)
    (pss_one (ps_ret (pe_and (pe_cmpR (op_in_kdK (K := K) rfl DK) (pv 1) (pe_glob (v := .ref pd) (by rfl) mPO rfl) rfl) (pe_one (pe_cmpR op_eq (pe_callB (call_lenK (K := K) rfl) (by rfl) ml PySem.boot_len (pa_cons (pv 0) pa_nil)) (pe_op op_add pe_int (pe_ix (ix_kdK (K := K) rfl DK) (pe_glob (v := .ref pd) (by rfl) mPO rfl) (pv 1) (fun _ _ => rfl))) (nomark _))))))))))), ?_⟩
  have start : ∀ {a : Addr} {k : Str} {vs : List V} {X : Prop}, v = .ref a → SqT K H a (.str k :: vs) → TruV K v H true := fun e ht => by
    subst e
    exact .inr (.inl ⟨_, ht, rfl⟩)
  cases t with
  | num i =>
    obtain ⟨a, u, rfl, ht, hu⟩ := two_at (k := "number") (e := .int i) hd
    cases hu
    refine ⟨_, rfl, .ref a, .ty "tuple", .type "tuple", .type "tuple", true, rfl, .ty _, tyT ht, kit_ty (by decide +kernel), true, rfl, ?_⟩
    refine ⟨_, rfl, true, .inr (.inl ⟨_, ht, rfl⟩), ?_⟩
    refine ⟨_, rfl, a, _, _, _, rfl, rfl, ht, at_of (j := 0) rfl rfl, .str "number", .ty "str", .type "str", .type "str", true, rfl, .ty _, .base (.str _), kit_ty (by decide +kernel), true, rfl, ?_⟩
    refine ⟨_, rfl, a, _, _, _, rfl, rfl, ht, at_of (j := 0) rfl rfl, ?_⟩
    refine ⟨_, rfl, rfl, _, rfl, ?_⟩
    refine ite2 (fun _ => ?_) (fun c => absurd (decide_eq_true rfl) c)
    refine ⟨_, rfl, a, _, rfl, .inr ht, rfl, ?_⟩
    refine ⟨true, rfl, ?_⟩
    refine ⟨_, rfl, a, _, _, _, rfl, rfl, ht, at_of (j := 1) rfl rfl, i, rfl, hfit, q H (Kp.refl _ _)⟩
  | nam x =>
    obtain ⟨a, u, rfl, ht, hu⟩ := two_at (k := "name") (e := .str x) hd
    cases hu
    refine ⟨_, rfl, .ref a, .ty "tuple", .type "tuple", .type "tuple", true, rfl, .ty _, tyT ht, kit_ty (by decide +kernel), true, rfl, ?_⟩
    refine ⟨_, rfl, true, .inr (.inl ⟨_, ht, rfl⟩), ?_⟩
    refine ⟨_, rfl, a, _, _, _, rfl, rfl, ht, at_of (j := 0) rfl rfl, .str "name", .ty "str", .type "str", .type "str", true, rfl, .ty _, .base (.str _), kit_ty (by decide +kernel), true, rfl, ?_⟩
    refine ⟨_, rfl, a, _, _, _, rfl, rfl, ht, at_of (j := 0) rfl rfl, ?_⟩
    refine ⟨_, rfl, rfl, _, rfl, ?_⟩
    refine ite2 (fun c => absurd (V.str.inj (of_decide_eq_true c)) (by decide +kernel)) (fun _ => ?_)
    refine ⟨_, rfl, (by show 2 ≤ sizeLine; decide), fun t1 ht1 => ?_⟩
    have k1 : Kp [] H (upd H t1 (.tup [.str "name", .str "fun"])) := Kp.new ht1
    have ht' := k1.sqT ht
    refine ⟨t1, _, rfl, .inr (SqT.of upd_same), rfl, rfl, _, rfl, ?_⟩
    refine ite2 (fun _ => ?_) (fun c => absurd (show inV (.str "name") [.str "name", .str "fun"] = true by rw [in2]; rfl) c)
    refine ⟨_, rfl, a, _, rfl, .inr ht', rfl, ?_⟩
    refine ⟨true, rfl, ?_⟩
    refine ⟨_, rfl, a, _, _, _, rfl, rfl, ht', at_of (j := 1) rfl rfl, x, rfl, hok, fun H' k => q H' (k1.trans k)⟩
  | fn x =>
    obtain ⟨a, u, rfl, ht, hu⟩ := two_at (k := "fun") (e := .str x) hd
    cases hu
    refine ⟨_, rfl, .ref a, .ty "tuple", .type "tuple", .type "tuple", true, rfl, .ty _, tyT ht, kit_ty (by decide +kernel), true, rfl, ?_⟩
    refine ⟨_, rfl, true, .inr (.inl ⟨_, ht, rfl⟩), ?_⟩
    refine ⟨_, rfl, a, _, _, _, rfl, rfl, ht, at_of (j := 0) rfl rfl, .str "fun", .ty "str", .type "str", .type "str", true, rfl, .ty _, .base (.str _), kit_ty (by decide +kernel), true, rfl, ?_⟩
    refine ⟨_, rfl, a, _, _, _, rfl, rfl, ht, at_of (j := 0) rfl rfl, ?_⟩
    refine ⟨_, rfl, rfl, _, rfl, ?_⟩
    refine ite2 (fun c => absurd (V.str.inj (of_decide_eq_true c)) (by decide +kernel)) (fun _ => ?_)
    refine ⟨_, rfl, (by show 2 ≤ sizeLine; decide), fun t1 ht1 => ?_⟩
    have k1 : Kp [] H (upd H t1 (.tup [.str "name", .str "fun"])) := Kp.new ht1
    have ht' := k1.sqT ht
    refine ⟨t1, _, rfl, .inr (SqT.of upd_same), rfl, rfl, _, rfl, ?_⟩
    refine ite2 (fun _ => ?_) (fun c => absurd (show inV (.str "fun") [.str "name", .str "fun"] = true by rw [in2]; decide +kernel) c)
    refine ⟨_, rfl, a, _, rfl, .inr ht', rfl, ?_⟩
    refine ⟨true, rfl, ?_⟩
    refine ⟨_, rfl, a, _, _, _, rfl, rfl, ht', at_of (j := 1) rfl rfl, x, rfl, hok, fun H' k => q H' (k1.trans k)⟩
  | lt nm as b =>
    obtain ⟨a, r, rs, vb, rfl, ht, hrt, hrs⟩ := let_at hd
    refine ⟨_, rfl, .ref a, .ty "tuple", .type "tuple", .type "tuple", true, rfl, .ty _, tyT ht, kit_ty (by decide +kernel), true, rfl, ?_⟩
    refine ⟨_, rfl, true, .inr (.inl ⟨_, ht, rfl⟩), ?_⟩
    refine ⟨_, rfl, a, _, _, _, rfl, rfl, ht, at_of (j := 0) rfl rfl, .str "let", .ty "str", .type "str", .type "str", true, rfl, .ty _, .base (.str _), kit_ty (by decide +kernel), true, rfl, ?_⟩
    refine ⟨_, rfl, a, _, _, _, rfl, rfl, ht, at_of (j := 0) rfl rfl, ?_⟩
    refine ⟨_, rfl, rfl, _, rfl, ?_⟩
    refine ite2 (fun c => absurd (V.str.inj (of_decide_eq_true c)) (by decide +kernel)) (fun _ => ?_)
    refine ⟨_, rfl, (by show 2 ≤ sizeLine; decide), fun t1 ht1 => ?_⟩
    have k1 : Kp [] H (upd H t1 (.tup [.str "name", .str "fun"])) := Kp.new ht1
    have ht' := k1.sqT ht
    refine ⟨t1, _, rfl, .inr (SqT.of upd_same), rfl, rfl, _, rfl, ?_⟩
    refine ite2 (fun c => absurd ((in2 "let").symm.trans c) (by decide +kernel)) (fun _ => ?_)
    refine ⟨_, rfl, rfl, _, rfl, ?_⟩
    refine ite2 (fun _ => ?_) (fun c => absurd (decide_eq_true rfl) c)
    refine ⟨_, rfl, a, _, rfl, .inr ht', rfl, ?_⟩
    refine ⟨true, rfl, ?_⟩
    refine ⟨_, rfl, a, _, _, _, rfl, rfl, ht', at_of (j := 1) rfl rfl, r, rs, nm, as, rfl, k1.sqT hrt, Dp.keepAll k1 _ _ rows_fz hrs, hok.1, hfit.1, hfit.2.1, hok.2.1, fun H' k => q H' (k1.trans k)⟩
  | op k as =>
    obtain ⟨a, vs, rfl, ht, hvl⟩ := op_at hd
    have hk : (k, as.length) ∈ kinds := (show (k, as.length) ∈ kinds ∧ Lz.P.oks as from hok).1
    have hp := kind_plain hk
    obtain ⟨tk, hu⟩ := O.op k _ hk
    refine ⟨_, rfl, .ref a, .ty "tuple", .type "tuple", .type "tuple", true, rfl, .ty _, tyT ht, kit_ty (by decide +kernel), true, rfl, ?_⟩
    refine ⟨_, rfl, true, .inr (.inl ⟨_, ht, rfl⟩), ?_⟩
    refine ⟨_, rfl, a, _, _, _, rfl, rfl, ht, at_of (j := 0) rfl rfl, .str k, .ty "str", .type "str", .type "str", true, rfl, .ty _, .base (.str _), kit_ty (by decide +kernel), true, rfl, ?_⟩
    refine ⟨_, rfl, a, _, _, _, rfl, rfl, ht, at_of (j := 0) rfl rfl, ?_⟩
    refine ⟨_, rfl, rfl, _, rfl, ?_⟩
    refine ite2 (fun c => absurd (V.str.inj (of_decide_eq_true c)) hp.2.1) (fun _ => ?_)
    refine ⟨_, rfl, (by show 2 ≤ sizeLine; decide), fun t1 ht1 => ?_⟩
    have k1 : Kp [] H (upd H t1 (.tup [.str "name", .str "fun"])) := Kp.new ht1
    have ht' := k1.sqT ht
    refine ⟨t1, _, rfl, .inr (SqT.of upd_same), rfl, rfl, _, rfl, ?_⟩
    refine ite2 (fun c => ?_) (fun _ => ?_)
    · have c' := (in2 k).symm.trans c
      rw [decide_eq_false hp.2.2.1, decide_eq_false hp.2.2.2] at c'
      cases c'
    refine ⟨_, rfl, rfl, _, rfl, ?_⟩
    refine ite2 (fun c => absurd (V.str.inj (of_decide_eq_true c)) hp.1) (fun _ => ?_)
    refine ⟨_, rfl, k, _, rfl, rfl, hu, ?_⟩
    refine ⟨true, rfl, ?_⟩
    refine ⟨_, rfl, a, _, rfl, .inr ht', _, rfl, k, _, .int (as.length : Nat), rfl, rfl, hu, ⟨_, rfl⟩, _, _, rfl, rfl, rfl, ?_⟩
    have e : V.int ((V.str k :: vs).length : Nat) = V.int (1 + (as.length : Nat)) := by
      rw [List.length_cons, hvl]
      congr 1
      omega
    rw [decide_eq_true e]
    exact q _ k1
end
end Lz

set_option Elab.async false
set_option linter.all false
set_option maxRecDepth 100000
set_option maxHeartbeats 4000000
namespace Lz
open PySem PySem.Spec PyProof.Rows L2
def spNumber (K : PySem.W.Frag) : Sp := fun vs H Q _ => ∃ (p a : Addr), vs = [.ref p] ∧ PenAt H p a ∧ ∀ (i : Int) (H' : Hp), Kp [p] H H' → PenAt H' p a → i.natAbs < 10 ^ 60 → Q (.int i) H'
def WAt (K : PySem.W.Frag) (H : Hp) (wl : Addr) (W : List (Str × Int)) : Prop := ∃ ws, H wl = some (.lst ws) ∧ DpAll K H ws (W.map wD)
theorem WAt.keep {K : PySem.W.Frag} {S : List Addr} {H H' : Hp} {wl : Addr} {W : List (Str × Int)} (h : WAt K H wl W) (k : Kp S H H') (n : ¬ wl ∈ S) : WAt K H' wl W := by
  obtain ⟨ws, h1, h2⟩ := h
  exact ⟨ws, k.lst h1 n, Dp.keepAll k _ _ (wds_fz W) h2⟩
theorem WAt.dp {K : PySem.W.Frag} {H : Hp} {wl : Addr} {W : List (Str × Int)} (h : WAt K H wl W) : Dp K H (.ref wl) (.list (W.map wD)) := by
  obtain ⟨ws, h1, h2⟩ := h
  exact .lst (SqL.of h1) h2
theorem scope_dp {K : PySem.W.Frag} {H : Hp} {sl : Addr} {sc : List Str} (h : H sl = some (.lst (sc.map V.str))) : Dp K H (.ref sl) (.list (sc.map .str)) := .lst (SqL.of h) (DpAll.strs sc)
theorem nil_dp {K : PySem.W.Frag} {H : Hp} {l : Addr} : Dp K (upd H l (.lst [])) (.ref l) (.list []) := .lst (SqL.of upd_same) .nil
def spLeaf (K : PySem.W.Frag) : Sp := fun vs H Q _ => ∃ (p a wl sl : Addr) (want : Str) (W : List (Str × Int)) (sc : List Str), vs = [.ref p, .ref wl, .ref sl, .str want] ∧ PenAt H p a ∧ WAt K H wl W ∧ H sl = some (.lst (sc.map V.str)) ∧ wl ≠ p ∧ sl ≠ p ∧
  (∀ f, f ∈ W → nmOk f.1) ∧ (∀ x, x ∈ sc → nmOk x) ∧ W.length ≤ 1000 ∧ sc.length ≤ 1000 ∧
  ∀ (v : V) (d : Lz.P) (H' : Hp), Kp [p] H H' → PenAt H' p a → Dp K H' v d.data → (∀ dp n ss, Dr W sc dp n ss n ss [d]) → Q v H'
def spFits (K : PySem.W.Frag) : Sp := fun vs H Q _ => ∃ (r c : Addr) (x : V) (xs : List V) (n m : Int), vs = [.ref r, .int m] ∧ H r = some (.lst (x :: .ref c :: xs)) ∧ H c = some (.lst [.int n]) ∧ (n < m → Q (.bl false) H) ∧ (m ≤ n → Q (.bl true) (upd H c (.lst [.int (n - m)])))
section
variable {P : Program} {w : World} {K : PySem.W.Frag} {mg : Str → Option Value} {base : Heap} {f : Addr} {fd : FuncData}
abbrev sLNumber : Stmt := topS 58
theorem scLNumber : FnScope ["_law_pen_here", "_law_way"] ["_law_pen_here"] (defScope sLNumber) := ⟨rfl, rfl, rfl, by decide +kernel, rfl, by decide +kernel, by decide +kernel⟩
theorem ok_number (F : Fun K "_law_number" "_law_number" sLNumber f fd) (B : Bt mg) (CLDraw : C8.Cal P w K mg base 1 "_law_draw" (spDraw K) []) : FnOk P w K mg base CX0 2 f fd ["_law_pen_here"] (spNumber K) := by
  refine F.ok scLNumber (fun vs H Q E h => ?_) (fun cdv A outer s H vs Q E hr h => ?_)
  · obtain ⟨p, a, rfl, _⟩ := h
    rfl
  obtain ⟨p, a, rfl, hpen, k⟩ := h
  refine ⟨_, (pss_cons (ps_set (i := 1) scLNumber.nd rfl (.inl rfl) (C8.pe_c CLDraw hr (by first | decide | omega) (by rfl) (pa_cons (pv 0) (pa_cons pe_int pa_nil))))
    (pss_cons (ps_if (pt_cmpR op_eq (pv 1) pe_int (nomark _)) (pss_one (ps_ret (pe_op op_add (pe_op op_sub (C8.pe_c CLDraw hr (by first | decide | omega) (by rfl) (pa_cons (pv 0) (pa_cons (pe_op op_sub (pe_op op_mul pe_int (pe_op op_pow pe_int pe_int)) pe_int) pa_nil))) (pe_op op_pow pe_int pe_int)) pe_int))) pss_nil)
    (pss_cons (ps_if (pt_cmpR op_eq (pv 1) pe_int (nomark _)) (pss_one (ps_ret (pe_op op_sub (C8.pe_c CLDraw hr (by first | decide | omega) (by rfl) (pa_cons (pv 0) (pa_cons (pe_op op_mul pe_int (pe_op op_pow pe_int pe_int)) pa_nil))) (pe_op op_pow pe_int pe_int)))) pss_nil)
    (pss_one (ps_ret (pe_op op_sub (C8.pe_c CLDraw hr (by first | decide | omega) (by rfl) (pa_cons (pv 0) (pa_cons pe_int pa_nil))) (pe_ix (ix_listK (K := K) rfl) (pe_lst (pa_cons pe_int (pa_cons pe_int (pa_cons pe_int (pa_cons pe_int (pa_cons pe_int (pa_cons pe_int (pa_cons pe_int pa_nil)))))))) (pv 1) (fun _ _ => rfl)))))))), ?_⟩
  refine ⟨_, rfl, p, a, 9, rfl, hpen, by decide, by decide, fun way H1 k1 pen1 w0 w1 => ?_⟩
  refine ⟨_, rfl, rfl, _, rfl, ?_⟩
  refine ite2 (fun c => ?_) (fun c => ?_)
  · refine ⟨_, rfl, _, _, rfl, rfl, ⟨by decide, by decide, by decide⟩, _, _, rfl, rfl, .inl ⟨by decide, by decide⟩, _, _, rfl, rfl, p, a, _, rfl, pen1, by decide, by decide, fun r H2 k2 pen2 r0 r1 => ?_⟩
    refine ⟨_, _, rfl, rfl, ⟨by decide, by decide, by decide⟩, _, _, rfl, rfl, _, _, rfl, rfl, ?_⟩
    refine k _ H2 (k1.trans k2) pen2 ?_
    have r1' : r < 2 * 10 ^ 60 - 1 := r1
    show (r - 10 ^ 60 + 1 : Int).natAbs < 10 ^ 60
    omega
  refine ⟨_, rfl, rfl, _, rfl, ?_⟩
  refine ite2 (fun c2 => ?_) (fun c2 => ?_)
  · refine ⟨_, rfl, _, _, rfl, rfl, ⟨by decide, by decide, by decide⟩, _, _, rfl, rfl, .inl ⟨by decide, by decide⟩, p, a, _, rfl, pen1, by decide, by decide, fun r H2 k2 pen2 r0 r1 => ?_⟩
    refine ⟨_, _, rfl, rfl, ⟨by decide, by decide, by decide⟩, _, _, rfl, rfl, ?_⟩
    refine k _ H2 (k1.trans k2) pen2 ?_
    have r1' : r < 2 * 10 ^ 31 := r1
    show (r - 10 ^ 31 : Int).natAbs < 10 ^ 60
    omega
  have hw7 : way < 7 := by
    have e1 : ¬ V.int way = V.int 8 := of_decide_eq_false (Bool.eq_false_iff.mpr c)
    have e2 : ¬ V.int way = V.int 7 := of_decide_eq_false (Bool.eq_false_iff.mpr c2)
    have e1' : way ≠ 8 := fun h => e1 (by rw [h])
    have e2' : way ≠ 7 := fun h => e2 (by rw [h])
    omega
  refine ⟨_, rfl, p, a, 9, rfl, pen1, by decide, by decide, fun r H2 k2 pen2 r0 r1 => ?_⟩
  refine ⟨by show 7 ≤ sizeLine; decide, fun l hl => ?_⟩
  obtain ⟨z, hz, hz4⟩ : ∃ z : Int, ([.int 0, .int 0, .int 0, .int 1, .int 2, .int 4, .int 0] : List V)[way.toNat]? = some (.int z) ∧ 0 ≤ z ∧ z ≤ 4 := by
    have h0 : way.toNat < 7 := by omega
    generalize way.toNat = j at h0
    match j, h0 with
    | 0, _ => exact ⟨0, rfl, by omega⟩
    | 1, _ => exact ⟨0, rfl, by omega⟩
    | 2, _ => exact ⟨0, rfl, by omega⟩
    | 3, _ => exact ⟨1, rfl, by omega⟩
    | 4, _ => exact ⟨2, rfl, by omega⟩
    | 5, _ => exact ⟨4, rfl, by omega⟩
    | 6, _ => exact ⟨0, rfl, by omega⟩
  refine ⟨_, rfl, l, _, _, _, rfl, rfl, SqL.of upd_same, at_of (j := way.toNat) (by omega) hz, _, _, rfl, rfl, ?_⟩
  refine k _ _ ((k1.trans k2).trans (Kp.new hl)) (pen2.new hl) ?_
  show (r - z : Int).natAbs < 10 ^ 60
  omega
abbrev sLLeaf : Stmt := topS 59
theorem scLLeaf : FnScope ["_law_pen_here", "_law_world", "_law_scope", "_law_want", "_law_way"] ["_law_pen_here", "_law_world", "_law_scope", "_law_want"] (defScope sLLeaf) := ⟨rfl, rfl, rfl, by decide +kernel, rfl, by decide +kernel, by decide +kernel⟩
theorem ok_leaf (F : Fun K "_law_leaf" "_law_leaf" sLLeaf f fd) (B : Bt mg) (CLDraw : C8.Cal P w K mg base 1 "_law_draw" (spDraw K) []) (CLNumber : C8.Cal P w K mg base 2 "_law_number" (spNumber K) []) : FnOk P w K mg base CX0 3 f fd ["_law_pen_here", "_law_world", "_law_scope", "_law_want"] (spLeaf K) := by
  have ml := B.len
  refine F.ok scLLeaf (fun vs H Q E h => ?_) (fun cdv A outer s H vs Q E hr h => ?_)
  · obtain ⟨p, a, wl, sl, want, W, sc, rfl, _⟩ := h
    rfl
  have hu64 := hr.units
  obtain ⟨p, a, wl, sl, want, W, sc, rfl, hpen, hW, hs, nwp, nsp, nmW, nmS, lW, lS, k⟩ := h
  refine ⟨_, (pss_cons (ps_set (i := 4) scLLeaf.nd rfl (.inl rfl) (C8.pe_c CLDraw hr (by first | decide | omega) (by rfl) (pa_cons (pv 0) (pa_cons pe_int pa_nil))))
    (C8.pss_cut (ps_if (PW.pt (pw_and (pt_cmpR (op_neDK (K := K) rfl hu64) (pv 2) (pe_lst pa_nil) (nomark _)) (pw_and1 (pt_cmpR op_gt (pv 4) pe_int (nomark _))))) (pss_one (ps_ret (pe_tup (pa_cons pe_str (pa_cons (pe_ix (ix_listK (K := K) rfl) (pv 2) (C8.pe_c CLDraw hr (by first | decide | omega) (by rfl) (pa_cons (pv 0) (pa_cons (pe_callB (call_lenK (K := K) rfl) (by rfl) ml PySem.boot_len (pa_cons (pv 2) pa_nil)) pa_nil))) (fun _ _ => rfl)) pa_nil))))) pss_nil)
    (C8.pss_cut (ps_if (PW.pt (pw_and (pt_cmpR (op_neDK (K := K) rfl hu64) (pv 1) (pe_lst pa_nil) (nomark _)) (pw_and (pt_cmpR op_eq (pv 3) pe_str (nomark _)) (pw_and1 (pt_cmpR op_eq (pv 4) pe_int (nomark _)))))) (pss_one (ps_ret (pe_tup (pa_cons pe_str (pa_cons (pe_ix (ix_tupK (K := K) rfl) (pe_ix (ix_listK (K := K) rfl) (pv 1) (C8.pe_c CLDraw hr (by first | decide | omega) (by rfl) (pa_cons (pv 0) (pa_cons (pe_callB (call_lenK (K := K) rfl) (by rfl) ml PySem.boot_len (pa_cons (pv 1) pa_nil)) pa_nil))) (fun _ _ => rfl)) pe_int (fun _ _ => rfl)) pa_nil))))) pss_nil)
    (pss_one (ps_ret (pe_tup (pa_cons pe_str (pa_cons (C8.pe_c CLNumber hr (by first | decide | omega) (by rfl) (pa_cons (pv 0) pa_nil)) pa_nil)))))))), ?_⟩
  refine ⟨_, rfl, p, a, 8, rfl, hpen, by decide, by decide, fun way H1 k1 pen1 w0 w1 => ?_⟩
  have hs1 := k1.lst hs (not1 nsp)
  have hW1 := hW.keep k1 (not1 nwp)
  have back : ∀ (v : V) (d : Lz.P) (H' : Hp), Kp [p] H1 H' → PenAt H' p a → Dp K H' v d.data → (∀ dp n ss, Dr W sc dp n ss n ss [d]) → Q v H' := fun v d H' k2 => k v d H' (k1.trans k2)
  refine ⟨fun σ' H' => σ' = [some (.ref p), some (.ref wl), some (.ref sl), some (.str want), some (.int way)] ∧ Kp [p] H1 H' ∧ PenAt H' p a ∧ WAt K H' wl W, ?_, ?_⟩
  · refine ⟨_, rfl, Nat.zero_le _, fun l hl => ?_⟩
    have k2 : Kp [p] H1 (upd H1 l (.lst [])) := Kp.new hl
    have hs2 := k2.lst hs1 (not1 nsp)
    have hW2 := hW1.keep k2 (not1 nwp)
    have pen2 := pen1.new (o := .lst []) hl
    refine ⟨_, _, scope_dp hs2, nil_dp, strs_shaped nmS, nil_shaped, _, rfl, ?_⟩
    rw [eqv_nil]
    generalize upd H1 l (.lst []) = H2 at k2 hs2 hW2 pen2
    refine ite2 (fun c => ?_) (fun c => ⟨rfl, k2, pen2, hW2⟩)
    have hne : 0 < sc.length := by
      cases sc with
      | nil => cases c
      | cons x r => exact Nat.succ_pos _
    refine ⟨_, rfl, _, _, rfl, rfl, _, rfl, ?_⟩
    refine ite2 (fun c => ?_) (fun c => ⟨rfl, k2, pen2, hW2⟩)
    have hlm : (sc.map V.str).length = sc.length := List.length_map _
    refine ⟨_, rfl, _, rfl, _, rfl, sl, _, rfl, .inl (SqL.of hs2), p, a, _, rfl, pen2, (by rw [hlm]; omega), (by rw [hlm]; omega), fun r H3 k3 pen3 r0 r1 => ?_⟩
    rw [hlm] at r1
    have hr : r.toNat < sc.length := by omega
    have hat : (sc.map V.str)[r.toNat]? = some (.str sc[r.toNat]) := by
      rw [List.getElem?_map, List.getElem?_eq_getElem hr]
      rfl
    refine ⟨sl, _, _, _, rfl, rfl, SqL.of (k3.lst hs2 (not1 nsp)), at_of (j := r.toNat) (by omega) hat, (by show 2 ≤ sizeLine; decide), fun q hq => ?_⟩
    exact back _ (.nam sc[r.toNat]) _ ((k2.trans k3).trans (Kp.new hq)) (pen3.new hq) (Dp.newT hq (.cons (.str _) (.cons (.str _) .nil)) rfl) fun dp n ss => .nam (List.getElem_mem hr) .nil
  · rintro _ H2 ⟨rfl, k2, pen2, hW2⟩
    refine ⟨fun σ' H' => σ' = [some (.ref p), some (.ref wl), some (.ref sl), some (.str want), some (.int way)] ∧ Kp [p] H1 H' ∧ PenAt H' p a, ?_, ?_⟩
    · refine ⟨_, rfl, Nat.zero_le _, fun l hl => ?_⟩
      have k3 := k2.trans (Kp.new (S := [p]) (o := .lst []) hl)
      have hW3 := hW2.keep (Kp.new (S := [p]) (o := .lst []) hl) (not1 nwp)
      have pen3 := pen2.new (o := .lst []) hl
      refine ⟨_, _, hW3.dp, nil_dp, wds_shaped nmW, nil_shaped, _, rfl, ?_⟩
      rw [eqv_nil]
      generalize upd H2 l (.lst []) = H3 at k3 hW3 pen3
      refine ite2 (fun c => ?_) (fun c => ⟨rfl, k3, pen3⟩)
      have hne : 0 < W.length := by
        cases W with
        | nil => cases c
        | cons x r => exact Nat.succ_pos _
      refine ⟨_, rfl, rfl, _, rfl, ?_⟩
      refine ite2 (fun c => ?_) (fun c => ⟨rfl, k3, pen3⟩)
      refine ⟨_, rfl, rfl, _, rfl, ?_⟩
      refine ite2 (fun c => ?_) (fun c => ⟨rfl, k3, pen3⟩)
      obtain ⟨ws, hws, hdp⟩ := id hW3
      have hlw : ws.length = W.length := by rw [hdp.length, List.length_map]
      refine ⟨_, rfl, _, rfl, _, rfl, wl, _, rfl, .inl (SqL.of hws), p, a, _, rfl, pen3, (by rw [hlw]; omega), (by rw [hlw]; omega), fun r H4 k4 pen4 r0 r1 => ?_⟩
      rw [hlw] at r1
      have hr : r.toNat < W.length := by omega
      have hW4 := hW3.keep k4 (not1 nwp)
      obtain ⟨ws, hws, hdp⟩ := id hW4
      obtain ⟨v, hv, hvd⟩ := hdp.get (i := r.toNat) (d := wD W[r.toNat]) (by rw [List.getElem?_map, List.getElem?_eq_getElem hr]; rfl)
      obtain ⟨t, xs, rfl, ht, hxs⟩ := hvd.tup_of
      cases hxs with
      | cons h1 h2 =>
        cases h1
        refine ⟨wl, _, _, _, rfl, rfl, SqL.of hws, at_of (j := r.toNat) (by omega) hv, t, _, _, _, rfl, rfl, ht, at_of (j := 0) rfl rfl, (by show 2 ≤ sizeLine; decide), fun q hq => ?_⟩
        exact back _ (.fn W[r.toNat].1) _ ((k3.trans k4).trans (Kp.new hq)) (pen4.new hq) (Dp.newT hq (.cons (.str _) (.cons (.str _) .nil)) rfl) fun dp n ss => .fn (w := W[r.toNat].2) (List.getElem_mem hr) .nil
    · rintro _ H2 ⟨rfl, k2, pen2⟩
      refine ⟨_, rfl, p, a, rfl, pen2, fun i H3 k3 pen3 hi => ?_⟩
      refine ⟨(by show 2 ≤ sizeLine; decide), fun q hq => ?_⟩
      exact back _ (.num i) _ ((k2.trans k3).trans (Kp.new hq)) (pen3.new hq) (Dp.newT hq (.cons (.str _) (.cons (.int _) .nil)) rfl) fun dp n ss => .num hi .nil
abbrev sLFits : Stmt := topS 60
theorem scLFits : FnScope ["_law_room", "_law_many"] ["_law_room", "_law_many"] (defScope sLFits) := ⟨rfl, rfl, rfl, by decide +kernel, rfl, by decide +kernel, by decide +kernel⟩
theorem ok_fits (F : Fun K "_law_fits" "_law_fits" sLFits f fd) : FnOk P w K mg base CX0 1 f fd ["_law_room", "_law_many"] (spFits K) := by
  refine F.ok scLFits (fun vs H Q E h => ?_) (fun cdv A outer s H vs Q E hr h => ?_)
  · obtain ⟨r, c, x, xs, n, m, rfl, _⟩ := h
    rfl
  obtain ⟨r, c, x, xs, n, m, rfl, hR, hC, k0, k1⟩ := h
  refine ⟨_, (pss_cons (ps_if (pt_cmpR op_lt (pe_ix (ix_listK (K := K) rfl) (pe_ix (ix_listK (K := K) rfl) (pv 0) pe_int (fun _ _ => rfl)) pe_int (fun _ _ => rfl)) (pv 1) (nomark _)) (pss_one (ps_ret pe_bl)) pss_nil)
    (pss_cons (ps_asg (pe_op op_sub (pe_ix (ix_listK (K := K) rfl) (pe_ix (ix_listK (K := K) rfl) (pv 0) pe_int (fun _ _ => rfl)) pe_int (fun _ _ => rfl)) (pv 1)) (pg_sub (pe_ix (ix_listK (K := K) rfl) (pv 0) pe_int (fun _ _ => rfl)) pe_int set_list))
    (pss_one (ps_ret pe_bl)))), ?_⟩
  refine ⟨_, rfl, r, _, _, _, rfl, rfl, SqL.of hR, at_of (j := 1) rfl rfl, c, _, _, _, rfl, rfl, SqL.of hC, at_of (j := 0) rfl rfl, _, rfl, _, _, rfl, rfl, _, rfl, ?_⟩
  refine ite2 (fun c1 => k0 (of_decide_eq_true c1)) (fun c1 => ?_)
  have c1' : ¬ n < m := of_decide_eq_false (Bool.eq_false_iff.mpr c1)
  refine ⟨_, rfl, r, _, _, _, rfl, rfl, SqL.of hR, at_of (j := 1) rfl rfl, c, _, _, _, rfl, rfl, SqL.of hC, at_of (j := 0) rfl rfl, _, rfl, _, _, rfl, rfl, ?_⟩
  refine ⟨_, rfl, r, _, _, _, rfl, rfl, SqL.of hR, at_of (j := 1) rfl rfl, c, _, _, 0, rfl, rfl, hC, rfl, ?_⟩
  exact k1 (by omega)
end
end Lz

set_option Elab.async false
set_option linter.all false
set_option maxRecDepth 100000
set_option maxHeartbeats 4000000
namespace Lz
open PySem PySem.Spec PyProof.Rows L2
/-- what a drawing of a part finds: pen, world, scope, how many parts and which names are left -/
structure En (K : PySem.W.Frag) (H : Hp) (W : List (Str × Int)) (sc : List Str) (p a wl sl c st : Addr) (n : Int) (ss : List Str) : Prop where
  pen : PenAt H p a
  wld : WAt K H wl W
  scp : H sl = some (.lst (sc.map V.str))
  cnt : H c = some (.lst [.int n])
  stk : H st = some (.lst (ss.map V.str))
  dw : ¬ wl ∈ [p, c, st]
  ds : ¬ sl ∈ [p, c, st]
  da : ¬ a ∈ [p, c, st]
  pc : p ≠ c
  ps : p ≠ st
  cs : c ≠ st
  nw : ∀ f, f ∈ W → nmOk f.1 ∧ 0 ≤ f.2 ∧ f.2 ≤ 4
  nc : ∀ x, x ∈ sc → nmOk x
  ns : ∀ x, x ∈ ss → nmOk x
  lw : W.length ≤ 8
  ls : sc.length + ss.length ≤ 100
theorem mem3 {p c st : Addr} : p ∈ [p, c, st] ∧ c ∈ [p, c, st] ∧ st ∈ [p, c, st] := ⟨List.mem_cons_self, List.mem_cons_of_mem _ List.mem_cons_self, List.mem_cons_of_mem _ (List.mem_cons_of_mem _ List.mem_cons_self)⟩
theorem sub3 {p c st : Addr} : ∀ x, x ∈ [p] → x ∈ [p, c, st] := fun x h => by rw [List.mem_singleton.mp h]; exact mem3.1
theorem not3 {p c st x : Addr} (h1 : x ≠ p) (h2 : x ≠ c) (h3 : x ≠ st) : ¬ x ∈ [p, c, st] := fun m => by
  rcases List.mem_cons.mp m with e | m
  · exact h1 e
  · rcases List.mem_cons.mp m with e | m
    · exact h2 e
    · exact h3 (List.mem_singleton.mp m)
section
variable {K : PySem.W.Frag} {H H' : Hp} {W : List (Str × Int)} {sc : List Str} {p a wl sl c st : Addr} {n n' : Int} {ss ss' : List Str}
theorem En.step (E : En K H W sc p a wl sl c st n ss) (k : Kp [p, c, st] H H') (pen : PenAt H' p a) (hc : H' c = some (.lst [.int n'])) (hs : H' st = some (.lst (ss'.map V.str))) (hx : ∀ x, x ∈ ss' → x ∈ ss) (hl : ss'.length ≤ ss.length) : En K H' W sc p a wl sl c st n' ss' where
  pen := pen
  wld := E.wld.keep k E.dw
  scp := k.lst E.scp E.ds
  cnt := hc
  stk := hs
  dw := E.dw
  ds := E.ds
  da := E.da
  pc := E.pc
  ps := E.ps
  cs := E.cs
  nw := E.nw
  nc := E.nc
  ns := fun x m => E.ns x (hx x m)
  lw := E.lw
  ls := by have := E.ls; omega
theorem En.same (E : En K H W sc p a wl sl c st n ss) (k : Kp [p] H H') (pen : PenAt H' p a) : En K H' W sc p a wl sl c st n ss :=
  E.step (k.mono sub3) pen (k.lst E.cnt (not1 E.pc.symm)) (k.lst E.stk (not1 E.ps.symm)) (fun _ m => m) (Nat.le_refl _)
theorem En.new {q : Addr} {o : HO} (E : En K H W sc p a wl sl c st n ss) (h : H q = none) : En K (upd H q o) W sc p a wl sl c st n ss := E.same (Kp.new h) (E.pen.new h)
theorem En.fresh {q : Addr} (E : En K H W sc p a wl sl c st n ss) (h : H q = none) : ¬ q ∈ [p, c, st] :=
  not3 (E.pen.apart h).1 (ne_of_none E.cnt h).symm (ne_of_none E.stk h).symm
/-- some parts less -/
theorem En.less {m : Int} (E : En K H W sc p a wl sl c st n ss) : En K (upd H c (.lst [.int m])) W sc p a wl sl c st m ss := by
  have na : c ≠ a := fun e => E.da (by rw [← e]; exact mem3.2.1)
  exact E.step (Kp.put E.cnt mem3.2.1) (E.pen.mut E.pc.symm na) upd_same (by rw [upd_ne E.cs.symm]; exact E.stk) (fun _ m => m) (Nat.le_refl _)
theorem En.room {r : Addr} {dp : Int} (E : En K H W sc p a wl sl c st n ss) (h : H r = some (.lst [.int dp, .ref c, .ref st])) : ¬ r ∈ [p, c, st] := by
  obtain ⟨ns, t, q, h1, _⟩ := E.pen
  refine not3 (ne_of h h1 fun e => ?_) (ne_of h E.cnt fun e => ?_) (ne_of h E.stk fun e => ?_)
  · have e' := HO.lst.inj e
    cases e'
  · have e' := HO.lst.inj e
    cases e'
  · have e' := HO.lst.inj e
    cases ss with
    | nil => cases e'
    | cons x r => cases e'
theorem En.nms (E : En K H W sc p a wl sl c st n ss) : Nms W sc ss := ⟨fun f m => (E.nw f m).1, E.nc, E.ns⟩
end
/-- a part is drawn -/
def Drawn (K : PySem.W.Frag) (W : List (Str × Int)) (sc : List Str) (p a c st : Addr) (dp n : Int) (ss : List Str) (H : Hp) (Q : VK) : Prop :=
  ∀ (v : V) (d : Lz.P) (H' : Hp) (n' : Int) (ss' : List Str), Kp [p, c, st] H H' → PenAt H' p a → H' c = some (.lst [.int n']) → H' st = some (.lst (ss'.map V.str)) → Dp K H' v d.data → Dr W sc dp n ss n' ss' [d] → Q v H'
def wantOk (x : Str) : Prop := x = "number" ∨ x = "pair" ∨ x = "any"
def spPart (K : PySem.W.Frag) (k : Nat) : Sp := fun vs H Q _ => ∃ (p a wl sl r c st : Addr) (want : Str) (W : List (Str × Int)) (sc ss : List Str) (dp n : Int), vs = [.ref p, .ref wl, .ref sl, .ref r, .str want] ∧
  En K H W sc p a wl sl c st n ss ∧ H r = some (.lst [.int dp, .ref c, .ref st]) ∧ 0 ≤ dp ∧ dp < k ∧ wantOk want ∧ Drawn K W sc p a c st dp n ss H Q
/-- room: one less deep than the part -/
def spCall (K : PySem.W.Frag) (k : Nat) : Sp := fun vs H Q _ => ∃ (p a wl sl r c st : Addr) (want : Str) (W : List (Str × Int)) (sc ss : List Str) (dp n : Int), vs = [.ref p, .ref wl, .ref sl, .ref r, .str want] ∧
  En K H W sc p a wl sl c st n ss ∧ H r = some (.lst [.int dp, .ref c, .ref st]) ∧ 5 ≤ dp ∧ dp < k ∧ W ≠ [] ∧ wantOk want ∧ Drawn K W sc p a c st (dp + 1) n ss H Q
def spLet (K : PySem.W.Frag) (k : Nat) : Sp := fun vs H Q _ => ∃ (p a wl sl r c st : Addr) (want : Str) (W : List (Str × Int)) (sc ss : List Str) (dp n : Int), vs = [.ref p, .ref wl, .ref sl, .ref r, .str want] ∧
  En K H W sc p a wl sl c st n ss ∧ H r = some (.lst [.int dp, .ref c, .ref st]) ∧ 0 ≤ dp ∧ dp < k ∧ wantOk want ∧ Drawn K W sc p a c st (dp + 1) n ss H Q
/-- a leaf is a part -/
theorem leaf_of {K : PySem.W.Frag} {H : Hp} {W : List (Str × Int)} {sc ss : List Str} {p a wl sl c st : Addr} {n dp : Int} {want : Str} {Q : VK} {E : XK} (En : En K H W sc p a wl sl c st n ss) (D : Drawn K W sc p a c st dp n ss H Q) : spLeaf K [.ref p, .ref wl, .ref sl, .str want] H Q E :=
  ⟨p, a, wl, sl, want, W, sc, rfl, En.pen, En.wld, En.scp, fun e => En.dw (by rw [e]; exact mem3.1), fun e => En.ds (by rw [e]; exact mem3.1), fun f m => (En.nw f m).1, En.nc, Nat.le_trans En.lw (by decide), (by have := En.ls; omega),
    fun v d H' k pen hd hr => D v d H' n ss (k.mono sub3) pen (k.lst En.cnt (not1 En.pc.symm)) (k.lst En.stk (not1 En.ps.symm)) hd (hr _ _ _)⟩
section
variable {P : Program} {w : World} {K : PySem.W.Frag} {mg : Str → Option Value} {base : Heap} {f : Addr} {fd : FuncData}
abbrev sLCall : Stmt := topS 61
theorem scLCall : FnScope ["_law_pen_here", "_law_world", "_law_scope", "_law_room", "_law_want", "_law_name", "_law_wanted", "_law_many", "_law_part_here", "_law_inner", "_law_k"] ["_law_pen_here", "_law_world", "_law_scope", "_law_room", "_law_want"] (defScope sLCall) := ⟨rfl, rfl, rfl, by decide +kernel, rfl, by decide +kernel, by decide +kernel⟩
theorem ok_call {k j : Nat} (hj : 3 ≤ j) (F : Fun K "_law_call" "_law_call" sLCall f fd) (B : Bt mg) (CLDraw : C8.Cal P w K mg base 1 "_law_draw" (spDraw K) []) (CLLeaf : C8.Cal P w K mg base 3 "_law_leaf" (spLeaf K) []) (CLFits : C8.Cal P w K mg base 1 "_law_fits" (spFits K) [])
    (CLPart : C8.Cal P w K mg base j "_law_part" (spPart K k) []) : FnOk P w K mg base CX0 (j + 1) f fd ["_law_pen_here", "_law_world", "_law_scope", "_law_room", "_law_want"] (spCall K k) := by
  have ml := B.len
  have mmax := B.max
  have mrange := B.range
  refine F.ok scLCall (fun vs H Q E h => ?_) (fun cdv A outer s H vs Q E hr h => ?_)
  · obtain ⟨p, a, wl, sl, r, c, st, want, W, sc, ss, dp, n, rfl, _⟩ := h
    rfl
  obtain ⟨p, a, wl, sl, r, c, st, want, W, sc, ss, dp, n, rfl, En0, hR, hdp5, hdpk, hW0, hwant, D⟩ := h
  refine ⟨_, (pss_cons (ps_asg (pe_ix (ix_listK (K := K) rfl) (pv 1) (C8.pe_c CLDraw hr (by first | decide | omega) (by rfl) (pa_cons (pv 0) (pa_cons (pe_callB (call_lenK (K := K) rfl) (by rfl) ml PySem.boot_len (pa_cons (pv 1) pa_nil)) pa_nil))) (fun _ _ => rfl)) (pg_tupK (K := K) (n := 2) rfl rfl (pgs_cons (pg_name (i := 5) scLCall.nd rfl (.inl rfl)) (pgs_cons (pg_name (i := 6) scLCall.nd rfl (.inl rfl)) pgs_nil))))
    (pss_cons (ps_set (i := 7) scLCall.nd rfl (.inl rfl) (pe_callB (call_max2 rfl) (by rfl) mmax (by decide +kernel) (pa_cons pe_int (pa_cons (pe_op op_add (pv 6) (pe_ix (ix_listK (K := K) rfl) (pe_lst (pa_cons pe_int (pa_cons pe_int (pa_cons pe_int (pa_cons pe_int (pa_cons pe_int (pa_cons pe_int (pa_cons pe_int (pa_cons (pe_un un_neg pe_int) pa_nil))))))))) (C8.pe_c CLDraw hr (by first | decide | omega) (by rfl) (pa_cons (pv 0) (pa_cons pe_int pa_nil))) (fun _ _ => rfl))) pa_nil))))
    (pss_cons (ps_if (pt_not (pt_truthK (K := K) rfl (C8.pe_c CLFits hr (by first | decide | omega) (by rfl) (pa_cons (pv 3) (pa_cons (pe_op op_mul pe_int (pv 7)) pa_nil))) (fun _ => rfl))) (pss_one (ps_ret (C8.pe_c CLLeaf hr (by first | decide | omega) (by rfl) (pa_cons (pv 0) (pa_cons (pv 1) (pa_cons (pv 2) (pa_cons (pv 4) pa_nil))))))) pss_nil)
    (pss_cons (ps_set (i := 8) scLCall.nd rfl (.inl rfl) (pe_tup (pa_cons pe_str (pa_cons (pv 5) pa_nil))))
    (pss_cons (ps_set (i := 9) scLCall.nd rfl (.inl rfl) (pe_lst (pa_cons (pe_op op_sub (pe_ix (ix_listK (K := K) rfl) (pv 3) pe_int (fun _ _ => rfl)) (pv 7)) (pa_cons (pe_ix (ix_listK (K := K) rfl) (pv 3) pe_int (fun _ _ => rfl)) (pa_cons (pe_ix (ix_listK (K := K) rfl) (pv 3) pe_int (fun _ _ => rfl)) pa_nil)))))
    (pss_cons (ps_for PassesOwn.never rfl (pi_range1 (by rfl) mrange (pa_cons (pv 7) pa_nil)) (pg_name (i := 10) scLCall.nd rfl (.inl rfl)) (pss_one (ps_set (i := 8) scLCall.nd rfl (.inl rfl) (pe_tup (pa_cons pe_str (pa_cons (pv 8) (pa_cons (C8.pe_c CLPart hr (by first | decide | omega) (by rfl) (pa_cons (pv 0) (pa_cons (pv 1) (pa_cons (pv 2) (pa_cons (pv 9) (pa_cons (pe_ix (ix_listK (K := K) rfl) (pe_lst (pa_cons pe_str (pa_cons pe_str pa_nil))) (pe_op op_fdiv (C8.pe_c CLDraw hr (by first | decide | omega) (by rfl) (pa_cons (pv 0) (pa_cons pe_int pa_nil))) pe_int) (fun _ _ => rfl)) pa_nil)))))) pa_nil)))))))
    (pss_one (ps_ret (pv 8))))))))), ?_⟩
  have hWl : 0 < W.length := List.length_pos_iff.mpr hW0
  -- name, wanted
  obtain ⟨ws, hws, hdpw⟩ := id En0.wld
  have hlw : ws.length = W.length := by rw [hdpw.length, List.length_map]
  have lw := En0.lw
  refine ⟨_, rfl, _, rfl, _, rfl, wl, _, rfl, .inl (SqL.of hws), p, a, _, rfl, En0.pen, (by rw [hlw]; omega), (by rw [hlw]; omega), fun z H1 k1 pen1 z0 z1 => ?_⟩
  rw [hlw] at z1
  have hz : z.toNat < W.length := by omega
  have En1 := En0.same k1 pen1
  have hR1 := k1.lst hR (fun m => En0.room hR (sub3 _ m))
  obtain ⟨ws, hws, hdpw⟩ := id En1.wld
  obtain ⟨v, hv, hvd⟩ := hdpw.get (i := z.toNat) (d := wD W[z.toNat]) (by rw [List.getElem?_map, List.getElem?_eq_getElem hz]; rfl)
  obtain ⟨t, xs, rfl, ht, hxs⟩ := hvd.tup_of
  have hmem := List.getElem_mem hz
  generalize W[z.toNat] = fw at hmem hxs hvd
  obtain ⟨fn, wn⟩ := fw
  obtain ⟨hfn, hwn0, hwn4⟩ := En0.nw _ hmem
  obtain rfl : xs = [.str fn, .int wn] := by
    cases hxs with
    | cons h1 h2 =>
      cases h1
      cases h2 with
      | cons h3 h4 =>
        cases h3
        cases h4
        rfl
  refine ⟨wl, _, _, _, rfl, rfl, SqL.of hws, at_of (j := z.toNat) (by omega) hv, t, _, rfl, ht, rfl, _, _, rfl, _, _, rfl, rfl, ?_⟩
  -- many
  refine ⟨_, rfl, _, rfl, (by show 8 ≤ sizeLine; decide), fun l hl => ?_⟩
  have En2 := En1.new (o := .lst [.int 0, .int 0, .int 0, .int 0, .int 0, .int 0, .int 1, .int (-1)]) hl
  have nl := En1.fresh hl
  have hl2 : (upd H1 l (.lst [.int 0, .int 0, .int 0, .int 0, .int 0, .int 0, .int 1, .int (-1)])) l = some (.lst [.int 0, .int 0, .int 0, .int 0, .int 0, .int 0, .int 1, .int (-1)]) := upd_same
  have k2 : Kp [p, c, st] H (upd H1 l (.lst [.int 0, .int 0, .int 0, .int 0, .int 0, .int 0, .int 1, .int (-1)])) := (k1.mono sub3).trans (Kp.new hl)
  have hR2 := (Kp.new (S := []) (o := .lst [.int 0, .int 0, .int 0, .int 0, .int 0, .int 0, .int 1, .int (-1)]) hl).lst hR1 (fun m => nomatch m)
  refine ⟨_, rfl, p, a, 8, rfl, En2.pen, (by decide), (by decide), fun y H3 k3 pen3 y0 y1 => ?_⟩
  have En3 := En2.same k3 pen3
  have hl3 := k3.lst hl2 (fun m => nl (sub3 _ m))
  have hR3 := k3.lst hR2 (fun m => En2.room hR2 (sub3 _ m))
  have k3' := k2.trans (k3.mono sub3)
  obtain ⟨e, he, he0, he1⟩ : ∃ e : Int, ([.int 0, .int 0, .int 0, .int 0, .int 0, .int 0, .int 1, .int (-1)] : List V)[y.toNat]? = some (.int e) ∧ -1 ≤ e ∧ e ≤ 1 := by
    have h0 : y.toNat < 8 := by omega
    generalize y.toNat = j at h0
    match j, h0 with
    | 0, _ => exact ⟨0, rfl, by omega⟩
    | 1, _ => exact ⟨0, rfl, by omega⟩
    | 2, _ => exact ⟨0, rfl, by omega⟩
    | 3, _ => exact ⟨0, rfl, by omega⟩
    | 4, _ => exact ⟨0, rfl, by omega⟩
    | 5, _ => exact ⟨0, rfl, by omega⟩
    | 6, _ => exact ⟨1, rfl, by omega⟩
    | 7, _ => exact ⟨-1, rfl, by omega⟩
  refine ⟨l, _, _, _, rfl, rfl, SqL.of hl3, at_of (j := y.toNat) (by omega) he, _, _, rfl, rfl, _, _, rfl, ?_⟩
  obtain ⟨m, hm, hm5⟩ : ∃ m : Nat, (if wn + e > 0 then wn + e else 0) = (m : Int) ∧ m ≤ 5 := ⟨(if wn + e > 0 then wn + e else 0).toNat, by split <;> omega, by split <;> omega⟩
  show tSeq _ _ _ [some (.ref p), some (.ref wl), some (.ref sl), some (.ref r), some (.str want), some (.str fn), some (.int wn), some (.int (if wn + e > 0 then wn + e else 0)), none, none, none] H3
  rw [hm]
  clear k1 k2 hR1 hR2 hl2 hl3 En1 En2
  -- does it fit
  refine ⟨_, rfl, _, rfl, _, _, rfl, rfl, .inl ⟨by decide, by decide⟩, r, c, _, _, n, _, rfl, hR3, En3.cnt, fun hlt => ?_, fun hle => ?_⟩
  · refine ⟨false, rfl, ?_⟩
    refine ⟨_, rfl, _, rfl, _, rfl, _, rfl, ?_⟩
    exact leaf_of (E := C8.E0) (dp := dp + 1) En3 fun v d H' n' ss' kk => D v d H' n' ss' (k3'.trans kk)
  · refine ⟨true, rfl, ?_⟩
    have En4 := En3.less (m := n - 2 * m)
    have k4 : Kp [p, c, st] H (upd H3 c (.lst [.int (n - 2 * m)])) := k3'.trans (Kp.put En3.cnt mem3.2.1)
    have hR4 : (upd H3 c (.lst [.int (n - 2 * m)])) r = some (.lst [.int dp, .ref c, .ref st]) := by
      rw [upd_ne (fun e => En3.room hR3 (by rw [e]; exact mem3.2.1))]
      exact hR3
    generalize upd H3 c (.lst [.int (n - 2 * m)]) = H4 at En4 k4 hR4 ⊢
    -- the function, the room within
    refine ⟨_, rfl, (by show 2 ≤ sizeLine; decide), fun q0 hq0 => ?_⟩
    have En5 := En4.new (o := .tup [.str "fun", .str fn]) hq0
    have k5 : Kp [p, c, st] H (upd H4 q0 (.tup [.str "fun", .str fn])) := k4.trans (Kp.new hq0)
    have hR5 : (upd H4 q0 (.tup [.str "fun", .str fn])) r = some (.lst [.int dp, .ref c, .ref st]) := by rw [upd_ne (ne_of_none hR4 hq0)]; exact hR4
    have hd5 : Dp K (upd H4 q0 (.tup [.str "fun", .str fn])) (.ref q0) (Lz.P.fn fn).data := Dp.newT hq0 (.cons (.str _) (.cons (.str _) .nil)) rfl
    generalize upd H4 q0 (.tup [.str "fun", .str fn]) = H5 at En5 k5 hR5 hd5 ⊢
    refine ⟨_, rfl, r, _, _, _, rfl, rfl, SqL.of hR5, at_of (j := 0) rfl rfl, _, rfl, _, _, rfl, rfl, _, rfl, r, _, _, _, rfl, rfl, SqL.of hR5, at_of (j := 1) rfl rfl, _, rfl, r, _, _, _, rfl, rfl, SqL.of hR5, at_of (j := 2) rfl rfl, (by show 3 ≤ sizeLine; decide), fun r2 hr2 => ?_⟩
    have En6 := En5.new (o := .lst [.int (dp - m), .ref c, .ref st]) hr2
    have k6 : Kp [p, c, st] H (upd H5 r2 (.lst [.int (dp - m), .ref c, .ref st])) := k5.trans (Kp.new hr2)
    have hR6 : (upd H5 r2 (.lst [.int (dp - m), .ref c, .ref st])) r2 = some (.lst [.int (dp - m), .ref c, .ref st]) := upd_same
    have hd6 : Dp K (upd H5 r2 (.lst [.int (dp - m), .ref c, .ref st])) (.ref q0) (gives (.fn fn) []).data := Dp.keep (S := []) (Kp.new hr2) _ _ (data_fz _) hd5
    generalize upd H5 r2 (.lst [.int (dp - m), .ref c, .ref st]) = H6 at En6 k6 hR6 hd6 ⊢
    clear En0 En3 En4 En5 hR hR3 hR4 hR5 hd5 k3 k4 k5
    -- the things
    refine ⟨_, rfl, _, rfl, (by omega), (by omega), for_range (lo := 0) (n := (m : Int).toNat) (fun i σ H' => ∃ (v : V) (n' : Int) (ss' : List Str) (as : List Lz.P) (v10 : Option V),
        σ = [some (.ref p), some (.ref wl), some (.ref sl), some (.ref r), some (.str want), some (.str fn), some (.int wn), some (.int m), some v, some (.ref r2), v10] ∧ as.length = i ∧ Kp [p, c, st] H H' ∧ En K H' W sc p a wl sl c st n' ss' ∧
          H' r2 = some (.lst [.int (dp - m), .ref c, .ref st]) ∧ Dp K H' v (gives (.fn fn) as).data ∧ Dr W sc (dp - m) (n - 2 * m) ss n' ss' as)
      ⟨.ref q0, n - 2 * m, ss, [], none, rfl, rfl, k6, En6, hR6, hd6, .nil⟩ ?_ ?_⟩
    · rintro i σ H7 hi ⟨v, n', ss', as, v10, rfl, hlen, k7, En7, hR7, hd7, hdr⟩
      refine ⟨_, rfl, _, rfl, _, rfl, _, rfl, _, rfl, (by show 2 ≤ sizeLine; decide), fun l hl => ?_⟩
      have En8 := En7.new (o := .lst [.str "number", .str "any"]) hl
      have nl := En7.fresh hl
      have hl8 : (upd H7 l (.lst [.str "number", .str "any"])) l = some (.lst [.str "number", .str "any"]) := upd_same
      have hR8 : (upd H7 l (.lst [.str "number", .str "any"])) r2 = some (.lst [.int (dp - m), .ref c, .ref st]) := by rw [upd_ne (ne_of_none hR7 hl)]; exact hR7
      have k8 : Kp [p, c, st] H7 (upd H7 l (.lst [.str "number", .str "any"])) := Kp.new hl
      refine ⟨_, rfl, p, a, 3, rfl, En8.pen, (by decide), (by decide), fun g H9 k9 pen9 g0 g1 => ?_⟩
      have En9 := En8.same k9 pen9
      have hl9 := k9.lst hl8 (fun m => nl (sub3 _ m))
      have hR9 := k9.lst hR8 (fun m => En8.room hR8 (sub3 _ m))
      have k9' := k8.trans (k9.mono sub3)
      obtain ⟨wt, hwt, hwt'⟩ : ∃ wt : Str, ([.str "number", .str "any"] : List V)[(g / 2).toNat]? = some (.str wt) ∧ wantOk wt := by
        have h0 : (g / 2).toNat < 2 := by omega
        generalize (g / 2).toNat = j at h0
        match j, h0 with
        | 0, _ => exact ⟨_, rfl, .inl rfl⟩
        | 1, _ => exact ⟨_, rfl, .inr (.inr rfl)⟩
      refine ⟨_, _, rfl, rfl, ⟨by decide, by decide⟩, l, _, _, _, rfl, rfl, SqL.of hl9, at_of (j := (g / 2).toNat) (by show g / 2 = _; omega) hwt, ?_⟩
      refine ⟨p, a, wl, sl, r2, c, st, wt, W, sc, ss', dp - m, n', rfl, En9, hR9, (by omega), (by omega), hwt', fun u d H10 n2 ss2 k10 pen10 hc10 hs10 hd10 hdr10 => ?_⟩
      have En10 := En9.step k10 pen10 hc10 hs10 hdr10.sub hdr10.len
      have hR10 := k10.lst hR9 (En9.room hR9)
      have kk := k9'.trans k10
      have hd11 := Dp.keep kk _ _ (data_fz _) hd7
      refine ⟨(by show 3 ≤ sizeLine; decide), fun q hq => ?_⟩
      refine ⟨_, n2, ss2, as ++ [d], _, rfl, by rw [List.length_append, hlen]; rfl, k7.trans (kk.trans (Kp.new hq)), En10.new hq, by rw [upd_ne (ne_of_none hR10 hq)]; exact hR10, ?_, hdr.append hdr10⟩
      rw [gives_snoc]
      refine Dp.newT hq (.cons (.str _) (.cons hd11 (.cons hd10 .nil))) ?_
      show (true && (fz _ && (fz _ && true))) = true
      rw [data_fz, data_fz]
      rfl
    · rintro σ H7 ⟨v, n', ss', as, v10, rfl, hlen, k7, En7, hR7, hd7, hdr⟩
      refine ⟨_, rfl, D v _ H7 n' ss' k7 En7.pen En7.cnt En7.stk hd7 ?_⟩
      have hl : (as.length : Int) = m := by omega
      refine .call hmem (by omega) (by omega) (by omega) ?_ .nil
      have e1 : dp + 1 - 1 - (as.length : Int) = dp - m := by omega
      have e2 : n - 2 * (as.length : Int) = n - 2 * m := by omega
      rw [e1, e2]
      exact hdr
end
end Lz

set_option Elab.async false
set_option linter.all false
set_option maxRecDepth 100000
set_option maxHeartbeats 4000000
namespace Lz
open PySem PySem.Spec PyProof.Rows L2
theorem En.scope {K : PySem.W.Frag} {H : Hp} {W : List (Str × Int)} {sc sc' : List Str} {p a wl sl c st q : Addr} {n : Int} {ss : List Str} (E : En K H W sc p a wl sl c st n ss) (hq : H q = some (.lst (sc'.map V.str))) (nq : ¬ q ∈ [p, c, st]) (nc : ∀ x, x ∈ sc' → nmOk x) (ls : sc'.length + ss.length ≤ 100) : En K H W sc' p a wl q c st n ss :=
  ⟨E.pen, E.wld, hq, E.cnt, E.stk, E.dw, nq, E.da, E.pc, E.ps, E.cs, E.nw, nc, E.ns, E.lw, ls⟩
theorem En.mut {K : PySem.W.Frag} {H : Hp} {W : List (Str × Int)} {sc : List Str} {p a wl sl c st D : Addr} {n : Int} {ss : List Str} {xs : List V} {o : HO} (E : En K H W sc p a wl sl c st n ss) (h : H D = some (.lst xs)) (nS : ¬ D ∈ [p, c, st]) (na : D ≠ a) (nw : D ≠ wl) (nl : D ≠ sl) : En K (upd H D o) W sc p a wl sl c st n ss :=
  ⟨E.pen.mut (fun e => nS (by rw [e]; exact mem3.1)) na, E.wld.keep (Kp.put h List.mem_cons_self) (not1 nw.symm), by rw [upd_ne nl.symm]; exact E.scp, by rw [upd_ne (fun e => nS (by rw [← e]; exact mem3.2.1))]; exact E.cnt, by rw [upd_ne (fun e => nS (by rw [← e]; exact mem3.2.2))]; exact E.stk,
    E.dw, E.ds, E.da, E.pc, E.ps, E.cs, E.nw, E.nc, E.ns, E.lw, E.ls⟩
/-- an address that is new is none of what is there -/
theorem En.apart {K : PySem.W.Frag} {H : Hp} {W : List (Str × Int)} {sc : List Str} {p a wl sl c st D : Addr} {n : Int} {ss : List Str} (E : En K H W sc p a wl sl c st n ss) (h : H D = none) : ¬ D ∈ [p, c, st] ∧ D ≠ a ∧ D ≠ wl ∧ D ≠ sl := by
  obtain ⟨ws, h1, _⟩ := E.wld
  exact ⟨E.fresh h, (E.pen.apart h).2, (ne_of_none h1 h).symm, (ne_of_none E.scp h).symm⟩
theorem drop_rev {ss : List Str} {k : Nat} (h : k < ss.length) : (ss.drop k).reverse = (ss.drop (k + 1)).reverse ++ [ss[k]] := by
  rw [List.drop_eq_getElem_cons h, List.reverse_cons]
theorem zip_snoc {nm : List Str} {as : List Lz.P} {d : Lz.P} {x : Str} (h : nm[as.length]? = some x) : List.zipWith rowD (nm.take (as.length + 1)) (Lz.P.datas (as ++ [d])) = List.zipWith rowD (nm.take as.length) (Lz.P.datas as) ++ [rowD x d.data] := by
  obtain ⟨hl, hx⟩ := List.getElem?_eq_some_iff.mp h
  rw [datas_map, datas_map, List.map_append, List.take_add_one, h]
  show List.zipWith rowD (nm.take as.length ++ [x]) (as.map Lz.P.data ++ [d.data]) = _
  rw [List.zipWith_append (by rw [List.length_take, List.length_map]; omega)]
  rfl
section
variable {P : Program} {w : World} {K : PySem.W.Frag} {mg : Str → Option Value} {base : Heap} {f : Addr} {fd : FuncData}
abbrev sLLet : Stmt := topS 62
theorem scLLet : FnScope ["_law_pen_here", "_law_world", "_law_scope", "_law_room", "_law_want", "_law_many", "_law_names_here", "_law_rows_here", "_law_name", "_law_kind", "_law_k"] ["_law_pen_here", "_law_world", "_law_scope", "_law_room", "_law_want"] (defScope sLLet) := ⟨rfl, rfl, rfl, by decide +kernel, rfl, by decide +kernel, by decide +kernel⟩
theorem ok_let {k j : Nat} (hj : 3 ≤ j) (F : Fun K "_law_let" "_law_let" sLLet f fd) (B : Bt mg) (CLDraw : C8.Cal P w K mg base 1 "_law_draw" (spDraw K) []) (CLLeaf : C8.Cal P w K mg base 3 "_law_leaf" (spLeaf K) []) (CLFits : C8.Cal P w K mg base 1 "_law_fits" (spFits K) [])
    (CLPart : C8.Cal P w K mg base j "_law_part" (spPart K k) []) : FnOk P w K mg base CX0 (j + 1) f fd ["_law_pen_here", "_law_world", "_law_scope", "_law_room", "_law_want"] (spLet K k) := by
  have ml := B.len
  have mtup := B.tuple
  have mrange := B.range
  refine F.ok scLLet (fun vs H Q E h => ?_) (fun cdv A outer s H vs Q E hr h => ?_)
  · obtain ⟨p, a, wl, sl, r, c, st, want, W, sc, ss, dp, n, rfl, _⟩ := h
    rfl
  obtain ⟨p, a, wl, sl, r, c, st, want, W, sc, ss, dp, n, rfl, En0, hR, hdp0, hdpk, hwant, D⟩ := h
  refine ⟨_, (pss_cons (ps_set (i := 5) scLLet.nd rfl (.inl rfl) (pe_ix (ix_listK (K := K) rfl) (pe_lst (pa_cons pe_int (pa_cons pe_int (pa_cons pe_int (pa_cons pe_int (pa_cons pe_int (pa_cons pe_int (pa_cons pe_int pa_nil)))))))) (C8.pe_c CLDraw hr (by first | decide | omega) (by rfl) (pa_cons (pv 0) (pa_cons pe_int pa_nil))) (fun _ _ => rfl)))
    (pss_cons (ps_if (PW.pt (pw_or (pt_cmpR op_lt (pe_callB (call_lenK (K := K) rfl) (by rfl) ml PySem.boot_len (pa_cons (pe_ix (ix_listK (K := K) rfl) (pv 3) pe_int (fun _ _ => rfl)) pa_nil)) (pv 5) (nomark _)) (pw_or1 (pt_not (pt_truthK (K := K) rfl (C8.pe_c CLFits hr (by first | decide | omega) (by rfl) (pa_cons (pv 3) (pa_cons (pe_op op_add (pv 5) pe_int) pa_nil))) (fun _ => rfl)))))) (pss_one (ps_ret (C8.pe_c CLLeaf hr (by first | decide | omega) (by rfl) (pa_cons (pv 0) (pa_cons (pv 1) (pa_cons (pv 2) (pa_cons (pv 4) pa_nil))))))) pss_nil)
    (pss_cons (ps_setLc (i := 6) (own := [("_law_k", 10)]) rfl scLLet.nd rfl rfl (sw_true rfl rfl rfl (by decide +kernel)) (pi_range1 (by rfl) mrange (pa_cons (pv 5) pa_nil)) (blkOk_by (N := ["_law_pen_here", "_law_world", "_law_scope", "_law_room", "_law_want", "_law_many", "_law_names_here", "_law_rows_here", "_law_name", "_law_kind", "_law_k"]) (sc := defScope sLLet) (by decide +kernel)) (fun _ _ _ _ _ => (pg_name (i := 10) scLLet.nd rfl (.inl rfl))) (fun _ _ _ _ _ => pts_nil) (fun _ _ _ _ _ => (pe_bm0K (K := K) rfl PySem.F.plainAttrs_list PySem.F.slot_list_pop PySem.F.type_list_pop mt_pop (pe_ix (ix_listK (K := K) rfl) (pv 3) pe_int (fun _ _ => rfl)))))
    (pss_cons (ps_set (i := 7) scLLet.nd rfl (.inl rfl) (pe_lst pa_nil))
    (pss_cons (ps_for PassesOwn.never rfl (pi_listK (K := K) rfl (pv 6)) (pg_name (i := 8) scLLet.nd rfl (.inl rfl)) (pss_cons (ps_set (i := 9) scLLet.nd rfl (.inl rfl) (pe_ix (ix_listK (K := K) rfl) (pe_lst (pa_cons pe_str (pa_cons pe_str (pa_cons pe_str pa_nil)))) (C8.pe_c CLDraw hr (by first | decide | omega) (by rfl) (pa_cons (pv 0) (pa_cons pe_int pa_nil))) (fun _ _ => rfl)))
    (pss_one (ps_expr (pe_bmK (K := K) rfl PySem.F.plainAttrs_list PySem.F.slot_list_append PySem.F.type_list_append mt_append (pv 7) (pa_cons (pe_tup (pa_cons (pv 8) (pa_cons (C8.pe_c CLPart hr (by first | decide | omega) (by rfl) (pa_cons (pv 0) (pa_cons (pv 1) (pa_cons (pe_op op_cat (pv 2) (pv 6)) (pa_cons (pv 3) (pa_cons (pv 9) pa_nil)))))) pa_nil))) pa_nil))))))
    (pss_one (ps_ret (pe_tup (pa_cons pe_str (pa_cons (pe_callTy (call_tupleK (K := K) rfl) (by rfl) mtup (by decide +kernel) (pa_cons (pv 7) pa_nil)) (pa_cons (C8.pe_c CLPart hr (by first | decide | omega) (by rfl) (pa_cons (pv 0) (pa_cons (pv 1) (pa_cons (pe_op op_cat (pv 2) (pv 6)) (pa_cons (pv 3) (pa_cons (pv 4) pa_nil)))))) pa_nil))))))))))), ?_⟩
  -- many
  refine ⟨(by show 7 ≤ sizeLine; decide), fun l hl => ?_⟩
  have En1 := En0.new (o := .lst [.int 1, .int 1, .int 2, .int 1, .int 2, .int 3, .int 4]) hl
  have nl := En0.fresh hl
  have hl1 : (upd H l (.lst [.int 1, .int 1, .int 2, .int 1, .int 2, .int 3, .int 4])) l = some (.lst [.int 1, .int 1, .int 2, .int 1, .int 2, .int 3, .int 4]) := upd_same
  have hR1 : (upd H l (.lst [.int 1, .int 1, .int 2, .int 1, .int 2, .int 3, .int 4])) r = some (.lst [.int dp, .ref c, .ref st]) := by rw [upd_ne (ne_of_none hR hl)]; exact hR
  have k1 : Kp [p, c, st] H (upd H l (.lst [.int 1, .int 1, .int 2, .int 1, .int 2, .int 3, .int 4])) := Kp.new hl
  refine ⟨_, rfl, p, a, 7, rfl, En1.pen, (by decide), (by decide), fun y H2 k2 pen2 y0 y1 => ?_⟩
  have En2 := En1.same k2 pen2
  have hl2 := k2.lst hl1 (fun m => nl (sub3 _ m))
  have hR2 := k2.lst hR1 (fun m => En1.room hR1 (sub3 _ m))
  have k2' := k1.trans (k2.mono sub3)
  obtain ⟨m, hm, hm1, hm4⟩ : ∃ m : Nat, ([.int 1, .int 1, .int 2, .int 1, .int 2, .int 3, .int 4] : List V)[y.toNat]? = some (.int (m : Int)) ∧ 1 ≤ m ∧ m ≤ 4 := by
    have h0 : y.toNat < 7 := by omega
    generalize y.toNat = j at h0
    match j, h0 with
    | 0, _ => exact ⟨1, rfl, by omega, by omega⟩
    | 1, _ => exact ⟨1, rfl, by omega, by omega⟩
    | 2, _ => exact ⟨2, rfl, by omega, by omega⟩
    | 3, _ => exact ⟨1, rfl, by omega, by omega⟩
    | 4, _ => exact ⟨2, rfl, by omega, by omega⟩
    | 5, _ => exact ⟨3, rfl, by omega, by omega⟩
    | 6, _ => exact ⟨4, rfl, by omega, by omega⟩
  refine ⟨l, _, _, _, rfl, rfl, SqL.of hl2, at_of (j := y.toNat) (by omega) hm, ?_⟩
  clear k1 k2 hR1 hl1 hl2 En1 nl
  -- names enough, does it fit
  have hls : (ss.map V.str).length = ss.length := List.length_map _
  refine ⟨_, rfl, r, _, _, _, rfl, rfl, SqL.of hR2, at_of (j := 2) rfl rfl, st, _, rfl, .inl (SqL.of En2.stk), _, rfl, _, _, rfl, rfl, _, rfl, ?_⟩
  refine ite2 (fun c1 => ?_) (fun c1 => ?_)
  · refine ⟨_, rfl, _, rfl, _, rfl, _, rfl, ?_⟩
    exact leaf_of (E := C8.E0) (dp := dp + 1) En2 fun v d H' n' ss' kk => D v d H' n' ss' (k2'.trans kk)
  have hms : m ≤ ss.length := by
    have c1' : ¬ (((ss.map V.str).length : Nat) : Int) < (m : Int) := of_decide_eq_false (Bool.eq_false_iff.mpr c1)
    rw [hls] at c1'
    omega
  refine ⟨_, rfl, _, rfl, _, _, rfl, rfl, r, c, _, _, n, _, rfl, hR2, En2.cnt, fun hlt => ?_, fun hle => ?_⟩
  · refine ⟨false, rfl, ?_⟩
    refine ⟨_, rfl, _, rfl, _, rfl, _, rfl, ?_⟩
    exact leaf_of (E := C8.E0) (dp := dp + 1) En2 fun v d H' n' ss' kk => D v d H' n' ss' (k2'.trans kk)
  refine ⟨true, rfl, ?_⟩
  have En3 := En2.less (m := n - (m + 1))
  have k3 : Kp [p, c, st] H (upd H2 c (.lst [.int (n - (m + 1))])) := k2'.trans (Kp.put En2.cnt mem3.2.1)
  have hR3 : (upd H2 c (.lst [.int (n - (m + 1))])) r = some (.lst [.int dp, .ref c, .ref st]) := by
    rw [upd_ne (fun e => En2.room hR2 (by rw [e]; exact mem3.2.1))]
    exact hR2
  generalize upd H2 c (.lst [.int (n - (m + 1))]) = H3 at En3 k3 hR3 ⊢
  clear En2 hR2 k2'
  -- the names
  refine ⟨_, rfl, _, rfl, (by omega), (by omega), fun nl hnl => ?_⟩
  have nnl := En3.fresh hnl
  have hnl3 : H nl = none := k3.free hnl nnl
  have nst : nl ≠ st := fun e => nnl (by rw [e]; exact mem3.2.2)
  have nrl : r ≠ nl := ne_of_none hR3 hnl
  have hmt : (m : Int).toNat = m := by omega
  refine lc_range (lo := 0) (n := (m : Int).toNat) (fun i H' => Kp [p, c, st] H3 H' ∧ PenAt H' p a ∧ H' c = some (.lst [.int (n - (m + 1))]) ∧ H' st = some (.lst ((ss.take (ss.length - i)).map V.str)) ∧ H' nl = some (.lst ((ss.drop (ss.length - i)).reverse.map V.str)) ∧ H' r = some (.lst [.int dp, .ref c, .ref st]))
    ⟨Kp.new hnl, (En3.new hnl).pen, (En3.new hnl).cnt, ?_, ?_, ?_⟩ (fun i H4 hi ⟨k4, pen4, hc4, hs4, hn4, hR4⟩ => ?_) (fun H4 ⟨k4, pen4, hc4, hs4, hn4, hR4⟩ => ?_)
  · rw [upd_ne nst.symm, En3.stk, Nat.sub_zero, List.take_length]
  · rw [upd_same, Nat.sub_zero, List.drop_length]
    rfl
  · rw [upd_ne nrl]
    exact hR3
  · have hi' : i < m := by omega
    have hk : ss.length - i - 1 < ss.length := by omega
    have e1 : ss.length - (i + 1) = ss.length - i - 1 := by omega
    have e2 : ss.length - i = (ss.length - i - 1) + 1 := by omega
    refine ⟨rfl, ?_⟩
    refine ⟨_, rfl, r, _, _, _, rfl, rfl, SqL.of hR4, at_of (j := 2) rfl rfl, .inl ⟨rfl, _, SqL.of hs4⟩, st, _, .str ss[ss.length - i - 1], rfl, rfl, hs4, ?_, ?_⟩
    · rw [List.length_map, List.length_take, List.getElem?_map, Nat.min_eq_left (by omega), List.getElem?_take_of_lt (by omega), List.getElem?_eq_getElem hk]
      rfl
    · refine ⟨_, (by rw [upd_ne nst]; exact hn4), (by rw [List.length_map, List.length_reverse, List.length_drop]; exact small1000 (by omega)), ?_⟩
      have nsr : r ≠ st := fun e => En3.room hR3 (by rw [e]; exact mem3.2.2)
      refine ⟨(k4.trans (Kp.put hs4 mem3.2.2)).mut hnl, (pen4.mut (fun e => En3.ps e.symm) (fun e => En3.da (by rw [← e]; exact mem3.2.2))).mut (fun e => nnl (by rw [e]; exact mem3.1)) (En3.apart hnl).2.1, ?_, ?_, ?_, ?_⟩
      · rw [upd_ne (fun e => nnl (by rw [← e]; exact mem3.2.1)), upd_ne En3.cs]
        exact hc4
      · rw [upd_ne nst.symm, upd_same, e1, List.map_take, List.map_take, List.dropLast_eq_take, List.take_take, List.length_take, List.length_map]
        congr 3
        omega
      · rw [upd_same, e1, drop_rev hk, ← e2, List.map_append]
        rfl
      · rw [upd_ne nrl, upd_ne nsr]
        exact hR4
  rw [hmt] at hs4 hn4
  generalize hkk : ss.length - m = kk at hs4 hn4
  obtain ⟨nm, hnm⟩ : ∃ nm : List Str, nm = (ss.drop kk).reverse := ⟨_, rfl⟩
  rw [← hnm] at hn4
  have hnml : nm.length = m := by rw [hnm, List.length_reverse, List.length_drop]; omega
  have hnms : ∀ x, x ∈ nm → nmOk x := fun x hx => En3.ns x (by
    rw [hnm] at hx
    exact List.mem_of_mem_drop (List.mem_reverse.mp hx))
  have En4 := En3.step k4 pen4 hc4 hs4 (fun x hx => List.mem_of_mem_take hx) (by rw [List.length_take]; omega)
  have k4' := k3.trans k4
  -- rows
  refine ⟨Nat.zero_le _, fun lr hlr => ?_⟩
  have En5 := En4.new (o := .lst []) hlr
  obtain ⟨nlr, nlra, nlrw, nlrs⟩ := En4.apart hlr
  have hlr0 : H lr = none := k4'.free hlr nlr
  have k5 : Kp [p, c, st] H (upd H4 lr (.lst [])) := k4'.mut hlr0
  have hn5 : (upd H4 lr (.lst [])) nl = some (.lst (nm.map V.str)) := by rw [upd_ne (ne_of_none hn4 hlr)]; exact hn4
  have hR5 : (upd H4 lr (.lst [])) r = some (.lst [.int dp, .ref c, .ref st]) := by rw [upd_ne (ne_of_none hR4 hlr)]; exact hR4
  have hr5 : (upd H4 lr (.lst [])) lr = some (.lst []) := upd_same
  have nlrn : nl ≠ lr := ne_of_none hn4 hlr
  have nlrr : r ≠ lr := ne_of_none hR4 hlr
  generalize upd H4 lr (.lst []) = H5 at En5 k5 hn5 hR5 hr5 ⊢
  clear En4 En3 k4 k3 hR3 hR4 hs4 hn4 hc4 pen4
  have hls' : sc.length + nm.length + kk ≤ 100 := by have := En0.ls; omega
  refine ⟨_, rfl, nl, rfl, ⟨_, SqL.of hn5⟩, for_list (K := K) (a := nl) (xs := nm.map V.str) (fun i σ H' => ∃ (n' : Int) (ss' : List Str) (as : List Lz.P) (rs : List V) (v8 v9 : Option V),
      σ = [some (.ref p), some (.ref wl), some (.ref sl), some (.ref r), some (.str want), some (.int m), some (.ref nl), some (.ref lr), v8, v9, none] ∧ as.length = i ∧ Kp [p, c, st] H H' ∧ En K H' W sc p a wl sl c st n' ss' ∧ ss'.length ≤ kk ∧
      H' nl = some (.lst (nm.map V.str)) ∧ H' r = some (.lst [.int dp, .ref c, .ref st]) ∧ H' lr = some (.lst rs) ∧ DpAll K H' rs (List.zipWith rowD (nm.take i) (Lz.P.datas as)) ∧ Dr W (sc ++ nm) dp (n - (m + 1)) (ss.take kk) n' ss' as)
    ⟨n - (m + 1), ss.take kk, [], [], none, none, rfl, rfl, k5, En5, by rw [List.length_take]; omega, hn5, hR5, hr5, .nil, .nil⟩ (fun i σ H' _ ⟨_, _, _, _, _, _, _, _, _, _, _, h, _⟩ => SqL.of h) ?_ ?_⟩
  · rintro i x σ H6 hi ⟨n', ss', as, rs, v8, v9, rfl, hlen, k6, En6, hss, hn6, hR6, hr6, hrows, hdr⟩
    obtain ⟨nx, hnx, rfl⟩ : ∃ nx, nm[i]? = some nx ∧ x = V.str nx := by
      rw [List.getElem?_map] at hi
      cases e : nm[i]? with
      | none => rw [e] at hi; cases hi
      | some y => rw [e] at hi; exact ⟨y, rfl, (Option.some.inj hi).symm⟩
    have hil : i < nm.length := (List.getElem?_eq_some_iff.mp hnx).1
    have hrl : rs.length ≤ 4 := by
      rw [hrows.length, List.length_zipWith, List.length_take]
      omega
    -- the kind
    refine ⟨(by show 3 ≤ sizeLine; decide), fun l hl => ?_⟩
    have k7 : Kp [p, c, st] H6 (upd H6 l (.lst [.str "number", .str "pair", .str "any"])) := Kp.new hl
    have En7 := En6.new (o := .lst [.str "number", .str "pair", .str "any"]) hl
    have hl7 : (upd H6 l (.lst [.str "number", .str "pair", .str "any"])) l = some (.lst [.str "number", .str "pair", .str "any"]) := upd_same
    have nl7 := En6.fresh hl
    have hn7 := k7.lst hn6 nnl
    have hR7 := k7.lst hR6 (En6.room hR6)
    have hr7 := k7.lst hr6 nlr
    refine ⟨_, rfl, p, a, 3, rfl, En7.pen, (by decide), (by decide), fun g H8 k8 pen8 g0 g1 => ?_⟩
    have k8' := k8.mono (T := [p, c, st]) sub3
    have En8 := En7.same k8 pen8
    have hl8 := k8'.lst hl7 nl7
    have hn8 := k8'.lst hn7 nnl
    have hR8 := k8'.lst hR7 (En7.room hR7)
    have hr8 := k8'.lst hr7 nlr
    obtain ⟨wt, hwt, hwt'⟩ : ∃ wt : Str, ([.str "number", .str "pair", .str "any"] : List V)[g.toNat]? = some (.str wt) ∧ wantOk wt := by
      have h0 : g.toNat < 3 := by omega
      generalize g.toNat = j at h0
      match j, h0 with
      | 0, _ => exact ⟨_, rfl, .inl rfl⟩
      | 1, _ => exact ⟨_, rfl, .inr (.inl rfl)⟩
      | 2, _ => exact ⟨_, rfl, .inr (.inr rfl)⟩
    refine ⟨l, _, _, _, rfl, rfl, SqL.of hl8, at_of (j := g.toNat) (by omega) hwt, ?_⟩
    -- the row
    refine ⟨_, rfl, .inl ⟨rfl, _, SqL.of hr8⟩, _, rfl, _, rfl, _, rfl, _, rfl, _, rfl, sl, nl, _, _, rfl, rfl, En8.scp, hn8, (by rw [List.length_map, List.length_map]; exact Nat.le_of_lt (small1000 (by omega))), fun q hq => ?_⟩
    have k9 : Kp [p, c, st] H8 (upd H8 q (.lst (sc.map V.str ++ nm.map V.str))) := Kp.new hq
    have En9 := (En8.new (o := .lst (sc.map V.str ++ nm.map V.str)) hq).scope (sc' := sc ++ nm) (q := q) (by rw [upd_same, List.map_append]) (En8.fresh hq) (fun x hx => (List.mem_append.mp hx).elim (En8.nc x) (hnms x)) (by rw [List.length_append]; omega)
    have hR9 := k9.lst hR8 (En8.room hR8)
    have hn9 := k9.lst hn8 nnl
    have hr9 := k9.lst hr8 nlr
    have hs9 := k9.lst En8.scp En8.ds
    refine ⟨_, rfl, _, rfl, p, a, wl, q, r, c, st, wt, W, sc ++ nm, ss', dp, n', rfl, En9, hR9, hdp0, hdpk, hwt', fun u d H10 n2 ss2 k10 pen10 hc10 hs10 hd10 hdr10 => ?_⟩
    have hlen2 := hdr10.len
    have kk10 := k7.trans (k8'.trans (k9.trans k10))
    have En10 := En6.step kk10 pen10 hc10 hs10 hdr10.sub hlen2
    have hR10 := kk10.lst hR6 (En6.room hR6)
    have hn10 := kk10.lst hn6 nnl
    have hr10 := kk10.lst hr6 nlr
    have hrows10 := Dp.keepAll kk10 _ _ rows_fz hrows
    refine ⟨(by show 2 ≤ sizeLine; decide), fun t ht => ?_⟩
    have k11 : Kp [p, c, st] H10 (upd H10 t (.tup [.str nx, u])) := Kp.new ht
    have En11 := En10.new (o := .tup [.str nx, u]) ht
    have hr11 := k11.lst hr10 nlr
    have hn11 := k11.lst hn10 nnl
    have hR11 := k11.lst hR10 (En10.room hR10)
    have hrows11 := Dp.keepAll k11 _ _ rows_fz hrows10
    have hrow : Dp K (upd H10 t (.tup [.str nx, u])) (.ref t) (rowD nx d.data) := Dp.newT ht (.cons (.str _) (.cons hd10 .nil)) (by
      show (true && (fz _ && true)) = true
      rw [data_fz]
      rfl)
    refine ⟨lr, _, _, rfl, rfl, hr11, small1000 (by omega), ?_⟩
    have kput : Kp [lr] (upd H10 t (.tup [.str nx, u])) (upd (upd H10 t (.tup [.str nx, u])) lr (.lst (rs ++ [.ref t]))) := Kp.put hr11 List.mem_cons_self
    subst hlen
    refine ⟨n2, ss2, as ++ [d], rs ++ [.ref t], _, _, rfl, by rw [List.length_append]; rfl, (k6.trans (kk10.trans k11)).mut hlr0, En11.mut hr11 nlr nlra nlrw nlrs, by omega, kput.lst hn11 (not1 nlrn), kput.lst hR11 (not1 nlrr), upd_same, ?_, hdr.append hdr10⟩
    rw [zip_snoc hnx]
    exact (Dp.keepAll kput _ _ rows_fz hrows11).append (.one (Dp.keep kput _ _ (by show (true && (fz _ && true)) = true; rw [data_fz]; rfl) hrow))
  · rintro σ H6 ⟨n', ss', as, rs, v8, v9, rfl, hlen, k6, En6, hss, hn6, hR6, hr6, hrows, hdr⟩
    rw [List.length_map] at hlen hrows
    rw [List.take_length] at hrows
    -- the tuple of rows
    refine ⟨_, rfl, lr, _, rfl, .inl ⟨SqL.of hr6, fun t ht => ?_⟩⟩
    have k7 : Kp [p, c, st] H6 (upd H6 t (.tup rs)) := Kp.new ht
    have En7 := En6.new (o := .tup rs) ht
    have hd7 : Dp K (upd H6 t (.tup rs)) (.ref t) (.tuple (List.zipWith rowD nm (Lz.P.datas as))) := Dp.newT ht hrows rows_fz
    have hn7 := k7.lst hn6 nnl
    have hR7 := k7.lst hR6 (En6.room hR6)
    -- the inner part
    refine ⟨_, rfl, _, rfl, _, rfl, _, rfl, sl, nl, _, _, rfl, rfl, En7.scp, hn7, (by rw [List.length_map, List.length_map]; exact Nat.le_of_lt (small1000 (by omega))), fun q hq => ?_⟩
    have k9 : Kp [p, c, st] (upd H6 t (.tup rs)) (upd (upd H6 t (.tup rs)) q (.lst (sc.map V.str ++ nm.map V.str))) := Kp.new hq
    have En9 := (En7.new (o := .lst (sc.map V.str ++ nm.map V.str)) hq).scope (sc' := sc ++ nm) (q := q) (by rw [upd_same, List.map_append]) (En7.fresh hq) (fun x hx => (List.mem_append.mp hx).elim (En7.nc x) (hnms x)) (by rw [List.length_append]; omega)
    have hR9 := k9.lst hR7 (En7.room hR7)
    refine ⟨_, rfl, _, rfl, p, a, wl, q, r, c, st, want, W, sc ++ nm, ss', dp, n', rfl, En9, hR9, hdp0, hdpk, hwant, fun u d H10 n2 ss2 k10 pen10 hc10 hs10 hd10 hdr10 => ?_⟩
    have kk10 := k7.trans (k9.trans k10)
    have hd11 := Dp.keep (k9.trans k10) _ _ (by show fzAll _ = true; exact rows_fz) hd7
    refine ⟨(by show 3 ≤ sizeLine; decide), fun q2 hq2 => ?_⟩
    refine D _ (.lt nm as d) _ n2 ss2 ((k6.trans kk10).trans (Kp.new hq2)) (pen10.new hq2) (by rw [upd_ne (ne_of_none hc10 hq2)]; exact hc10) (by rw [upd_ne (ne_of_none hs10 hq2)]; exact hs10) ?_ ?_
    · refine Dp.newT hq2 (.cons (.str _) (.cons hd11 (.cons hd10 .nil))) ?_
      show (true && (fzAll _ && (fz _ && true))) = true
      rw [rows_fz, data_fz]
      rfl
    · have e1 : dp + 1 - 1 = dp := by omega
      refine .lt (k := kk) (by omega) (by omega) (by omega) (by rw [hnm, List.reverse_reverse]) (by omega) (by omega) (by omega) ?_ .nil
      rw [e1, hnml]
      exact hdr.append hdr10
end
end Lz

set_option Elab.async false
set_option linter.all false
set_option maxRecDepth 100000
set_option maxHeartbeats 8000000
namespace Lz
open PySem PySem.Spec PyProof.Rows L2
def wkv : List (Key × V) := putK (putK (mergeK [] [(Sum.inr "number", .str "op op op op op op when when side let call call call call leaf leaf")]) (Sum.inr "pair") (.str "pair pair pair pair when when side side let let call call call op leaf pair")) (Sum.inr "any") (.str "op op pair pair pair when when side side let let call call call leaf leaf")
def wordOk (x : Str) : Prop := x = "op" ∨ x = "when" ∨ x = "side" ∨ x = "let" ∨ x = "call" ∨ x = "leaf" ∨ x = "pair"
instance (x : Str) : Decidable (wordOk x) := by unfold wordOk; infer_instance
theorem want_text {x : Str} (h : wantOk x) : ∃ z : Str, valV wkv (Sum.inr x) = some (.str z) ∧ z.length + 2 ≤ sizeLine ∧ (Txt.split z " ").length = 16 ∧ ∀ x, x ∈ Txt.split z " " → wordOk x := by
  rcases h with rfl | rfl | rfl
  · exact ⟨"op op op op op op when when side let call call call call leaf leaf", by decide +kernel, by decide +kernel, by decide +kernel, by decide +kernel⟩
  · exact ⟨"pair pair pair pair when when side side let let call call call op leaf pair", by decide +kernel, by decide +kernel, by decide +kernel, by decide +kernel⟩
  · exact ⟨"op op pair pair pair when when side side let let call call call leaf leaf", by decide +kernel, by decide +kernel, by decide +kernel, by decide +kernel⟩
abbrev ckv : List (Key × V) := mergeK [] [(Sum.inr "side", .int 1), (Sum.inr "pair", .int 2), (Sum.inr "when", .int 3), (Sum.inr "op", .int 2)]
def costOf (x : Str) (m : Nat) : Prop := (x = "side" ∧ m = 1) ∨ (x = "pair" ∧ m = 2) ∨ (x = "when" ∧ m = 3) ∨ (x = "op" ∧ m = 2)
theorem cost_of {x : Str} {m : Nat} (h : costOf x m) : valV ckv (Sum.inr x) = some (.int m) := by
  rcases h with ⟨rfl, rfl⟩ | ⟨rfl, rfl⟩ | ⟨rfl, rfl⟩ | ⟨rfl, rfl⟩ <;> decide +kernel
abbrev okv (want : Str) : List (Key × V) := mergeK [] [(Sum.inr "pair", .str "any"), (Sum.inr "when", .str want), (Sum.inr "op", .str "number")]
theorem other_of {x want : Str} (h : wantOk want) (hx : x = "pair" ∨ x = "when" ∨ x = "op") : ∃ wt : Str, valV (okv want) (Sum.inr x) = some (.str wt) ∧ wantOk wt := by
  rcases h with rfl | rfl | rfl <;> rcases hx with rfl | rfl | rfl
  · exact ⟨"any", by decide +kernel, .inr (.inr rfl)⟩
  · exact ⟨"number", by decide +kernel, .inl rfl⟩
  · exact ⟨"number", by decide +kernel, .inl rfl⟩
  · exact ⟨"any", by decide +kernel, .inr (.inr rfl)⟩
  · exact ⟨"pair", by decide +kernel, .inr (.inl rfl)⟩
  · exact ⟨"number", by decide +kernel, .inl rfl⟩
  · exact ⟨"any", by decide +kernel, .inr (.inr rfl)⟩
  · exact ⟨"any", by decide +kernel, .inr (.inr rfl)⟩
  · exact ⟨"number", by decide +kernel, .inl rfl⟩
theorem str_of_decide {x y : Str} (c : decide (V.str x = V.str y) = true) : x = y := V.str.inj (of_decide_eq_true c)
theorem str_no_decide {x y : Str} (c : ¬ decide (V.str x = V.str y) = true) : x ≠ y := fun e => c (decide_eq_true (by rw [e]))
/-- a part of a kind -/
theorem op_dp {K : PySem.W.Frag} {H : Hp} {k : Str} {q : Addr} {vs : List V} {as : List Lz.P} (hq : H q = none) (h : DpAll K H vs (Lz.P.datas as)) : Dp K (upd H q (.tup (.str k :: vs))) (.ref q) (Lz.P.op k as).data := by
  refine Dp.newT hq (.cons (.str k) h) ?_
  show (true && fzAll (Lz.P.datas as)) = true
  rw [datas_fz]
  rfl
section
variable {P : Program} {w : World} {K : PySem.W.Frag} {mg : Str → Option Value} {base : Heap} {f : Addr} {fd : FuncData}
abbrev sLPart : Stmt := topS 63
theorem scLPart : FnScope ["_law_pen_here", "_law_world", "_law_scope", "_law_room", "_law_want", "_law_words_here", "_law_word", "_law_inner", "_law_one", "_law_other"] ["_law_pen_here", "_law_world", "_law_scope", "_law_room", "_law_want"] (defScope sLPart) := ⟨rfl, rfl, rfl, by decide +kernel, rfl, by decide +kernel, by decide +kernel⟩
theorem ok_part {k j : Nat} (hj : 3 ≤ j) (F : Fun K "_law_part" "_law_part" sLPart f fd) (B : Bt mg) (CLDraw : C8.Cal P w K mg base 1 "_law_draw" (spDraw K) []) (CLLeaf : C8.Cal P w K mg base 3 "_law_leaf" (spLeaf K) []) (CLFits : C8.Cal P w K mg base 1 "_law_fits" (spFits K) [])
    (CLPart : C8.Cal P w K mg base j "_law_part" (spPart K k) []) (CLCall : C8.Cal P w K mg base (j + 1) "_law_call" (spCall K k) []) (CLLet : C8.Cal P w K mg base (j + 1) "_law_let" (spLet K k) []) : FnOk P w K mg base CX0 (j + 2) f fd ["_law_pen_here", "_law_world", "_law_scope", "_law_room", "_law_want"] (spPart K (k + 1)) := by
  have mint := B.int
  refine F.ok scLPart (fun vs H Q E h => ?_) (fun cdv A outer s H vs Q E hr h => ?_)
  · obtain ⟨p, a, wl, sl, r, c, st, want, W, sc, ss, dp, n, rfl, _⟩ := h
    rfl
  have hu := hu_of hr
  have hu64 := hr.units
  obtain ⟨p, a, wl, sl, r, c, st, want, W, sc, ss, dp, n, rfl, En0, hR, hdp0, hdpk, hwant, D⟩ := h
  refine ⟨_, (pss_cons (ps_set (i := 5) scLPart.nd rfl (.inl rfl) (pe_disp (pps_cons pe_str pe_str pps_nil) rfl rfl (by intro q; cases q) (by decide)))
    (pss_cons (ps_dput hu (pv 5) pe_str pe_str rfl)
    (pss_cons (ps_dput hu (pv 5) pe_str pe_str rfl)
    (pss_cons (ps_set (i := 6) scLPart.nd rfl (.inl rfl) (pe_ix (ix_listK (K := K) rfl) (pe_split (pe_dget hu (pv 5) (pv 4) (fun _ _ => rfl)) pe_str) (C8.pe_c CLDraw hr (by first | decide | omega) (by rfl) (pa_cons (pv 0) (pa_cons pe_int pa_nil))) (fun _ _ => rfl)))
    (pss_cons (ps_set (i := 7) scLPart.nd rfl (.inl rfl) (pe_lst (pa_cons (pe_op op_sub (pe_ix (ix_listK (K := K) rfl) (pv 3) pe_int (fun _ _ => rfl)) pe_int) (pa_cons (pe_ix (ix_listK (K := K) rfl) (pv 3) pe_int (fun _ _ => rfl)) (pa_cons (pe_ix (ix_listK (K := K) rfl) (pv 3) pe_int (fun _ _ => rfl)) pa_nil)))))
    (pss_cons (ps_if (PW.pt (pw_or (pt_cmpR op_lt (pe_ix (ix_listK (K := K) rfl) (pv 3) pe_int (fun _ _ => rfl)) pe_int (nomark _)) (pw_or (pt_cmpR op_eq (pv 6) pe_str (nomark _)) (pw_or1 (PW.pt (pw_and (pt_cmpR op_eq (pv 6) pe_str (nomark _)) (pw_and1 (PW.pt (pw_or (pt_cmpR (op_eqDK (K := K) rfl hu64) (pv 1) (pe_lst pa_nil) (nomark _)) (pw_or1 (pt_cmpR op_lt (pe_ix (ix_listK (K := K) rfl) (pv 3) pe_int (fun _ _ => rfl)) pe_int (nomark _)))))))))))) (pss_one (ps_ret (C8.pe_c CLLeaf hr (by first | decide | omega) (by rfl) (pa_cons (pv 0) (pa_cons (pv 1) (pa_cons (pv 2) (pa_cons (pv 4) pa_nil))))))) pss_nil)
    (pss_cons (ps_if (pt_cmpR op_eq (pv 6) pe_str (nomark _)) (pss_one (ps_ret (C8.pe_c CLCall hr (by first | decide | omega) (by rfl) (pa_cons (pv 0) (pa_cons (pv 1) (pa_cons (pv 2) (pa_cons (pv 7) (pa_cons (pv 4) pa_nil)))))))) pss_nil)
    (pss_cons (ps_if (pt_cmpR op_eq (pv 6) pe_str (nomark _)) (pss_one (ps_ret (C8.pe_c CLLet hr (by first | decide | omega) (by rfl) (pa_cons (pv 0) (pa_cons (pv 1) (pa_cons (pv 2) (pa_cons (pv 7) (pa_cons (pv 4) pa_nil)))))))) pss_nil)
    (pss_cons (ps_if (pt_not (pt_truthK (K := K) rfl (C8.pe_c CLFits hr (by first | decide | omega) (by rfl) (pa_cons (pv 3) (pa_cons (pe_dget hu (pe_disp (pps_cons pe_str pe_int (pps_cons pe_str pe_int (pps_cons pe_str pe_int (pps_cons pe_str pe_int pps_nil)))) rfl rfl (by intro q; cases q) (by decide)) (pv 6) (fun _ _ => rfl)) pa_nil))) (fun _ => rfl))) (pss_one (ps_ret (C8.pe_c CLLeaf hr (by first | decide | omega) (by rfl) (pa_cons (pv 0) (pa_cons (pv 1) (pa_cons (pv 2) (pa_cons (pv 4) pa_nil))))))) pss_nil)
    (pss_cons (ps_if (pt_cmpR op_eq (pv 6) pe_str (nomark _)) (pss_one (ps_ret (pe_tup (pa_cons (pe_ix (ix_listK (K := K) rfl) (pe_lst (pa_cons pe_str (pa_cons pe_str pa_nil))) (C8.pe_c CLDraw hr (by first | decide | omega) (by rfl) (pa_cons (pv 0) (pa_cons pe_int pa_nil))) (fun _ _ => rfl)) (pa_cons (C8.pe_c CLPart hr (by first | decide | omega) (by rfl) (pa_cons (pv 0) (pa_cons (pv 1) (pa_cons (pv 2) (pa_cons (pv 7) (pa_cons pe_str pa_nil)))))) pa_nil))))) pss_nil)
    (pss_cons (ps_set (i := 8) scLPart.nd rfl (.inl rfl) (C8.pe_c CLPart hr (by first | decide | omega) (by rfl) (pa_cons (pv 0) (pa_cons (pv 1) (pa_cons (pv 2) (pa_cons (pv 7) (pa_cons (pe_ix (ix_listK (K := K) rfl) (pe_lst (pa_cons pe_str (pa_cons pe_str pa_nil))) (pe_callTy call_int1 (by rfl) mint (by decide +kernel) (pa_cons (pe_cmpR op_eq (pv 6) pe_str (nomark _)) pa_nil)) (fun _ _ => rfl)) pa_nil)))))))
    (pss_cons (ps_set (i := 9) scLPart.nd rfl (.inl rfl) (C8.pe_c CLPart hr (by first | decide | omega) (by rfl) (pa_cons (pv 0) (pa_cons (pv 1) (pa_cons (pv 2) (pa_cons (pv 7) (pa_cons (pe_dget hu (pe_disp (pps_cons pe_str pe_str (pps_cons pe_str (pv 4) (pps_cons pe_str pe_str pps_nil))) rfl rfl (by intro q; cases q) (by decide)) (pv 6) (fun _ _ => rfl)) pa_nil)))))))
    (pss_cons (ps_if (pt_cmpR op_eq (pv 6) pe_str (nomark _)) (pss_one (ps_ret (pe_tup (pa_cons pe_str (pa_cons (pv 8) (pa_cons (pv 9) pa_nil)))))) pss_nil)
    (pss_cons (ps_if (pt_cmpR op_eq (pv 6) pe_str (nomark _)) (pss_one (ps_ret (pe_tup (pa_cons pe_str (pa_cons (pv 8) (pa_cons (pv 9) (pa_cons (C8.pe_c CLPart hr (by first | decide | omega) (by rfl) (pa_cons (pv 0) (pa_cons (pv 1) (pa_cons (pv 2) (pa_cons (pv 7) (pa_cons (pv 4) pa_nil)))))) pa_nil))))))) pss_nil)
    (pss_one (ps_ret (pe_tup (pa_cons (pe_ix (ix_listK (K := K) rfl) (pe_lst (pa_cons pe_str (pa_cons pe_str (pa_cons pe_str (pa_cons pe_str pa_nil))))) (C8.pe_c CLDraw hr (by first | decide | omega) (by rfl) (pa_cons (pv 0) (pa_cons pe_int pa_nil))) (fun _ _ => rfl)) (pa_cons (pv 8) (pa_cons (pv 9) pa_nil)))))))))))))))))))), ?_⟩
  -- the words
  refine fun d hd => ⟨upd_same, [(Sum.inr _, .str _)], rfl, by decide, ?_⟩
  refine ⟨_, rfl, d, _, rfl, DPut.k (k := Sum.inr _) upd_same (by decide +kernel), ?_⟩
  refine ⟨_, rfl, d, _, rfl, DPut.k (k := Sum.inr _) upd_same (by decide +kernel), ?_⟩
  have ew : upd (upd (upd (upd H d (.dK [])) d (.dK (mergeK [] [(Sum.inr "number", .str "op op op op op op when when side let call call call call leaf leaf")]))) d (.dK (putK (mergeK [] [(Sum.inr "number", .str "op op op op op op when when side let call call call call leaf leaf")]) (Sum.inr "pair") (.str "pair pair pair pair when when side side let let call call call op leaf pair")))) d (.dK wkv) = upd H d (.dK wkv) := by
    rw [upd_upd, upd_upd, upd_upd]
  show tSeq _ _ _ _ (upd (upd (upd (upd H d (.dK [])) d (.dK (mergeK [] [(Sum.inr "number", .str "op op op op op op when when side let call call call call leaf leaf")]))) d (.dK (putK (mergeK [] [(Sum.inr "number", .str "op op op op op op when when side let call call call call leaf leaf")]) (Sum.inr "pair") (.str "pair pair pair pair when when side side let let call call call op leaf pair")))) d (.dK wkv))
  rw [ew]
  have En1 := En0.new (o := .dK wkv) hd
  have k1 : Kp [p, c, st] H (upd H d (.dK wkv)) := Kp.new hd
  have hR1 : (upd H d (.dK wkv)) r = some (.lst [.int dp, .ref c, .ref st]) := by rw [upd_ne (ne_of_none hR hd)]; exact hR
  have hd1 : (upd H d (.dK wkv)) d = some (.dK wkv) := upd_same
  generalize upd H d (.dK wkv) = H1 at En1 k1 hR1 hd1 ⊢
  -- the word
  obtain ⟨z, hz, hzl, hz16, hzw⟩ := want_text hwant
  refine ⟨_, rfl, _, rfl, d, _, rfl, (by have := DGet.k (k := Sum.inr want) hd1; rw [hz] at this; exact this), ⟨_, rfl⟩, _, _, rfl, rfl, (by decide +kernel), hzl, fun l hl => ?_⟩
  have En2 := En1.new (o := .lst ((Txt.split z " ").map V.str)) hl
  have nl2 := En1.fresh hl
  have k2 : Kp [p, c, st] H1 (upd H1 l (.lst ((Txt.split z " ").map V.str))) := Kp.new hl
  have hl2 : (upd H1 l (.lst ((Txt.split z " ").map V.str))) l = some (.lst ((Txt.split z " ").map V.str)) := upd_same
  have hR2 := k2.lst hR1 (En1.room hR1)
  refine ⟨_, rfl, p, a, 16, rfl, En2.pen, (by decide), (by decide), fun g H3 k3 pen3 g0 g1 => ?_⟩
  have k3' := k3.mono (T := [p, c, st]) sub3
  have En3 := En2.same k3 pen3
  have hl3 := k3'.lst hl2 nl2
  have hR3 := k3'.lst hR2 (En2.room hR2)
  have hg : g.toNat < (Txt.split z " ").length := by rw [hz16]; omega
  obtain ⟨x, hx, hxw⟩ : ∃ x : Str, ((Txt.split z " ").map V.str)[g.toNat]? = some (.str x) ∧ wordOk x :=
    ⟨(Txt.split z " ")[g.toNat], by rw [List.getElem?_map, List.getElem?_eq_getElem hg]; rfl, hzw _ (List.getElem_mem hg)⟩
  refine ⟨l, _, _, _, rfl, rfl, SqL.of hl3, at_of (j := g.toNat) (by omega) hx, ?_⟩
  have kk3 := k1.trans (k2.trans k3')
  clear k1 k2 k3 k3' En1 En2 hd1 hl2 hl3 hR1 hR2 nl2 pen3 hd hl
  -- the room within
  refine ⟨_, rfl, r, _, _, _, rfl, rfl, SqL.of hR3, at_of (j := 0) rfl rfl, _, _, rfl, rfl, _, rfl, r, _, _, _, rfl, rfl, SqL.of hR3, at_of (j := 1) rfl rfl, _, rfl, r, _, _, _, rfl, rfl, SqL.of hR3, at_of (j := 2) rfl rfl, (by show 3 ≤ sizeLine; decide), fun r2 hr2 => ?_⟩
  have En4 := En3.new (o := .lst [.int (dp - 1), .ref c, .ref st]) hr2
  have kk4 : Kp [p, c, st] H (upd H3 r2 (.lst [.int (dp - 1), .ref c, .ref st])) := kk3.trans (Kp.new hr2)
  have hRR : (upd H3 r2 (.lst [.int (dp - 1), .ref c, .ref st])) r2 = some (.lst [.int (dp - 1), .ref c, .ref st]) := upd_same
  have hR4 : (upd H3 r2 (.lst [.int (dp - 1), .ref c, .ref st])) r = some (.lst [.int dp, .ref c, .ref st]) := by rw [upd_ne (ne_of_none hR3 hr2)]; exact hR3
  generalize upd H3 r2 (.lst [.int (dp - 1), .ref c, .ref st]) = H4 at En4 kk4 hRR hR4 ⊢
  clear kk3 En3 hR3 hr2 En0 hR
  have leaf : ∀ H5 : Hp, Kp [p, c, st] H4 H5 → En K H5 W sc p a wl sl c st n ss → spLeaf K [.ref p, .ref wl, .ref sl, .str want] H5 Q C8.E0 := fun H5 k5 En5 =>
    leaf_of (dp := dp) En5 fun v d H' n' ss' kk => D v d H' n' ss' (kk4.trans (k5.trans kk))
  -- a leaf?
  refine ⟨_, rfl, r, _, _, _, rfl, rfl, SqL.of hR4, at_of (j := 0) rfl rfl, _, _, rfl, rfl, _, rfl, ?_⟩
  refine ite2 (fun c1 => ⟨_, rfl, _, rfl, _, rfl, _, rfl, leaf _ (Kp.refl _ _) En4⟩) (fun c1 => ?_)
  have hdp1 : 1 ≤ dp := by
    have : ¬ dp < 1 := of_decide_eq_false (Bool.eq_false_iff.mpr c1)
    omega
  refine ⟨_, rfl, rfl, _, rfl, ?_⟩
  refine ite2 (fun c2 => ⟨_, rfl, _, rfl, _, rfl, _, rfl, leaf _ (Kp.refl _ _) En4⟩) (fun c2 => ?_)
  have ne2 := str_no_decide c2
  refine ⟨_, rfl, rfl, _, rfl, ?_⟩
  refine ite2 (fun c3 => ?_) (fun c3 => ?_)
  · -- a call
    obtain rfl := str_of_decide c3
    refine ⟨_, rfl, Nat.zero_le _, fun l hl => ?_⟩
    have En5 := En4.new (o := .lst []) hl
    have k5 : Kp [p, c, st] H4 (upd H4 l (.lst [])) := Kp.new hl
    have hR5 := k5.lst hR4 (En4.room hR4)
    have hRR5 := k5.lst hRR (En4.room hRR)
    refine ⟨_, _, En5.wld.dp, nil_dp, wds_shaped (fun f m => (En5.nw f m).1), nil_shaped, _, rfl, ?_⟩
    rw [eqv_nil]
    generalize upd H4 l (.lst []) = H5 at En5 k5 hR5 hRR5 ⊢
    refine ite2 (fun c4 => ⟨_, rfl, _, rfl, _, rfl, _, rfl, leaf _ k5 En5⟩) (fun c4 => ?_)
    have hW0 : W ≠ [] := fun e => c4 (by rw [e]; rfl)
    refine ⟨_, rfl, r, _, _, _, rfl, rfl, SqL.of hR5, at_of (j := 0) rfl rfl, _, _, rfl, rfl, _, rfl, ?_⟩
    refine ite2 (fun c5 => ⟨_, rfl, _, rfl, _, rfl, _, rfl, leaf _ k5 En5⟩) (fun c5 => ?_)
    have hdp6 : 6 ≤ dp := by
      have : ¬ dp < 6 := of_decide_eq_false (Bool.eq_false_iff.mpr c5)
      omega
    refine ⟨_, rfl, rfl, _, rfl, ?_⟩
    refine ite2 (fun _ => ?_) (fun c6 => absurd (decide_eq_true rfl) c6)
    refine ⟨_, rfl, _, rfl, _, rfl, _, rfl, _, rfl, p, a, wl, sl, r2, c, st, want, W, sc, ss, dp - 1, n, rfl, En5, hRR5, (by omega), (by omega), hW0, hwant, fun v d H' n' ss' kk pen hc hs hd hdr => ?_⟩
    rw [show dp - 1 + 1 = dp by omega] at hdr
    exact D v d H' n' ss' (kk4.trans (k5.trans kk)) pen hc hs hd hdr
  have n3 := str_no_decide c3
  refine ⟨_, rfl, rfl, _, rfl, ?_⟩
  refine ite2 (fun c4 => absurd c4 c3) (fun _ => ?_)
  refine ⟨_, rfl, rfl, _, rfl, ?_⟩
  refine ite2 (fun c4 => ?_) (fun c4 => ?_)
  · refine ⟨_, rfl, _, rfl, _, rfl, _, rfl, _, rfl, p, a, wl, sl, r2, c, st, want, W, sc, ss, dp - 1, n, rfl, En4, hRR, (by omega), (by omega), hwant, fun v d H' n' ss' kk pen hc hs hd hdr => ?_⟩
    rw [show dp - 1 + 1 = dp by omega] at hdr
    exact D v d H' n' ss' (kk4.trans kk) pen hc hs hd hdr
  have n4 := str_no_decide c4
  obtain ⟨m, hm⟩ : ∃ m, costOf x m := by
    rcases hxw with e | e | e | e | e | e | e
    · exact ⟨2, .inr (.inr (.inr ⟨e, rfl⟩))⟩
    · exact ⟨3, .inr (.inr (.inl ⟨e, rfl⟩))⟩
    · exact ⟨1, .inl ⟨e, rfl⟩⟩
    · exact absurd e n4
    · exact absurd e n3
    · exact absurd e ne2
    · exact ⟨2, .inr (.inl ⟨e, rfl⟩)⟩
  -- does it fit
  refine ⟨_, rfl, fun dd hdd => ⟨upd_same, [(Sum.inr _, .int _), (Sum.inr _, .int _), (Sum.inr _, .int _), (Sum.inr _, .int _)], rfl, by decide, ?_⟩⟩
  have En5 : En K (upd (upd H4 dd (.dK [])) dd (.dK ckv)) W sc p a wl sl c st n ss := by rw [upd_upd]; exact En4.new hdd
  have kk5 : Kp [p, c, st] H4 (upd (upd H4 dd (.dK [])) dd (.dK ckv)) := by rw [upd_upd]; exact Kp.new hdd
  have hR5 := kk5.lst hR4 (En4.room hR4)
  have hRR5 := kk5.lst hRR (En4.room hRR)
  refine ⟨_, rfl, dd, _, rfl, (by have := DGet.k (H := upd (upd H4 dd (.dK [])) dd (.dK ckv)) (k := Sum.inr x) upd_same; rw [cost_of hm] at this; exact this), ?_⟩
  generalize upd (upd H4 dd (.dK [])) dd (.dK ckv) = H5 at En5 kk5 hR5 hRR5 ⊢
  refine ⟨r, c, _, _, n, _, rfl, hR5, En5.cnt, fun hlt => ⟨false, rfl, ⟨_, rfl, _, rfl, _, rfl, _, rfl, leaf _ kk5 En5⟩⟩, fun hle => ⟨true, rfl, ?_⟩⟩
  have En6 := En5.less (m := n - m)
  have k6 : Kp [p, c, st] H (upd H5 c (.lst [.int (n - m)])) := kk4.trans (kk5.trans (Kp.put En5.cnt mem3.2.1))
  have hRR6 : (upd H5 c (.lst [.int (n - m)])) r2 = some (.lst [.int (dp - 1), .ref c, .ref st]) := by
    rw [upd_ne (fun e => En5.room hRR5 (by rw [e]; exact mem3.2.1))]
    exact hRR5
  generalize upd H5 c (.lst [.int (n - m)]) = H6 at En6 k6 hRR6 ⊢
  clear En5 kk5 hR5 hRR5 leaf En4 kk4 hRR hR4
  -- a side
  refine ⟨_, rfl, rfl, _, rfl, ?_⟩
  refine ite2 (fun c5 => ?_) (fun c5 => ?_)
  · obtain rfl := str_of_decide c5
    obtain rfl : m = 1 := by
      rcases hm with h | h | h | h
      · exact h.2
      · exact absurd h.1 (by decide +kernel)
      · exact absurd h.1 (by decide +kernel)
      · exact absurd h.1 (by decide +kernel)
    refine ⟨(by show 2 ≤ sizeLine; decide), fun l hl => ?_⟩
    have En7 := En6.new (o := .lst [.str "left", .str "right"]) hl
    have nl := En6.fresh hl
    have k7 : Kp [p, c, st] H6 (upd H6 l (.lst [.str "left", .str "right"])) := Kp.new hl
    have hl7 : (upd H6 l (.lst [.str "left", .str "right"])) l = some (.lst [.str "left", .str "right"]) := upd_same
    have hRR7 := k7.lst hRR6 (En6.room hRR6)
    refine ⟨_, rfl, p, a, 2, rfl, En7.pen, (by decide), (by decide), fun g H8 k8 pen8 g0 g1 => ?_⟩
    have k8' := k8.mono (T := [p, c, st]) sub3
    have En8 := En7.same k8 pen8
    have hl8 := k8'.lst hl7 nl
    have hRR8 := k8'.lst hRR7 (En7.room hRR7)
    obtain ⟨kd, hkd, hkd'⟩ : ∃ kd : Str, ([.str "left", .str "right"] : List V)[g.toNat]? = some (.str kd) ∧ (kd, 1) ∈ kinds := by
      have h0 : g.toNat < 2 := by omega
      generalize g.toNat = j at h0
      match j, h0 with
      | 0, _ => exact ⟨_, rfl, by decide +kernel⟩
      | 1, _ => exact ⟨_, rfl, by decide +kernel⟩
    refine ⟨l, _, _, _, rfl, rfl, SqL.of hl8, at_of (j := g.toNat) (by omega) hkd, ?_⟩
    refine ⟨_, rfl, _, rfl, _, rfl, _, rfl, p, a, wl, sl, r2, c, st, "pair", W, sc, ss, dp - 1, n - 1, rfl, En8, hRR8, (by omega), (by omega), .inr (.inl rfl), fun u d H9 n' ss' k9 pen9 hc9 hs9 hd9 hdr9 => ?_⟩
    refine ⟨(by show 2 ≤ sizeLine; decide), fun q hq => ?_⟩
    exact D _ (.op kd [d]) _ n' ss' ((k6.trans (k7.trans (k8'.trans k9))).trans (Kp.new hq)) (pen9.new hq) (by rw [upd_ne (ne_of_none hc9 hq)]; exact hc9) (by rw [upd_ne (ne_of_none hs9 hq)]; exact hs9) (op_dp hq (.cons hd9 .nil))
      (.op hkd' hdp1 hle hdr9 .nil)
  have n5 := str_no_decide c5
  have hx3 : x = "pair" ∨ x = "when" ∨ x = "op" := by
    rcases hm with h | h | h | h
    · exact absurd h.1 n5
    · exact .inl h.1
    · exact .inr (.inl h.1)
    · exact .inr (.inr h.1)
  -- one
  refine ⟨_, rfl, _, rfl, _, rfl, _, rfl, (by show 2 ≤ sizeLine; decide), fun l hl => ?_⟩
  have En7 := En6.new (o := .lst [.str "number", .str "any"]) hl
  have k7 : Kp [p, c, st] H6 (upd H6 l (.lst [.str "number", .str "any"])) := Kp.new hl
  have hl7 : (upd H6 l (.lst [.str "number", .str "any"])) l = some (.lst [.str "number", .str "any"]) := upd_same
  have hRR7 := k7.lst hRR6 (En6.room hRR6)
  refine ⟨_, rfl, rfl, .inr ⟨_, rfl, ?_⟩⟩
  obtain ⟨wt, hwt, hwt'⟩ : ∃ wt : Str, atI ([.str "number", .str "any"] : List V) (if decide (V.str x = V.str "pair") = true then 1 else 0) = some (.str wt) ∧ wantOk wt := by
    by_cases e : decide (V.str x = V.str "pair") = true
    · rw [if_pos e]
      exact ⟨_, rfl, .inr (.inr rfl)⟩
    · rw [if_neg e]
      exact ⟨_, rfl, .inl rfl⟩
  refine ⟨l, _, _, _, rfl, rfl, SqL.of hl7, hwt, ?_⟩
  refine ⟨p, a, wl, sl, r2, c, st, wt, W, sc, ss, dp - 1, n - m, rfl, En7, hRR7, (by omega), (by omega), hwt', fun u d H8 n1 ss1 k8 pen8 hc8 hs8 hd8 hdr8 => ?_⟩
  have En8 := En7.step k8 pen8 hc8 hs8 hdr8.sub hdr8.len
  have hRR8 := k8.lst hRR7 (En7.room hRR7)
  have kk8 := k6.trans (k7.trans k8)
  clear k7 k8 En6 En7 hl7 hl hRR6 hRR7 k6
  -- other
  refine ⟨_, rfl, _, rfl, _, rfl, _, rfl, fun d2 hd2 => ⟨_, rfl, upd_same, [(Sum.inr _, .str _), (Sum.inr _, .str _), (Sum.inr _, .str _)], rfl, (by show 3 ≤ 15; decide), ?_⟩⟩
  obtain ⟨wu, hwu, hwu'⟩ := other_of hwant hx3
  have En9 : En K (upd (upd H8 d2 (.dK [])) d2 (.dK (okv want))) W sc p a wl sl c st n1 ss1 := by rw [upd_upd]; exact En8.new hd2
  have k9 : Kp [p, c, st] H8 (upd (upd H8 d2 (.dK [])) d2 (.dK (okv want))) := by rw [upd_upd]; exact Kp.new hd2
  have hRR9 := k9.lst hRR8 (En8.room hRR8)
  have hd9 := Dp.keep k9 _ _ (data_fz _) hd8
  refine ⟨_, rfl, d2, _, rfl, (by have := DGet.k (H := upd (upd H8 d2 (.dK [])) d2 (.dK (okv want))) (k := Sum.inr x) upd_same; rw [hwu] at this; exact this), ?_⟩
  generalize upd (upd H8 d2 (.dK [])) d2 (.dK (okv want)) = H9 at En9 k9 hRR9 hd9 ⊢
  refine ⟨p, a, wl, sl, r2, c, st, wu, W, sc, ss1, dp - 1, n1, rfl, En9, hRR9, (by omega), (by omega), hwu', fun u2 e H10 n2 ss2 k10 pen10 hc10 hs10 hd10 hdr10 => ?_⟩
  have En10 := En9.step k10 pen10 hc10 hs10 hdr10.sub hdr10.len
  have hRR10 := k10.lst hRR9 (En9.room hRR9)
  have kk10 := kk8.trans (k9.trans k10)
  have hd11 := Dp.keep k10 _ _ (data_fz _) hd9
  have hdr := hdr8.append hdr10
  clear k9 k10 En8 En9 hRR8 hRR9 hd8 hd9 kk8 hd2
  -- a pair
  refine ⟨_, rfl, rfl, _, rfl, ?_⟩
  refine ite2 (fun c6 => ?_) (fun c6 => ?_)
  · obtain rfl := str_of_decide c6
    obtain rfl : m = 2 := by
      rcases hm with h | h | h | h
      · exact absurd h.1 (by decide +kernel)
      · exact h.2
      · exact absurd h.1 (by decide +kernel)
      · exact absurd h.1 (by decide +kernel)
    refine ⟨_, rfl, _, rfl, (by show 3 ≤ sizeLine; decide), fun q hq => ?_⟩
    exact D _ (.op "pair" [d, e]) _ n2 ss2 (kk10.trans (Kp.new hq)) (pen10.new hq) (by rw [upd_ne (ne_of_none hc10 hq)]; exact hc10) (by rw [upd_ne (ne_of_none hs10 hq)]; exact hs10) (op_dp hq (.cons hd11 (.cons hd10 .nil)))
      (.op (by show (("pair" : Str), 2) ∈ kinds; decide +kernel) hdp1 hle hdr .nil)
  have n6 := str_no_decide c6
  refine ⟨_, rfl, rfl, _, rfl, ?_⟩
  refine ite2 (fun c7 => ?_) (fun c7 => ?_)
  · obtain rfl := str_of_decide c7
    obtain rfl : m = 3 := by
      rcases hm with h | h | h | h
      · exact absurd h.1 (by decide +kernel)
      · exact absurd h.1 (by decide +kernel)
      · exact h.2
      · exact absurd h.1 (by decide +kernel)
    refine ⟨_, rfl, _, rfl, _, rfl, _, rfl, _, rfl, _, rfl, _, rfl, p, a, wl, sl, r2, c, st, want, W, sc, ss2, dp - 1, n2, rfl, En10, hRR10, (by omega), (by omega), hwant, fun u3 g H11 n3 ss3 k11 pen11 hc11 hs11 hd12 hdr12 => ?_⟩
    refine ⟨(by show 4 ≤ sizeLine; decide), fun q hq => ?_⟩
    have hda := Dp.keep k11 _ _ (data_fz _) hd11
    have hdb := Dp.keep k11 _ _ (data_fz _) hd10
    exact D _ (.op "when" [d, e, g]) _ n3 ss3 ((kk10.trans k11).trans (Kp.new hq)) (pen11.new hq) (by rw [upd_ne (ne_of_none hc11 hq)]; exact hc11) (by rw [upd_ne (ne_of_none hs11 hq)]; exact hs11) (op_dp hq (.cons hda (.cons hdb (.cons hd12 .nil))))
      (.op (by show (("when" : Str), 3) ∈ kinds; decide +kernel) hdp1 hle (hdr.append hdr12) .nil)
  have n7 := str_no_decide c7
  obtain rfl : m = 2 := by
    rcases hm with h | h | h | h
    · exact absurd h.1 n5
    · exact absurd h.1 n6
    · exact absurd h.1 n7
    · exact h.2
  -- an operation
  refine ⟨(by show 4 ≤ sizeLine; decide), fun l hl => ?_⟩
  have En11 := En10.new (o := .lst [.str "plus", .str "less", .str "times", .str "below"]) hl
  have nl := En10.fresh hl
  have k11 : Kp [p, c, st] H10 (upd H10 l (.lst [.str "plus", .str "less", .str "times", .str "below"])) := Kp.new hl
  have hl11 : (upd H10 l (.lst [.str "plus", .str "less", .str "times", .str "below"])) l = some (.lst [.str "plus", .str "less", .str "times", .str "below"]) := upd_same
  refine ⟨_, rfl, p, a, 4, rfl, En11.pen, (by decide), (by decide), fun g H12 k12 pen12 g0 g1 => ?_⟩
  have k12' := k12.mono (T := [p, c, st]) sub3
  have En12 := En11.same k12 pen12
  have hl12 := k12'.lst hl11 nl
  obtain ⟨kd, hkd, hkd'⟩ : ∃ kd : Str, ([.str "plus", .str "less", .str "times", .str "below"] : List V)[g.toNat]? = some (.str kd) ∧ (kd, 2) ∈ kinds := by
    have h0 : g.toNat < 4 := by omega
    generalize g.toNat = j at h0
    match j, h0 with
    | 0, _ => exact ⟨_, rfl, by decide +kernel⟩
    | 1, _ => exact ⟨_, rfl, by decide +kernel⟩
    | 2, _ => exact ⟨_, rfl, by decide +kernel⟩
    | 3, _ => exact ⟨_, rfl, by decide +kernel⟩
  refine ⟨l, _, _, _, rfl, rfl, SqL.of hl12, at_of (j := g.toNat) (by omega) hkd, _, rfl, _, rfl, (by show 3 ≤ sizeLine; decide), fun q hq => ?_⟩
  have k13 := k11.trans k12'
  have hda := Dp.keep k13 _ _ (data_fz _) hd11
  have hdb := Dp.keep k13 _ _ (data_fz _) hd10
  have hc12 := En12.cnt
  have hs12 := En12.stk
  exact D _ (.op kd [d, e]) _ n2 ss2 ((kk10.trans k13).trans (Kp.new hq)) (En12.pen.new hq) (by rw [upd_ne (ne_of_none hc12 hq)]; exact hc12) (by rw [upd_ne (ne_of_none hs12 hq)]; exact hs12) (op_dp hq (.cons hda (.cons hdb .nil)))
    (.op hkd' hdp1 hle hdr .nil)
end
end Lz

set_option Elab.async false
set_option linter.all false
set_option maxRecDepth 100000
set_option maxHeartbeats 8000000
namespace Lz
open PySem PySem.Spec PyProof.Rows L2
theorem cut_1 (x : V) (xs : List V) : cutV (x :: xs) (some 1) none = xs := by
  unfold cutV
  rw [HT.sIx_none, show HT.sIx (x :: xs).length 0 (some 1) = min 1 (x :: xs).length from HT.sIx_nat _ _ 1]
  have e : min 1 (x :: xs).length = 1 := by rw [List.length_cons]; omega
  rw [e]
  exact List.take_of_length_le (by show xs.length ≤ (x :: xs).length - 1; rw [List.length_cons]; omega)
def spLoop (K : PySem.W.Frag) : Sp := fun vs H Q _ => ∃ (p a wl tl r c st : Addr) (me t0 : Str) (W : List (Str × Int)) (ts ss : List Str) (dp n : Int), vs = [.ref p, .ref wl, .str me, .ref tl, .ref r] ∧
  En K H W (t0 :: ts) p a wl tl c st n ss ∧ H r = some (.lst [.int dp, .ref c, .ref st]) ∧ ts.length ≤ 3 ∧
  ∀ (v : V) (d : Lz.P) (H' : Hp), Kp [p, c, st] H H' → PenAt H' p a → Dp K H' v d.data → Lp W me t0 ts n ss d → Q v H'
section
variable {P : Program} {w : World} {K : PySem.W.Frag} {mg : Str → Option Value} {base : Heap} {f : Addr} {fd : FuncData}
abbrev sLLoop : Stmt := topS 64
theorem scLLoop : FnScope ["_law_pen_here", "_law_world", "_law_me", "_law_things", "_law_room", "_law_call_here", "_law_name", "_law_other", "_law_one", "_law_more"] ["_law_pen_here", "_law_world", "_law_me", "_law_things", "_law_room"] (defScope sLLoop) := ⟨rfl, rfl, rfl, by decide +kernel, rfl, by decide +kernel, by decide +kernel⟩
theorem ok_loop {k j : Nat} (hk : 4 ≤ k) (hj : 3 ≤ j) (F : Fun K "_law_loop" "_law_loop" sLLoop f fd) (B : Bt mg) (CLDraw : C8.Cal P w K mg base 1 "_law_draw" (spDraw K) [])
    (CLPart : C8.Cal P w K mg base j "_law_part" (spPart K k) []) : FnOk P w K mg base CX0 (j + 1) f fd ["_law_pen_here", "_law_world", "_law_me", "_law_things", "_law_room"] (spLoop K) := by
  refine F.ok scLLoop (fun vs H Q E h => ?_) (fun cdv A outer s H vs Q E hr h => ?_)
  · obtain ⟨p, a, wl, tl, r, c, st, me, t0, W, ts, ss, dp, n, rfl, _⟩ := h
    rfl
  obtain ⟨p, a, wl, tl, r, c, st, me, t0, W, ts, ss, dp, n, rfl, En0, hR, hts, D⟩ := h
  refine ⟨_, (pss_cons (ps_set (i := 5) scLLoop.nd rfl (.inl rfl) (pe_tup (pa_cons pe_str (pa_cons (pe_tup (pa_cons pe_str (pa_cons (pv 2) pa_nil))) (pa_cons (pe_tup (pa_cons pe_str (pa_cons (pe_tup (pa_cons pe_str (pa_cons (pe_ix (ix_listK (K := K) rfl) (pv 3) pe_int (fun _ _ => rfl)) pa_nil))) (pa_cons (pe_tup (pa_cons pe_str (pa_cons pe_int pa_nil))) pa_nil)))) pa_nil)))))
    (pss_cons (ps_for PassesOwn.never rfl (pi_listK (K := K) rfl (pe_slice (sl_listK (K := K) rfl) (pv 3) (po_some pe_int) po_none)) (pg_name (i := 6) scLLoop.nd rfl (.inl rfl)) (pss_cons (ps_set (i := 7) scLLoop.nd rfl (.inl rfl) (C8.pe_c CLPart hr (by first | decide | omega) (by rfl) (pa_cons (pv 0) (pa_cons (pv 1) (pa_cons (pv 3) (pa_cons (pe_lst (pa_cons pe_int (pa_cons (pe_ix (ix_listK (K := K) rfl) (pv 4) pe_int (fun _ _ => rfl)) (pa_cons (pe_ix (ix_listK (K := K) rfl) (pv 4) pe_int (fun _ _ => rfl)) pa_nil)))) (pa_cons pe_str pa_nil)))))))
    (pss_one (ps_set (i := 5) scLLoop.nd rfl (.inl rfl) (pe_tup (pa_cons pe_str (pa_cons (pv 5) (pa_cons (pe_ix (ix_listK (K := K) rfl) (pe_lst (pa_cons (pe_tup (pa_cons pe_str (pa_cons (pv 6) pa_nil))) (pa_cons (pv 7) pa_nil))) (C8.pe_c CLDraw hr (by first | decide | omega) (by rfl) (pa_cons (pv 0) (pa_cons pe_int pa_nil))) (fun _ _ => rfl)) pa_nil))))))))
    (pss_cons (ps_set (i := 8) scLLoop.nd rfl (.inl rfl) (C8.pe_c CLPart hr (by first | decide | omega) (by rfl) (pa_cons (pv 0) (pa_cons (pv 1) (pa_cons (pv 3) (pa_cons (pe_lst (pa_cons pe_int (pa_cons (pe_ix (ix_listK (K := K) rfl) (pv 4) pe_int (fun _ _ => rfl)) (pa_cons (pe_ix (ix_listK (K := K) rfl) (pv 4) pe_int (fun _ _ => rfl)) pa_nil)))) (pa_cons pe_str pa_nil)))))))
    (pss_cons (ps_set (i := 9) scLLoop.nd rfl (.inl rfl) (pe_ix (ix_listK (K := K) rfl) (pe_lst (pa_cons (pv 5) (pa_cons (pe_tup (pa_cons pe_str (pa_cons (pv 8) (pa_cons (pv 5) pa_nil)))) (pa_cons (pe_tup (pa_cons pe_str (pa_cons (pv 8) (pa_cons (pv 5) pa_nil)))) (pa_cons (pe_tup (pa_cons pe_str (pa_cons (pv 5) (pa_cons (pv 8) pa_nil)))) pa_nil))))) (C8.pe_c CLDraw hr (by first | decide | omega) (by rfl) (pa_cons (pv 0) (pa_cons pe_int pa_nil))) (fun _ _ => rfl)))
    (pss_one (ps_ret (pe_tup (pa_cons pe_str (pa_cons (pe_tup (pa_cons pe_str (pa_cons (pe_ix (ix_listK (K := K) rfl) (pv 3) pe_int (fun _ _ => rfl)) pa_nil))) (pa_cons (pv 9) (pa_cons (C8.pe_c CLPart hr (by first | decide | omega) (by rfl) (pa_cons (pv 0) (pa_cons (pv 1) (pa_cons (pv 3) (pa_cons (pe_lst (pa_cons pe_int (pa_cons (pe_ix (ix_listK (K := K) rfl) (pv 4) pe_int (fun _ _ => rfl)) (pa_cons (pe_ix (ix_listK (K := K) rfl) (pv 4) pe_int (fun _ _ => rfl)) pa_nil)))) (pa_cons pe_str pa_nil)))))) pa_nil))))))))))), ?_⟩
  -- the call, its first thing
  refine ⟨_, rfl, (by show 2 ≤ sizeLine; decide), fun q1 hq1 => ?_⟩
  have En1 := En0.new (o := .tup [.str "fun", .str me]) hq1
  have hd1 : Dp K (upd H q1 (.tup [.str "fun", .str me])) (.ref q1) (Lz.P.fn me).data := Dp.newT hq1 (.cons (.str _) (.cons (.str _) .nil)) rfl
  have k1 : Kp [p, c, st] H (upd H q1 (.tup [.str "fun", .str me])) := Kp.new hq1
  generalize upd H q1 (.tup [.str "fun", .str me]) = H1 at En1 hd1 k1 ⊢
  refine ⟨_, rfl, tl, _, _, _, rfl, rfl, SqL.of En1.scp, at_of (j := 0) rfl rfl, (by show 2 ≤ sizeLine; decide), fun q2 hq2 => ?_⟩
  have En2 := En1.new (o := .tup [.str "name", .str t0]) hq2
  have hd2 : Dp K (upd H1 q2 (.tup [.str "name", .str t0])) (.ref q2) (Lz.P.nam t0).data := Dp.newT hq2 (.cons (.str _) (.cons (.str _) .nil)) rfl
  have k2 : Kp [p, c, st] H1 (upd H1 q2 (.tup [.str "name", .str t0])) := Kp.new hq2
  have hd1 := Dp.keep k2 _ _ (data_fz _) hd1
  show _
  generalize upd H1 q2 (.tup [.str "name", .str t0]) = H2 at En2 hd1 hd2 k2 ⊢
  refine ⟨(by show 2 ≤ sizeLine; decide), fun q3 hq3 => ?_⟩
  have En3 := En2.new (o := .tup [.str "number", .int 1]) hq3
  have hd3 : Dp K (upd H2 q3 (.tup [.str "number", .int 1])) (.ref q3) (Lz.P.num 1).data := Dp.newT hq3 (.cons (.str _) (.cons (.int _) .nil)) rfl
  have k3 : Kp [p, c, st] H2 (upd H2 q3 (.tup [.str "number", .int 1])) := Kp.new hq3
  have hd1 := Dp.keep k3 _ _ (data_fz _) hd1
  have hd2 := Dp.keep k3 _ _ (data_fz _) hd2
  generalize upd H2 q3 (.tup [.str "number", .int 1]) = H3 at En3 hd1 hd2 hd3 k3 ⊢
  refine ⟨(by show 3 ≤ sizeLine; decide), fun q4 hq4 => ?_⟩
  have En4 := En3.new (o := .tup [.str "less", .ref q2, .ref q3]) hq4
  have hd4 : Dp K (upd H3 q4 (.tup [.str "less", .ref q2, .ref q3])) (.ref q4) (Lz.P.op "less" [.nam t0, .num 1]).data := op_dp hq4 (.cons hd2 (.cons hd3 .nil))
  have k4 : Kp [p, c, st] H3 (upd H3 q4 (.tup [.str "less", .ref q2, .ref q3])) := Kp.new hq4
  have hd1 := Dp.keep k4 _ _ (data_fz _) hd1
  generalize upd H3 q4 (.tup [.str "less", .ref q2, .ref q3]) = H4 at En4 hd1 hd4 k4 ⊢
  refine ⟨(by show 3 ≤ sizeLine; decide), fun q5 hq5 => ?_⟩
  have En5 := En4.new (o := .tup [.str "give", .ref q1, .ref q4]) hq5
  have hd5 : Dp K (upd H4 q5 (.tup [.str "give", .ref q1, .ref q4])) (.ref q5) (again me t0 []).data := op_dp hq5 (.cons hd1 (.cons hd4 .nil))
  have k5 : Kp [p, c, st] H (upd H4 q5 (.tup [.str "give", .ref q1, .ref q4])) := k1.trans (k2.trans (k3.trans (k4.trans (Kp.new hq5))))
  generalize upd H4 q5 (.tup [.str "give", .ref q1, .ref q4]) = H5 at En5 hd5 k5 ⊢
  have hR5 := k5.lst hR (En0.room hR)
  clear hd4 hd3 hd2 hd1 k4 k3 k2 k1 En1 En2 En3 En4
  -- the further things
  refine ⟨_, rfl, _, rfl, tl, _, rfl, SqL.of En5.scp, fun lp hlp => ?_⟩
  have ecut : cutV (List.map V.str (t0 :: ts)) (some 1) none = ts.map V.str := cut_1 _ _
  rw [ecut]
  have En6 := En5.new (o := .lst (ts.map V.str)) hlp
  have nlp := En5.fresh hlp
  have k6 : Kp [p, c, st] H5 (upd H5 lp (.lst (ts.map V.str))) := Kp.new hlp
  have hp6 : (upd H5 lp (.lst (ts.map V.str))) lp = some (.lst (ts.map V.str)) := upd_same
  have hR6 := k6.lst hR5 (En5.room hR5)
  have hd6 := Dp.keep k6 _ _ (data_fz _) hd5
  have k6 := k5.trans k6
  generalize upd H5 lp (.lst (ts.map V.str)) = H6 at En6 hp6 hR6 hd6 k6 ⊢
  clear k5 hd5 hR5 En5 ecut
  refine ⟨lp, rfl, ⟨_, SqL.of hp6⟩, for_list (K := K) (a := lp) (xs := ts.map V.str) (fun i σ H' => ∃ (v5 : V) (n' : Int) (ss' : List Str) (os as : List Lz.P) (v6 v7 : Option V),
      σ = [some (.ref p), some (.ref wl), some (.str me), some (.ref tl), some (.ref r), some v5, v6, v7, none, none] ∧ Kp [p, c, st] H H' ∧ En K H' W (t0 :: ts) p a wl tl c st n' ss' ∧ H' r = some (.lst [.int dp, .ref c, .ref st]) ∧ H' lp = some (.lst (ts.map V.str)) ∧
      Dp K H' v5 (again me t0 as).data ∧ Dr W (t0 :: ts) 2 n ss n' ss' os ∧ Args (ts.take i) os as)
    ⟨.ref q5, n, ss, [], [], none, none, rfl, k6, En6, hR6, hp6, hd6, .nil, .nil⟩ (fun i σ H' _ ⟨_, _, _, _, _, _, _, _, _, _, _, h, _⟩ => SqL.of h) ?_ ?_⟩
  · rintro i x σ H7 hi ⟨v5, n', ss', os, as, v6, v7, rfl, k7, En7, hR7, hp7, hd7, hdr, har⟩
    obtain ⟨t, ht, rfl⟩ : ∃ t, ts[i]? = some t ∧ x = V.str t := by
      rw [List.getElem?_map] at hi
      cases e : ts[i]? with
      | none => rw [e] at hi; cases hi
      | some y => rw [e] at hi; exact ⟨y, rfl, (Option.some.inj hi).symm⟩
    -- other
    refine ⟨_, rfl, _, rfl, _, rfl, _, rfl, r, _, _, _, rfl, rfl, SqL.of hR7, at_of (j := 1) rfl rfl, _, rfl, r, _, _, _, rfl, rfl, SqL.of hR7, at_of (j := 2) rfl rfl, (by show 3 ≤ sizeLine; decide), fun r2 hr2 => ?_⟩
    have En8 := En7.new (o := .lst [.int 2, .ref c, .ref st]) hr2
    have k8 : Kp [p, c, st] H7 (upd H7 r2 (.lst [.int 2, .ref c, .ref st])) := Kp.new hr2
    refine ⟨p, a, wl, tl, r2, c, st, "any", W, t0 :: ts, ss', 2, n', rfl, En8, upd_same, (by omega), (by omega), .inr (.inr rfl), fun u d H9 n2 ss2 k9 pen9 hc9 hs9 hd9 hdr9 => ?_⟩
    have En9 := En8.step k9 pen9 hc9 hs9 hdr9.sub hdr9.len
    have k9 := k8.trans k9
    have hR9 := k9.lst hR7 (En7.room hR7)
    have hp9 := k9.lst hp7 nlp
    have hd10 := Dp.keep k9 _ _ (data_fz _) hd7
    -- the name or other
    refine ⟨_, rfl, _, rfl, (by show 2 ≤ sizeLine; decide), fun q1 hq1 => ?_⟩
    have En10 := En9.new (o := .tup [.str "name", .str t]) hq1
    have k10 : Kp [p, c, st] H9 (upd H9 q1 (.tup [.str "name", .str t])) := Kp.new hq1
    have hdn : Dp K (upd H9 q1 (.tup [.str "name", .str t])) (.ref q1) (Lz.P.nam t).data := Dp.newT hq1 (.cons (.str _) (.cons (.str _) .nil)) rfl
    have hdo := Dp.keep k10 _ _ (data_fz _) hd9
    have hd10 := Dp.keep k10 _ _ (data_fz _) hd10
    have hR10 := k10.lst hR9 (En9.room hR9)
    have hp10 := k10.lst hp9 nlp
    have k10 := k9.trans k10
    generalize upd H9 q1 (.tup [.str "name", .str t]) = H10 at En10 k10 hdn hdo hd10 hR10 hp10 ⊢
    refine ⟨_, rfl, (by show 2 ≤ sizeLine; decide), fun l hl => ?_⟩
    have En11 := En10.new (o := .lst [.ref q1, u]) hl
    have nl := En10.fresh hl
    have k11 : Kp [p, c, st] H10 (upd H10 l (.lst [.ref q1, u])) := Kp.new hl
    have hl11 : (upd H10 l (.lst [.ref q1, u])) l = some (.lst [.ref q1, u]) := upd_same
    refine ⟨_, rfl, p, a, 2, rfl, En11.pen, (by decide), (by decide), fun g H12 k12 pen12 g0 g1 => ?_⟩
    have En12 := En11.same k12 pen12
    have k12' := k12.mono (T := [p, c, st]) sub3
    have hl12 := k12'.lst hl11 nl
    have k12 := k11.trans k12'
    have hdn := Dp.keep k12 _ _ (data_fz _) hdn
    have hdo := Dp.keep k12 _ _ (data_fz _) hdo
    have hd12 := Dp.keep k12 _ _ (data_fz _) hd10
    have hR12 := k12.lst hR10 (En10.room hR10)
    have hp12 := k12.lst hp10 nlp
    obtain ⟨va, b, hva, hb, hab⟩ : ∃ (va : V) (b : Lz.P), ([.ref q1, u] : List V)[g.toNat]? = some va ∧ Dp K H12 va b.data ∧ argOf t d b := by
      have h0 : g.toNat < 2 := by omega
      generalize g.toNat = j at h0
      match j, h0 with
      | 0, _ => exact ⟨_, _, rfl, hdn, .inl rfl⟩
      | 1, _ => exact ⟨_, _, rfl, hdo, .inr rfl⟩
    refine ⟨l, _, _, _, rfl, rfl, SqL.of hl12, at_of (j := g.toNat) (by omega) hva, (by show 3 ≤ sizeLine; decide), fun q hq => ?_⟩
    have k13 : Kp [p, c, st] H12 (upd H12 q (.tup [.str "give", v5, va])) := Kp.new hq
    refine ⟨_, n2, ss2, os ++ [d], as ++ [b], _, _, rfl, k7.trans (k10.trans (k12.trans k13)), En12.new hq, k13.lst hR12 (En12.room hR12), k13.lst hp12 nlp, ?_, hdr.append hdr9, ?_⟩
    · show Dp K _ _ (gives (.fn me) ((.op "less" [.nam t0, .num 1] :: as) ++ [b])).data
      rw [gives_snoc]
      exact op_dp hq (.cons hd12 (.cons hb .nil))
    · rw [List.take_add_one, ht]
      exact .snoc har hab
  · rintro σ H7 ⟨v5, n', ss', os, as, v6, v7, rfl, k7, En7, hR7, hp7, hd7, hdr, har⟩
    rw [List.length_map, List.take_length] at har
    -- one
    refine ⟨_, rfl, _, rfl, _, rfl, _, rfl, r, _, _, _, rfl, rfl, SqL.of hR7, at_of (j := 1) rfl rfl, _, rfl, r, _, _, _, rfl, rfl, SqL.of hR7, at_of (j := 2) rfl rfl, (by show 3 ≤ sizeLine; decide), fun r2 hr2 => ?_⟩
    have En8 := En7.new (o := .lst [.int 3, .ref c, .ref st]) hr2
    have k8 : Kp [p, c, st] H7 (upd H7 r2 (.lst [.int 3, .ref c, .ref st])) := Kp.new hr2
    refine ⟨p, a, wl, tl, r2, c, st, "number", W, t0 :: ts, ss', 3, n', rfl, En8, upd_same, (by omega), (by omega), .inl rfl, fun u d H9 n2 ss2 k9 pen9 hc9 hs9 hd9 hdr9 => ?_⟩
    have En9 := En8.step k9 pen9 hc9 hs9 hdr9.sub hdr9.len
    have k9 := k8.trans k9
    have hR9 := k9.lst hR7 (En7.room hR7)
    have hc := Dp.keep k9 _ _ (data_fz _) hd7
    have ho := hd9
    clear En8 k8 hd7 hd9 hp7
    -- more
    refine ⟨_, rfl, _, rfl, _, rfl, (by show 3 ≤ sizeLine; decide), fun q1 hq1 => ?_⟩
    have k10 : Kp [p, c, st] H9 (upd H9 q1 (.tup [.str "plus", u, v5])) := Kp.new hq1
    have En10 := En9.new (o := .tup [.str "plus", u, v5]) hq1
    have h1 : Dp K (upd H9 q1 (.tup [.str "plus", u, v5])) (.ref q1) (Lz.P.op "plus" [d, again me t0 as]).data := op_dp hq1 (.cons ho (.cons hc .nil))
    have hc := Dp.keep k10 _ _ (data_fz _) hc
    have ho := Dp.keep k10 _ _ (data_fz _) ho
    have k10 := k9.trans k10
    generalize upd H9 q1 (.tup [.str "plus", u, v5]) = H10 at En10 k10 h1 hc ho ⊢
    refine ⟨_, rfl, _, rfl, (by show 3 ≤ sizeLine; decide), fun q2 hq2 => ?_⟩
    have k11 : Kp [p, c, st] H10 (upd H10 q2 (.tup [.str "pair", u, v5])) := Kp.new hq2
    have En11 := En10.new (o := .tup [.str "pair", u, v5]) hq2
    have h2 : Dp K (upd H10 q2 (.tup [.str "pair", u, v5])) (.ref q2) (Lz.P.op "pair" [d, again me t0 as]).data := op_dp hq2 (.cons ho (.cons hc .nil))
    have hc := Dp.keep k11 _ _ (data_fz _) hc
    have ho := Dp.keep k11 _ _ (data_fz _) ho
    have h1 := Dp.keep k11 _ _ (data_fz _) h1
    have k11 := k10.trans k11
    generalize upd H10 q2 (.tup [.str "pair", u, v5]) = H11 at En11 k11 h1 h2 hc ho ⊢
    refine ⟨_, rfl, _, rfl, (by show 3 ≤ sizeLine; decide), fun q3 hq3 => ?_⟩
    have k12 : Kp [p, c, st] H11 (upd H11 q3 (.tup [.str "plus", v5, u])) := Kp.new hq3
    have En12 := En11.new (o := .tup [.str "plus", v5, u]) hq3
    have h3 : Dp K (upd H11 q3 (.tup [.str "plus", v5, u])) (.ref q3) (Lz.P.op "plus" [again me t0 as, d]).data := op_dp hq3 (.cons hc (.cons ho .nil))
    have hc := Dp.keep k12 _ _ (data_fz _) hc
    have h1 := Dp.keep k12 _ _ (data_fz _) h1
    have h2 := Dp.keep k12 _ _ (data_fz _) h2
    have k12 := k11.trans k12
    generalize upd H11 q3 (.tup [.str "plus", v5, u]) = H12 at En12 k12 h1 h2 h3 hc ⊢
    refine ⟨(by show 4 ≤ sizeLine; decide), fun l hl => ?_⟩
    have En13 := En12.new (o := .lst [v5, .ref q1, .ref q2, .ref q3]) hl
    have nl := En12.fresh hl
    have k13 : Kp [p, c, st] H12 (upd H12 l (.lst [v5, .ref q1, .ref q2, .ref q3])) := Kp.new hl
    have hl13 : (upd H12 l (.lst [v5, .ref q1, .ref q2, .ref q3])) l = some (.lst [v5, .ref q1, .ref q2, .ref q3]) := upd_same
    refine ⟨_, rfl, p, a, 4, rfl, En13.pen, (by decide), (by decide), fun g H14 k14 pen14 g0 g1 => ?_⟩
    have En14 := En13.same k14 pen14
    have k14' := k14.mono (T := [p, c, st]) sub3
    have hl14 := k14'.lst hl13 nl
    have k14 := k13.trans k14'
    obtain ⟨va, b, hva, hb, hab⟩ : ∃ (va : V) (b : Lz.P), ([v5, .ref q1, .ref q2, .ref q3] : List V)[g.toNat]? = some va ∧ Dp K H14 va b.data ∧ More d (again me t0 as) b := by
      have h0 : g.toNat < 4 := by omega
      generalize g.toNat = j at h0
      match j, h0 with
      | 0, _ => exact ⟨_, _, rfl, Dp.keep k14 _ _ (data_fz _) hc, .call⟩
      | 1, _ => exact ⟨_, _, rfl, Dp.keep k14 _ _ (data_fz _) h1, .plus⟩
      | 2, _ => exact ⟨_, _, rfl, Dp.keep k14 _ _ (data_fz _) h2, .pair⟩
      | 3, _ => exact ⟨_, _, rfl, Dp.keep k14 _ _ (data_fz _) h3, .turn⟩
    have k14 := k12.trans k14
    have hR14 := k14.lst hR7 (En7.room hR7)
    refine ⟨l, _, _, _, rfl, rfl, SqL.of hl14, at_of (j := g.toNat) (by omega) hva, ?_⟩
    -- when
    refine ⟨_, rfl, tl, _, _, _, rfl, rfl, SqL.of En14.scp, at_of (j := 0) rfl rfl, (by show 2 ≤ sizeLine; decide), fun q4 hq4 => ?_⟩
    have k15 : Kp [p, c, st] H14 (upd H14 q4 (.tup [.str "name", .str t0])) := Kp.new hq4
    have En15 := En14.new (o := .tup [.str "name", .str t0]) hq4
    have hn : Dp K (upd H14 q4 (.tup [.str "name", .str t0])) (.ref q4) (Lz.P.nam t0).data := Dp.newT hq4 (.cons (.str _) (.cons (.str _) .nil)) rfl
    have hb := Dp.keep k15 _ _ (data_fz _) hb
    have hR15 := k15.lst hR14 (En14.room hR14)
    have k15 := k14.trans k15
    generalize upd H14 q4 (.tup [.str "name", .str t0]) = H15 at En15 k15 hn hb hR15 ⊢
    refine ⟨_, rfl, _, rfl, _, rfl, _, rfl, _, rfl, r, _, _, _, rfl, rfl, SqL.of hR15, at_of (j := 1) rfl rfl, _, rfl, r, _, _, _, rfl, rfl, SqL.of hR15, at_of (j := 2) rfl rfl, (by show 3 ≤ sizeLine; decide), fun r3 hr3 => ?_⟩
    have En16 := En15.new (o := .lst [.int 3, .ref c, .ref st]) hr3
    have k16 : Kp [p, c, st] H15 (upd H15 r3 (.lst [.int 3, .ref c, .ref st])) := Kp.new hr3
    refine ⟨p, a, wl, tl, r3, c, st, "number", W, t0 :: ts, ss2, 3, n2, rfl, En16, upd_same, (by omega), (by omega), .inl rfl, fun u3 e H17 n3 ss3 k17 pen17 hc17 hs17 hd17 hdr17 => ?_⟩
    have k17 := k16.trans k17
    have hn := Dp.keep k17 _ _ (data_fz _) hn
    have hb := Dp.keep k17 _ _ (data_fz _) hb
    refine ⟨(by show 4 ≤ sizeLine; decide), fun q hq => ?_⟩
    exact D _ (.op "when" [.nam t0, b, e]) _ (k7.trans (k15.trans (k17.trans (Kp.new hq)))) (pen17.new hq) (op_dp hq (.cons hn (.cons hb (.cons hd17 .nil)))) ⟨os, as, d, b, e, n', n2, n3, ss', ss2, ss3, hdr, har, hdr9, hab, hdr17, rfl⟩
end
end Lz

set_option Elab.async false
set_option linter.all false
set_option maxRecDepth 100000
set_option maxHeartbeats 8000000
namespace Lz
open PySem PySem.Spec PyProof.Rows L2
theorem Kp.drop {S T : List Addr} {H H1 H' : Hp} {c : Addr} (h : Kp S H H1) (hc : H c = none) (k : Kp T H1 H') (m : ∀ x, x ∈ T → x ∈ S ∨ x = c) : Kp S H H' := fun b o e n => k b o (h b o e n) fun i => by
  rcases m b i with q | q
  · exact n q
  · rw [q, hc] at e
    cases e
theorem not2 {p st x : Addr} (h1 : x ≠ p) (h2 : x ≠ st) : ¬ x ∈ [p, st] := fun m => by
  rcases List.mem_cons.mp m with e | m
  · exact h1 e
  · exact h2 (List.mem_singleton.mp m)
theorem sub2 {p st : Addr} : ∀ x, x ∈ [p] → x ∈ [p, st] := fun x h => by rw [List.mem_singleton.mp h]; exact List.mem_cons_self
/-- what the drawing of a body finds -/
structure Eb (K : PySem.W.Frag) (H : Hp) (W : List (Str × Int)) (things : List Str) (p a wl tl st : Addr) (ss : List Str) : Prop where
  pen : PenAt H p a
  wld : WAt K H wl W
  scp : H tl = some (.lst (things.map V.str))
  stk : H st = some (.lst (ss.map V.str))
  dw : ¬ wl ∈ [p, st]
  ds : ¬ tl ∈ [p, st]
  as : a ≠ st
  ps : p ≠ st
  nw : ∀ f, f ∈ W → nmOk f.1 ∧ 0 ≤ f.2 ∧ f.2 ≤ 4
  nc : ∀ x, x ∈ things → nmOk x
  ns : ∀ x, x ∈ ss → nmOk x
  lw : W.length ≤ 8
  lt : things.length ≤ 4
  ls : ss.length ≤ 26
section
variable {K : PySem.W.Frag} {H H' : Hp} {W : List (Str × Int)} {things : List Str} {p a wl tl st : Addr} {ss : List Str}
theorem Eb.keep (E : Eb K H W things p a wl tl st ss) (k : Kp [p] H H') (pen : PenAt H' p a) : Eb K H' W things p a wl tl st ss :=
  ⟨pen, E.wld.keep k (fun m => E.dw (sub2 _ m)), k.lst E.scp (fun m => E.ds (sub2 _ m)), k.lst E.stk (not1 E.ps.symm), E.dw, E.ds, E.as, E.ps, E.nw, E.nc, E.ns, E.lw, E.lt, E.ls⟩
theorem Eb.new {q : Addr} {o : HO} (E : Eb K H W things p a wl tl st ss) (h : H q = none) : Eb K (upd H q o) W things p a wl tl st ss := E.keep (Kp.new h) (E.pen.new h)
theorem Eb.en {c : Addr} {n : Int} (E : Eb K H W things p a wl tl st ss) (h : H c = none) : En K (upd H c (.lst [.int n])) W things p a wl tl c st n ss := by
  have E' := E.new (o := .lst [.int n]) h
  obtain ⟨ws, h1, _⟩ := E.wld
  obtain ⟨cp, ca⟩ := E.pen.apart h
  have cw := (ne_of_none h1 h).symm
  have ct := (ne_of_none E.scp h).symm
  have cs := (ne_of_none E.stk h).symm
  refine ⟨E'.pen, E'.wld, E'.scp, upd_same, E'.stk, ?_, ?_, ?_, cp.symm, E.ps, cs, E.nw, E.nc, E.ns, E.lw, by have := E.lt; have := E.ls; omega⟩
  · exact not3 (fun e => E.dw (by rw [e]; exact List.mem_cons_self)) cw.symm (fun e => E.dw (by rw [e]; exact List.mem_cons_of_mem _ List.mem_cons_self))
  · exact not3 (fun e => E.ds (by rw [e]; exact List.mem_cons_self)) ct.symm (fun e => E.ds (by rw [e]; exact List.mem_cons_of_mem _ List.mem_cons_self))
  · exact not3 E.pen.ne ca.symm E.as
end
def spBody (K : PySem.W.Frag) : Sp := fun vs H Q _ => ∃ (p a wl tl st : Addr) (me : Str) (W : List (Str × Int)) (things ss : List Str), vs = [.ref p, .ref wl, .str me, .ref tl, .ref st] ∧
  Eb K H W things p a wl tl st ss ∧ ∀ (v : V) (d : Lz.P) (H' : Hp), Kp [p, st] H H' → PenAt H' p a → Dp K H' v d.data → Bd W me things ss d → Q v H'
theorem emp_ne {x : Str} (c : (!decide (V.str x = V.str "")) = true) : x ≠ "" := fun e => by
  rw [e, decide_eq_true rfl] at c
  cases c
section
variable {P : Program} {w : World} {K : PySem.W.Frag} {mg : Str → Option Value} {base : Heap} {f : Addr} {fd : FuncData}
abbrev sLBody : Stmt := topS 65
theorem scLBody : FnScope ["_law_pen_here", "_law_world", "_law_me", "_law_things", "_law_stock", "_law_deep", "_law_left", "_law_part_here", "_law_k"] ["_law_pen_here", "_law_world", "_law_me", "_law_things", "_law_stock"] (defScope sLBody) := ⟨rfl, rfl, rfl, by decide +kernel, rfl, by decide +kernel, by decide +kernel⟩
theorem ok_body {j : Nat} (hj : 3 ≤ j) (F : Fun K "_law_body" "_law_body" sLBody f fd) (B : Bt mg) (CLDraw : C8.Cal P w K mg base 1 "_law_draw" (spDraw K) [])
    (CLPart : C8.Cal P w K mg base j "_law_part" (spPart K 12) []) (CLLoop : C8.Cal P w K mg base (j + 1) "_law_loop" (spLoop K) []) : FnOk P w K mg base CX0 (j + 2) f fd ["_law_pen_here", "_law_world", "_law_me", "_law_things", "_law_stock"] (spBody K) := by
  have mmin := B.min
  have mrange := B.range
  refine F.ok scLBody (fun vs H Q E h => ?_) (fun cdv A outer s H vs Q E hr h => ?_)
  · obtain ⟨p, a, wl, tl, st, me, W, things, ss, rfl, _⟩ := h
    rfl
  have hu64 := hr.units
  obtain ⟨p, a, wl, tl, st, me, W, things, ss, rfl, Eb0, D⟩ := h
  refine ⟨_, (pss_cons (ps_set (i := 5) scLBody.nd rfl (.inl rfl) (pe_ix (ix_listK (K := K) rfl) (pe_lst (pa_cons pe_int (pa_cons pe_int (pa_cons pe_int (pa_cons pe_int pa_nil))))) (C8.pe_c CLDraw hr (by first | decide | omega) (by rfl) (pa_cons (pv 0) (pa_cons pe_int pa_nil))) (fun _ _ => rfl)))
    (pss_cons (ps_set (i := 6) scLBody.nd rfl (.inl rfl) (pe_ix (ix_listK (K := K) rfl) (pe_lst (pa_cons pe_int (pa_cons pe_int (pa_cons pe_int (pa_cons pe_int (pa_cons pe_int (pa_cons pe_int pa_nil))))))) (C8.pe_c CLDraw hr (by first | decide | omega) (by rfl) (pa_cons (pv 0) (pa_cons pe_int pa_nil))) (fun _ _ => rfl)))
    (C8.pss_cut (ps_if (PW.pt (pw_and (pt_cmpR op_ne (pv 2) pe_str (nomark _)) (pw_and (pt_cmpR (op_neDK (K := K) rfl hu64) (pv 3) (pe_lst pa_nil) (nomark _)) (pw_and1 (pt_cmpR op_eq (C8.pe_c CLDraw hr (by first | decide | omega) (by rfl) (pa_cons (pv 0) (pa_cons pe_int pa_nil))) pe_int (nomark _)))))) (pss_one (ps_ret (C8.pe_c CLLoop hr (by first | decide | omega) (by rfl) (pa_cons (pv 0) (pa_cons (pv 1) (pa_cons (pv 2) (pa_cons (pv 3) (pa_cons (pe_lst (pa_cons (pv 5) (pa_cons (pe_lst (pa_cons (pe_callB (call_min2 rfl) (by rfl) mmin (by decide +kernel) (pa_cons (pv 6) (pa_cons pe_int pa_nil))) pa_nil)) (pa_cons (pv 4) pa_nil)))) pa_nil)))))))) pss_nil)
    (C8.pss_cut (ps_if (PW.pt (pw_and (pt_cmpR op_eq (pv 2) pe_str (nomark _)) (pw_and (pt_cmpR (op_neDK (K := K) rfl hu64) (pv 1) (pe_lst pa_nil) (nomark _)) (pw_and1 (pt_cmpR op_eq (C8.pe_c CLDraw hr (by first | decide | omega) (by rfl) (pa_cons (pv 0) (pa_cons pe_int pa_nil))) pe_int (nomark _)))))) (pss_cons (ps_set (i := 7) scLBody.nd rfl (.inl rfl) (pe_tup (pa_cons pe_str (pa_cons (pe_ix (ix_tupK (K := K) rfl) (pe_ix (ix_listK (K := K) rfl) (pv 1) pe_int (fun _ _ => rfl)) pe_int (fun _ _ => rfl)) pa_nil))))
    (pss_cons (ps_for PassesOwn.never rfl (pi_range1 (by rfl) mrange (pa_cons (pe_ix (ix_tupK (K := K) rfl) (pe_ix (ix_listK (K := K) rfl) (pv 1) pe_int (fun _ _ => rfl)) pe_int (fun _ _ => rfl)) pa_nil)) (pg_name (i := 8) scLBody.nd rfl (.inl rfl)) (pss_one (ps_set (i := 7) scLBody.nd rfl (.inl rfl) (pe_tup (pa_cons pe_str (pa_cons (pv 7) (pa_cons (pe_tup (pa_cons pe_str (pa_cons (C8.pe_c CLDraw hr (by first | decide | omega) (by rfl) (pa_cons (pv 0) (pa_cons pe_int pa_nil))) pa_nil))) pa_nil)))))))
    (pss_one (ps_ret (pv 7))))) pss_nil)
    (pss_one (ps_ret (C8.pe_c CLPart hr (by first | decide | omega) (by rfl) (pa_cons (pv 0) (pa_cons (pv 1) (pa_cons (pv 3) (pa_cons (pe_lst (pa_cons (pv 5) (pa_cons (pe_lst (pa_cons (pv 6) pa_nil)) (pa_cons (pv 4) pa_nil)))) (pa_cons pe_str pa_nil)))))))))))), ?_⟩
  -- how deep, how many
  refine ⟨(by show 4 ≤ sizeLine; decide), fun l hl => ?_⟩
  have Eb1 := Eb0.new (o := .lst [.int 2, .int 7, .int 9, .int 11]) hl
  have hl1 : (upd H l (.lst [.int 2, .int 7, .int 9, .int 11])) l = some (.lst [.int 2, .int 7, .int 9, .int 11]) := upd_same
  have k1 : Kp [p] H (upd H l (.lst [.int 2, .int 7, .int 9, .int 11])) := Kp.new hl
  refine ⟨_, rfl, p, a, 4, rfl, Eb1.pen, (by decide), (by decide), fun g H2 k2 pen2 g0 g1 => ?_⟩
  have Eb2 := Eb1.keep k2 pen2
  have hl2 := k2.lst hl1 (not1 (Eb0.pen.apart hl).1)
  have k2 := k1.trans k2
  obtain ⟨dp, hdp, dp0, dp1⟩ : ∃ z : Int, ([.int 2, .int 7, .int 9, .int 11] : List V)[g.toNat]? = some (.int z) ∧ 0 ≤ z ∧ z ≤ 11 := by
    have h0 : g.toNat < 4 := by omega
    generalize g.toNat = j at h0
    match j, h0 with
    | 0, _ => exact ⟨_, rfl, by decide, by decide⟩
    | 1, _ => exact ⟨_, rfl, by decide, by decide⟩
    | 2, _ => exact ⟨_, rfl, by decide, by decide⟩
    | 3, _ => exact ⟨_, rfl, by decide, by decide⟩
  refine ⟨l, _, _, _, rfl, rfl, SqL.of hl2, at_of (j := g.toNat) (by omega) hdp, ?_⟩
  refine ⟨(by show 6 ≤ sizeLine; decide), fun l3 hl3 => ?_⟩
  have Eb3 := Eb2.new (o := .lst [.int 2, .int 7, .int 14, .int 24, .int 40, .int 59]) hl3
  have hl4 : (upd H2 l3 (.lst [.int 2, .int 7, .int 14, .int 24, .int 40, .int 59])) l3 = some (.lst [.int 2, .int 7, .int 14, .int 24, .int 40, .int 59]) := upd_same
  have k3 : Kp [p] H2 (upd H2 l3 (.lst [.int 2, .int 7, .int 14, .int 24, .int 40, .int 59])) := Kp.new hl3
  refine ⟨_, rfl, p, a, 6, rfl, Eb3.pen, (by decide), (by decide), fun y H4 k4 pen4 y0 y1 => ?_⟩
  have Eb4 := Eb3.keep k4 pen4
  have hl5 := k4.lst hl4 (not1 (Eb2.pen.apart hl3).1)
  have k4 := k2.trans (k3.trans k4)
  obtain ⟨n, hn, n0, n1⟩ : ∃ z : Int, ([.int 2, .int 7, .int 14, .int 24, .int 40, .int 59] : List V)[y.toNat]? = some (.int z) ∧ 0 ≤ z ∧ z ≤ 59 := by
    have h0 : y.toNat < 6 := by omega
    generalize y.toNat = j at h0
    match j, h0 with
    | 0, _ => exact ⟨_, rfl, by decide, by decide⟩
    | 1, _ => exact ⟨_, rfl, by decide, by decide⟩
    | 2, _ => exact ⟨_, rfl, by decide, by decide⟩
    | 3, _ => exact ⟨_, rfl, by decide, by decide⟩
    | 4, _ => exact ⟨_, rfl, by decide, by decide⟩
    | 5, _ => exact ⟨_, rfl, by decide, by decide⟩
  refine ⟨l3, _, _, _, rfl, rfl, SqL.of hl5, at_of (j := y.toNat) (by omega) hn, ?_⟩
  clear Eb0 Eb1 Eb2 Eb3 k1 k2 k3 hl1 hl2 hl4 hl5 pen2 pen4
  -- a loop?
  refine ⟨fun σ' H' => σ' = [some (.ref p), some (.ref wl), some (.str me), some (.ref tl), some (.ref st), some (.int dp), some (.int n), none, none] ∧ Kp [p] H H' ∧ Eb K H' W things p a wl tl st ss, ?_, ?_⟩
  · refine ⟨_, rfl, rfl, _, rfl, ?_⟩
    refine ite2 (fun c1 => ?_) (fun c1 => ⟨rfl, k4, Eb4⟩)
    have hme := emp_ne c1
    refine ⟨_, rfl, Nat.zero_le _, fun l hl => ?_⟩
    have k5 : Kp [p] H (upd H4 l (.lst [])) := k4.trans (Kp.new hl)
    have Eb5 := Eb4.new (o := .lst []) hl
    refine ⟨_, _, scope_dp Eb5.scp, nil_dp, strs_shaped Eb5.nc, nil_shaped, _, rfl, ?_⟩
    rw [eqv_nil]
    generalize upd H4 l (.lst []) = H5 at Eb5 k5 ⊢
    refine ite2 (fun c2 => ?_) (fun c2 => ⟨rfl, k5, Eb5⟩)
    obtain ⟨t0, ts, rfl⟩ : ∃ t0 ts, things = t0 :: ts := by
      cases things with
      | nil => cases c2
      | cons t ts => exact ⟨t, ts, rfl⟩
    refine ⟨_, rfl, p, a, 3, rfl, Eb5.pen, (by decide), (by decide), fun z H6 k6 pen6 z0 z1 => ?_⟩
    have Eb6 := Eb5.keep k6 pen6
    have k6 := k5.trans k6
    refine ⟨rfl, _, rfl, ?_⟩
    refine ite2 (fun c3 => ?_) (fun c3 => ⟨rfl, k6, Eb6⟩)
    refine ⟨_, rfl, _, rfl, _, rfl, _, rfl, _, rfl, _, rfl, _, _, rfl, (by show 1 ≤ sizeLine; decide), fun c hc => ?_⟩
    have hmin : (if (40 : Int) < n then (40 : Int) else n) = min n 40 := by omega
    have En7 := Eb6.en (n := if (40 : Int) < n then (40 : Int) else n) hc
    have k7 : Kp [p] H6 (upd H6 c (.lst [.int (if (40 : Int) < n then (40 : Int) else n)])) := Kp.new hc
    have k7 := k6.trans k7
    have hc0 : H c = none := k6.free hc (not1 (Eb6.pen.apart hc).1)
    refine ⟨_, rfl, (by show 3 ≤ sizeLine; decide), fun r hr2 => ?_⟩
    have En8 := En7.new (o := .lst [.int dp, .ref c, .ref st]) hr2
    have k8 : Kp [p] H _ := k7.trans (Kp.new (o := .lst [.int dp, .ref c, .ref st]) hr2)
    have l4 := Eb6.lt
    rw [List.length_cons] at l4
    refine ⟨p, a, wl, tl, r, c, st, me, t0, W, ts, ss, dp, _, rfl, En8, upd_same, (by omega), fun v d H9 k9 pen9 hd9 hL => ?_⟩
    refine D v d H9 (Kp.drop (k8.mono sub2) hc0 k9 fun x m => ?_) pen9 hd9 (.loop hme rfl ?_ ?_ hL)
    · rcases List.mem_cons.mp m with e | m
      · exact .inl (by rw [e]; exact List.mem_cons_self)
      · rcases List.mem_cons.mp m with e | m
        · exact .inr e
        · exact .inl (by rw [List.mem_singleton.mp m]; exact List.mem_cons_of_mem _ List.mem_cons_self)
    · rw [hmin]; omega
    · rw [hmin]; omega
  rintro _ H5 ⟨rfl, k5, Eb5⟩
  clear Eb4 k4
  -- the first function, asked?
  refine ⟨fun σ' H' => (∃ v7 v8, σ' = [some (.ref p), some (.ref wl), some (.str me), some (.ref tl), some (.ref st), some (.int dp), some (.int n), v7, v8]) ∧ Kp [p] H H' ∧ Eb K H' W things p a wl tl st ss, ?_, ?_⟩
  · refine ⟨_, rfl, rfl, _, rfl, ?_⟩
    refine ite2 (fun c1 => ?_) (fun c1 => ⟨⟨_, _, rfl⟩, k5, Eb5⟩)
    have hme := str_of_decide c1
    refine ⟨_, rfl, Nat.zero_le _, fun l hl => ?_⟩
    have k6 : Kp [p] H (upd H5 l (.lst [])) := k5.trans (Kp.new hl)
    have Eb6 := Eb5.new (o := .lst []) hl
    refine ⟨_, _, Eb6.wld.dp, nil_dp, wds_shaped (fun f m => (Eb6.nw f m).1), nil_shaped, _, rfl, ?_⟩
    rw [eqv_nil]
    generalize upd H5 l (.lst []) = H6 at Eb6 k6 ⊢
    refine ite2 (fun c2 => ?_) (fun c2 => ⟨⟨_, _, rfl⟩, k6, Eb6⟩)
    obtain ⟨⟨fn, wn⟩, rest, rfl⟩ : ∃ fw rest, W = fw :: rest := by
      cases W with
      | nil => cases c2
      | cons t ts => exact ⟨t, ts, rfl⟩
    refine ⟨_, rfl, p, a, 2, rfl, Eb6.pen, (by decide), (by decide), fun z H7 k7 pen7 z0 z1 => ?_⟩
    have Eb7 := Eb6.keep k7 pen7
    have k7 := k6.trans k7
    refine ⟨rfl, _, rfl, ?_⟩
    refine ite2 (fun c3 => ?_) (fun c3 => ⟨⟨_, _, rfl⟩, k7, Eb7⟩)
    obtain ⟨ws, hws, hdw⟩ := id Eb7.wld
    obtain ⟨t, wr, rfl, hT⟩ : ∃ t wr, ws = .ref t :: wr ∧ SqT K H7 t [.str fn, .int wn] := by
      cases hdw with
      | cons h1 h2 =>
        obtain ⟨t, xs, rfl, ht, hxs⟩ := h1.tup_of
        cases hxs with
        | cons h3 h4 =>
          cases h3
          cases h4 with
          | cons h5 h6 =>
            cases h5
            cases h6
            exact ⟨t, _, rfl, ht⟩
    have hw4 := (Eb7.nw _ List.mem_cons_self).2
    refine ⟨_, rfl, wl, _, _, _, rfl, rfl, SqL.of hws, at_of (j := 0) rfl rfl, t, _, _, _, rfl, rfl, hT, at_of (j := 0) rfl rfl, (by show 2 ≤ sizeLine; decide), fun q hq => ?_⟩
    have Eb8 := Eb7.new (o := .tup [.str "fun", .str fn]) hq
    have k8 : Kp [p] H7 (upd H7 q (.tup [.str "fun", .str fn])) := Kp.new hq
    have hd8 : Dp K (upd H7 q (.tup [.str "fun", .str fn])) (.ref q) (Lz.P.fn fn).data := Dp.newT hq (.cons (.str _) (.cons (.str _) .nil)) rfl
    have hws8 := k8.lst hws (fun m => Eb7.dw (sub2 _ m))
    have hT8 := k8.sqT hT
    have k8 := k7.trans k8
    generalize upd H7 q (.tup [.str "fun", .str fn]) = H8 at Eb8 k8 hd8 hws8 hT8 ⊢
    refine ⟨_, rfl, wl, _, _, _, rfl, rfl, SqL.of hws8, at_of (j := 0) rfl rfl, t, _, _, _, rfl, rfl, hT8, at_of (j := 1) rfl rfl, _, rfl, (by omega), (by omega), for_range (lo := 0) (n := wn.toNat) (fun i σ H' => ∃ (v7 : V) (ks : List Int) (v8 : Option V),
        σ = [some (.ref p), some (.ref wl), some (.str me), some (.ref tl), some (.ref st), some (.int dp), some (.int n), some v7, v8] ∧ ks.length = i ∧ (∀ k, k ∈ ks → 0 ≤ k ∧ k < 8) ∧ Kp [p] H H' ∧ PenAt H' p a ∧ Dp K H' v7 (gives (.fn fn) (ks.map .num)).data)
      ⟨.ref q, [], none, rfl, rfl, (fun k m => nomatch m), k8, Eb8.pen, hd8⟩ ?_ ?_⟩
    · rintro i σ H9 hi ⟨v7, ks, v8, rfl, hks, hk8, k9, pen9, hd9⟩
      refine ⟨_, rfl, _, rfl, p, a, 8, rfl, pen9, (by decide), (by decide), fun g H10 k10 pen10 g0 g1 => ?_⟩
      refine ⟨(by show 2 ≤ sizeLine; decide), fun q1 hq1 => ?_⟩
      have hdn : Dp K (upd H10 q1 (.tup [.str "number", .int g])) (.ref q1) (Lz.P.num g).data := Dp.newT hq1 (.cons (.str _) (.cons (.int _) .nil)) rfl
      have k11 : Kp [p] H9 (upd H10 q1 (.tup [.str "number", .int g])) := k10.trans (Kp.new hq1)
      have pen11 := pen10.new (o := .tup [.str "number", .int g]) hq1
      have hd11 := Dp.keep k11 _ _ (data_fz _) hd9
      generalize upd H10 q1 (.tup [.str "number", .int g]) = H11 at hdn k11 pen11 hd11 ⊢
      refine ⟨(by show 3 ≤ sizeLine; decide), fun q2 hq2 => ?_⟩
      refine ⟨_, ks ++ [g], _, rfl, by rw [List.length_append, hks]; rfl, ?_, k9.trans (k11.trans (Kp.new hq2)), pen11.new hq2, ?_⟩
      · intro k m
        rcases List.mem_append.mp m with m | m
        · exact hk8 k m
        · rw [List.mem_singleton.mp m]
          exact ⟨g0, g1⟩
      · rw [List.map_append]
        show Dp K _ _ (gives (.fn fn) (ks.map Lz.P.num ++ [.num g])).data
        rw [gives_snoc]
        exact op_dp hq2 (.cons hd11 (.cons hdn .nil))
    · rintro σ H9 ⟨v7, ks, v8, rfl, hks, hk8, k9, pen9, hd9⟩
      refine ⟨_, rfl, D v7 _ H9 (k9.mono sub2) pen9 hd9 (.first hme rfl (by omega) hk8)⟩
  · rintro _ H6 ⟨⟨v7, v8, rfl⟩, k6, Eb6⟩
    refine ⟨_, rfl, _, rfl, _, rfl, _, rfl, _, rfl, (by show 1 ≤ sizeLine; decide), fun c hc => ?_⟩
    have En7 := Eb6.en (n := n) hc
    have k7 : Kp [p] H6 (upd H6 c (.lst [.int n])) := Kp.new hc
    have k7 := k6.trans k7
    have hc0 : H c = none := k6.free hc (not1 (Eb6.pen.apart hc).1)
    refine ⟨_, rfl, (by show 3 ≤ sizeLine; decide), fun r hr2 => ?_⟩
    have En8 := En7.new (o := .lst [.int dp, .ref c, .ref st]) hr2
    have k8 : Kp [p] H _ := k7.trans (Kp.new (o := .lst [.int dp, .ref c, .ref st]) hr2)
    refine ⟨p, a, wl, tl, r, c, st, "any", W, things, ss, dp, n, rfl, En8, upd_same, (by omega), (by omega), .inr (.inr rfl), fun v d H9 n' ss' k9 pen9 _ _ hd9 hdr => ?_⟩
    refine D v d H9 (Kp.drop (k8.mono sub2) hc0 k9 fun x m => ?_) pen9 hd9 (.part dp0 dp1 n0 n1 hdr)
    rcases List.mem_cons.mp m with e | m
    · exact .inl (by rw [e]; exact List.mem_cons_self)
    · rcases List.mem_cons.mp m with e | m
      · exact .inr e
      · exact .inl (by rw [List.mem_singleton.mp m]; exact List.mem_cons_of_mem _ List.mem_cons_self)
end
end Lz

set_option Elab.async false
set_option linter.all false
set_option maxRecDepth 100000
set_option maxHeartbeats 4000000
namespace Lz
open PySem PySem.Spec PyProof.Rows L2
def spNames (K : PySem.W.Frag) : Sp := fun vs H Q _ => ∃ (p a : Addr) (m : Nat), vs = [.ref p, .int m] ∧ PenAt H p a ∧ m ≤ 26 ∧
  ∀ (l : Addr) (xs : List Str) (H' : Hp), Kp [p] H H' → PenAt H' p a → H l = none → H' l = some (.lst (xs.map V.str)) → xs.length = m → (∀ x, x ∈ xs → nmOk x) → xs.Nodup → Q (.ref l) H'
section
variable {P : Program} {w : World} {K : PySem.W.Frag} {mg : Str → Option Value} {base : Heap} {f : Addr} {fd : FuncData}
abbrev sLNames : Stmt := topS 57
theorem scLNames : FnScope ["_law_pen_here", "_law_many", "_law_letters", "_law_word", "_law_at", "_law_first", "_law_by", "_law_k"] ["_law_pen_here", "_law_many"] (defScope sLNames) := ⟨rfl, rfl, rfl, by decide +kernel, rfl, by decide +kernel, by decide +kernel⟩
theorem ok_names (F : Fun K "_law_names" "_law_names" sLNames f fd) (B : Bt mg) (CLDraw : C8.Cal P w K mg base 1 "_law_draw" (spDraw K) []) : FnOk P w K mg base CX0 2 f fd ["_law_pen_here", "_law_many"] (spNames K) := by
  have ml := B.len
  have mrange := B.range
  refine F.ok scLNames (fun vs H Q E h => ?_) (fun cdv A outer s H vs Q E hr h => ?_)
  · obtain ⟨p, a, m, rfl, _⟩ := h
    rfl
  obtain ⟨p, a, m, rfl, hpen, hm, k⟩ := h
  refine ⟨_, (pss_cons (ps_set (i := 2) scLNames.nd rfl (.inr rfl) pe_str)
    (pss_cons (ps_set (i := 3) scLNames.nd rfl (.inr rfl) (pe_join pe_str (pe_lc (own := [("_law_k", 7)]) rfl scLNames.nd (pi_range1 (by rfl) mrange (pa_cons (pe_op op_add pe_int (C8.pe_c CLDraw hr (by first | decide | omega) (by rfl) (pa_cons (pv 0) (pa_cons pe_int pa_nil)))) pa_nil)) (blkOk_by (N := ["_law_pen_here", "_law_many", "_law_letters", "_law_word", "_law_at", "_law_first", "_law_by", "_law_k"]) (sc := defScope sLNames) (by decide +kernel)) (fun _ _ _ _ _ => (pg_name (i := 7) scLNames.nd rfl (.inl rfl))) (fun _ _ _ _ _ => pts_nil) (fun _ _ _ _ _ => (pe_ix ix_str (pv 2) (C8.pe_c CLDraw hr (by first | decide | omega) (by rfl) (pa_cons (pv 0) (pa_cons pe_int pa_nil))) (fun _ _ => rfl))))))
    (pss_cons (ps_set (i := 4) scLNames.nd rfl (.inr rfl) (C8.pe_c CLDraw hr (by first | decide | omega) (by rfl) (pa_cons (pv 0) (pa_cons (pe_callB call_len_str (by rfl) ml PySem.boot_len (pa_cons (pv 3) pa_nil)) pa_nil))))
    (pss_cons (ps_set (i := 5) scLNames.nd rfl (.inr rfl) (C8.pe_c CLDraw hr (by first | decide | omega) (by rfl) (pa_cons (pv 0) (pa_cons pe_int pa_nil))))
    (pss_cons (ps_set (i := 6) scLNames.nd rfl (.inr rfl) (pe_ix (ix_listK (K := K) rfl) (pe_lst (pa_cons pe_int (pa_cons pe_int (pa_cons pe_int (pa_cons pe_int (pa_cons pe_int (pa_cons pe_int pa_nil))))))) (C8.pe_c CLDraw hr (by first | decide | omega) (by rfl) (pa_cons (pv 0) (pa_cons pe_int pa_nil))) (fun _ _ => rfl)))
    (pss_one (ps_ret (pe_lc (own := [("_law_k", 7)]) rfl scLNames.nd (pi_range1 (by rfl) mrange (pa_cons (pv 1) pa_nil)) (blkOk_by (N := ["_law_pen_here", "_law_many", "_law_letters", "_law_word", "_law_at", "_law_first", "_law_by", "_law_k"]) (sc := defScope sLNames) (by decide +kernel)) (fun _ _ _ _ _ => (pg_name (i := 7) scLNames.nd rfl (.inl rfl))) (fun _ _ _ _ _ => pts_nil) (fun _ _ _ _ _ => (pe_op op_add_str (pe_op op_add_str (pe_slice sl_str (pv 3) po_none (po_some (pv 4))) (pe_ix ix_str (pv 2) (pe_op op_mod (pe_op op_add (pv 5) (pe_op op_mul (pv 6) (pv 7))) pe_int) (fun _ _ => rfl))) (pe_slice sl_str (pv 3) (po_some (pe_op op_add (pv 4) pe_int)) po_none))))))))))), ?_⟩
  -- letters; the word
  refine ⟨⟨_, rfl⟩, ⟨_, rfl, p, a, 8, rfl, hpen, by decide, by decide, fun r H1 k1 pen1 r0 r1 => ?_⟩⟩
  refine ⟨_, _, rfl, rfl, _, rfl, (by omega), (by omega), fun D hD => ?_⟩
  obtain ⟨hDp, hDa⟩ := pen1.apart hD
  have hD0 : H D = none := k1.free hD (not1 hDp)
  refine lc_range (lo := 0) (n := (1 + r).toNat) (fun i H' => Kp [p] H H' ∧ PenAt H' p a ∧ ∃ cs : List Nat, H' D = some (.lst ((cs.map one).map V.str)) ∧ cs.length = i ∧ ∀ c, c ∈ cs → 97 ≤ c ∧ c ≤ 122)
    ⟨k1.mut hD0, pen1.new hD, [], upd_same, rfl, fun c h => nomatch h⟩ (fun i H2 hi ⟨kk, pn, cs, hc, hl, hcs⟩ => ?_) (fun H2 ⟨kk, pn, cs, hc, hl, hcs⟩ => ?_)
  · refine ⟨rfl, ?_⟩
    refine ⟨_, rfl, _, rfl, p, a, 26, rfl, pn, by decide, by decide, fun r2 H3 k3 pen3 r20 r21 => ?_⟩
    refine ⟨_, _, _, rfl, rfl, letters_len, letters_at r20 r21, ?_⟩
    have hc3 : H3 D = some (.lst ((cs.map one).map V.str)) := k3.lst hc (not1 hDp)
    have hc4 : (cs.map one).map V.str ++ [V.str (one (97 + r2.toNat))] = ((cs ++ [97 + r2.toNat]).map one).map V.str := by
      rw [List.map_append, List.map_append]
      rfl
    refine ⟨_, hc3, (by rw [List.length_map, List.length_map]; exact small1000 (by omega)), (kk.trans k3).mut hD0, pen3.mut hDp hDa, cs ++ [97 + r2.toNat], Eq.trans upd_same (congrArg (fun z => some (HO.lst z)) hc4), by rw [List.length_append, List.length_singleton, hl], fun c hcm => ?_⟩
    rcases List.mem_append.mp hcm with q | q
    · exact hcs c q
    · rw [List.mem_singleton.mp q]
      omega
  · have hz := join_ones cs
    have hlen : cs.length = (1 + r).toNat := hl
    refine ⟨_, D, _, rfl, rfl, .inl (SqL.of hc), (by rw [sum_ones, List.length_map]; show cs.length + cs.length * 0 ≤ _; omega), ?_⟩
    generalize hword : Txt.join ("" : Str) (cs.map one) = word at hz
    have hwl : word.length = cs.length := by rw [str_len, hz]
    have hws : word.length ≤ sizeLine := by rw [hwl]; exact Nat.le_of_lt (small1000 (by omega))
    -- at, first, by
    refine ⟨_, rfl, _, rfl, _, rfl, hws, p, a, _, rfl, pn, (by omega), (by omega), fun kat H3 k3 pen3 q0 q1 => ?_⟩
    refine ⟨_, rfl, p, a, 26, rfl, pen3, (by omega), (by decide), fun fi H4 k4 pen4 f0 f1 => ?_⟩
    refine ⟨(by show 6 ≤ sizeLine; decide), fun lb hlb => ?_⟩
    have hl5 : (upd H4 lb (.lst [.int 1, .int 3, .int 5, .int 7, .int 9, .int 11])) lb = some (.lst [.int 1, .int 3, .int 5, .int 7, .int 9, .int 11]) := upd_same
    have k5 := ((kk.trans k3).trans k4).trans (Kp.new (S := [p]) (o := .lst [.int 1, .int 3, .int 5, .int 7, .int 9, .int 11]) hlb)
    refine ⟨_, rfl, p, a, 6, rfl, pen4.new hlb, (by omega), (by decide), fun bi H6 k6 pen6 b0 b1 => ?_⟩
    have hl6 := k6.lst hl5 (not1 (pen4.apart hlb).1)
    obtain ⟨b, hb, hb6⟩ : ∃ b : Nat, ([.int 1, .int 3, .int 5, .int 7, .int 9, .int 11] : List V)[bi.toNat]? = some (.int (b : Int)) ∧ (b = 1 ∨ b = 3 ∨ b = 5 ∨ b = 7 ∨ b = 9 ∨ b = 11) := by
      have h0 : bi.toNat < 6 := by omega
      generalize bi.toNat = j at h0
      match j, h0 with
      | 0, _ => exact ⟨1, rfl, by omega⟩
      | 1, _ => exact ⟨3, rfl, by omega⟩
      | 2, _ => exact ⟨5, rfl, by omega⟩
      | 3, _ => exact ⟨7, rfl, by omega⟩
      | 4, _ => exact ⟨9, rfl, by omega⟩
      | 5, _ => exact ⟨11, rfl, by omega⟩
    refine ⟨lb, _, _, _, rfl, rfl, SqL.of hl6, at_of (j := bi.toNat) (by omega) hb, ?_⟩
    have k7 := k5.trans k6
    -- the names
    refine ⟨_, rfl, _, rfl, (by omega), (by omega), fun E1 hE => ?_⟩
    obtain ⟨hEp, hEa⟩ := pen6.apart hE
    have hE0 : H E1 = none := k7.free hE (not1 hEp)
    obtain ⟨ka, rfl⟩ : ∃ n : Nat, kat = (n : Int) := ⟨kat.toNat, by omega⟩
    obtain ⟨f, rfl⟩ : ∃ n : Nat, fi = (n : Int) := ⟨fi.toNat, by omega⟩
    refine lc_range (lo := 0) (n := (m : Int).toNat) (fun i H' => Kp [p] H H' ∧ PenAt H' p a ∧ H' E1 = some (.lst ((namesOf cs ka f b i).map V.str)))
      ⟨k7.mut hE0, pen6.new hE, upd_same⟩ (fun i H2 hi ⟨kk, pn, hc⟩ => ?_) (fun H2 ⟨kk, pn, hc⟩ => ?_)
    · refine ⟨rfl, ?_⟩
      refine ⟨_, rfl, _, rfl, _, rfl, _, rfl, hws, _, rfl, _, rfl, _, rfl, _, rfl, _, _, rfl, rfl, .inl ⟨by omega, by omega⟩, _, _, rfl, rfl, _, _, rfl, rfl, (by show (0 : Int) < 26; decide), ?_⟩
      have g0 : 0 ≤ ((f : Int) + (b : Int) * (0 + (i : Int))) % 26 := Int.emod_nonneg _ (by omega)
      have g1 : ((f : Int) + (b : Int) * (0 + (i : Int))) % 26 < 26 := Int.emod_lt_of_pos _ (by omega)
      have gz : (97 + (((f : Int) + (b : Int) * (0 + (i : Int))) % 26).toNat) = 97 + (f + b * i) % 26 := by
        have e : ((f : Int) + (b : Int) * (0 + (i : Int))) % 26 = (((f + b * i) % 26 : Nat) : Int) := by
          rw [Int.zero_add]
          norm_cast
        rw [e]
        omega
      have hw8 : word.length ≤ 8 := by omega
      have c1 := cutS_length word none (some (ka : Int))
      have c2 := cutS_length word (some ((ka : Int) + 1)) none
      have o1 : (⟨#[97 + (((f : Int) + (b : Int) * (0 + (i : Int))) % 26).toNat]⟩ : Str).length = 1 := rfl
      refine ⟨_, _, _, rfl, rfl, letters_len, letters_at g0 g1, _, _, rfl, rfl, (by rw [o1]; exact Nat.le_of_lt (small1000 (by omega))), ?_⟩
      refine ⟨_, rfl, _, rfl, _, _, rfl, rfl, _, rfl, _, rfl, hws, _, _, rfl, rfl, ?_, ?_⟩
      · rw [Str.length_append, o1]
        exact Nat.le_of_lt (small1000 (by omega))
      · refine ⟨_, hc, (by rw [List.length_map, namesOf_len]; exact small1000 (by omega)), kk.mut hE0, pn.mut hEp hEa, ?_⟩
        rw [upd_same, nameOf_eq hz, gz]
        show some (HO.lst (_ ++ [V.str _])) = _
        unfold namesOf
        rw [List.range_succ, List.map_append, List.map_append]
        rfl
    · have e : (m : Int).toNat = m := by omega
      rw [e] at hc
      have hcs1 : 1 ≤ cs.length := by omega
      exact k E1 _ H2 kk pn hE0 hc (namesOf_len _ _ _ _ _) (namesOf_ok hcs1 (by omega) (by omega) hcs) (namesOf_nodup hm hb6)
end
end Lz

set_option Elab.async false
set_option linter.all false
set_option maxRecDepth 100000
set_option maxHeartbeats 8000000
namespace Lz
open PySem PySem.Spec PyProof.Rows L2
theorem cutV_to (xs : List V) (k : Nat) : cutV xs none (some (k : Int)) = xs.take k := by
  unfold cutV
  rw [HT.sIx_none, HT.sIx_nat, List.drop_zero, Nat.sub_zero]
  by_cases h : k ≤ xs.length
  · rw [Nat.min_eq_left h]
  · rw [Nat.min_eq_right (by omega), List.take_of_length_le (Nat.le_refl _), List.take_of_length_le (by omega)]
theorem cutV_from (xs : List V) (k : Nat) : cutV xs (some (k : Int)) none = xs.drop k := by
  unfold cutV
  rw [HT.sIx_none, HT.sIx_nat]
  by_cases h : k ≤ xs.length
  · rw [Nat.min_eq_left h]
    exact List.take_of_length_le (by rw [List.length_drop]; exact Nat.le_refl _)
  · rw [Nat.min_eq_right (by omega), List.drop_eq_nil_of_le (Nat.le_refl _), List.drop_eq_nil_of_le (by omega)]
    exact List.take_nil
def spPen (K : PySem.W.Frag) : Sp := fun vs H Q _ => ∃ (s : Addr) (ns : List Int), vs = [.ref s] ∧ SqL K H s (ns.map V.int) ∧ ns.length ≤ 63 ∧ ∀ (p a : Addr) (H' : Hp), Same H H' → H p = none → H a = none → PenAt H' p a → Q (.ref p) H'
def spProgram (K : PySem.W.Frag) : Sp := fun vs H Q _ => ∃ (p a : Addr), vs = [.ref p] ∧ PenAt H p a ∧ ∀ (v : V) (fs : List Fn) (d : Lz.P) (H' : Hp), Kp [p] H H' → PenAt H' p a → Dp K H' v (progD fs d) → Prog fs d → Q v H'
theorem fd_fz : ∀ fs : List Fn, fzAll (fs.map fD) = true
  | [] => rfl
  | f :: r => by
    show ((true && (fzAll (f.2.1.map .str) && (fz f.2.2.data && true))) && fzAll (r.map fD)) = true
    rw [fd_fz r, strs_fz, data_fz]
    rfl
section
variable {P : Program} {w : World} {K : PySem.W.Frag} {mg : Str → Option Value} {base : Heap} {f : Addr} {fd : FuncData}
abbrev sLPen : Stmt := topS 55
theorem scLPen : FnScope ["_law_script"] ["_law_script"] (defScope sLPen) := ⟨rfl, rfl, rfl, by decide +kernel, rfl, by decide +kernel, by decide +kernel⟩
theorem ok_pen (F : Fun K "_law_pen" "_law_pen" sLPen f fd) (B : Bt mg) : FnOk P w K mg base CX0 1 f fd ["_law_script"] (spPen K) := by
  have mlist := B.list
  refine F.ok scLPen (fun vs H Q E h => ?_) (fun cdv A outer s H vs Q E hr h => ?_)
  · obtain ⟨s, ns, rfl, _⟩ := h
    rfl
  obtain ⟨s0, ns, rfl, hS, hlen, k⟩ := h
  refine ⟨_, (pss_one (ps_ret (pe_lst (pa_cons (pe_callTy (call_listK (K := K) rfl) (by rfl) mlist (by decide +kernel) (pa_cons (pe_slice (sl_listK (K := K) rfl) (pv 0) po_none (po_some pe_int)) pa_nil)) (pa_cons pe_int (pa_cons pe_int pa_nil)))))), ?_⟩
  refine ⟨_, rfl, _, rfl, s0, _, rfl, hS, fun l hl => ?_⟩
  have s1 : Same H (upd H l (.lst (cutV (ns.map V.int) none (some 63)))) := same_new hl
  have ec : cutV (ns.map V.int) none (some 63) = ns.map V.int := by
    have := cutV_to (ns.map V.int) 63
    rw [List.take_of_length_le (by rw [List.length_map]; exact hlen)] at this
    exact this
  refine ⟨l, _, rfl, .inl (SqL.of upd_same), fun a ha => ?_⟩
  have s2 := same_new (o := .lst (cutV (ns.map V.int) none (some 63))) ha
  refine ⟨(by show 3 ≤ sizeLine; decide), fun p hp => ?_⟩
  have s3 := same_new (o := .lst [.ref a, .int 0, .int 0]) hp
  have hap : a ≠ p := fun e => by
    rw [← e, upd_same] at hp
    cases hp
  refine k p a _ (s1.trans (s2.trans s3)) ((s1.trans s2).free hp) (s1.free ha) ⟨ns, 0, 0, upd_same, ?_, hlen, by omega, by omega⟩
  rw [upd_ne hap, upd_same, ec]
abbrev sLProgram : Stmt := topS 66
theorem scLProgram : FnScope ["_law_pen_here", "_law_names_here", "_law_world", "_law_functions", "_law_name", "_law_wanted", "_law_stock", "_law_things"] ["_law_pen_here"] (defScope sLProgram) := ⟨rfl, rfl, rfl, by decide +kernel, rfl, by decide +kernel, by decide +kernel⟩
theorem ok_program {j : Nat} (hj : 3 ≤ j) (F : Fun K "_law_program" "_law_program" sLProgram f fd) (B : Bt mg) (CLDraw : C8.Cal P w K mg base 1 "_law_draw" (spDraw K) []) (CLNames : C8.Cal P w K mg base 2 "_law_names" (spNames K) [])
    (CLBody : C8.Cal P w K mg base j "_law_body" (spBody K) []) : FnOk P w K mg base CX0 (j + 1) f fd ["_law_pen_here"] (spProgram K) := by
  have mtup := B.tuple
  refine F.ok scLProgram (fun vs H Q E h => ?_) (fun cdv A outer s H vs Q E hr h => ?_)
  · obtain ⟨p, a, rfl, _⟩ := h
    rfl
  obtain ⟨p, a, rfl, pen0, D⟩ := h
  refine ⟨_, (pss_cons (ps_set (i := 1) scLProgram.nd rfl (.inl rfl) (C8.pe_c CLNames hr (by first | decide | omega) (by rfl) (pa_cons (pv 0) (pa_cons (pe_ix (ix_listK (K := K) rfl) (pe_lst (pa_cons pe_int (pa_cons pe_int (pa_cons pe_int (pa_cons pe_int (pa_cons pe_int (pa_cons pe_int (pa_cons pe_int (pa_cons pe_int pa_nil))))))))) (C8.pe_c CLDraw hr (by first | decide | omega) (by rfl) (pa_cons (pv 0) (pa_cons pe_int pa_nil))) (fun _ _ => rfl)) pa_nil))))
    (pss_cons (ps_setLc (i := 2) (own := [("_law_name", 4)]) rfl scLProgram.nd rfl rfl (sw_true rfl rfl rfl (by decide +kernel)) (pi_listK (K := K) rfl (pv 1)) (blkOk_by (N := ["_law_pen_here", "_law_names_here", "_law_world", "_law_functions", "_law_name", "_law_wanted", "_law_stock", "_law_things"]) (sc := defScope sLProgram) (by decide +kernel)) (fun _ _ _ _ _ => (pg_name (i := 4) scLProgram.nd rfl (.inl rfl))) (fun _ _ _ _ _ => pts_nil) (fun _ _ _ _ _ => (pe_tup (pa_cons (pv 4) (pa_cons (pe_ix (ix_listK (K := K) rfl) (pe_lst (pa_cons pe_int (pa_cons pe_int (pa_cons pe_int (pa_cons pe_int (pa_cons pe_int (pa_cons pe_int (pa_cons pe_int pa_nil)))))))) (C8.pe_c CLDraw hr (by first | decide | omega) (by rfl) (pa_cons (pv 0) (pa_cons pe_int pa_nil))) (fun _ _ => rfl)) pa_nil)))))
    (pss_cons (ps_set (i := 3) scLProgram.nd rfl (.inl rfl) (pe_lst pa_nil))
    (pss_cons (ps_for PassesOwn.never rfl (pi_listK (K := K) rfl (pv 2)) (pg_tupK (K := K) (n := 2) rfl rfl (pgs_cons (pg_name (i := 4) scLProgram.nd rfl (.inl rfl)) (pgs_cons (pg_name (i := 5) scLProgram.nd rfl (.inl rfl)) pgs_nil))) (pss_cons (ps_set (i := 6) scLProgram.nd rfl (.inl rfl) (C8.pe_c CLNames hr (by first | decide | omega) (by rfl) (pa_cons (pv 0) (pa_cons pe_int pa_nil))))
    (pss_cons (ps_set (i := 7) scLProgram.nd rfl (.inl rfl) (pe_slice (sl_listK (K := K) rfl) (pv 6) po_none (po_some (pv 5))))
    (pss_one (ps_expr (pe_bmK (K := K) rfl PySem.F.plainAttrs_list PySem.F.slot_list_append PySem.F.type_list_append mt_append (pv 3) (pa_cons (pe_tup (pa_cons (pv 4) (pa_cons (pe_callTy (call_tupleK (K := K) rfl) (by rfl) mtup (by decide +kernel) (pa_cons (pv 7) pa_nil)) (pa_cons (C8.pe_c CLBody hr (by first | decide | omega) (by rfl) (pa_cons (pv 0) (pa_cons (pv 2) (pa_cons (pv 4) (pa_cons (pv 7) (pa_cons (pe_slice (sl_listK (K := K) rfl) (pv 6) (po_some (pv 5)) po_none) pa_nil)))))) pa_nil)))) pa_nil)))))))
    (pss_one (ps_ret (pe_tup (pa_cons (pe_callTy (call_tupleK (K := K) rfl) (by rfl) mtup (by decide +kernel) (pa_cons (pv 3) pa_nil)) (pa_cons (C8.pe_c CLBody hr (by first | decide | omega) (by rfl) (pa_cons (pv 0) (pa_cons (pv 2) (pa_cons pe_str (pa_cons (pe_lst pa_nil) (pa_cons (C8.pe_c CLNames hr (by first | decide | omega) (by rfl) (pa_cons (pv 0) (pa_cons pe_int pa_nil))) pa_nil)))))) pa_nil))))))))), ?_⟩
  -- the functions' names
  refine ⟨_, rfl, (by show 8 ≤ sizeLine; decide), fun l hl => ?_⟩
  have pen1 := pen0.new (o := .lst [.int 0, .int 1, .int 2, .int 3, .int 4, .int 2, .int 3, .int 8]) hl
  have hl1 : (upd H l (.lst [.int 0, .int 1, .int 2, .int 3, .int 4, .int 2, .int 3, .int 8])) l = some (.lst [.int 0, .int 1, .int 2, .int 3, .int 4, .int 2, .int 3, .int 8]) := upd_same
  have k1 : Kp [p] H (upd H l (.lst [.int 0, .int 1, .int 2, .int 3, .int 4, .int 2, .int 3, .int 8])) := Kp.new hl
  refine ⟨_, rfl, p, a, 8, rfl, pen1, (by decide), (by decide), fun g H2 k2 pen2 g0 g1 => ?_⟩
  have hl2 := k2.lst hl1 (not1 (pen0.apart hl).1)
  have k2 := k1.trans k2
  obtain ⟨m, hm, hm8⟩ : ∃ m : Nat, ([.int 0, .int 1, .int 2, .int 3, .int 4, .int 2, .int 3, .int 8] : List V)[g.toNat]? = some (.int (m : Int)) ∧ m ≤ 8 := by
    have h0 : g.toNat < 8 := by omega
    generalize g.toNat = j at h0
    match j, h0 with
    | 0, _ => exact ⟨0, rfl, by decide⟩
    | 1, _ => exact ⟨1, rfl, by decide⟩
    | 2, _ => exact ⟨2, rfl, by decide⟩
    | 3, _ => exact ⟨3, rfl, by decide⟩
    | 4, _ => exact ⟨4, rfl, by decide⟩
    | 5, _ => exact ⟨2, rfl, by decide⟩
    | 6, _ => exact ⟨3, rfl, by decide⟩
    | 7, _ => exact ⟨8, rfl, by decide⟩
  refine ⟨l, _, _, _, rfl, rfl, SqL.of hl2, at_of (j := g.toNat) (by omega) hm, ?_⟩
  refine ⟨p, a, m, rfl, pen2, (by omega), fun ln xs H3 k3 pen3 hln0 hln3 hxl hxo hxn => ?_⟩
  have hlnH : H ln = none := k2.free hln0 (not1 (pen2.apart hln0).1)
  have k3 := k2.trans k3
  have nlnp := (pen2.apart hln0).1
  have nlna := (pen2.apart hln0).2
  clear hl1 hl2 k1 k2 pen1 pen2 hl hln0
  -- the world
  refine ⟨_, rfl, ln, rfl, ⟨_, SqL.of hln3⟩, fun wl hwl => ?_⟩
  have nwp := (pen3.apart hwl).1
  have nwa := (pen3.apart hwl).2
  have nwl : ln ≠ wl := ne_of_none hln3 hwl
  have hwlH : H wl = none := k3.free hwl (not1 nwp)
  refine lc_list (K := K) (a := ln) (xs := xs.map V.str) (fun i H' => Kp [p] H H' ∧ PenAt H' p a ∧ H' ln = some (.lst (xs.map V.str)) ∧ ∃ (ws : List V) (ks : List Int), H' wl = some (.lst ws) ∧ ks.length = i ∧ (∀ k, k ∈ ks → 0 ≤ k ∧ k ≤ 4) ∧ DpAll K H' ws (((xs.take i).zip ks).map wD))
    ⟨k3.mut hwlH, pen3.new hwl, by rw [upd_ne nwl]; exact hln3, [], [], upd_same, rfl, (fun k m => nomatch m), .nil⟩ (fun i H' _ ⟨_, _, h, _⟩ => SqL.of h) ?_ ?_
  · rintro i x H4 hi ⟨k4, pen4, hln4, ws, ks, hws, hks, hk4, hdw⟩
    obtain ⟨nx, hnx, rfl⟩ : ∃ nx, xs[i]? = some nx ∧ x = V.str nx := by
      rw [List.getElem?_map] at hi
      cases e : xs[i]? with
      | none => rw [e] at hi; cases hi
      | some y => rw [e] at hi; exact ⟨y, rfl, (Option.some.inj hi).symm⟩
    have hil := (List.getElem?_eq_some_iff.mp hnx).1
    refine ⟨rfl, ?_⟩
    refine ⟨_, rfl, (by show 7 ≤ sizeLine; decide), fun l hl => ?_⟩
    have pen5 := pen4.new (o := .lst [.int 1, .int 0, .int 1, .int 2, .int 2, .int 3, .int 4]) hl
    have hl5 : (upd H4 l (.lst [.int 1, .int 0, .int 1, .int 2, .int 2, .int 3, .int 4])) l = some (.lst [.int 1, .int 0, .int 1, .int 2, .int 2, .int 3, .int 4]) := upd_same
    have k5 : Kp [p] H4 (upd H4 l (.lst [.int 1, .int 0, .int 1, .int 2, .int 2, .int 3, .int 4])) := Kp.new hl
    refine ⟨_, rfl, p, a, 7, rfl, pen5, (by decide), (by decide), fun g H6 k6 pen6 g0 g1 => ?_⟩
    have hl6 := k6.lst hl5 (not1 (pen4.apart hl).1)
    have k6 := k5.trans k6
    obtain ⟨z, hz, hz4⟩ : ∃ z : Int, ([.int 1, .int 0, .int 1, .int 2, .int 2, .int 3, .int 4] : List V)[g.toNat]? = some (.int z) ∧ 0 ≤ z ∧ z ≤ 4 := by
      have h0 : g.toNat < 7 := by omega
      generalize g.toNat = j at h0
      match j, h0 with
      | 0, _ => exact ⟨_, rfl, by decide⟩
      | 1, _ => exact ⟨_, rfl, by decide⟩
      | 2, _ => exact ⟨_, rfl, by decide⟩
      | 3, _ => exact ⟨_, rfl, by decide⟩
      | 4, _ => exact ⟨_, rfl, by decide⟩
      | 5, _ => exact ⟨_, rfl, by decide⟩
      | 6, _ => exact ⟨_, rfl, by decide⟩
    refine ⟨l, _, _, _, rfl, rfl, SqL.of hl6, at_of (j := g.toNat) (by omega) hz, (by show 2 ≤ sizeLine; decide), fun q hq => ?_⟩
    have k7 := k6.trans (Kp.new (S := [p]) (o := .tup [.str nx, .int z]) hq)
    have hws7 := k7.lst hws (not1 nwp)
    have hln7 := k7.lst hln4 (not1 nlnp)
    have hdw7 := Dp.keepAll k7 _ _ (wds_fz _) hdw
    have hr : Dp K (upd H6 q (.tup [.str nx, .int z])) (.ref q) (wD (nx, z)) := .tup (.inl (.inl upd_same)) (.cons (.str _) (.cons (.int _) .nil))
    have pen7 := pen6.new (o := .tup [.str nx, .int z]) hq
    generalize upd H6 q (.tup [.str nx, .int z]) = H7 at k7 hws7 hln7 hdw7 hr pen7 ⊢
    have hwl8 : ws.length ≤ 8 := by
      rw [hdw.length, List.length_map, List.length_zip, List.length_take]
      omega
    have kput : Kp [wl] H7 (upd H7 wl (.lst (ws ++ [.ref q]))) := Kp.put hws7 List.mem_cons_self
    refine ⟨_, hws7, small1000 (by omega), (k4.trans k7).mut hwlH, pen7.mut nwp nwa, by rw [upd_ne nwl]; exact hln7, ws ++ [.ref q], ks ++ [z], upd_same, by rw [List.length_append, hks]; rfl, ?_, ?_⟩
    · intro k m
      rcases List.mem_append.mp m with m | m
      · exact hk4 k m
      · rw [List.mem_singleton.mp m]
        exact hz4
    · have e : ((xs.take (i + 1)).zip (ks ++ [z])).map wD = ((xs.take i).zip ks).map wD ++ [wD (nx, z)] := by
        rw [List.take_add_one, hnx]
        show ((xs.take i ++ [nx]).zip (ks ++ [z])).map wD = _
        rw [List.zip_append (by rw [List.length_take]; omega), List.map_append]
        rfl
      rw [e]
      exact (Dp.keepAll kput _ _ (wds_fz _) hdw7).append (.one (Dp.keep kput _ _ rfl hr))
  · rintro H4 ⟨k4, pen4, hln4, ws, ks, hws, hks, hk4, hdw⟩
    rw [List.length_map] at hks hdw
    rw [List.take_length] at hdw
    obtain ⟨W, hW⟩ : ∃ W, W = xs.zip ks := ⟨_, rfl⟩
    rw [← hW] at hdw
    have hWm : W.map (·.1) = xs := by rw [hW]; exact List.map_fst_zip (by omega)
    have hWl : W.length = xs.length := by have := congrArg List.length hWm; rw [List.length_map] at this; exact this
    have hWo : ∀ f, f ∈ W → nmOk f.1 ∧ 0 ≤ f.2 ∧ f.2 ≤ 4 := fun f m => by
      rw [hW] at m
      exact ⟨hxo _ (List.of_mem_zip m).1, hk4 _ (List.of_mem_zip m).2⟩
    have hwt : WAt K H4 wl W := ⟨ws, hws, hdw⟩
    clear hln4 k3 pen3 hln3 hwl nwl
    -- the functions
    refine ⟨Nat.zero_le _, fun lf hlf => ?_⟩
    have pen5 := pen4.new (o := .lst []) hlf
    have nfp := (pen4.apart hlf).1
    have nfa := (pen4.apart hlf).2
    have nfw : wl ≠ lf := ne_of_none hws hlf
    have hlfH : H lf = none := k4.free hlf (not1 nfp)
    have k5 : Kp [p] H (upd H4 lf (.lst [])) := k4.mut hlfH
    have hwt5 : WAt K (upd H4 lf (.lst [])) wl W := hwt.keep (Kp.new (S := []) hlf) (fun m => nomatch m)
    have hf5 : (upd H4 lf (.lst [])) lf = some (.lst []) := upd_same
    have hws5 : (upd H4 lf (.lst [])) wl = some (.lst ws) := by rw [upd_ne nfw]; exact hws
    generalize upd H4 lf (.lst []) = H5 at pen5 k5 hwt5 hf5 hws5 ⊢
    refine ⟨_, rfl, wl, rfl, ⟨_, SqL.of hws5⟩, for_list (K := K) (a := wl) (xs := ws) (fun i σ H' => ∃ (fs : List Fn) (rs : List V) (v4 v5 v6 v7 : Option V), σ = [some (.ref p), some (.ref ln), some (.ref wl), some (.ref lf), v4, v5, v6, v7] ∧ Kp [p] H H' ∧ PenAt H' p a ∧ WAt K H' wl W ∧ H' wl = some (.lst ws) ∧
        H' lf = some (.lst rs) ∧ DpAll K H' rs (fs.map fD) ∧ fs.map (·.1) = (W.take i).map (·.1) ∧ ∀ f, f ∈ fs → FnDr W f)
      ⟨[], [], none, none, none, none, rfl, k5, pen5, hwt5, hws5, hf5, .nil, rfl, (fun f m => nomatch m)⟩ (fun i σ H' _ ⟨_, _, _, _, _, _, _, _, _, _, h, _⟩ => SqL.of h) ?_ ?_⟩
    · rintro i x σ H6 hi ⟨fs, rs, v4, v5, v6, v7, rfl, k6, pen6, hwt6, hws6, hf6, hd6, hfs, hfd⟩
      obtain ⟨ws', hws', hdw'⟩ := id hwt6
      obtain rfl : ws' = ws := by
        have := hws'.symm.trans hws6
        injection this with e
        exact HO.lst.inj e
      obtain ⟨dd, hdd, hdx⟩ := hdw'.at hi
      rw [List.getElem?_map] at hdd
      obtain ⟨⟨fn, wz⟩, hfw, rfl⟩ : ∃ fw, W[i]? = some fw ∧ dd = wD fw := by
        cases e : W[i]? with
        | none => rw [e] at hdd; cases hdd
        | some y => rw [e] at hdd; exact ⟨y, rfl, (Option.some.inj hdd).symm⟩
      have hmem : (fn, wz) ∈ W := List.mem_of_getElem? hfw
      obtain ⟨hfn, hz0, hz4⟩ := hWo _ hmem
      obtain ⟨n, rfl⟩ : ∃ n : Nat, wz = (n : Int) := ⟨wz.toNat, by have : 0 ≤ wz := hz0; omega⟩
      have hn4 : n ≤ 4 := by have : (n : Int) ≤ 4 := hz4; omega
      obtain ⟨t, xs', rfl, ht, hxs⟩ := hdx.tup_of
      obtain rfl : xs' = [.str fn, .int n] := by
        cases hxs with
        | cons h1 h2 =>
          cases h1
          cases h2 with
          | cons h3 h4 =>
            cases h3
            cases h4
            rfl
      refine ⟨t, _, rfl, ht, rfl, _, _, rfl, _, _, rfl, rfl, ?_⟩
      -- the stock, the things
      refine ⟨_, rfl, p, a, 26, rfl, pen6, (by decide), fun ls stk H7 k7 pen7 hls0 hls7 hsl hso hsn => ?_⟩
      have hstk : Stock stk := ⟨hsl, hsn, hso⟩
      have nlsp := (pen6.apart hls0).1
      have nlsa := (pen6.apart hls0).2
      have nlsw : wl ≠ ls := ne_of_none hws6 hls0
      have nlsf : lf ≠ ls := ne_of_none hf6 hls0
      refine ⟨_, rfl, _, rfl, _, rfl, ls, _, rfl, SqL.of hls7, fun lt hlt => ?_⟩
      rw [cutV_to, ← List.map_take]
      have pen8 := pen7.new (o := .lst ((stk.take n).map V.str)) hlt
      have k8 : Kp [p] H6 (upd H7 lt (.lst ((stk.take n).map V.str))) := k7.trans (Kp.new hlt)
      have hls8 : (upd H7 lt (.lst ((stk.take n).map V.str))) ls = some (.lst (stk.map V.str)) := by rw [upd_ne (ne_of_none hls7 hlt)]; exact hls7
      have hlt8 : (upd H7 lt (.lst ((stk.take n).map V.str))) lt = some (.lst ((stk.take n).map V.str)) := upd_same
      have nltp := (pen7.apart hlt).1
      generalize upd H7 lt (.lst ((stk.take n).map V.str)) = H8 at pen8 k8 hls8 hlt8 ⊢
      have hwt8 := hwt6.keep k8 (not1 (fun e => nwp e))
      have hws8 := k8.lst hws6 (not1 nwp)
      have hf8 := k8.lst hf6 (not1 nfp)
      have hd8 := Dp.keepAll k8 _ _ (fd_fz _) hd6
      have hfl : rs.length ≤ 8 := by
        have e := congrArg List.length hfs
        rw [List.length_map, List.length_map, List.length_take] at e
        rw [hd6.length, List.length_map]
        omega
      -- the function
      refine ⟨_, rfl, .inl ⟨rfl, _, SqL.of hf8⟩, _, rfl, _, rfl, lt, _, rfl, .inl ⟨SqL.of hlt8, fun tt htt => ?_⟩⟩
      have pen9 := pen8.new (o := .tup ((stk.take n).map V.str)) htt
      have k9 : Kp [p] H8 (upd H8 tt (.tup ((stk.take n).map V.str))) := Kp.new htt
      have hdt : Dp K (upd H8 tt (.tup ((stk.take n).map V.str))) (.ref tt) (.tuple ((stk.take n).map .str)) := .tup (.inl (.inl upd_same)) (DpAll.strs _)
      refine ⟨_, rfl, _, rfl, _, rfl, _, rfl, _, rfl, _, rfl, _, rfl, ls, _, rfl, SqL.of (k9.lst hls8 (not1 nlsp)), fun st hst => ?_⟩
      rw [cutV_from, ← List.map_drop]
      have pen10 := pen9.new (o := .lst ((stk.drop n).map V.str)) hst
      have k10 : Kp [p] H8 (upd (upd H8 tt (.tup ((stk.take n).map V.str))) st (.lst ((stk.drop n).map V.str))) := k9.trans (Kp.new hst)
      have hst10 : (upd (upd H8 tt (.tup ((stk.take n).map V.str))) st (.lst ((stk.drop n).map V.str))) st = some (.lst ((stk.drop n).map V.str)) := upd_same
      have hst8 : H8 st = none := (Kp.new (S := []) (o := .tup ((stk.take n).map V.str)) htt).free hst (fun m => nomatch m)
      have hdt10 := Dp.keep (Kp.new (S := []) (o := .lst ((stk.drop n).map V.str)) hst) _ _ (by show fzAll _ = true; exact strs_fz _) hdt
      have nst := pen9.apart hst
      have wst : wl ≠ st := ne_of_none hws8 hst8
      have tst : lt ≠ st := ne_of_none hlt8 hst8
      have fst' : lf ≠ st := ne_of_none hf8 hst8
      generalize upd (upd H8 tt (.tup ((stk.take n).map V.str))) st (.lst ((stk.drop n).map V.str)) = H10 at pen10 k10 hst10 hdt10 ⊢
      have Eb0 : Eb K H10 W (stk.take n) p a wl lt st (stk.drop n) :=
        ⟨pen10, hwt8.keep k10 (not1 nwp), k10.lst hlt8 (not1 nltp), hst10, not2 nwp wst, not2 nltp tst, nst.2.symm, nst.1.symm, hWo, hstk.take n, hstk.drop n, by omega, by rw [List.length_take]; omega, by rw [List.length_drop]; omega⟩
      refine ⟨p, a, wl, lt, st, fn, W, stk.take n, stk.drop n, rfl, Eb0, fun v d H11 k11 pen11 hd11 hb => ?_⟩
      have hk11 : Kp [p] H8 H11 := Kp.drop k10 hst8 k11 fun x m => by
        rcases List.mem_cons.mp m with e | m
        · exact .inl (by rw [e]; exact List.mem_cons_self)
        · exact .inr (List.mem_singleton.mp m)
      have hdt11 := Dp.keep k11 _ _ (by show fzAll _ = true; exact strs_fz _) hdt10
      refine ⟨(by show 3 ≤ sizeLine; decide), fun q hq => ?_⟩
      have k12 : Kp [p] H8 (upd H11 q (.tup [.str fn, .ref tt, v])) := hk11.trans (Kp.new hq)
      have hrow : Dp K (upd H11 q (.tup [.str fn, .ref tt, v])) (.ref q) (fD (fn, stk.take n, d)) := Dp.newT hq (.cons (.str _) (.cons hdt11 (.cons hd11 .nil))) (by
        show (true && (fzAll _ && (fz _ && true))) = true
        rw [strs_fz, data_fz]
        rfl)
      have pen12 := pen11.new (o := .tup [.str fn, .ref tt, v]) hq
      have hf12 := k12.lst hf8 (not1 nfp)
      have hws12 := k12.lst hws8 (not1 nwp)
      have hwt12 := hwt8.keep k12 (not1 nwp)
      have hd12 := Dp.keepAll k12 _ _ (fd_fz _) hd8
      generalize upd H11 q (.tup [.str fn, .ref tt, v]) = H12 at k12 hrow pen12 hf12 hws12 hwt12 hd12 ⊢
      refine ⟨lf, _, _, rfl, rfl, hf12, small1000 (by omega), ?_⟩
      have kput : Kp [lf] H12 (upd H12 lf (.lst (rs ++ [.ref q]))) := Kp.put hf12 List.mem_cons_self
      refine ⟨fs ++ [(fn, stk.take n, d)], rs ++ [.ref q], _, _, _, _, rfl, (k6.trans (k8.trans k12)).mut hlfH, pen12.mut nfp nfa, hwt12.keep kput (not1 nfw), by rw [upd_ne nfw]; exact hws12, upd_same, ?_, ?_, ?_⟩
      · rw [List.map_append]
        exact (Dp.keepAll kput _ _ (fd_fz _) hd12).append (.one (Dp.keep kput _ _ (by
          have := fd_fz [(fn, stk.take n, d)]
          show fz (fD (fn, stk.take n, d)) = true
          exact fzAll_iff.mp this _ List.mem_cons_self) hrow))
      · rw [List.map_append, hfs, List.take_add_one, hfw, List.map_append]
        rfl
      · intro f m
        rcases List.mem_append.mp m with m | m
        · exact hfd f m
        · rw [List.mem_singleton.mp m]
          exact ⟨n, stk, hmem, hn4, hstk, rfl, hb⟩
    · rintro σ H6 ⟨fs, rs, v4, v5, v6, v7, rfl, k6, pen6, hwt6, hws6, hf6, hd6, hfs, hfd⟩
      have hwlen : ws.length = W.length := by rw [hdw.length, List.length_map]
      rw [hwlen, List.take_length] at hfs
      -- the tuple of functions
      refine ⟨_, rfl, lf, _, rfl, .inl ⟨SqL.of hf6, fun tt htt => ?_⟩⟩
      have k7 : Kp [p] H6 (upd H6 tt (.tup rs)) := Kp.new htt
      have hdt : Dp K (upd H6 tt (.tup rs)) (.ref tt) (.tuple (fs.map fD)) := Dp.newT htt hd6 (fd_fz _)
      have pen7 := pen6.new (o := .tup rs) htt
      have hwt7 := hwt6.keep k7 (not1 nwp)
      have k7 := k6.trans k7
      generalize upd H6 tt (.tup rs) = H7 at k7 hdt pen7 hwt7 ⊢
      -- asked
      refine ⟨_, rfl, _, rfl, Nat.zero_le _, fun lt hlt => ?_⟩
      have k8 : Kp [p] H7 (upd H7 lt (.lst [])) := Kp.new hlt
      have pen8 := pen7.new (o := .lst []) hlt
      have hlt8 : (upd H7 lt (.lst [])) lt = some (.lst []) := upd_same
      have hwt8 := hwt7.keep k8 (not1 nwp)
      have hdt8 := Dp.keep k8 _ _ (by show fzAll _ = true; exact fd_fz _) hdt
      have nlt := pen7.apart hlt
      have k8 := k7.trans k8
      generalize upd H7 lt (.lst []) = H8 at k8 pen8 hlt8 hwt8 hdt8 ⊢
      refine ⟨_, rfl, p, a, 26, rfl, pen8, (by decide), fun st stk H9 k9 pen9 hst0 hst9 hsl hso hsn => ?_⟩
      have hstk : Stock stk := ⟨hsl, hsn, hso⟩
      have nst := pen8.apart hst0
      obtain ⟨ws8, hws8, _⟩ := id hwt8
      have wst : wl ≠ st := ne_of_none hws8 hst0
      have tst : lt ≠ st := ne_of_none hlt8 hst0
      have hstH : H st = none := k8.free hst0 (not1 nst.1)
      have Eb0 : Eb K H9 W [] p a wl lt st stk :=
        ⟨pen9, hwt8.keep k9 (not1 nwp), k9.lst hlt8 (not1 nlt.1), hst9, not2 nwp wst, not2 nlt.1 tst, nst.2.symm, nst.1.symm, hWo, (fun x m => nomatch m), hso, by omega, Nat.zero_le _, by omega⟩
      refine ⟨p, a, wl, lt, st, "", W, [], stk, rfl, Eb0, fun v d H10 k10 pen10 hd10 hb => ?_⟩
      have hk10 : Kp [p] H H10 := Kp.drop (k8.trans k9) hstH k10 fun x m => by
        rcases List.mem_cons.mp m with e | m
        · exact .inl (by rw [e]; exact List.mem_cons_self)
        · exact .inr (List.mem_singleton.mp m)
      have hdt10 := Dp.keep k10 _ _ (by show fzAll _ = true; exact fd_fz _) (Dp.keep k9 _ _ (by show fzAll _ = true; exact fd_fz _) hdt8)
      refine ⟨(by show 2 ≤ sizeLine; decide), fun q hq => ?_⟩
      refine D _ fs d _ (hk10.trans (Kp.new hq)) (pen10.new hq) (Dp.newT hq (.cons hdt10 (.cons hd10 .nil)) ?_) ⟨W, ?_, ?_, by omega, hWo, hfd, stk, hstk, hb⟩
      · show (fzAll _ && (fz _ && true)) = true
        rw [fd_fz, data_fz]
        rfl
      · rw [hfs]
      · rw [hWm]
        exact hxn
end
end Lz

set_option Elab.async false
set_option linter.all false
set_option maxRecDepth 100000
set_option maxHeartbeats 8000000
namespace Lz
open PySem PySem.Spec PyProof.Rows L2
def spMany (K : PySem.W.Frag) (n : Nat) : Sp := fun vs H Q _ => ∃ (v : V) (t : Lz.P), vs = [v] ∧ Dp K H v t.data ∧ t.ok ∧ t.many ≤ 1000 ∧ t.deep ≤ n ∧ ∀ H', Kp [] H H' → Q (.int (t.many : Nat)) H'
/-- what is within a part, and smaller -/
theorem inn_fits {t d : Lz.P} {i : Nat} {n : Nat} (ok : t.ok) (hm : t.many ≤ 1000) (hd : t.deep ≤ n + 1) (h : t.inn[i]? = some d) : d.ok ∧ d.many ≤ 1000 ∧ d.deep ≤ n := by
  have m := List.mem_of_getElem? h
  have h1 := inn_deep m
  have h2 := inn_ok ok d m
  have h3 := many_inn t
  have h4 : ∀ as : List Lz.P, d ∈ as → d.many ≤ Lz.P.manys as := fun as => by
    induction as with
    | nil => exact fun m => nomatch m
    | cons a r ih =>
      intro m
      show d.many ≤ a.many + Lz.P.manys r
      rcases List.mem_cons.mp m with e | m
      · rw [e]; omega
      · have := ih m
        omega
  have h5 := h4 _ m
  exact ⟨h2, by omega, by omega⟩
theorem inn_len {t : Lz.P} (hm : t.many ≤ 1000) : t.inn.length ≤ 999 := by
  have h1 := len_manys t.inn
  have h2 := many_inn t
  omega
theorem at_inn {K : PySem.W.Frag} {H : Hp} {xs : List V} {ts : List Lz.P} {i : Nat} {v : V} (h : DpAll K H xs (Lz.P.datas ts)) (hi : xs[i]? = some v) : ∃ d, ts[i]? = some d ∧ Dp K H v d.data := by
  obtain ⟨e, he, hd⟩ := h.at hi
  rw [datas_map, List.getElem?_map] at he
  cases ha : ts[i]? with
  | none => rw [ha] at he; cases he
  | some d =>
    rw [ha] at he
    obtain rfl : d.data = e := Option.some.inj he
    exact ⟨d, rfl, hd⟩
section
variable {P : Program} {w : World} {K : PySem.W.Frag} {mg : Str → Option Value} {base : Heap} {f : Addr} {fd : FuncData}
end
end Lz

set_option Elab.async false
set_option linter.all false
set_option maxRecDepth 100000
set_option maxHeartbeats 8000000
namespace Lz
open PySem PySem.Spec PyProof.Rows L2
def spAll (K : PySem.W.Frag) (n : Nat) : Sp := fun vs H Q _ => ∃ (v : V) (t : Lz.P), vs = [v] ∧ Dp K H v t.data ∧ t.ok ∧ t.many ≤ 1000 ∧ t.deep ≤ n ∧ ∀ (l : Addr) (xs : List V) (H' : Hp), Kp [] H H' → H l = none → H' l = some (.lst xs) → DpAll K H' xs (Lz.P.datas t.all) → Q (.ref l) H'
theorem alls_rev (ti : List Lz.P) (o : Lz.P) : Lz.P.alls (ti ++ [o]).reverse = o :: Lz.P.alls (ti ++ o.inn.reverse).reverse := by
  rw [List.reverse_append, List.reverse_append, List.reverse_reverse]
  show Lz.P.alls ([o] ++ ti.reverse) = _
  rw [alls_append, alls_append]
  show (o.all ++ []) ++ _ = _
  rw [List.append_nil, all_inn o]
  rfl
theorem DpAll.reverse {K : PySem.W.Frag} {H : Hp} : ∀ {vs : List V} {ds : List PyData}, DpAll K H vs ds → DpAll K H vs.reverse ds.reverse
  | _, _, .nil => .nil
  | _, _, .cons h t => by
    rw [List.reverse_cons, List.reverse_cons]
    exact (DpAll.reverse t).append (.one h)
theorem DpAll.snoc {K : PySem.W.Frag} {H : Hp} {ys : List V} {ds : List PyData} {d : PyData} (h : DpAll K H ys (ds ++ [d])) : ∃ yi v, ys = yi ++ [v] ∧ DpAll K H yi ds ∧ Dp K H v d := by
  have h1 := h.take ds.length
  have h2 := h.drop ds.length
  rw [List.take_left] at h1
  rw [List.drop_left] at h2
  have e := (List.take_append_drop ds.length ys).symm
  generalize ys.drop ds.length = zs at h2 e
  cases h2 with
  | cons h3 h4 =>
    cases h4
    exact ⟨_, _, e, h1, h3⟩
theorem revLK {X : Cx} {K : PySem.W.Frag} {e : Expr} {te : TE} {k : Nat} {p1 p2 p3 pos : Pos} (h : X.K = K) (he : PE X e te) : PE X (.Subscript e (.Slice none none (some (.UnaryOp .USub (.Constant (.int 1) k p1) p2)) p3) pos) (tRevL K te) := by subst h; exact pe_revL he
section
variable {P : Program} {w : World} {K : PySem.W.Frag} {mg : Str → Option Value} {base : Heap} {f : Addr} {fd : FuncData}
abbrev sAllIn : Stmt := topS 17
theorem scAllIn : FnScope ["part", "found", "waiting", "one"] ["part"] (defScope sAllIn) := ⟨rfl, rfl, rfl, by decide +kernel, rfl, by decide +kernel, by decide +kernel⟩
theorem ok_all {n : Nat} (F : Fun K "all_in" "all_in" sAllIn f fd) (CWithin : C8.Cal P w K mg base 1 "within" (spInn K) []) : FnOk P w K mg base CX0 2 f fd ["part"] (spAll K n) := by
  refine F.ok scAllIn (fun vs H Q E h => ?_) (fun cdv A outer s H vs Q E hr h => ?_)
  · obtain ⟨v, t, rfl, _⟩ := h
    rfl
  obtain ⟨v, t, rfl, hd, hok, hmany, hdeep, q⟩ := h
  refine ⟨_, (pss_cons (ps_set (i := 1) scAllIn.nd rfl (.inl rfl) (pe_lst pa_nil))
    (pss_cons (ps_set (i := 2) scAllIn.nd rfl (.inl rfl) (pe_lst (pa_cons (pv 0) pa_nil)))
    (pss_cons (ps_while PassesOwn.never (pt_truthK (K := K) rfl (pv 2) (fun _ => rfl)) (pss_cons (ps_set (i := 3) scAllIn.nd rfl (.inl rfl) (pe_bm0K (K := K) rfl PySem.F.plainAttrs_list PySem.F.slot_list_pop PySem.F.type_list_pop mt_pop (pv 2)))
    (pss_cons (ps_expr (pe_bmK (K := K) rfl PySem.F.plainAttrs_list PySem.F.slot_list_append PySem.F.type_list_append mt_append (pv 1) (pa_cons (pv 3) pa_nil)))
    (pss_one (ps_expr (pe_bmK (K := K) rfl PySem.F.plainAttrs_list PySem.F.slot_list_extend PySem.F.type_list_extend mt_extend (pv 2) (pa_cons (revLK (K := K) rfl (C8.pe_c CWithin hr (by first | decide | omega) (by rfl) (pa_cons (pv 3) pa_nil))) pa_nil)))))))
    (pss_one (ps_ret (pv 1)))))), ?_⟩
  refine ⟨Nat.zero_le _, fun lf hlf => ?_⟩
  have k1 : Kp [] H (upd H lf (.lst [])) := Kp.new hlf
  have hf1 : (upd H lf (.lst [])) lf = some (.lst []) := upd_same
  have hd1 := Dp.keep k1 _ _ (data_fz _) hd
  generalize upd H lf (.lst []) = H1 at k1 hf1 hd1 ⊢
  refine ⟨_, rfl, (by show 1 ≤ sizeLine; decide), fun lw hlw => ?_⟩
  have kx : Kp [] H1 (upd H1 lw (.lst [v])) := Kp.new hlw
  have hf2 := kx.lst hf1 (fun m => nomatch m)
  have hw2 : (upd H1 lw (.lst [v])) lw = some (.lst [v]) := upd_same
  have hd2 := Dp.keep kx _ _ (data_fz _) hd1
  have nwf : lf ≠ lw := ne_of_none hf1 hlw
  have hlwH : H lw = none := k1.free hlw (fun m => nomatch m)
  have k2 := k1.trans kx
  generalize upd H1 lw (.lst [v]) = H2 at k2 hf2 hw2 hd2 ⊢
  have hall := all_len t
  refine ⟨fun m σ H' => ∃ (v3 : Option V) (ys ws : List V) (us ts : List Lz.P), σ = [some v, some (.ref lf), some (.ref lw), v3] ∧ Kp [] H H' ∧ H' lf = some (.lst ys) ∧ H' lw = some (.lst ws) ∧ DpAll K H' ys (Lz.P.datas us) ∧ DpAll K H' ws (Lz.P.datas ts) ∧ us ++ Lz.P.alls ts.reverse = t.all ∧ (∀ a, a ∈ ts → a.ok ∧ a.many ≤ 1000) ∧ m = Lz.P.manys ts,
    ⟨_, none, [], [v], [], [t], rfl, k2, hf2, hw2, .nil, .one hd2, ?_, fun a m => ?_, rfl⟩, ?_⟩
  · show Lz.P.alls ([t] : List Lz.P) = t.all
    exact List.append_nil _
  · rw [List.mem_singleton.mp m]
    exact ⟨hok, hmany⟩
  rintro m σ H3 ⟨v3, ys, ws, us, ts, rfl, k3, hf3, hw3, hdy, hdw, heq, hts, rfl⟩
  refine ⟨_, rfl, !ws.isEmpty, .inl ⟨ws, SqL.of hw3, rfl⟩, ?_⟩
  rcases List.eq_nil_or_concat ts with e1 | ⟨ti, o, e1⟩
  · subst e1
    cases hdw
    have e : us = t.all := by
      rw [← heq]
      exact (List.append_nil us).symm
    rw [e] at hdy
    exact ⟨_, rfl, q lf ys H3 k3 hlf hf3 hdy⟩
  rw [List.concat_eq_append] at e1
  subst e1
  have eds : Lz.P.datas (ti ++ [o]) = Lz.P.datas ti ++ [o.data] := by rw [datas_map, datas_map, List.map_append]; rfl
  rw [eds] at hdw
  obtain ⟨wi, vo, rfl, hwi, hvo⟩ := DpAll.snoc hdw
  have hne : (!(wi ++ [vo]).isEmpty) = true := by cases wi <;> rfl
  rw [if_pos hne]
  obtain ⟨ook, om⟩ := hts o (List.mem_append_right _ List.mem_cons_self)
  have hmt : Lz.P.manys (ti ++ [o]) = Lz.P.manys ti + o.many := by rw [manys_append]; rfl
  have hmo := many_inn o
  rw [alls_rev] at heq
  have hlen : us.length + (Lz.P.alls (ti ++ o.inn.reverse).reverse).length + 1 = t.many := by
    rw [← hall, ← heq, List.length_append, List.length_cons]
    omega
  have hlen2 : (Lz.P.alls (ti ++ o.inn.reverse).reverse).length = Lz.P.manys (ti ++ o.inn.reverse).reverse := alls_len _
  have hlen3 := len_manys (ti ++ o.inn.reverse).reverse
  rw [List.length_reverse, List.length_append, List.length_reverse] at hlen3
  refine ⟨fun σ' H' => ∃ m', m' < Lz.P.manys (ti ++ [o]) ∧ ∃ (v3 : Option V) (ys ws : List V) (us ts : List Lz.P), σ' = [some v, some (.ref lf), some (.ref lw), v3] ∧ Kp [] H H' ∧ H' lf = some (.lst ys) ∧ H' lw = some (.lst ws) ∧ DpAll K H' ys (Lz.P.datas us) ∧ DpAll K H' ws (Lz.P.datas ts) ∧ us ++ Lz.P.alls ts.reverse = t.all ∧ (∀ a, a ∈ ts → a.ok ∧ a.many ≤ 1000) ∧ m' = Lz.P.manys ts, fun σ' H' h => h, ?_⟩
  refine ⟨_, rfl, .inl ⟨rfl, _, SqL.of hw3⟩, lw, _, vo, rfl, rfl, hw3, ?_, ?_⟩
  · rw [List.length_append]
    show (wi ++ [vo])[wi.length + 1 - 1]? = some vo
    rw [Nat.add_sub_cancel, List.getElem?_append_right (Nat.le_refl _), Nat.sub_self]
    rfl
  rw [List.dropLast_concat]
  have kw : Kp [lw] H3 (upd H3 lw (.lst wi)) := Kp.put hw3 List.mem_cons_self
  have k4 : Kp [] H (upd H3 lw (.lst wi)) := k3.mut hlwH
  have hf4 : (upd H3 lw (.lst wi)) lf = some (.lst ys) := kw.lst hf3 (not1 nwf)
  have hw4 : (upd H3 lw (.lst wi)) lw = some (.lst wi) := upd_same
  have hdy4 := Dp.keepAll kw _ _ (datas_fz _) hdy
  have hwi4 := Dp.keepAll kw _ _ (datas_fz _) hwi
  have hvo4 := Dp.keep kw _ _ (data_fz _) hvo
  generalize upd H3 lw (.lst wi) = H4 at k4 hf4 hw4 hdy4 hwi4 hvo4 ⊢
  have hyl : ys.length = us.length := by rw [hdy.length, datas_len]
  refine ⟨_, rfl, .inl ⟨rfl, _, SqL.of hf4⟩, _, rfl, lf, _, _, rfl, rfl, hf4, small1000 (by omega), ?_⟩
  have kf : Kp [lf] H4 (upd H4 lf (.lst (ys ++ [vo]))) := Kp.put hf4 List.mem_cons_self
  have k5 : Kp [] H (upd H4 lf (.lst (ys ++ [vo]))) := k4.mut hlf
  have hf5 : (upd H4 lf (.lst (ys ++ [vo]))) lf = some (.lst (ys ++ [vo])) := upd_same
  have hw5 : (upd H4 lf (.lst (ys ++ [vo]))) lw = some (.lst wi) := kf.lst hw4 (not1 nwf.symm)
  have hdy5 : DpAll K (upd H4 lf (.lst (ys ++ [vo]))) (ys ++ [vo]) (Lz.P.datas (us ++ [o])) := by
    have e : Lz.P.datas (us ++ [o]) = Lz.P.datas us ++ [o.data] := by rw [datas_map, datas_map, List.map_append]; rfl
    rw [e]
    exact (Dp.keepAll kf _ _ (datas_fz _) hdy4).append (.one (Dp.keep kf _ _ (data_fz _) hvo4))
  have hwi5 := Dp.keepAll kf _ _ (datas_fz _) hwi4
  have hvo5 := Dp.keep kf _ _ (data_fz _) hvo4
  generalize upd H4 lf (.lst (ys ++ [vo])) = H5 at k5 hf5 hw5 hdy5 hwi5 hvo5 ⊢
  refine ⟨_, rfl, .inl ⟨rfl, _, SqL.of hw5⟩, _, rfl, vo, o, rfl, hvo5, ook, om, fun l xs H6 k6 hl0 hl1 hdx => ?_⟩
  have hf6 := k6.lst hf5 (fun m => nomatch m)
  have hw6 := k6.lst hw5 (fun m => nomatch m)
  have hxl : xs.length = o.inn.length := by rw [hdx.length, datas_len]
  have hinl := inn_len om
  refine ⟨l, xs, rfl, SqL.of hl1, fun lr hlr => ?_⟩
  have kr : Kp [] H6 (upd H6 lr (.lst xs.reverse)) := Kp.new hlr
  have hf7 := kr.lst hf6 (fun m => nomatch m)
  have hw7 := kr.lst hw6 (fun m => nomatch m)
  have hr7 : (upd H6 lr (.lst xs.reverse)) lr = some (.lst xs.reverse) := upd_same
  have hdx7 := DpAll.reverse (Dp.keepAll kr _ _ (datas_fz _) hdx)
  have k57 := k6.trans kr
  generalize upd H6 lr (.lst xs.reverse) = H7 at hf7 hw7 hr7 hdx7 k57 ⊢
  have hwl : wi.length = ti.length := by rw [hwi.length, datas_len]
  refine ⟨lw, lr, _, _, rfl, rfl, hw7, hr7, ?_, ?_⟩
  · rw [List.length_reverse]
    exact Nat.le_of_lt (small1000 (by omega))
  have kw7 : Kp [lw] H7 (upd H7 lw (.lst (wi ++ xs.reverse))) := Kp.put hw7 List.mem_cons_self
  have er : (Lz.P.datas o.inn).reverse = Lz.P.datas o.inn.reverse := by rw [datas_map, datas_map, List.map_reverse]
  rw [er] at hdx7
  have ea : Lz.P.datas (ti ++ o.inn.reverse) = Lz.P.datas ti ++ Lz.P.datas o.inn.reverse := by rw [datas_map, datas_map, datas_map, List.map_append]
  refine ⟨Lz.P.manys (ti ++ o.inn.reverse), ?_, _, ys ++ [vo], wi ++ xs.reverse, us ++ [o], ti ++ o.inn.reverse, rfl, (k5.trans k57).mut hlwH, kw7.lst hf7 (not1 nwf), upd_same, Dp.keepAll ((k57.mono fun _ m => nomatch m).trans kw7) _ _ (datas_fz _) hdy5, ?_, ?_, fun a m => ?_, rfl⟩
  · have e : Lz.P.manys o.inn.reverse = Lz.P.manys o.inn := by
      rw [manys_map, manys_map, List.map_reverse, List.sum_reverse]
    rw [manys_append, hmt, e]
    omega
  · rw [ea]
    exact (Dp.keepAll ((k57.mono fun _ m => nomatch m).trans kw7) _ _ (datas_fz _) hwi5).append (Dp.keepAll kw7 _ _ (datas_fz _) hdx7)
  · rw [List.append_assoc]
    exact heq
  · rcases List.mem_append.mp m with m | m
    · exact hts a (List.mem_append_left _ m)
    · have m := List.mem_reverse.mp m
      have := inn_room m
      exact ⟨inn_ok ook a m, by omega⟩
end
end Lz

set_option Elab.async false
set_option linter.all false
set_option maxRecDepth 100000
set_option maxHeartbeats 8000000
namespace Lz
open PySem PySem.Spec PyProof.Rows L2
def spFuns (K : PySem.W.Frag) : Sp := fun vs H Q _ => ∃ (v : V) (fs : List Fn) (d : Lz.P), vs = [v] ∧ Dp K H v (progD fs d) ∧ PrOk fs d ∧ ∀ (l : Addr) (xs : List V) (H' : Hp), Kp [] H H' → H l = none → H' l = some (.lst xs) → DpAll K H' xs ((fnsOf fs d).map fD) → Q (.ref l) H'
def spNumOf (K : PySem.W.Frag) : Sp := fun vs H Q _ => ∃ (v : V) (fs : List Fn) (d : Lz.P) (i : Nat) (g : Fn), vs = [v, .str g.1] ∧ Dp K H v (progD fs d) ∧ PrOk fs d ∧ (fnsOf fs d)[i]? = some g ∧ ∀ H', Kp [] H H' → Q (.int (i : Nat)) H'
def spFunOf (K : PySem.W.Frag) : Sp := fun vs H Q _ => ∃ (v : V) (fs : List Fn) (d : Lz.P) (i : Nat) (g : Fn), vs = [v, .str g.1] ∧ Dp K H v (progD fs d) ∧ PrOk fs d ∧ (fnsOf fs d)[i]? = some g ∧ ∀ (t : V) (H' : Hp), Kp [] H H' → Dp K H' t (fD g) → Q t H'
def spWants (K : PySem.W.Frag) : Sp := fun vs H Q _ => ∃ (v : V) (fs : List Fn) (d : Lz.P) (i : Nat) (g : Fn), vs = [v, .str g.1] ∧ Dp K H v (progD fs d) ∧ PrOk fs d ∧ (fnsOf fs d)[i]? = some g ∧ ∀ H', Kp [] H H' → Q (.int (g.2.1.length : Nat)) H'
def spMost (K : PySem.W.Frag) : Sp := fun vs H Q _ => ∃ (v : V) (fs : List Fn) (d : Lz.P), vs = [v] ∧ Dp K H v (progD fs d) ∧ PrOk fs d ∧ ∀ (m : Nat) (H' : Hp), Kp [] H H' → (∀ g, g ∈ fs → g.2.1.length ≤ m) → Q (.int (m : Nat)) H'
section
variable {P : Program} {w : World} {K : PySem.W.Frag} {mg : Str → Option Value} {base : Heap} {f : Addr} {fd : FuncData}
abbrev sAllFunctions : Stmt := topS 20
theorem scAllFunctions : FnScope ["program", "functions", "asked"] ["program"] (defScope sAllFunctions) := ⟨rfl, rfl, rfl, by decide +kernel, rfl, by decide +kernel, by decide +kernel⟩
theorem ok_funs (F : Fun K "all_functions" "all_functions" sAllFunctions f fd) : FnOk P w K mg base CX0 1 f fd ["program"] (spFuns K) := by
  refine F.ok scAllFunctions (fun vs H Q E h => ?_) (fun cdv A outer s H vs Q E hr h => ?_)
  · obtain ⟨v, fs, d, rfl, _⟩ := h
    rfl
  obtain ⟨v, fs, d, rfl, hd, hok, q⟩ := h
  refine ⟨_, (pss_cons (ps_asg (pv 0) (pg_tupK (K := K) (n := 2) rfl rfl (pgs_cons (pg_name (i := 1) scAllFunctions.nd rfl (.inl rfl)) (pgs_cons (pg_name (i := 2) scAllFunctions.nd rfl (.inl rfl)) pgs_nil))))
    (pss_one (ps_ret (pe_lst (StX.pa_starK (K := K) rfl (pv 1) (pa_cons (pe_tup (pa_cons pe_str (pa_cons (pe_tup pa_nil) (pa_cons (pv 2) pa_nil)))) pa_nil)))))), ?_⟩
  obtain ⟨pr, xs, rfl, hpr, hxs⟩ := Dp.tup_of (ds := [.tuple (fs.map fD), d.data]) hd
  obtain ⟨ft, rs, vd, rfl, hft, hrs, hvd⟩ : ∃ ft rs vd, xs = [.ref ft, vd] ∧ SqT K H ft rs ∧ DpAll K H rs (fs.map fD) ∧ Dp K H vd d.data := by
    cases hxs with
    | cons h1 h2 =>
      obtain ⟨ft, rs, rfl, hft, hrs⟩ := h1.tup_of
      cases h2 with
      | cons h3 h4 =>
        cases h4
        exact ⟨ft, rs, _, rfl, hft, hrs, h3⟩
  have hrl : rs.length = fs.length := by rw [hrs.length, List.length_map]
  have h8 := hok.len
  refine ⟨_, rfl, pr, _, rfl, hpr, rfl, _, _, rfl, _, _, rfl, rfl, ?_⟩
  refine ⟨_, rfl, ft, _, rfl, .inl hft, (Nat.zero_le _), fun e he => ?_⟩
  refine ⟨_, rfl, (by show 3 ≤ sizeLine; decide), fun t ht => ?_⟩
  have k1 : Kp [] H (upd H e (.tup [])) := Kp.new he
  have k2 := k1.trans (Kp.new (S := []) (o := .tup [.str "", .ref e, vd]) ht)
  have hte : (upd (upd H e (.tup [])) t (.tup [.str "", .ref e, vd])) e = some (.tup []) := by rw [upd_ne (ne_of_none upd_same ht)]; exact upd_same
  have hlast : Dp K (upd (upd H e (.tup [])) t (.tup [.str "", .ref e, vd])) (.ref t) (fD (askedFn d)) := .tup (.inl (.inl upd_same)) (.cons (.str _) (.cons (.tup (.inl (.inl hte)) .nil) (.cons (Dp.keep k2 _ _ (data_fz _) hvd) .nil)))
  have hdx := (Dp.keepAll k2 _ _ (fdU_fz _) hrs).append (.one hlast)
  generalize upd (upd H e (.tup [])) t (.tup [.str "", .ref e, vd]) = H2 at k2 hdx ⊢
  refine ⟨by rw [List.length_append, hrl]; show fs.length + 1 ≤ sizeLine; exact Nat.le_of_lt (small1000 (by omega)), fun l hl => ?_⟩
  have k3 := Kp.new (S := []) (o := .lst (rs ++ [.ref t])) hl
  refine q l _ _ (k2.trans k3) (k2.free hl (fun m => nomatch m)) upd_same ?_
  have ee : (fnsOf fs d).map fD = fs.map fD ++ [fD (askedFn d)] := by
    show (fs ++ [askedFn d]).map fD = _
    rw [List.map_append]
    rfl
  rw [ee]
  refine Dp.keepAll k3 _ _ ?_ hdx
  have := fdU_fz (fnsOf fs d)
  rw [ee] at this
  exact this
end
end Lz

set_option Elab.async false
set_option linter.all false
set_option maxRecDepth 100000
set_option maxHeartbeats 8000000
namespace Lz
open PySem PySem.Spec PyProof.Rows L2
theorem fnsOf_len {fs : List Fn} {d : Lz.P} (h : PrOk fs d) : (fnsOf fs d).length ≤ 9 := flenU h
theorem fn_at {K : PySem.W.Frag} {H : Hp} {xs : List V} {gs : List Fn} {i : Nat} {x : V} (h : DpAll K H xs (gs.map fD)) (hi : xs[i]? = some x) : ∃ g t r u, gs[i]? = some g ∧ x = .ref t ∧ SqT K H t [.str g.1, .ref r, u] ∧ SqT K H r (g.2.1.map V.str) ∧ Dp K H u g.2.2.data := fn_atU h hi
end Lz

set_option Elab.async false
set_option linter.all false
set_option maxRecDepth 100000
set_option maxHeartbeats 8000000
namespace Lz
open PySem PySem.Spec PyProof.Rows L2
def spIsBody (K : PySem.W.Frag) : Sp := fun vs H Q _ => ∃ (v : V) (t : Lz.P) (Fs sc : List Str), vs = [v] ∧ Dp K H v t.data ∧ BodyOk t ∧ t.fit Fs sc ∧ ∀ H', Kp [] H H' → Q (.bl true) H'
structure FnFit (Fs : List Str) (g : Fn) : Prop where
  few : g.2.1.length ≤ 4
  own : ∀ x, x ∈ g.2.1 → nmOk x
  bd : BodyOk g.2.2
  ft : g.2.2.fit Fs g.2.1
def spIsFn (K : PySem.W.Frag) : Sp := fun vs H Q _ => ∃ (v : V) (g : Fn) (Fs : List Str), vs = [v] ∧ Dp K H v (fD g) ∧ nmOk g.1 ∧ FnFit Fs g ∧ ∀ H', Kp [] H H' → Q (.bl true) H'
def spBuilt (K : PySem.W.Frag) : Sp := fun vs H Q _ => ∃ (v : V) (fs : List Fn) (d : Lz.P), vs = [v] ∧ Dp K H v (progD fs d) ∧ Fits fs d ∧ ∀ H', Kp [] H H' → Q (.bl true) H'
theorem prog_fz (fs : List Fn) (d : Lz.P) : fz (progD fs d) = true := by
  show (fzAll (fs.map fD) && (fz d.data && true)) = true
  rw [fd_fz, data_fz]
  rfl
/-- what waits -/
def wtD (z : Lz.P × Nat) : PyData := .tuple [z.1.data, .int (z.2 : Nat)]
theorem wt_fz (zs : List (Lz.P × Nat)) : fzAll (zs.map wtD) = true := fzAll_iff.mpr fun d m => by
  obtain ⟨z, _, rfl⟩ := List.mem_map.mp m
  show (fz z.1.data && (true && true)) = true
  rw [data_fz]
  rfl
theorem fn_one {K : PySem.W.Frag} {H : Hp} {v : V} {g : Fn} (h : Dp K H v (fD g)) : ∃ t r u, v = .ref t ∧ SqT K H t [.str g.1, .ref r, u] ∧ SqT K H r (g.2.1.map V.str) ∧ Dp K H u g.2.2.data := by
  obtain ⟨g', t, r, u, hg, e, h1, h2, h3⟩ := fn_at (gs := [g]) (i := 0) (DpAll.one h) rfl
  obtain rfl : g = g' := Option.some.inj hg
  exact ⟨t, r, u, e, h1, h2, h3⟩
theorem prog_one {K : PySem.W.Frag} {H : Hp} {v : V} {fs : List Fn} {d : Lz.P} (h : Dp K H v (progD fs d)) : ∃ pr ft rs vd, v = .ref pr ∧ SqT K H pr [.ref ft, vd] ∧ SqT K H ft rs ∧ DpAll K H rs (fs.map fD) ∧ Dp K H vd d.data := by
  obtain ⟨pr, xs, rfl, hpr, hxs⟩ := Dp.tup_of (ds := [.tuple (fs.map fD), d.data]) h
  cases hxs with
  | cons h1 h2 =>
    obtain ⟨ft, rs, rfl, hft, hrs⟩ := h1.tup_of
    cases h2 with
    | cons h3 h4 =>
      cases h4
      exact ⟨pr, ft, rs, _, rfl, hpr, hft, hrs, h3⟩
section
variable {P : Program} {w : World} {K : PySem.W.Frag} {mg : Str → Option Value} {base : Heap} {f : Addr} {fd : FuncData}
abbrev sIsBody : Stmt := topS 33
theorem scIsBody : FnScope ["thing", "waiting", "many", "part", "deep", "inner"] ["thing"] (defScope sIsBody) := ⟨rfl, rfl, rfl, by decide +kernel, rfl, by decide +kernel, by decide +kernel⟩
theorem ok_isBody (F : Fun K "is_body" "is_body" sIsBody f fd) (B : Bu mg) (U : Ut mg) (CWithin : C8.Cal P w K mg base 1 "within" (spInn K) []) (CIsPartByItself : C8.Cal P w K mg base 3 "is_part_by_itself" (spSelf K) []) : FnOk P w K mg base CX0 4 f fd ["thing"] (spIsBody K) := by
  obtain ⟨_, mMOST_PARTS⟩ := U.p
  obtain ⟨_, mMOST_DEEP⟩ := U.d
  refine F.ok scIsBody (fun vs H Q E h => ?_) (fun cdv A outer s H vs Q E hr h => ?_)
  · obtain ⟨v, t, Fs, sc, rfl, _⟩ := h
    rfl
  obtain ⟨v, t, Fs, sc, rfl, hd, hb, hfit, q⟩ := h
  refine ⟨_, (pss_cons (ps_set (i := 1) scIsBody.nd rfl (.inl rfl) (pe_lst (pa_cons (pe_tup (pa_cons (pv 0) (pa_cons pe_int pa_nil))) pa_nil)))
    (pss_cons (ps_set (i := 2) scIsBody.nd rfl (.inl rfl) pe_int)
    (pss_cons (ps_while PassesOwn.never (pt_truthK (K := K) rfl (pv 1) (fun _ => rfl)) (pss_cons (ps_asg (pe_bm0K (K := K) rfl PySem.F.plainAttrs_list PySem.F.slot_list_pop PySem.F.type_list_pop mt_pop (pv 1)) (pg_tupK (K := K) (n := 2) rfl rfl (pgs_cons (pg_name (i := 3) scIsBody.nd rfl (.inl rfl)) (pgs_cons (pg_name (i := 4) scIsBody.nd rfl (.inr rfl)) pgs_nil))))
    (pss_cons (ps_aug (i := 2) scIsBody.nd rfl (.inl rfl) pe_int ip_add)
    (pss_cons (ps_if (PW.pt (pw_or (pt_cmpR op_gt (pv 2) (pe_glob (v := .int 60) (by rfl) mMOST_PARTS ⟨_, rfl⟩) (nomark _)) (pw_or (pt_cmpR op_gt (pv 4) (pe_glob (v := .int 12) (by rfl) mMOST_DEEP ⟨_, rfl⟩) (nomark _)) (pw_or1 (pt_not (pt_truthK (K := K) rfl (C8.pe_c CIsPartByItself hr (by first | decide | omega) (by rfl) (pa_cons (pv 3) pa_nil)) (fun _ => rfl))))))) (pss_one (ps_ret pe_bl)) pss_nil)
    (pss_one (ps_expr (pe_bmK (K := K) rfl PySem.F.plainAttrs_list PySem.F.slot_list_extend PySem.F.type_list_extend mt_extend (pv 1) (pa_cons (pe_lc (own := [("inner", 5)]) rfl scIsBody.nd (pi_listK (K := K) rfl (C8.pe_c CWithin hr (by first | decide | omega) (by rfl) (pa_cons (pv 3) pa_nil))) (blkOk_by (N := ["thing", "waiting", "many", "part", "deep", "inner"]) (sc := defScope sIsBody) (by decide +kernel)) (fun _ _ _ _ _ => (pg_name (i := 5) scIsBody.nd rfl (.inl rfl))) (fun _ _ _ _ _ => pts_nil) (fun _ _ _ _ _ => (pe_tup (pa_cons (pv 5) (pa_cons (pe_op op_add (pv 4) pe_int) pa_nil))))) pa_nil))))))))
    (pss_one (ps_ret pe_bl))))), ?_⟩
  refine ⟨_, rfl, (by show 2 ≤ sizeLine; decide), fun qt hqt => ?_⟩
  refine ⟨(by show 1 ≤ sizeLine; decide), fun lw hlw => ?_⟩
  have k0 := Kp.new (S := []) (o := .tup [v, .int 1]) hqt
  have k1 := k0.trans (Kp.new (S := []) (o := .lst [.ref qt]) hlw)
  have hq1 := (Kp.new (S := []) (o := .lst [.ref qt]) hlw).tup (show (upd H qt (.tup [v, .int 1])) qt = some (.tup [v, .int 1]) from upd_same)
  have hlw1 : (upd (upd H qt (.tup [v, .int 1])) lw (.lst [.ref qt])) lw = some (.lst [.ref qt]) := upd_same
  have hlwH : H lw = none := k0.free hlw (fun m => nomatch m)
  have hone : Dp K (upd (upd H qt (.tup [v, .int 1])) lw (.lst [.ref qt])) (.ref qt) (wtD (t, 1)) := .tup (SqT.of hq1) (.cons (Dp.keep k1 _ _ (data_fz _) hd) (.cons (.int _) .nil))
  generalize upd (upd H qt (.tup [v, .int 1])) lw (.lst [.ref qt]) = H1 at k1 hlw1 hone ⊢
  have hm60 := hb.many
  refine ⟨fun m σ H' => ∃ (zs : List (Lz.P × Nat)) (ws : List V) (c : Nat) (v3 v4 : Option V), σ = [some v, some (.ref lw), some (.int (c : Nat)), v3, v4, none] ∧ Kp [] H H' ∧ H' lw = some (.lst ws) ∧ DpAll K H' ws (zs.map wtD) ∧
      (∀ z, z ∈ zs → z.1.ok ∧ (∃ sc, z.1.fit Fs sc) ∧ z.2 + z.1.deep ≤ 13) ∧ m = Lz.P.manys (zs.map (·.1)) ∧ c + m = t.many, ⟨_, [(t, 1)], [.ref qt], 0, none, none, rfl, k1, hlw1, .one hone, fun z m => ?_, rfl, ?_⟩, ?_⟩
  · rw [List.mem_singleton.mp m]
    exact ⟨hb.ok, ⟨sc, hfit⟩, by have := hb.deep; show 1 + t.deep ≤ 13; omega⟩
  · show 0 + (t.many + 0) = t.many
    omega
  rintro m σ H2 ⟨zs, ws, c, v3, v4, rfl, k2, hw2, hd2, hzs, rfl, hcm⟩
  refine ⟨_, rfl, !ws.isEmpty, .inl ⟨ws, SqL.of hw2, rfl⟩, ?_⟩
  have hwl : ws.length = zs.length := by rw [hd2.length, List.length_map]
  refine ite2 (fun e => ?_) (fun e => q _ k2)
  obtain ⟨zi, z, rfl⟩ : ∃ zi z, zs = zi ++ [z] := by
    rcases List.eq_nil_or_concat zs with e1 | ⟨ti, t, e1⟩
    · rw [e1] at hwl
      rw [List.eq_nil_of_length_eq_zero hwl] at e
      cases e
    · exact ⟨ti, t, by rw [e1, List.concat_eq_append]⟩
  obtain ⟨wi, x, rfl⟩ : ∃ xi x, ws = xi ++ [x] := by
    rcases List.eq_nil_or_concat ws with e | ⟨xi, x, e⟩
    · rw [e, List.length_append] at hwl
      cases hwl
    · exact ⟨xi, x, by rw [e, List.concat_eq_append]⟩
  have hwil : wi.length = zi.length := by
    rw [List.length_append, List.length_append] at hwl
    have e1 : [x].length = 1 := rfl
    have e2 : [z].length = 1 := rfl
    omega
  have hsplit : DpAll K H2 wi (zi.map wtD) ∧ Dp K H2 x (wtD z) := by
    rw [List.map_append] at hd2
    have h1 := hd2.take wi.length
    have h2 := hd2.drop wi.length
    rw [List.take_left] at h1
    rw [List.drop_left] at h2
    rw [show wi.length = (zi.map wtD).length by rw [List.length_map]; exact hwil] at h1 h2
    rw [List.take_left] at h1
    rw [List.drop_left] at h2
    refine ⟨h1, ?_⟩
    cases h2 with
    | cons h3 h4 => exact h3
  obtain ⟨hdi, hdx⟩ := hsplit
  obtain ⟨zok, ⟨zsc, zfit⟩, zdeep⟩ := hzs z (List.mem_append_right _ List.mem_cons_self)
  have hme : Lz.P.manys ((zi ++ [z]).map (·.1)) = Lz.P.manys (zi.map (·.1)) + z.1.many := by
    rw [List.map_append, manys_append]
    show _ + (z.1.many + 0) = _
    omega
  have hzp := many_pos z.1
  have hzd := deep_pos z.1
  have hzm : z.1.many ≤ 1000 := by omega
  obtain ⟨T, us, rfl, hT, hus⟩ := Dp.tup_of (ds := [z.1.data, .int (z.2 : Nat)]) hdx
  obtain ⟨u, rfl, hu⟩ : ∃ u, us = [u, .int (z.2 : Nat)] ∧ Dp K H2 u z.1.data := by
    cases hus with
    | cons h1 h2 =>
      cases h2 with
      | cons h3 h4 =>
        cases h3
        cases h4
        exact ⟨_, rfl, h1⟩
  refine ⟨fun σ' H' => ∃ m', m' < Lz.P.manys ((zi ++ [z]).map (·.1)) ∧ ∃ (zs : List (Lz.P × Nat)) (ws : List V) (c : Nat) (v3 v4 : Option V), σ' = [some v, some (.ref lw), some (.int (c : Nat)), v3, v4, none] ∧ Kp [] H H' ∧ H' lw = some (.lst ws) ∧ DpAll K H' ws (zs.map wtD) ∧
      (∀ z, z ∈ zs → z.1.ok ∧ (∃ sc, z.1.fit Fs sc) ∧ z.2 + z.1.deep ≤ 13) ∧ m' = Lz.P.manys (zs.map (·.1)) ∧ c + m' = t.many, fun σ' H' h => h, ?_⟩
  refine ⟨_, rfl, .inl ⟨rfl, _, SqL.of hw2⟩, lw, _, .ref T, rfl, rfl, hw2, ?_, ?_⟩
  · rw [List.length_append]
    show (wi ++ [V.ref T])[wi.length + 1 - 1]? = some (.ref T)
    rw [Nat.add_sub_cancel, List.getElem?_append_right (Nat.le_refl _), Nat.sub_self]
    rfl
  rw [List.dropLast_concat]
  have kput : Kp [lw] H2 (upd H2 lw (.lst wi)) := Kp.put hw2 List.mem_cons_self
  have k3 : Kp [] H (upd H2 lw (.lst wi)) := k2.mut hlwH
  have hw3 : (upd H2 lw (.lst wi)) lw = some (.lst wi) := upd_same
  have hdi3 := Dp.keepAll kput _ _ (wt_fz _) hdi
  have hu3 := Dp.keep kput _ _ (data_fz _) hu
  have hT3 := kput.sqT hT
  generalize upd H2 lw (.lst wi) = H3 at k3 hw3 hdi3 hu3 hT3 ⊢
  refine ⟨T, _, rfl, hT3, rfl, _, _, rfl, _, _, rfl, rfl, ?_⟩
  refine ⟨_, rfl, _, _, rfl, rfl, ?_⟩
  refine ⟨_, rfl, _, _, rfl, rfl, _, rfl, ?_⟩
  rw [decide_eq_false (show ¬ (60 : Int) < (c : Int) + 1 by omega)]
  refine ⟨_, rfl, _, _, rfl, rfl, _, rfl, ?_⟩
  rw [decide_eq_false (show ¬ (12 : Int) < (z.2 : Int) by omega)]
  refine ⟨_, rfl, u, z.1, Fs, zsc, rfl, hu3, zok, zfit, fun H4 k4 => ?_⟩
  refine ⟨true, rfl, ?_⟩
  have hw4 := k4.lst hw3 (fun m => nomatch m)
  have hdi4 := Dp.keepAll k4 _ _ (wt_fz _) hdi3
  refine ⟨_, rfl, .inl ⟨rfl, _, SqL.of hw4⟩, _, rfl, u, z.1, rfl, Dp.keep k4 _ _ (data_fz _) hu3, zok, hzm, fun l xs H5 k5 hl0 hl1 hdx => ?_⟩
  have hw5 := k5.lst hw4 (fun m => nomatch m)
  have hxl : xs.length = z.1.inn.length := by rw [hdx.length, datas_len]
  have hil := inn_len hzm
  refine ⟨l, rfl, ⟨_, SqL.of hl1⟩, fun D hD => ?_⟩
  refine lc_list (K := K) (a := l) (xs := xs) (fun i H' => Kp [] H5 H' ∧ ∃ ys, H' D = some (.lst ys) ∧ DpAll K H' ys (((z.1.inn.take i).map (fun a => (a, z.2 + 1))).map wtD))
    ⟨Kp.new hD, [], upd_same, .nil⟩ (fun i H' _ ⟨k, _⟩ => SqL.of (k.lst hl1 (fun m => nomatch m))) ?_ ?_
  · rintro i y H6 hi ⟨k6, ys, hys, hdy⟩
    obtain ⟨d, had, hdd⟩ := at_inn (Dp.keepAll k6 _ _ (datas_fz _) hdx) hi
    refine ⟨rfl, ?_⟩
    refine ⟨_, rfl, _, rfl, _, _, rfl, rfl, (by show 2 ≤ sizeLine; decide), fun qt hqt => ?_⟩
    have k7 := Kp.new (S := []) (o := .tup [y, .int ((z.2 : Nat) + 1)]) hqt
    have hys7 := k7.lst hys (fun m => nomatch m)
    have hdy7 := Dp.keepAll k7 _ _ (wt_fz _) hdy
    have hone : Dp K (upd H6 qt (.tup [y, .int ((z.2 : Nat) + 1)])) (.ref qt) (wtD (d, z.2 + 1)) := .tup (.inl (.inl upd_same)) (.cons (Dp.keep k7 _ _ (data_fz _) hdd) (.cons (.int _) .nil))
    have k7' := k6.trans k7
    generalize upd H6 qt (.tup [y, .int ((z.2 : Nat) + 1)]) = H7 at k7' hys7 hdy7 hone ⊢
    refine ⟨_, hys7, ?_, k7'.mut hD, ys ++ [.ref qt], upd_same, ?_⟩
    · rw [hdy7.length, List.length_map, List.length_map, List.length_take]
      exact small1000 (by omega)
    · have kp : Kp [D] H7 (upd H7 D (.lst (ys ++ [.ref qt]))) := Kp.put hys7 List.mem_cons_self
      rw [List.take_add_one, had, List.map_append, List.map_append]
      exact (Dp.keepAll kp _ _ (wt_fz _) hdy7).append (Dp.keepAll kp _ _ (wt_fz [(d, z.2 + 1)]) (.one hone))
  · rintro H6 ⟨k6, ys, hys, hdy⟩
    rw [hxl, List.take_length] at hdy
    have hw6 := k6.lst hw5 (fun m => nomatch m)
    have k36 := k4.trans (k5.trans k6)
    have hmi := many_inn z.1
    have hyl : ys.length = z.1.inn.length := by rw [hdy.length, List.length_map, List.length_map]
    have hln := len_manys z.1.inn
    have hln2 := len_manys (zi.map (·.1))
    rw [List.length_map] at hln2
    have emm : Lz.P.manys ((zi ++ z.1.inn.map (fun a => (a, z.2 + 1))).map (·.1)) = Lz.P.manys (zi.map (·.1)) + Lz.P.manys z.1.inn := by
      rw [List.map_append, List.map_map, manys_append]
      congr 1
      congr 1
      exact List.map_id _
    refine ⟨lw, D, _, _, rfl, rfl, hw6, hys, ?_, ?_⟩
    · exact Nat.le_of_lt (small1000 (by omega))
    · have kp : Kp [lw] H6 (upd H6 lw (.lst (wi ++ ys))) := Kp.put hw6 List.mem_cons_self
      refine ⟨_, ?_, zi ++ z.1.inn.map (fun a => (a, z.2 + 1)), wi ++ ys, c + 1, _, _, rfl, (k3.trans k36).mut hlwH, upd_same, ?_, fun z' m => ?_, rfl, ?_⟩
      · rw [emm]
        omega
      · rw [List.map_append]
        exact (Dp.keepAll ((k5.trans k6).mono (fun _ m => nomatch m) |>.trans kp) _ _ (wt_fz _) hdi4).append (Dp.keepAll kp _ _ (wt_fz _) hdy)
      · rcases List.mem_append.mp m with m | m
        · exact hzs z' (List.mem_append_left _ m)
        · obtain ⟨a, ha, rfl⟩ := List.mem_map.mp m
          have := inn_deep ha
          exact ⟨inn_ok zok a ha, ⟨_, fit_inn zfit a ha⟩, by show z.2 + 1 + a.deep ≤ 13; omega⟩
      · rw [emm]
        omega
abbrev sIsFunction : Stmt := topS 34
theorem scIsFunction : FnScope ["thing", "name", "names", "body", "own"] ["thing"] (defScope sIsFunction) := ⟨rfl, rfl, rfl, by decide +kernel, rfl, by decide +kernel, by decide +kernel⟩
theorem ok_isFn (F : Fun K "is_function" "is_function" sIsFunction f fd) (B : Bu mg) (U : Ut mg) (CIsTupleOf : C8.Cal P w K mg base 1 "is_tuple_of" (spTupOf K) []) (CIsName : C8.Cal P w K mg base 1 "is_name" spIsName []) (CIsBody : C8.Cal P w K mg base 4 "is_body" (spIsBody K) []) : FnOk P w K mg base CX0 5 f fd ["thing"] (spIsFn K) := by
  have mis := B.isinstance
  have mtup := B.tuple
  have mall := B.all
  have ml := B.len
  obtain ⟨_, mMOST_THINGS⟩ := U.t
  refine F.ok scIsFunction (fun vs H Q E h => ?_) (fun cdv A outer s H vs Q E hr h => ?_)
  · obtain ⟨v, g, Fs, rfl, _⟩ := h
    rfl
  obtain ⟨v, g, Fs, rfl, hd, hnm, hf, q⟩ := h
  refine ⟨_, (pss_cons (ps_if (pt_not (pt_truthK (K := K) rfl (C8.pe_c CIsTupleOf hr (by first | decide | omega) (by rfl) (pa_cons (pv 0) (pa_cons pe_int pa_nil))) (fun _ => rfl))) (pss_one (ps_ret pe_bl)) pss_nil)
    (pss_cons (ps_asg (pv 0) (pg_tupK (K := K) (n := 3) rfl rfl (pgs_cons (pg_name (i := 1) scIsFunction.nd rfl (.inl rfl)) (pgs_cons (pg_name (i := 2) scIsFunction.nd rfl (.inl rfl)) (pgs_cons (pg_name (i := 3) scIsFunction.nd rfl (.inl rfl)) pgs_nil)))))
    (pss_cons (ps_if (PW.pt (pw_or (pt_not (pt_truthK (K := K) rfl (C8.pe_c CIsName hr (by first | decide | omega) (by rfl) (pa_cons (pv 1) pa_nil)) (fun _ => rfl))) (pw_or (pt_not (pt_truthK (K := K) rfl (pe_callB (call_isK (K := K) rfl) (by rfl) mis (by decide +kernel) (pa_cons (pv 2) (pa_cons (pe_bltn (v := .ty "tuple") (by rfl) mtup (by decide +kernel) rfl) pa_nil))) (fun _ => rfl))) (pw_or1 (pt_cmpR op_gt (pe_callB (call_lenK (K := K) rfl) (by rfl) ml PySem.boot_len (pa_cons (pv 2) pa_nil)) (pe_glob (v := .int 4) (by rfl) mMOST_THINGS ⟨_, rfl⟩) (nomark _)))))) (pss_one (ps_ret pe_bl)) pss_nil)
    (pss_one (ps_ret (pe_and (pe_callB (call_allK (K := K) rfl rfl) (by rfl) mall (by decide +kernel) (pa_cons (pe_lc (own := [("own", 4)]) rfl scIsFunction.nd (pi_tupK (K := K) rfl (pv 2)) (blkOk_by (N := ["thing", "name", "names", "body", "own"]) (sc := defScope sIsFunction) (by decide +kernel)) (fun _ _ _ _ _ => (pg_name (i := 4) scIsFunction.nd rfl (.inl rfl))) (fun _ _ _ _ _ => pts_nil) (fun _ _ _ _ _ => (C8.pe_c CIsName hr (by first | decide | omega) (by rfl) (pa_cons (pv 4) pa_nil)))) pa_nil)) (pe_one (C8.pe_c CIsBody hr (by first | decide | omega) (by rfl) (pa_cons (pv 3) pa_nil))))))))), ?_⟩
  obtain ⟨t, r, u, rfl, ht, hr0, hu⟩ := fn_one hd
  have h4 := hf.few
  refine ⟨_, rfl, t, _, rfl, ht, true, rfl, ?_⟩
  refine ⟨_, rfl, t, _, rfl, ht, rfl, _, _, rfl, _, _, rfl, _, _, rfl, rfl, ?_⟩
  refine ⟨_, rfl, g.1, rfl, hnm, fun H1 k1 => ?_⟩
  have hr1 := k1.sqT hr0
  refine ⟨true, rfl, ?_⟩
  refine ⟨_, rfl, .ref r, .ty "tuple", .type "tuple", .type "tuple", true, rfl, .ty _, tyT hr1, kit_ty (by decide +kernel), true, rfl, ?_⟩
  refine ⟨_, rfl, r, _, rfl, .inr hr1, _, _, rfl, rfl, _, rfl, ?_⟩
  rw [decide_eq_false (show ¬ (4 : Int) < ((g.2.1.map V.str).length : Nat) by rw [List.length_map]; omega)]
  refine ⟨_, rfl, r, rfl, ⟨_, hr1⟩, fun D hD => ?_⟩
  refine lc_tup (K := K) (a := r) (xs := g.2.1.map V.str) (fun i H' => Kp [] H1 H' ∧ H' D = some (.lst ((List.replicate i true).map V.bl)))
    ⟨Kp.new hD, upd_same⟩ (fun i H' _ ⟨k, _⟩ => k.sqT hr1) ?_ ?_
  · rintro i y H2 hi ⟨k2, h2⟩
    obtain ⟨nx, hnx, rfl⟩ : ∃ nx, g.2.1[i]? = some nx ∧ y = V.str nx := by
      rw [List.getElem?_map] at hi
      cases e : g.2.1[i]? with
      | none => rw [e] at hi; cases hi
      | some y => rw [e] at hi; exact ⟨y, rfl, (Option.some.inj hi).symm⟩
    have hil := (List.getElem?_eq_some_iff.mp hnx).1
    refine ⟨rfl, ?_⟩
    refine ⟨_, rfl, nx, rfl, hf.own nx (List.mem_of_getElem? hnx), fun H3 k3 => ?_⟩
    refine ⟨_, k3.lst h2 (fun m => nomatch m), ?_, (k2.trans k3).mut hD, ?_⟩
    · rw [List.length_map, List.length_replicate]
      exact small1000 (by omega)
    · rw [upd_same, List.replicate_succ', List.map_append]
      rfl
  · rintro H2 ⟨k2, h2⟩
    refine ⟨D, _, rfl, SqL.of h2, ?_⟩
    rw [all_true]
    refine ⟨true, rfl, ?_⟩
    exact ⟨_, rfl, u, g.2.2, Fs, _, rfl, Dp.keep (k1.trans k2) _ _ (data_fz _) hu, hf.bd, hf.ft, fun H' k => q H' (k1.trans (k2.trans k))⟩
abbrev sIsBuilt : Stmt := topS 35
theorem scIsBuilt : FnScope ["thing", "functions", "asked", "function"] ["thing"] (defScope sIsBuilt) := ⟨rfl, rfl, rfl, by decide +kernel, rfl, by decide +kernel, by decide +kernel⟩
theorem ok_isBuilt (F : Fun K "is_built" "is_built" sIsBuilt f fd) (B : Bu mg) (U : Ut mg) (CIsTupleOf : C8.Cal P w K mg base 1 "is_tuple_of" (spTupOf K) []) (CIsFunction : C8.Cal P w K mg base 5 "is_function" (spIsFn K) []) (CIsBody : C8.Cal P w K mg base 4 "is_body" (spIsBody K) []) : FnOk P w K mg base CX0 6 f fd ["thing"] (spBuilt K) := by
  have mis := B.isinstance
  have mtup := B.tuple
  have mall := B.all
  have ml := B.len
  obtain ⟨_, mMOST_FUNCTIONS⟩ := U.f
  refine F.ok scIsBuilt (fun vs H Q E h => ?_) (fun cdv A outer s H vs Q E hr h => ?_)
  · obtain ⟨v, fs, d, rfl, _⟩ := h
    rfl
  obtain ⟨v, fs, d, rfl, hd, hf, q⟩ := h
  refine ⟨_, (pss_cons (ps_if (pt_not (pt_truthK (K := K) rfl (C8.pe_c CIsTupleOf hr (by first | decide | omega) (by rfl) (pa_cons (pv 0) (pa_cons pe_int pa_nil))) (fun _ => rfl))) (pss_one (ps_ret pe_bl)) pss_nil)
    (pss_cons (ps_asg (pv 0) (pg_tupK (K := K) (n := 2) rfl rfl (pgs_cons (pg_name (i := 1) scIsBuilt.nd rfl (.inl rfl)) (pgs_cons (pg_name (i := 2) scIsBuilt.nd rfl (.inl rfl)) pgs_nil))))
    (pss_cons (ps_if (PW.pt (pw_or (pt_not (pt_truthK (K := K) rfl (pe_callB (call_isK (K := K) rfl) (by rfl) mis (by decide +kernel) (pa_cons (pv 1) (pa_cons (pe_bltn (v := .ty "tuple") (by rfl) mtup (by decide +kernel) rfl) pa_nil))) (fun _ => rfl))) (pw_or1 (pt_cmpR op_gt (pe_callB (call_lenK (K := K) rfl) (by rfl) ml PySem.boot_len (pa_cons (pv 1) pa_nil)) (pe_glob (v := .int 8) (by rfl) mMOST_FUNCTIONS ⟨_, rfl⟩) (nomark _))))) (pss_one (ps_ret pe_bl)) pss_nil)
    (pss_one (ps_ret (pe_and (pe_callB (call_allK (K := K) rfl rfl) (by rfl) mall (by decide +kernel) (pa_cons (pe_lc (own := [("function", 3)]) rfl scIsBuilt.nd (pi_tupK (K := K) rfl (pv 1)) (blkOk_by (N := ["thing", "functions", "asked", "function"]) (sc := defScope sIsBuilt) (by decide +kernel)) (fun _ _ _ _ _ => (pg_name (i := 3) scIsBuilt.nd rfl (.inl rfl))) (fun _ _ _ _ _ => pts_nil) (fun _ _ _ _ _ => (C8.pe_c CIsFunction hr (by first | decide | omega) (by rfl) (pa_cons (pv 3) pa_nil)))) pa_nil)) (pe_one (C8.pe_c CIsBody hr (by first | decide | omega) (by rfl) (pa_cons (pv 2) pa_nil))))))))), ?_⟩
  obtain ⟨pr, ft, rs, vd, rfl, hpr, hft, hrs, hvd⟩ := prog_one hd
  have hrl : rs.length = fs.length := by rw [hrs.length, List.length_map]
  have h8 := hf.len
  refine ⟨_, rfl, pr, _, rfl, hpr, true, rfl, ?_⟩
  refine ⟨_, rfl, pr, _, rfl, hpr, rfl, _, _, rfl, _, _, rfl, rfl, ?_⟩
  refine ⟨_, rfl, .ref ft, .ty "tuple", .type "tuple", .type "tuple", true, rfl, .ty _, tyT hft, kit_ty (by decide +kernel), true, rfl, ?_⟩
  refine ⟨_, rfl, ft, _, rfl, .inr hft, _, _, rfl, rfl, _, rfl, ?_⟩
  rw [decide_eq_false (show ¬ (8 : Int) < (rs.length : Nat) by omega)]
  refine ⟨_, rfl, ft, rfl, ⟨_, hft⟩, fun D hD => ?_⟩
  refine lc_tup (K := K) (a := ft) (xs := rs) (fun i H' => Kp [] H H' ∧ H' D = some (.lst ((List.replicate i true).map V.bl)))
    ⟨Kp.new hD, upd_same⟩ (fun i H' _ ⟨k, _⟩ => k.sqT hft) ?_ ?_
  · rintro i y H2 hi ⟨k2, h2⟩
    have hil := (List.getElem?_eq_some_iff.mp hi).1
    obtain ⟨e, he, hde⟩ := (Dp.keepAll k2 _ _ (fd_fz _) hrs).at hi
    rw [List.getElem?_map] at he
    obtain ⟨g, hg, rfl⟩ : ∃ g, fs[i]? = some g ∧ e = fD g := by
      cases e1 : fs[i]? with
      | none => rw [e1] at he; cases he
      | some y => rw [e1] at he; exact ⟨y, rfl, (Option.some.inj he).symm⟩
    have gm := List.mem_of_getElem? hg
    have gm2 : g ∈ fnsOf fs d := List.mem_append_left _ gm
    refine ⟨rfl, ?_⟩
    refine ⟨_, rfl, y, g, fs.map (·.1), rfl, hde, (hf.nm g gm).1, ⟨hf.few g gm2, (hf.nm g gm).2, hf.bd g gm2, hf.ft g gm2⟩, fun H3 k3 => ?_⟩
    refine ⟨_, k3.lst h2 (fun m => nomatch m), ?_, (k2.trans k3).mut hD, ?_⟩
    · rw [List.length_map, List.length_replicate]
      exact small1000 (by omega)
    · rw [upd_same, List.replicate_succ', List.map_append]
      rfl
  · rintro H2 ⟨k2, h2⟩
    have gm2 : askedFn d ∈ fnsOf fs d := List.mem_append_right _ List.mem_cons_self
    refine ⟨D, _, rfl, SqL.of h2, ?_⟩
    rw [all_true]
    refine ⟨true, rfl, ?_⟩
    exact ⟨_, rfl, vd, d, fs.map (·.1), [], rfl, Dp.keep k2 _ _ (data_fz _) hvd, hf.bd _ gm2, hf.ft _ gm2, fun H' k => q H' (k2.trans k)⟩
end
end Lz

set_option Elab.async false
set_option linter.all false
set_option maxRecDepth 100000
set_option maxHeartbeats 8000000
namespace Lz
open PySem PySem.Spec PyProof.Rows L2
theorem Fits.prOk {fs : List Fn} {d : Lz.P} (h : Fits fs d) : PrOk fs d := by
  refine ⟨h.len, ?_, fun g m => ⟨h.bd g m, h.few g m⟩⟩
  unfold fnsOf
  rw [List.map_append, List.nodup_append]
  refine ⟨h.nd, by simp, fun a ha b hb => ?_⟩
  obtain ⟨f, hf, rfl⟩ := List.mem_map.mp ha
  have hb' : b = "" := List.mem_singleton.mp (show b ∈ [(askedFn d).1] from hb)
  intro q
  have := (h.nm f hf).1.1
  rw [q, hb'] at this
  exact absurd this (by decide +kernel)
mutual
theorem all_fit {F : List Str} : ∀ (t : Lz.P) (sc : List Str), t.fit F sc → ∀ d, d ∈ t.all → ∃ sc', d.fit F sc'
  | .num i, sc, h, d, m => ⟨sc, by rw [List.mem_singleton.mp (show d ∈ [Lz.P.num i] from m)]; exact h⟩
  | .nam i, sc, h, d, m => ⟨sc, by rw [List.mem_singleton.mp (show d ∈ [Lz.P.nam i] from m)]; exact h⟩
  | .fn i, sc, h, d, m => ⟨sc, by rw [List.mem_singleton.mp (show d ∈ [Lz.P.fn i] from m)]; exact h⟩
  | .op k as, sc, h, d, m => by
    rcases List.mem_cons.mp (show d ∈ Lz.P.op k as :: Lz.P.alls as from m) with e | m
    · rw [e]; exact ⟨sc, h⟩
    · exact alls_fit as sc h d m
  | .lt nm as b, sc, h, d, m => by
    rcases List.mem_cons.mp (show d ∈ Lz.P.lt nm as b :: (Lz.P.alls as ++ Lz.P.all b) from m) with e | m
    · rw [e]; exact ⟨sc, h⟩
    · rcases List.mem_append.mp m with m | m
      · exact alls_fit as _ h.2.2.1 d m
      · exact all_fit b _ h.2.2.2 d m
theorem alls_fit {F : List Str} : ∀ (as : List Lz.P) (sc : List Str), Lz.P.fits F as sc → ∀ d, d ∈ Lz.P.alls as → ∃ sc', d.fit F sc'
  | [], _, _, _, m => nomatch m
  | a :: as, sc, h, d, m => by
    rcases List.mem_append.mp (show d ∈ Lz.P.all a ++ Lz.P.alls as from m) with m | m
    · exact all_fit a sc h.1 d m
    · exact alls_fit as sc h.2 d m
end
theorem flat_len : ∀ L : List Lz.P, (∀ t, t ∈ L → t.own.length ≤ 4) → (L.flatMap Lz.P.own).length ≤ 4 * L.length
  | [], _ => Nat.zero_le _
  | t :: r, h => by
    have h1 := h t List.mem_cons_self
    have h2 := flat_len r fun a m => h a (List.mem_cons_of_mem _ m)
    rw [List.flatMap_cons, List.length_append, List.length_cons]
    omega
theorem inV_str (x : Str) : ∀ xs : List Str, inV (.str x) (xs.map V.str) = decide (x ∈ xs)
  | [] => by
    show false = _
    rw [decide_eq_false (fun m => nomatch m)]
  | y :: r => by
    have e : inV (.str x) ((y :: r).map V.str) = ((y == x) || inV (.str x) (r.map V.str)) := rfl
    rw [e, inV_str x r, Bool.eq_iff_iff, Bool.or_eq_true, beq_iff_eq, decide_eq_true_iff, decide_eq_true_iff, List.mem_cons]
    exact ⟨fun h => h.elim (fun h => .inl h.symm) .inr, fun h => h.elim (fun h => .inl h.symm) .inr⟩
theorem flat_strs (xs : List Str) : (xs.map V.str).all flatV = true := by
  rw [List.all_eq_true]
  intro z hz
  obtain ⟨s, _, rfl⟩ := List.mem_map.mp hz
  rfl
theorem let_ne_name : ("let" : Str) ≠ "name" := by decide +kernel
theorem let_ne_fun : ("let" : Str) ≠ "fun" := by decide +kernel
theorem num_ne_name : ("number" : Str) ≠ "name" := by decide +kernel
theorem num_ne_fun : ("number" : Str) ≠ "fun" := by decide +kernel
theorem num_ne_let : ("number" : Str) ≠ "let" := by decide +kernel
theorem nam_ne_let : ("name" : Str) ≠ "let" := by decide +kernel
theorem fun_ne_let : ("fun" : Str) ≠ "let" := by decide +kernel
theorem fun_ne_name : ("fun" : Str) ≠ "name" := by decide +kernel
/-- a part's kind: a let or another one -/
theorem tag_let {K : PySem.W.Frag} {H : Hp} {v : V} {t : Lz.P} (h : Dp K H v t.data) (ok : t.ok) : (∃ a k vs, v = .ref a ∧ SqT K H a (.str k :: vs) ∧ k ≠ "let" ∧ t.own = []) ∨ ∃ nm as b, t = .lt nm as b := by
  cases t with
  | num i =>
    obtain ⟨a, u, rfl, ht, _⟩ := two_at (k := "number") (e := .int i) h
    exact .inl ⟨a, _, _, rfl, ht, num_ne_let, rfl⟩
  | nam x =>
    obtain ⟨a, u, rfl, ht, _⟩ := two_at (k := "name") (e := .str x) h
    exact .inl ⟨a, _, _, rfl, ht, nam_ne_let, rfl⟩
  | fn x =>
    obtain ⟨a, u, rfl, ht, _⟩ := two_at (k := "fun") (e := .str x) h
    exact .inl ⟨a, _, _, rfl, ht, fun_ne_let, rfl⟩
  | op k as =>
    obtain ⟨a, vs, rfl, ht, _⟩ := op_at h
    exact .inl ⟨a, _, _, rfl, ht, (kind_plain (show (k, as.length) ∈ kinds ∧ Lz.P.oks as from ok).1).1, rfl⟩
  | lt nm as b => exact .inr ⟨nm, as, b, rfl⟩
/-- a part's kind: a name, a function or another one -/
theorem tag_name {K : PySem.W.Frag} {H : Hp} {v : V} {t : Lz.P} (h : Dp K H v t.data) (ok : t.ok) : (∃ x, t = .nam x) ∨ (∃ x, t = .fn x) ∨ ∃ a k vs, v = .ref a ∧ SqT K H a (.str k :: vs) ∧ k ≠ "name" ∧ k ≠ "fun" := by
  cases t with
  | num i =>
    obtain ⟨a, u, rfl, ht, _⟩ := two_at (k := "number") (e := .int i) h
    exact .inr (.inr ⟨a, _, _, rfl, ht, num_ne_name, num_ne_fun⟩)
  | nam x => exact .inl ⟨x, rfl⟩
  | fn x => exact .inr (.inl ⟨x, rfl⟩)
  | op k as =>
    obtain ⟨a, vs, rfl, ht, _⟩ := op_at h
    have := kind_plain (show (k, as.length) ∈ kinds ∧ Lz.P.oks as from ok).1
    exact .inr (.inr ⟨a, _, _, rfl, ht, this.2.2.1, this.2.2.2⟩)
  | lt nm as b =>
    obtain ⟨a, r, rs, vb, rfl, ht, _⟩ := let_at h
    exact .inr (.inr ⟨a, _, _, rfl, ht, let_ne_name, let_ne_fun⟩)
def spRowNames (K : PySem.W.Frag) : Sp := fun vs H Q _ => ∃ (v : V) (t : Lz.P), vs = [v] ∧ Dp K H v t.data ∧ t.ok ∧ t.own.length ≤ 4 ∧ ∀ (l : Addr) (H' : Hp), Kp [] H H' → H l = none → H' l = some (.lst (t.own.map V.str)) → Q (.ref l) H'
def spFirst : Sp := fun vs H Q _ => ∃ (l : Addr) (ns : List Str), vs = [.ref l] ∧ H l = some (.lst (ns.map V.str)) ∧ ns.Nodup ∧ ns.length ≤ 1000 ∧ ∀ H', Kp [] H H' → Q .non H'
def spNamesOf (K : PySem.W.Frag) : Sp := fun vs H Q _ => ∃ (v : V) (g : Fn) (Fs : List Str), vs = [v] ∧ Dp K H v (fD g) ∧ g.2.1.length ≤ 4 ∧ BodyOk g.2.2 ∧ g.2.2.fit Fs g.2.1 ∧ ∀ (l : Addr) (H' : Hp), Kp [] H H' → H l = none → H' l = some (.lst ((g.2.1 ++ g.2.2.rown).map V.str)) → (g.2.1 ++ g.2.2.rown).length ≤ 1000 → Q (.ref l) H'
def spLetNames (K : PySem.W.Frag) : Sp := fun vs H Q _ => ∃ (v : V) (t : Lz.P) (Fs sc : List Str), vs = [v] ∧ Dp K H v t.data ∧ BodyOk t ∧ t.fit Fs sc ∧ ∀ (l : Addr) (H' : Hp), Kp [] H H' → H l = none → H' l = some (.lst (t.rown.map V.str)) → t.rown.length ≤ 240 → Q (.ref l) H'
def spStr (K : PySem.W.Frag) (n : Nat) : Sp := fun vs H Q _ => ∃ (v : V) (t : Lz.P) (lk lu : Addr) (ks us : List Str), vs = [v, .ref lk, .ref lu] ∧ Dp K H v t.data ∧ t.ok ∧ t.many ≤ 1000 ∧ t.deep ≤ n ∧ H lk = some (.lst (ks.map V.str)) ∧ H lu = some (.lst (us.map V.str)) ∧ t.fit us ks ∧ ks.length + 4 * n ≤ 100 ∧
  ∀ (l : Addr) (H' : Hp), Kp [] H H' → H l = none → H' l = some (.lst []) → Q (.ref l) H'
def spLookN (K : PySem.W.Frag) : Sp := fun vs H Q _ => ∃ (v : V) (g : Fn) (lu : Addr) (us : List Str), vs = [v, .ref lu] ∧ Dp K H v (fD g) ∧ H lu = some (.lst (us.map V.str)) ∧ g.2.1.length ≤ 4 ∧ BodyOk g.2.2 ∧ g.2.2.fit us g.2.1 ∧ (g.2.1 ++ g.2.2.rown).Nodup ∧ ∀ H', Kp [] H H' → Q .non H'
def spLooked (K : PySem.W.Frag) : Sp := fun vs H Q _ => ∃ (v : V) (fs : List Fn) (d : Lz.P), vs = [v] ∧ Dp K H v (progD fs d) ∧ Fits fs d ∧ ∀ H', Kp [] H H' → Q v H'
section
variable {P : Program} {w : World} {K : PySem.W.Frag} {mg : Str → Option Value} {base : Heap} {f : Addr} {fd : FuncData}
abbrev sRowNames : Stmt := topS 15
theorem scRowNames : FnScope ["part", "row"] ["part"] (defScope sRowNames) := ⟨rfl, rfl, rfl, by decide +kernel, rfl, by decide +kernel, by decide +kernel⟩
theorem ok_rowNames (F : Fun K "row_names" "row_names" sRowNames f fd) : FnOk P w K mg base CX0 1 f fd ["part"] (spRowNames K) := by
  refine F.ok scRowNames (fun vs H Q E h => ?_) (fun cdv A outer s H vs Q E hr h => ?_)
  · obtain ⟨v, t, rfl, _⟩ := h
    rfl
  obtain ⟨v, t, rfl, hd, hok, h4, q⟩ := h
  refine ⟨_, (pss_cons (ps_if (pt_cmpR op_ne (pe_ix (ix_tupK (K := K) rfl) (pv 0) pe_int (fun _ _ => rfl)) pe_str (nomark _)) (pss_one (ps_ret (pe_lst pa_nil))) pss_nil)
    (pss_one (ps_ret (pe_lc (own := [("row", 1)]) rfl scRowNames.nd (pi_tupK (K := K) rfl (pe_ix (ix_tupK (K := K) rfl) (pv 0) pe_int (fun _ _ => rfl))) (blkOk_by (N := ["part", "row"]) (sc := defScope sRowNames) (by decide +kernel)) (fun _ _ _ _ _ => (pg_name (i := 1) scRowNames.nd rfl (.inl rfl))) (fun _ _ _ _ _ => pts_nil) (fun _ _ _ _ _ => (pe_ix (ix_tupK (K := K) rfl) (pv 1) pe_int (fun _ _ => rfl))))))), ?_⟩
  rcases tag_let hd hok with ⟨a, k, vs, rfl, ht, hk, hown⟩ | ⟨nm, as, b, rfl⟩
  · refine ⟨_, rfl, a, _, _, _, rfl, rfl, ht, at_of (j := 0) rfl rfl, rfl, _, rfl, ?_⟩
    refine ite2 (fun _ => ?_) (fun c => ?_)
    · refine ⟨Nat.zero_le _, fun l hl => q l _ (Kp.new hl) hl ?_⟩
      rw [hown]
      exact upd_same
    · rw [decide_eq_false (fun e => hk (V.str.inj e))] at c
      exact absurd rfl c
  · obtain ⟨a, r, rs, vb, rfl, ht, hrt, hrs⟩ := let_at hd
    have hna : nm.length = as.length := hok.1
    have hrl : rs.length = nm.length := by rw [hrs.length, List.length_zipWith, datas_len]; omega
    have h4' : nm.length ≤ 4 := h4
    refine ⟨_, rfl, a, _, _, _, rfl, rfl, ht, at_of (j := 0) rfl rfl, rfl, _, rfl, ?_⟩
    refine ite2 (fun c => ?_) (fun _ => ?_)
    · rw [decide_eq_true rfl] at c
      cases c
    refine ⟨_, rfl, a, _, _, _, rfl, rfl, ht, at_of (j := 1) rfl rfl, r, rfl, ⟨_, hrt⟩, fun D hD => ?_⟩
    refine lc_tup (K := K) (a := r) (xs := rs) (fun i H' => Kp [] H H' ∧ H' D = some (.lst ((nm.take i).map V.str)))
      ⟨Kp.new hD, upd_same⟩ (fun i H' _ ⟨k, _⟩ => k.sqT hrt) ?_ ?_
    · rintro i x H1 hi ⟨k1, h1⟩
      obtain ⟨nx, t, u, hnx, rfl, htt⟩ := row_at2 (Dp.keepAll k1 _ _ rows_fz hrs) hi
      refine ⟨rfl, ?_⟩
      refine ⟨_, rfl, t, _, _, _, rfl, rfl, htt, at_of (j := 0) rfl rfl, _, h1, ?_, k1.mut hD, ?_⟩
      · rw [List.length_map, List.length_take]
        exact small1000 (by omega)
      · rw [upd_same, List.take_add_one, hnx, List.map_append]
        rfl
    · rintro H1 ⟨k1, h1⟩
      rw [hrl, List.take_length] at h1
      exact q D H1 k1 hD h1
abbrev sFirstAgain : Stmt := topS 36
theorem scFirstAgain : FnScope ["names", "at", "name"] ["names"] (defScope sFirstAgain) := ⟨rfl, rfl, rfl, by decide +kernel, rfl, by decide +kernel, by decide +kernel⟩
theorem ok_first (F : Fun K "first_again" "first_again" sFirstAgain f fd) (B : Bu mg) : FnOk P w K mg base CX0 1 f fd ["names"] spFirst := by
  have menum := B.enumerate
  refine F.ok scFirstAgain (fun vs H Q E h => ?_) (fun cdv A outer s H vs Q E hr h => ?_)
  · obtain ⟨l, ns, rfl, _⟩ := h
    rfl
  obtain ⟨l, ns, rfl, hl, hnd, hlen, q⟩ := h
  refine ⟨_, (pss_cons (ps_for PassesOwn.never rfl (pi_enumK (K := K) rfl (by rfl) menum (pa_cons (pv 0) pa_nil)) (pg_tupK (K := K) (n := 2) rfl rfl (pgs_cons (pg_name (i := 1) scFirstAgain.nd rfl (.inl rfl)) (pgs_cons (pg_name (i := 2) scFirstAgain.nd rfl (.inl rfl)) pgs_nil))) (pss_one (ps_if (pt_cmpR (op_inK (K := K) rfl) (pv 2) (pe_slice (sl_listK (K := K) rfl) (pv 0) po_none (po_some (pv 1))) rfl) (pss_one (ps_ret (pv 2))) pss_nil)))
    (pss_one (ps_ret pe_non))), ?_⟩
  refine ⟨_, rfl, l, _, rfl, SqL.of hl, for_it (walk_enum (K := K) (a := l) (xs := ns.map V.str)) (fun i σ H' => ∃ (v1 v2 : Option V), σ = [some (.ref l), v1, v2] ∧ Kp [] H H')
    ⟨none, none, rfl, Kp.refl _ _⟩ (fun i σ H' _ ⟨_, _, _, k⟩ => SqL.of (k.lst hl (fun m => nomatch m))) ?_ ?_⟩
  · rintro i x σ H3 H4 hi ⟨v1, v2, rfl, k3⟩ ⟨T, a1, a2, rfl, hT, rfl, e1, e2⟩
    obtain rfl := Option.some.inj e1
    obtain ⟨nx, hnx, rfl⟩ : ∃ nx, ns[i]? = some nx ∧ a2 = V.str nx := by
      have e2' : (ns.map V.str)[i]? = some a2 := e2
      rw [List.getElem?_map] at e2'
      cases e : ns[i]? with
      | none => rw [e] at e2'; cases e2'
      | some y => rw [e] at e2'; exact ⟨y, rfl, (Option.some.inj e2').symm⟩
    have k4 : Kp [] H (upd H3 T (.tup [.int (i : Nat), .str nx])) := k3.trans (Kp.new hT)
    refine ⟨T, _, rfl, SqT.of upd_same, rfl, _, _, rfl, _, _, rfl, rfl, ?_⟩
    refine ⟨_, rfl, _, rfl, _, rfl, _, rfl, l, _, rfl, SqL.of (k4.lst hl (fun m => nomatch m)), fun p hp => ?_⟩
    rw [cutV_to, ← List.map_take]
    refine ⟨p, _, rfl, .inl (SqL.of upd_same), rfl, flat_strs _, _, rfl, ?_⟩
    refine ite2 (fun c => ?_) (fun _ => ⟨_, _, rfl, k4.trans (Kp.new hp)⟩)
    have c' := of_decide_eq_true ((inV_str nx (ns.take i)).symm.trans c)
    obtain ⟨m, hm⟩ := List.mem_iff_getElem?.mp c'
    have hmi : m < i := by
      have := (List.getElem?_eq_some_iff.mp hm).1
      rw [List.length_take] at this
      omega
    rw [List.getElem?_take_of_lt hmi] at hm
    have := nd_ix hnd hm hnx
    omega
  · rintro σ H3 ⟨v1, v2, rfl, k3⟩
    exact q H3 k3
abbrev sLetNames : Stmt := topS 18
theorem scLetNames : FnScope ["part", "found", "one"] ["part"] (defScope sLetNames) := ⟨rfl, rfl, rfl, by decide +kernel, rfl, by decide +kernel, by decide +kernel⟩
theorem ok_letNames (F : Fun K "let_names" "let_names" sLetNames f fd) (CAllIn : C8.Cal P w K mg base 2 "all_in" (spAll K 12) []) (CRowNames : C8.Cal P w K mg base 1 "row_names" (spRowNames K) []) : FnOk P w K mg base CX0 3 f fd ["part"] (spLetNames K) := by
  refine F.ok scLetNames (fun vs H Q E h => ?_) (fun cdv A outer s H vs Q E hr h => ?_)
  · obtain ⟨v, g, Fs, sc, rfl, _⟩ := h
    rfl
  obtain ⟨u, g, Fs, sc, rfl, hu, hb, hft, q⟩ := h
  refine ⟨_, (pss_cons (ps_set (i := 1) scLetNames.nd rfl (.inl rfl) (pe_lst pa_nil))
    (pss_cons (ps_for PassesOwn.never rfl (pi_listK (K := K) rfl (C8.pe_c CAllIn hr (by first | decide | omega) (by rfl) (pa_cons (pv 0) pa_nil))) (pg_name (i := 2) scLetNames.nd rfl (.inl rfl)) (pss_one (ps_expr (pe_bmK (K := K) rfl PySem.F.plainAttrs_list PySem.F.slot_list_extend PySem.F.type_list_extend mt_extend (pv 1) (pa_cons (C8.pe_c CRowNames hr (by first | decide | omega) (by rfl) (pa_cons (pv 2) pa_nil)) pa_nil)))))
    (pss_one (ps_ret (pv 1))))), ?_⟩
  refine ⟨Nat.zero_le _, fun lf hlf => ?_⟩
  have k1 : Kp [] H (upd H lf (.lst [])) := Kp.new hlf
  have hf1 : (upd H lf (.lst [])) lf = some (.lst []) := upd_same
  generalize upd H lf (.lst []) = H1 at k1 hf1 ⊢
  refine ⟨_, rfl, u, g, rfl, Dp.keep k1 _ _ (data_fz _) hu, hb.ok, Nat.le_trans hb.many (by decide), hb.deep, fun la xs H2 k2 hl0 hla hdx => ?_⟩
  have hf2 := k2.lst hf1 (fun m => nomatch m)
  have nfl : la ≠ lf := (ne_of_none hf1 hl0).symm
  have hxl : xs.length = g.all.length := by rw [hdx.length, datas_len]
  have hal : g.all.length ≤ 60 := by rw [all_len]; exact hb.many
  have hown : ∀ d, d ∈ g.all → d.own.length ≤ 4 := fun d m => by
    obtain ⟨sc', h⟩ := all_fit g _ hft d m
    exact own_len h
  refine ⟨la, rfl, ⟨_, SqL.of hla⟩, for_list (K := K) (a := la) (xs := xs) (fun i σ H' => ∃ (v2 : Option V), σ = [some u, some (.ref lf), v2] ∧ Kp [] H H' ∧ H' la = some (.lst xs) ∧ DpAll K H' xs (Lz.P.datas g.all) ∧ H' lf = some (.lst (((g.all.take i).flatMap Lz.P.own).map V.str)))
    ⟨none, rfl, k1.trans k2, hla, hdx, hf2⟩ (fun i σ H' _ ⟨_, _, _, h, _⟩ => SqL.of h) ?_ ?_⟩
  · rintro i x σ H3 hi ⟨v2, rfl, k3, hl3, hdx3, hf3⟩
    obtain ⟨d, had2, hdd⟩ := part_atU hdx3 hi
    have dm := List.mem_of_getElem? had2
    have h4 := hown d dm
    refine ⟨_, rfl, .inl ⟨rfl, _, SqL.of hf3⟩, _, rfl, x, d, rfl, hdd, (all_ok g hb.ok d dm).1, h4, fun l2 H4 k4 hl20 hl2 => ?_⟩
    have hf4 := k4.lst hf3 (fun m => nomatch m)
    have hl4 := k4.lst hl3 (fun m => nomatch m)
    have hfl := flat_len (g.all.take i) fun t m => hown t (List.mem_of_mem_take m)
    have htl : (g.all.take i).length ≤ 60 := by rw [List.length_take]; omega
    refine ⟨lf, l2, _, _, rfl, rfl, hf4, hl2, ?_, ?_⟩
    · rw [List.length_map, List.length_map]
      exact Nat.le_of_lt (small1000 (by omega))
    · rw [← List.map_append]
      have kput : Kp [lf] H4 (upd H4 lf (.lst (((g.all.take i).flatMap Lz.P.own ++ d.own).map V.str))) := Kp.put hf4 List.mem_cons_self
      refine ⟨_, rfl, (k3.trans k4).mut hlf, kput.lst hl4 (not1 nfl), Dp.keepAll (k4.mono (fun _ m => nomatch m) |>.trans kput) _ _ (datas_fz _) hdx3, ?_⟩
      rw [upd_same, List.take_add_one, had2, List.flatMap_append]
      show some (HO.lst _) = some (HO.lst ((_ ++ (d.own ++ [])).map V.str))
      rw [List.append_nil]
  · rintro σ H3 ⟨v2, rfl, k3, hl3, hdx3, hf3⟩
    rw [hxl, List.take_length, all_own] at hf3
    have hfl := flat_len g.all hown
    rw [all_own] at hfl
    exact ⟨_, rfl, q lf H3 k3 hlf hf3 (by omega)⟩
abbrev sNamesOf : Stmt := topS 37
theorem scNamesOf : FnScope ["function"] ["function"] (defScope sNamesOf) := ⟨rfl, rfl, rfl, by decide +kernel, rfl, by decide +kernel, by decide +kernel⟩
theorem ok_namesOf (F : Fun K "names_of" "names_of" sNamesOf f fd) (CLetNames : C8.Cal P w K mg base 3 "let_names" (spLetNames K) []) : FnOk P w K mg base CX0 14 f fd ["function"] (spNamesOf K) := by
  refine F.ok scNamesOf (fun vs H Q E h => ?_) (fun cdv A outer s H vs Q E hr h => ?_)
  · obtain ⟨v, g, Fs, rfl, _⟩ := h
    rfl
  obtain ⟨v, g, Fs, rfl, hd, hfew, hb, hft, q⟩ := h
  refine ⟨_, (pss_one (ps_ret (pe_lst (StX.pa_starK (K := K) rfl (pe_ix (ix_tupK (K := K) rfl) (pv 0) pe_int (fun _ _ => rfl)) (StX.pa_starK (K := K) rfl (C8.pe_c CLetNames hr (by first | decide | omega) (by rfl) (pa_cons (pe_ix (ix_tupK (K := K) rfl) (pv 0) pe_int (fun _ _ => rfl)) pa_nil)) pa_nil))))), ?_⟩
  obtain ⟨t, r, u, rfl, ht, hr0, hu⟩ := fn_one hd
  refine ⟨_, rfl, t, _, _, _, rfl, rfl, ht, at_of (j := 1) rfl rfl, r, _, rfl, .inl hr0, ?_⟩
  refine ⟨_, rfl, t, _, _, _, rfl, rfl, ht, at_of (j := 2) rfl rfl, u, g.2.2, Fs, g.2.1, rfl, hu, hb, hft, fun l H1 k1 hl0 hl hlen => ?_⟩
  refine ⟨l, _, rfl, .inr (SqL.of hl), ?_, fun lf hlf => ?_⟩
  · rw [List.append_nil, List.length_append, List.length_map, List.length_map]
    exact Nat.le_of_lt (small1000 (by omega))
  rw [List.append_nil, ← List.map_append]
  exact q lf _ (k1.trans (Kp.new hlf)) (k1.free hlf (fun m => nomatch m)) upd_same (by rw [List.length_append]; omega)
abbrev sStrangers : Stmt := topS 38
theorem scStrangers : FnScope ["part", "known", "funs", "kind", "inside", "found", "inner"] ["part", "known", "funs"] (defScope sStrangers) := ⟨rfl, rfl, rfl, by decide +kernel, rfl, by decide +kernel, by decide +kernel⟩
theorem ok_str {n j : Nat} (hj : 1 ≤ j) (F : Fun K "strangers" "strangers" sStrangers f fd) (CRowNames : C8.Cal P w K mg base 1 "row_names" (spRowNames K) []) (CWithin : C8.Cal P w K mg base 1 "within" (spInn K) []) (CStrangers : C8.Cal P w K mg base j "strangers" (spStr K n) []) : FnOk P w K mg base CX0 (j + 1) f fd ["part", "known", "funs"] (spStr K (n + 1)) := by
  refine F.ok scStrangers (fun vs H Q E h => ?_) (fun cdv A outer s H vs Q E hr h => ?_)
  · obtain ⟨v, t, lk, lu, ks, us, rfl, _⟩ := h
    rfl
  obtain ⟨v, t, lk, lu, ks, us, rfl, hd, hok, hmany, hdeep, hlk, hlu, hfit, hlen, q⟩ := h
  refine ⟨_, (pss_cons (ps_set (i := 3) scStrangers.nd rfl (.inl rfl) (pe_ix (ix_tupK (K := K) rfl) (pv 0) pe_int (fun _ _ => rfl)))
    (pss_cons (ps_if (pt_cmpR op_eq (pv 3) pe_str (nomark _)) (pss_one (ps_ret (pe_ifExp (pt_cmpR (op_inK (K := K) rfl) (pe_ix (ix_tupK (K := K) rfl) (pv 0) pe_int (fun _ _ => rfl)) (pv 1) rfl) (pe_lst pa_nil) (pe_lst (pa_cons (pe_ix (ix_tupK (K := K) rfl) (pv 0) pe_int (fun _ _ => rfl)) pa_nil))))) pss_nil)
    (pss_cons (ps_if (pt_cmpR op_eq (pv 3) pe_str (nomark _)) (pss_one (ps_ret (pe_ifExp (pt_cmpR (op_inK (K := K) rfl) (pe_ix (ix_tupK (K := K) rfl) (pv 0) pe_int (fun _ _ => rfl)) (pv 2) rfl) (pe_lst pa_nil) (pe_lst (pa_cons (pe_ix (ix_tupK (K := K) rfl) (pv 0) pe_int (fun _ _ => rfl)) pa_nil))))) pss_nil)
    (pss_cons (ps_set (i := 4) scStrangers.nd rfl (.inl rfl) (pe_op op_cat (pv 1) (C8.pe_c CRowNames hr (by first | decide | omega) (by rfl) (pa_cons (pv 0) pa_nil))))
    (pss_cons (ps_set (i := 5) scStrangers.nd rfl (.inl rfl) (pe_lst pa_nil))
    (pss_cons (ps_for PassesOwn.never rfl (pi_listK (K := K) rfl (C8.pe_c CWithin hr (by first | decide | omega) (by rfl) (pa_cons (pv 0) pa_nil))) (pg_name (i := 6) scStrangers.nd rfl (.inl rfl)) (pss_one (ps_expr (pe_bmK (K := K) rfl PySem.F.plainAttrs_list PySem.F.slot_list_extend PySem.F.type_list_extend mt_extend (pv 5) (pa_cons (C8.pe_c CStrangers hr (by first | decide | omega) (by rfl) (pa_cons (pv 6) (pa_cons (pv 4) (pa_cons (pv 2) pa_nil)))) pa_nil)))))
    (pss_one (ps_ret (pv 5))))))))), ?_⟩
  rcases tag_name hd hok with ⟨x, rfl⟩ | ⟨x, rfl⟩ | ⟨a, k, vs, rfl, ht, hk1, hk2⟩
  · obtain ⟨a, u, rfl, ht, hu⟩ := two_at (k := "name") (e := .str x) hd
    cases hu
    refine ⟨_, rfl, a, _, _, _, rfl, rfl, ht, at_of (j := 0) rfl rfl, ?_⟩
    refine ⟨_, rfl, rfl, _, rfl, ?_⟩
    refine ite2 (fun _ => ?_) (fun c => absurd (decide_eq_true rfl) c)
    refine ⟨_, rfl, a, _, _, _, rfl, rfl, ht, at_of (j := 1) rfl rfl, _, rfl, lk, _, rfl, .inl (SqL.of hlk), rfl, flat_strs _, _, rfl, ?_⟩
    refine ite2 (fun _ => ?_) (fun c => absurd ((inV_str x ks).trans (decide_eq_true hfit)) c)
    exact ⟨Nat.zero_le _, fun l hl => q l _ (Kp.new hl) hl upd_same⟩
  · obtain ⟨a, u, rfl, ht, hu⟩ := two_at (k := "fun") (e := .str x) hd
    cases hu
    refine ⟨_, rfl, a, _, _, _, rfl, rfl, ht, at_of (j := 0) rfl rfl, ?_⟩
    refine ⟨_, rfl, rfl, _, rfl, ?_⟩
    refine ite2 (fun c => absurd (V.str.inj (of_decide_eq_true c)) fun_ne_name) (fun _ => ?_)
    refine ⟨_, rfl, rfl, _, rfl, ?_⟩
    refine ite2 (fun _ => ?_) (fun c => absurd (decide_eq_true rfl) c)
    refine ⟨_, rfl, a, _, _, _, rfl, rfl, ht, at_of (j := 1) rfl rfl, _, rfl, lu, _, rfl, .inl (SqL.of hlu), rfl, flat_strs _, _, rfl, ?_⟩
    refine ite2 (fun _ => ?_) (fun c => absurd ((inV_str x us).trans (decide_eq_true hfit)) c)
    exact ⟨Nat.zero_le _, fun l hl => q l _ (Kp.new hl) hl upd_same⟩
  · refine ⟨_, rfl, a, _, _, _, rfl, rfl, ht, at_of (j := 0) rfl rfl, ?_⟩
    refine ⟨_, rfl, rfl, _, rfl, ?_⟩
    refine ite2 (fun c => absurd (V.str.inj (of_decide_eq_true c)) hk1) (fun _ => ?_)
    refine ⟨_, rfl, rfl, _, rfl, ?_⟩
    refine ite2 (fun c => absurd (V.str.inj (of_decide_eq_true c)) hk2) (fun _ => ?_)
    have h4 := own_len hfit
    refine ⟨_, rfl, _, rfl, .ref a, t, rfl, hd, hok, h4, fun l1 H1 k1 hl10 hl1 => ?_⟩
    have hlk1 := k1.lst hlk (fun m => nomatch m)
    refine ⟨lk, l1, _, _, rfl, rfl, hlk1, hl1, ?_, fun li hli => ?_⟩
    · rw [List.length_map, List.length_map]
      exact Nat.le_of_lt (small1000 (by omega))
    rw [← List.map_append]
    have k2 := k1.trans (Kp.new (S := []) (o := .lst ((ks ++ t.own).map V.str)) hli)
    have hli2 : (upd H1 li (.lst ((ks ++ t.own).map V.str))) li = some (.lst ((ks ++ t.own).map V.str)) := upd_same
    generalize upd H1 li (.lst ((ks ++ t.own).map V.str)) = H2 at k2 hli2 ⊢
    refine ⟨Nat.zero_le _, fun lf hlf => ?_⟩
    have kf : Kp [] H2 (upd H2 lf (.lst [])) := Kp.new hlf
    have hli3 := kf.lst hli2 (fun m => nomatch m)
    have hlf3 : (upd H2 lf (.lst [])) lf = some (.lst []) := upd_same
    have hlfH : H lf = none := k2.free hlf (fun m => nomatch m)
    have k3 := k2.trans kf
    have nif : li ≠ lf := ne_of_none hli2 hlf
    generalize upd H2 lf (.lst []) = H3 at k3 hli3 hlf3 ⊢
    refine ⟨_, rfl, .ref a, t, rfl, Dp.keep k3 _ _ (data_fz _) hd, hok, hmany, fun l xs H4 k4 hl0 hl4 hdx => ?_⟩
    have nlf : l ≠ lf := (ne_of_none hlf3 hl0).symm
    have nil4 := k4.lst hli3 (fun m => nomatch m)
    have nlf4 := k4.lst hlf3 (fun m => nomatch m)
    refine ⟨l, rfl, ⟨_, SqL.of hl4⟩, for_list (K := K) (a := l) (xs := xs) (fun i σ H' => ∃ (v6 : Option V), σ = [some (.ref a), some (.ref lk), some (.ref lu), some (.str k), some (.ref li), some (.ref lf), v6] ∧ Kp [] H H' ∧ H' l = some (.lst xs) ∧ DpAll K H' xs (Lz.P.datas t.inn) ∧ H' li = some (.lst ((ks ++ t.own).map V.str)) ∧ H' lf = some (.lst []))
      ⟨none, rfl, k3.trans k4, hl4, hdx, nil4, nlf4⟩ (fun i σ H' _ ⟨_, _, _, h, _⟩ => SqL.of h) ?_ ?_⟩
    · rintro i x σ H5 hi ⟨v6, rfl, k5, hl5, hdx5, hli5, hlf5⟩
      obtain ⟨d, had, hdd⟩ := at_inn hdx5 hi
      obtain ⟨dok, dm, ddp⟩ := inn_fits hok hmany hdeep had
      have dfit := fit_inn hfit d (List.mem_of_getElem? had)
      refine ⟨_, rfl, .inl ⟨rfl, _, SqL.of hlf5⟩, _, rfl, _, rfl, _, rfl, x, d, li, lu, ks ++ t.own, us, rfl, hdd, dok, dm, ddp, hli5, k5.lst hlu (fun m => nomatch m), dfit, ?_, fun l2 H6 k6 hl20 hl2 => ?_⟩
      · rw [List.length_append]
        omega
      have hlf6 := k6.lst hlf5 (fun m => nomatch m)
      refine ⟨lf, l2, _, _, rfl, rfl, hlf6, hl2, Nat.zero_le _, ?_⟩
      have kput : Kp [lf] H6 (upd H6 lf (.lst ([] ++ []))) := Kp.put hlf6 List.mem_cons_self
      exact ⟨_, rfl, (k5.trans k6).mut hlfH, kput.lst (k6.lst hl5 (fun m => nomatch m)) (not1 nlf), Dp.keepAll (k6.mono (fun _ m => nomatch m) |>.trans kput) _ _ (datas_fz _) hdx5, kput.lst (k6.lst hli5 (fun m => nomatch m)) (not1 nif), upd_same⟩
    · rintro σ H5 ⟨v6, rfl, k5, hl5, hdx5, hli5, hlf5⟩
      exact ⟨_, rfl, q lf H5 k5 hlfH hlf5⟩
abbrev sLookAtNames : Stmt := topS 39
theorem scLookAtNames : FnScope ["function", "funs", "hidden", "unknown"] ["function", "funs"] (defScope sLookAtNames) := ⟨rfl, rfl, rfl, by decide +kernel, rfl, by decide +kernel, by decide +kernel⟩
theorem ok_lookN (F : Fun K "look_at_names" "look_at_names" sLookAtNames f fd) (B : Bu mg) (CFirstAgain : C8.Cal P w K mg base 1 "first_again" spFirst []) (CNamesOf : C8.Cal P w K mg base 14 "names_of" (spNamesOf K) []) (CStrangers : C8.Cal P w K mg base 13 "strangers" (spStr K 12) []) : FnOk P w K mg base CX0 15 f fd ["function", "funs"] (spLookN K) := by
  have mlist := B.list
  refine F.ok scLookAtNames (fun vs H Q E h => ?_) (fun cdv A outer s H vs Q E hr h => ?_)
  · obtain ⟨v, g, lu, us, rfl, _⟩ := h
    rfl
  obtain ⟨v, g, lu, us, rfl, hd, hlu, hfew, hb, hft, hnd, q⟩ := h
  refine ⟨_, (pss_cons (ps_set (i := 2) scLookAtNames.nd rfl (.inl rfl) (C8.pe_c CFirstAgain hr (by first | decide | omega) (by rfl) (pa_cons (C8.pe_c CNamesOf hr (by first | decide | omega) (by rfl) (pa_cons (pv 0) pa_nil)) pa_nil)))
    (pss_cons (ps_if (pt_cmpR op_notN (pv 2) pe_non (nomark _)) (pss_one ps_never) pss_nil)
    (pss_cons (ps_set (i := 3) scLookAtNames.nd rfl (.inl rfl) (C8.pe_c CStrangers hr (by first | decide | omega) (by rfl) (pa_cons (pe_ix (ix_tupK (K := K) rfl) (pv 0) pe_int (fun _ _ => rfl)) (pa_cons (pe_callTy (call_listK (K := K) rfl) (by rfl) mlist (by decide +kernel) (pa_cons (pe_ix (ix_tupK (K := K) rfl) (pv 0) pe_int (fun _ _ => rfl)) pa_nil)) (pa_cons (pv 1) pa_nil)))))
    (pss_one (ps_if (pt_truthK (K := K) rfl (pv 3) (fun _ => rfl)) (pss_one ps_never) pss_nil))))), ?_⟩
  obtain ⟨t, r, u, rfl, ht, hr0, hu⟩ := fn_one hd
  have hgf : fz (fD g) = true := by
    have := fd_fz [g]
    exact fzAll_iff.mp this _ List.mem_cons_self
  refine ⟨_, rfl, .ref t, g, us, rfl, hd, hfew, hb, hft, fun l H1 k1 hl0 hl hlen => ?_⟩
  refine ⟨l, _, rfl, hl, hnd, hlen, fun H2 k2 => ?_⟩
  refine ⟨_, rfl, rfl, _, rfl, ?_⟩
  refine ite2 (fun c => ?_) (fun _ => ?_)
  · rw [decide_eq_true rfl] at c
    cases c
  have k2 := k1.trans k2
  have ht2 := k2.sqT ht
  refine ⟨_, rfl, t, _, _, _, rfl, rfl, ht2, at_of (j := 2) rfl rfl, _, rfl, t, _, _, _, rfl, rfl, ht2, at_of (j := 1) rfl rfl, r, _, rfl, .inr (k2.sqT hr0), fun lk hlk => ?_⟩
  have k3 := k2.trans (Kp.new (S := []) (o := .lst (g.2.1.map V.str)) hlk)
  refine ⟨_, rfl, u, g.2.2, lk, lu, g.2.1, us, rfl, Dp.keep k3 _ _ (data_fz _) hu, hb.ok, Nat.le_trans hb.many (by decide), hb.deep, upd_same, k3.lst hlu (fun m => nomatch m), hft, by omega, fun l2 H4 k4 hl20 hl2 => ?_⟩
  refine ⟨_, rfl, false, .inl ⟨[], SqL.of hl2, rfl⟩, ?_⟩
  exact q H4 (k3.trans k4)
abbrev sLooked : Stmt := topS 40
theorem scLooked : FnScope ["thing", "funs", "again", "function"] ["thing"] (defScope sLooked) := ⟨rfl, rfl, rfl, by decide +kernel, rfl, by decide +kernel, by decide +kernel⟩
theorem ok_looked (F : Fun K "looked" "looked" sLooked f fd) (CIsBuilt : C8.Cal P w K mg base 6 "is_built" (spBuilt K) []) (CFirstAgain : C8.Cal P w K mg base 1 "first_again" spFirst []) (CAllFunctions : C8.Cal P w K mg base 1 "all_functions" (spFuns K) []) (CLookAtNames : C8.Cal P w K mg base 15 "look_at_names" (spLookN K) []) : FnOk P w K mg base CX0 16 f fd ["thing"] (spLooked K) := by
  refine F.ok scLooked (fun vs H Q E h => ?_) (fun cdv A outer s H vs Q E hr h => ?_)
  · obtain ⟨v, fs, d, rfl, _⟩ := h
    rfl
  obtain ⟨v, fs, d, rfl, hd, hf, q⟩ := h
  refine ⟨_, (pss_cons (ps_if (pt_not (pt_truthK (K := K) rfl (C8.pe_c CIsBuilt hr (by first | decide | omega) (by rfl) (pa_cons (pv 0) pa_nil)) (fun _ => rfl))) (pss_one ps_never) pss_nil)
    (pss_cons (ps_setLc (i := 1) (own := [("function", 3)]) rfl scLooked.nd rfl rfl (sw_true rfl rfl rfl (by decide +kernel)) (pi_tupK (K := K) rfl (pe_ix (ix_tupK (K := K) rfl) (pv 0) pe_int (fun _ _ => rfl))) (blkOk_by (N := ["thing", "funs", "again", "function"]) (sc := defScope sLooked) (by decide +kernel)) (fun _ _ _ _ _ => (pg_name (i := 3) scLooked.nd rfl (.inl rfl))) (fun _ _ _ _ _ => pts_nil) (fun _ _ _ _ _ => (pe_ix (ix_tupK (K := K) rfl) (pv 3) pe_int (fun _ _ => rfl))))
    (pss_cons (ps_set (i := 2) scLooked.nd rfl (.inl rfl) (C8.pe_c CFirstAgain hr (by first | decide | omega) (by rfl) (pa_cons (pv 1) pa_nil)))
    (pss_cons (ps_if (pt_cmpR op_notN (pv 2) pe_non (nomark _)) (pss_one ps_never) pss_nil)
    (pss_cons (ps_for PassesOwn.never rfl (pi_listK (K := K) rfl (C8.pe_c CAllFunctions hr (by first | decide | omega) (by rfl) (pa_cons (pv 0) pa_nil))) (pg_name (i := 3) scLooked.nd rfl (.inl rfl)) (pss_one (ps_expr (C8.pe_c CLookAtNames hr (by first | decide | omega) (by rfl) (pa_cons (pv 3) (pa_cons (pv 1) pa_nil))))))
    (pss_one (ps_ret (pv 0)))))))), ?_⟩
  refine ⟨_, rfl, v, fs, d, rfl, hd, hf, fun H1 k1 => ⟨true, rfl, ?_⟩⟩
  obtain ⟨pr, ft, rs, vd, rfl, hpr, hft, hrs, hvd⟩ := prog_one (Dp.keep k1 _ _ (prog_fz _ _) hd)
  have hrl : rs.length = fs.length := by rw [hrs.length, List.length_map]
  have h8 := hf.len
  refine ⟨_, rfl, pr, _, _, _, rfl, rfl, hpr, at_of (j := 0) rfl rfl, ft, rfl, ⟨_, hft⟩, fun lu hlu => ?_⟩
  refine lc_tup (K := K) (a := ft) (xs := rs) (fun i H' => Kp [] H1 H' ∧ H' lu = some (.lst (((fs.take i).map (·.1)).map V.str)))
    ⟨Kp.new hlu, upd_same⟩ (fun i H' _ ⟨k, _⟩ => k.sqT hft) ?_ ?_
  · rintro i y H2 hi ⟨k2, h2⟩
    have hil := (List.getElem?_eq_some_iff.mp hi).1
    obtain ⟨g, t, r, u, hg, rfl, ht, _, _⟩ := fn_at (Dp.keepAll k2 _ _ (fd_fz _) hrs) hi
    refine ⟨rfl, ?_⟩
    refine ⟨_, rfl, t, _, _, _, rfl, rfl, ht, at_of (j := 0) rfl rfl, _, h2, ?_, k2.mut hlu, ?_⟩
    · rw [List.length_map, List.length_map, List.length_take]
      exact small1000 (by omega)
    · rw [upd_same, List.take_add_one, hg, List.map_append, List.map_append]
      rfl
  · rintro H2 ⟨k2, h2⟩
    rw [hrl, List.take_length] at h2
    refine ⟨_, rfl, lu, _, rfl, h2, hf.nd, by rw [List.length_map]; omega, fun H3 k3 => ?_⟩
    refine ⟨_, rfl, rfl, _, rfl, ?_⟩
    refine ite2 (fun c => ?_) (fun _ => ?_)
    · rw [decide_eq_true rfl] at c
      cases c
    have h3 := k3.lst h2 (fun m => nomatch m)
    have k3 := k1.trans (k2.trans k3)
    refine ⟨_, rfl, .ref pr, fs, d, rfl, Dp.keep k3 _ _ (prog_fz _ _) hd, hf.prOk, fun l xs H4 k4 hl0 hl hdx => ?_⟩
    have h4 := k4.lst h3 (fun m => nomatch m)
    refine ⟨l, rfl, ⟨_, SqL.of hl⟩, for_list (K := K) (a := l) (xs := xs) (fun i σ H' => ∃ v3, σ = [some (.ref pr), some (.ref lu), some .non, v3] ∧ Kp [] H4 H')
      ⟨_, rfl, Kp.refl _ _⟩ (fun i σ H' _ ⟨_, _, k⟩ => SqL.of (k.lst hl (fun m => nomatch m))) ?_ ?_⟩
    · rintro i x σ H5 hi ⟨v3, rfl, k5⟩
      obtain ⟨e, he, hde⟩ := (Dp.keepAll k5 _ _ (fd_fz _) hdx).at hi
      rw [List.getElem?_map] at he
      obtain ⟨g, hg, rfl⟩ : ∃ g, (fnsOf fs d)[i]? = some g ∧ e = fD g := by
        cases e1 : (fnsOf fs d)[i]? with
        | none => rw [e1] at he; cases he
        | some y => rw [e1] at he; exact ⟨y, rfl, (Option.some.inj he).symm⟩
      have gm := List.mem_of_getElem? hg
      exact ⟨_, rfl, _, rfl, x, g, lu, fs.map (·.1), rfl, hde, k5.lst h4 (fun m => nomatch m), hf.few g gm, hf.bd g gm, hf.ft g gm, hf.hid g gm, fun H6 k6 => ⟨_, rfl, k5.trans k6⟩⟩
    · rintro σ H5 ⟨v3, rfl, k5⟩
      exact ⟨_, rfl, q H5 (k3.trans (k4.trans k5))⟩
end
end Lz

set_option Elab.async false
set_option linter.all false
set_option maxRecDepth 100000
set_option maxHeartbeats 8000000
namespace Lz
open PySem PySem.Spec PyProof.Rows L2
theorem wss_nil (nm : List Str) : Lz.P.wss nm [] = [] := by cases nm <;> rfl
theorem preW_len (nm : List Str) (i : Nat) : (preW nm i).length ≤ 1 := by
  unfold preW
  split
  · exact Nat.le_refl _
  · exact Nat.zero_le _
theorem manys_take : ∀ (as : List Lz.P) (i : Nat), Lz.P.manys (as.take i) ≤ Lz.P.manys as
  | [], i => by rw [List.take_nil]; exact Nat.le_refl _
  | a :: as, 0 => Nat.zero_le _
  | a :: as, i + 1 => by
    have := manys_take as i
    show a.many + Lz.P.manys (as.take i) ≤ a.many + Lz.P.manys as
    omega
theorem lt_ws {nm : List Str} {as : List Lz.P} {b : Lz.P} (h : nm.length = as.length) : (P.lt nm as b).ws = (["let", numS (nm.length : Nat)] : List Str) ++ Lz.P.wss nm (P.lt nm as b).inn := by
  show ("let" : Str) :: numS (nm.length : Nat) :: (Lz.P.wss nm as ++ b.ws) = (["let", numS (nm.length : Nat)] : List Str) ++ Lz.P.wss nm (as ++ [b])
  rw [wss_snoc, preW_no (by omega)]
  rfl
theorem line10k : 10000 ≤ sizeLine := by decide +kernel
theorem small5000 {n : Nat} (h : n ≤ 5000) : n < 2 ^ 24 := by
  have : (2 : Nat) ^ 24 = 16777216 := by decide
  omega
def spWords (K : PySem.W.Frag) (n : Nat) : Sp := fun vs H Q _ => ∃ (v : V) (t : Lz.P) (F sc : List Str), vs = [v] ∧ Dp K H v t.data ∧ t.ok ∧ t.many ≤ 1000 ∧ t.deep ≤ n ∧ t.fit F sc ∧ ∀ (l : Addr) (H' : Hp), Kp [] H H' → H l = none → H' l = some (.lst (t.ws.map V.str)) → Q (.ref l) H'
section
variable {P : Program} {w : World} {K : PySem.W.Frag} {mg : Str → Option Value} {base : Heap} {f : Addr} {fd : FuncData}
abbrev sWordsOf : Stmt := topS 50
theorem scWordsOf : FnScope ["part", "kind", "names", "words", "at", "inner"] ["part"] (defScope sWordsOf) := ⟨rfl, rfl, rfl, by decide +kernel, rfl, by decide +kernel, by decide +kernel⟩
theorem ok_words {n j : Nat} (hj : 1 ≤ j) (F : Fun K "words_of" "words_of" sWordsOf f fd) (B : Bt mg) (mstr : mg "str" = none) (menum : mg "enumerate" = none) (CRowNames : C8.Cal P w K mg base 1 "row_names" (spRowNames K) []) (CWithin : C8.Cal P w K mg base 1 "within" (spInn K) []) (CWordsOf : C8.Cal P w K mg base j "words_of" (spWords K n) []) : FnOk P w K mg base CX0 (j + 1) f fd ["part"] (spWords K (n + 1)) := by
  have ml := B.len
  refine F.ok scWordsOf (fun vs H Q E h => ?_) (fun cdv A outer s H vs Q E hr h => ?_)
  · obtain ⟨v, t, F, sc, rfl, _⟩ := h
    rfl
  obtain ⟨v, t, F, sc, rfl, hd, hok, hmany, hdeep, hfit, q⟩ := h
  refine ⟨_, (pss_cons (ps_set (i := 1) scWordsOf.nd rfl (.inl rfl) (pe_ix (ix_tupK (K := K) rfl) (pv 0) pe_int (fun _ _ => rfl)))
    (pss_cons (ps_if (pt_cmpR op_eq (pv 1) pe_str (nomark _)) (pss_one (ps_ret (pe_lst (pa_cons (pe_callTy call_str_int (by rfl) mstr (by decide +kernel) (pa_cons (pe_ix (ix_tupK (K := K) rfl) (pv 0) pe_int (fun _ _ => rfl)) pa_nil)) pa_nil)))) pss_nil)
    (pss_cons (ps_if (pt_cmpR op_eq (pv 1) pe_str (nomark _)) (pss_one (ps_ret (pe_lst (pa_cons (pe_op op_add_str pe_str (pe_ix (ix_tupK (K := K) rfl) (pv 0) pe_int (fun _ _ => rfl))) pa_nil)))) pss_nil)
    (pss_cons (ps_if (pt_cmpR op_eq (pv 1) pe_str (nomark _)) (pss_one (ps_ret (pe_lst (pa_cons (pe_op op_add_str pe_str (pe_ix (ix_tupK (K := K) rfl) (pv 0) pe_int (fun _ _ => rfl))) pa_nil)))) pss_nil)
    (pss_cons (ps_set (i := 2) scWordsOf.nd rfl (.inl rfl) (C8.pe_c CRowNames hr (by first | decide | omega) (by rfl) (pa_cons (pv 0) pa_nil)))
    (pss_cons (ps_set (i := 3) scWordsOf.nd rfl (.inl rfl) (pe_ifExp (pt_cmpR op_eq (pv 1) pe_str (nomark _)) (pe_lst (pa_cons (pv 1) (pa_cons (pe_callTy call_str_int (by rfl) mstr (by decide +kernel) (pa_cons (pe_callB (call_lenK (K := K) rfl) (by rfl) ml PySem.boot_len (pa_cons (pv 2) pa_nil)) pa_nil)) pa_nil))) (pe_lst (pa_cons (pv 1) pa_nil))))
    (pss_cons (ps_for PassesOwn.never rfl (pi_enumK (K := K) rfl (by rfl) menum (pa_cons (C8.pe_c CWithin hr (by first | decide | omega) (by rfl) (pa_cons (pv 0) pa_nil)) pa_nil)) (pg_tupK (K := K) (n := 2) rfl rfl (pgs_cons (pg_name (i := 4) scWordsOf.nd rfl (.inl rfl)) (pgs_cons (pg_name (i := 5) scWordsOf.nd rfl (.inl rfl)) pgs_nil))) (C8.pss_cut (ps_if (pt_cmpR op_lt (pv 4) (pe_callB (call_lenK (K := K) rfl) (by rfl) ml PySem.boot_len (pa_cons (pv 2) pa_nil)) (nomark _)) (pss_one (ps_expr (pe_bmK (K := K) rfl PySem.F.plainAttrs_list PySem.F.slot_list_append PySem.F.type_list_append mt_append (pv 3) (pa_cons (pe_op op_add_str pe_str (pe_ix (ix_listK (K := K) rfl) (pv 2) (pv 4) (fun _ _ => rfl))) pa_nil)))) pss_nil)
    (pss_one (ps_expr (pe_bmK (K := K) rfl PySem.F.plainAttrs_list PySem.F.slot_list_extend PySem.F.type_list_extend mt_extend (pv 3) (pa_cons (C8.pe_c CWordsOf hr (by first | decide | omega) (by rfl) (pa_cons (pv 5) pa_nil)) pa_nil))))))
    (pss_one (ps_ret (pv 3)))))))))), ?_⟩
  cases t with
  | num i =>
    obtain ⟨a, u, rfl, ht, hu⟩ := two_at (k := "number") (e := .int i) hd
    cases hu
    refine ⟨_, rfl, a, _, _, _, rfl, rfl, ht, at_of (j := 0) rfl rfl, ?_⟩
    refine ⟨_, rfl, rfl, _, rfl, ?_⟩
    refine ite2 (fun _ => ?_) (fun c => absurd (decide_eq_true rfl) c)
    refine ⟨_, rfl, a, _, _, _, rfl, rfl, ht, at_of (j := 1) rfl rfl, i, rfl, log60 hfit, (by show 1 ≤ sizeLine; decide), fun l hl => ?_⟩
    exact q l _ (Kp.new hl) hl upd_same
  | nam x =>
    obtain ⟨a, u, rfl, ht, hu⟩ := two_at (k := "name") (e := .str x) hd
    cases hu
    have hx8 := (show nmOk x from hok).2.1
    refine ⟨_, rfl, a, _, _, _, rfl, rfl, ht, at_of (j := 0) rfl rfl, ?_⟩
    refine ⟨_, rfl, rfl, _, rfl, ?_⟩
    refine ite2 (fun c => absurd (V.str.inj (of_decide_eq_true c)) (by decide +kernel)) (fun _ => ?_)
    refine ⟨_, rfl, rfl, _, rfl, ?_⟩
    refine ite2 (fun _ => ?_) (fun c => absurd (decide_eq_true rfl) c)
    refine ⟨_, rfl, a, _, _, _, rfl, rfl, ht, at_of (j := 1) rfl rfl, _, _, rfl, rfl, (by show 1 + x.length ≤ sizeLine; have := line10k; omega), (by show 1 ≤ sizeLine; decide), fun l hl => ?_⟩
    exact q l _ (Kp.new hl) hl upd_same
  | fn x =>
    obtain ⟨a, u, rfl, ht, hu⟩ := two_at (k := "fun") (e := .str x) hd
    cases hu
    have hx8 := (show nmOk x from hok).2.1
    refine ⟨_, rfl, a, _, _, _, rfl, rfl, ht, at_of (j := 0) rfl rfl, ?_⟩
    refine ⟨_, rfl, rfl, _, rfl, ?_⟩
    refine ite2 (fun c => absurd (V.str.inj (of_decide_eq_true c)) (by decide +kernel)) (fun _ => ?_)
    refine ⟨_, rfl, rfl, _, rfl, ?_⟩
    refine ite2 (fun c => absurd (V.str.inj (of_decide_eq_true c)) (by decide +kernel)) (fun _ => ?_)
    refine ⟨_, rfl, rfl, _, rfl, ?_⟩
    refine ite2 (fun _ => ?_) (fun c => absurd (decide_eq_true rfl) c)
    refine ⟨_, rfl, a, _, _, _, rfl, rfl, ht, at_of (j := 1) rfl rfl, _, _, rfl, rfl, (by show 1 + x.length ≤ sizeLine; have := line10k; omega), (by show 1 ≤ sizeLine; decide), fun l hl => ?_⟩
    exact q l _ (Kp.new hl) hl upd_same
  | op k as =>
    have hk := (show (k, as.length) ∈ kinds ∧ Lz.P.oks as from hok).1
    have hp := kind_plain hk
    have hnm : ∀ x, x ∈ ([] : List Str) → nmOk x := fun _ m => nomatch m
    obtain ⟨a, vs, rfl, ht, _⟩ := op_atU hd
    refine ⟨_, rfl, a, _, _, _, rfl, rfl, ht, at_of (j := 0) rfl rfl, ?_⟩
    refine ⟨_, rfl, rfl, _, rfl, ?_⟩
    refine ite2 (fun c => absurd (V.str.inj (of_decide_eq_true c)) hp.2.1) (fun _ => ?_)
    refine ⟨_, rfl, rfl, _, rfl, ?_⟩
    refine ite2 (fun c => absurd (V.str.inj (of_decide_eq_true c)) hp.2.2.1) (fun _ => ?_)
    refine ⟨_, rfl, rfl, _, rfl, ?_⟩
    refine ite2 (fun c => absurd (V.str.inj (of_decide_eq_true c)) hp.2.2.2) (fun _ => ?_)
    refine ⟨_, rfl, .ref a, .op k as, rfl, hd, hok, Nat.zero_le _, fun ln H1 k1 hln0 hln => ?_⟩
    refine ⟨_, rfl, rfl, _, rfl, ?_⟩
    refine ite2 (fun c => absurd (V.str.inj (of_decide_eq_true c)) hp.1) (fun _ => ?_)
    refine ⟨_, rfl, (by show 1 ≤ sizeLine; decide), fun lw hlw => ?_⟩
    have hlwH : H lw = none := k1.free hlw (fun m => nomatch m)
    have kx : Kp [] H1 (upd H1 lw (.lst [.str k])) := Kp.new hlw
    have k2 := k1.trans kx
    have hln2 : (upd H1 lw (.lst [.str k])) ln = some (.lst ((([] : List Str)).map V.str)) := kx.lst hln (fun m => nomatch m)
    have hlw2 : (upd H1 lw (.lst [.str k])) lw = some (.lst (([k] : List Str).map V.str)) := upd_same
    have hnlw : ln ≠ lw := ne_of_none hln hlw
    generalize upd H1 lw (.lst [.str k]) = H2 at k2 hln2 hlw2 ⊢
    refine ⟨_, rfl, .ref a, .op k as, rfl, Dp.keep k2 _ _ (data_fz _) hd, hok, hmany, fun li xs H3 k3 hli0 hli hdx => ?_⟩
    have hln3 := k3.lst hln2 (fun m => nomatch m)
    have hlw3 := k3.lst hlw2 (fun m => nomatch m)
    have nlw : li ≠ lw := (ne_of_none hlw2 hli0).symm
    refine ⟨li, xs, rfl, SqL.of hli, for_it (walk_enum (K := K) (a := li) (xs := xs)) (fun i σ H' => ∃ (v4 v5 : Option V), σ = [some (.ref a), some (.str k), some (.ref ln), some (.ref lw), v4, v5] ∧ Kp [] H H' ∧ H' li = some (.lst xs) ∧ DpAll K H' xs (Lz.P.datas (Lz.P.op k as).inn) ∧ H' ln = some (.lst ((([] : List Str)).map V.str)) ∧ H' lw = some (.lst (([k] ++ Lz.P.wss (([] : List Str)) ((Lz.P.op k as).inn.take i)).map V.str)))
      ⟨none, none, rfl, k2.trans k3, hli, hdx, hln3, by rw [show Lz.P.wss (([] : List Str)) ((Lz.P.op k as).inn.take 0) = [] from wss_nil _, List.append_nil]; exact hlw3⟩ (fun i σ H' _ ⟨_, _, _, _, h, _⟩ => SqL.of h) ?_ ?_⟩
    · rintro i x σ H4 H5 hi ⟨v4, v5, rfl, k4, hli4, hdx4, hln4, hlw4⟩ ⟨T, a1, a2, rfl, hT, rfl, e1, e2⟩
      obtain rfl := Option.some.inj e1
      have k5 : Kp [] H4 (upd H4 T (.tup [.int (i : Nat), a2])) := Kp.new hT
      have hT5 : (upd H4 T (.tup [.int (i : Nat), a2])) T = some (.tup [.int (i : Nat), a2]) := upd_same
      obtain ⟨d, had, hdd⟩ := part_atU (Dp.keepAll k5 _ _ (datas_fz _) hdx4) (show xs[i]? = some a2 from e2)
      have hli5 := k5.lst hli4 (fun m => nomatch m)
      have hln5 := k5.lst hln4 (fun m => nomatch m)
      have hlw5 := k5.lst hlw4 (fun m => nomatch m)
      have hdx5 := Dp.keepAll k5 _ _ (datas_fz _) hdx4
      have kk5 := k4.trans k5
      generalize upd H4 T (.tup [.int (i : Nat), a2]) = H5 at hT5 hdd hli5 hln5 hlw5 hdx5 kk5 ⊢
      refine ⟨T, _, rfl, SqT.of hT5, rfl, _, _, rfl, _, _, rfl, rfl, ?_⟩
      have hlt : i < (Lz.P.op k as).inn.length := (List.getElem?_eq_some_iff.mp had).1
      have hlen : ([k] ++ Lz.P.wss (([] : List Str)) ((Lz.P.op k as).inn.take i)).length ≤ 5000 := by
        have h1 := wss_len (([] : List Str)) ((Lz.P.op k as).inn.take i)
        have h2 := manys_take (Lz.P.op k as).inn i
        have h3 := many_inn (.op k as)
        rw [List.length_append]
        show 1 + _ ≤ 5000
        omega
      refine ⟨fun σ' H' => σ' = [some (.ref a), some (.str k), some (.ref ln), some (.ref lw), some (.int (i : Nat)), some a2] ∧ Kp [] H H' ∧ Kp [lw] H5 H' ∧ H' lw = some (.lst (([k] ++ Lz.P.wss (([] : List Str)) ((Lz.P.op k as).inn.take i) ++ preW (([] : List Str)) i).map V.str)), ?_, ?_⟩
      · refine ⟨_, rfl, _, rfl, ln, _, rfl, .inl (SqL.of hln5), _, _, rfl, rfl, _, rfl, ?_⟩
        rw [List.length_map]
        refine ite2 (fun c => ?_) (fun c => ?_)
        · have hil : i < (([] : List Str)).length := Int.ofNat_lt.mp (of_decide_eq_true c)
          have hx := List.getElem?_eq_getElem hil
          have hxm := List.getElem_mem hil
          generalize (([] : List Str))[i] = nx at hx hxm
          have hx8 := (hnm nx hxm).2.1
          refine ⟨_, rfl, .inl ⟨rfl, _, SqL.of hlw5⟩, _, rfl, _, rfl, ln, _, _, _, rfl, rfl, SqL.of hln5, at_of (j := i) rfl (by rw [List.getElem?_map, hx]; rfl), _, _, rfl, rfl, (by show 1 + nx.length ≤ sizeLine; have := line10k; omega), lw, _, _, rfl, rfl, hlw5, small5000 (by rw [List.length_map]; exact hlen), ?_⟩
          refine ⟨rfl, kk5.mut hlwH, Kp.put hlw5 List.mem_cons_self, ?_⟩
          rw [upd_same, preW_of hx, List.map_append (l₂ := [("." : Str) ++ nx])]
          rfl
        · have hil : (([] : List Str)).length ≤ i := by
            have : ¬ ((i : Int) < ((([] : List Str)).length : Int)) := of_decide_eq_false (Bool.eq_false_iff.mpr c)
            omega
          refine ⟨rfl, kk5, Kp.refl _ _, ?_⟩
          rw [preW_no hil, List.append_nil]
          exact hlw5
      · rintro σ' H6 ⟨rfl, k6, k56, hlw6⟩
        obtain ⟨dok, dm, ddp⟩ := inn_fits hok hmany hdeep had
        have dfit := fit_inn hfit d (List.mem_of_getElem? had)
        have hlen2 : ([k] ++ Lz.P.wss (([] : List Str)) ((Lz.P.op k as).inn.take i) ++ preW (([] : List Str)) i).length ≤ 5001 := by
          have h1 := preW_len (([] : List Str)) i
          rw [List.length_append]
          omega
        refine ⟨_, rfl, .inl ⟨rfl, _, SqL.of hlw6⟩, _, rfl, a2, d, F, _, rfl, Dp.keep k56 _ _ (data_fz _) hdd, dok, dm, ddp, dfit, fun l2 H7 k7 hl20 hl2 => ?_⟩
        have hlw7 := k7.lst hlw6 (fun m => nomatch m)
        have hdl := ws_len d
        refine ⟨lw, l2, _, _, rfl, rfl, hlw7, hl2, ?_, ?_⟩
        · rw [List.length_map, List.length_map]
          have := line10k
          omega
        · have k57 : Kp [lw] H5 H7 := k56.trans (k7.mono (fun _ m => nomatch m))
          have kput : Kp [lw] H7 (upd H7 lw (.lst (([k] ++ Lz.P.wss (([] : List Str)) ((Lz.P.op k as).inn.take i) ++ preW (([] : List Str)) i).map V.str ++ d.ws.map V.str))) := Kp.put hlw7 List.mem_cons_self
          have nln : ln ≠ lw := hnlw
          refine ⟨_, _, rfl, (k6.trans k7).mut hlwH, (k57.trans kput).lst hli5 (not1 nlw), Dp.keepAll (k57.trans kput) _ _ (datas_fz _) hdx5, (k57.trans kput).lst hln5 (not1 nln), ?_⟩
          rw [upd_same, List.take_add_one, had]
          have e := wss_snoc (([] : List Str)) ((Lz.P.op k as).inn.take i) d
          rw [List.length_take, Nat.min_eq_left (Nat.le_of_lt hlt)] at e
          show some (HO.lst _) = some (HO.lst (([k] ++ Lz.P.wss (([] : List Str)) ((Lz.P.op k as).inn.take i ++ [d])).map V.str))
          rw [e, ← List.map_append, List.append_assoc, List.append_assoc]
    · rintro σ H4 ⟨v4, v5, rfl, k4, hli4, hdx4, hln4, hlw4⟩
      have hxl : xs.length = (Lz.P.op k as).inn.length := by rw [hdx4.length, datas_len]
      rw [hxl, List.take_length] at hlw4
      refine ⟨_, rfl, q lw H4 k4 hlwH ?_⟩
      rw [hlw4]
      exact congrArg (fun z : List Str => some (HO.lst (z.map V.str))) rfl
  | lt nm as b =>
    have hnm : ∀ x, x ∈ nm → nmOk x := (show nm.length = as.length ∧ (∀ x, x ∈ nm → nmOk x) ∧ Lz.P.oks as ∧ Lz.P.ok b from hok).2.1
    have h4 : nm.length ≤ 4 := hfit.2.1
    obtain ⟨a, r, rs, vb, rfl, ht, _⟩ := let_atU hd
    refine ⟨_, rfl, a, _, _, _, rfl, rfl, ht, at_of (j := 0) rfl rfl, ?_⟩
    refine ⟨_, rfl, rfl, _, rfl, ?_⟩
    refine ite2 (fun c => absurd (V.str.inj (of_decide_eq_true c)) (by decide +kernel)) (fun _ => ?_)
    refine ⟨_, rfl, rfl, _, rfl, ?_⟩
    refine ite2 (fun c => absurd (V.str.inj (of_decide_eq_true c)) (by decide +kernel)) (fun _ => ?_)
    refine ⟨_, rfl, rfl, _, rfl, ?_⟩
    refine ite2 (fun c => absurd (V.str.inj (of_decide_eq_true c)) (by decide +kernel)) (fun _ => ?_)
    refine ⟨_, rfl, .ref a, .lt nm as b, rfl, hd, hok, h4, fun ln H1 k1 hln0 hln => ?_⟩
    have hln : H1 ln = some (.lst (nm.map V.str)) := hln
    refine ⟨_, rfl, rfl, _, rfl, ?_⟩
    refine ite2 (fun _ => ?_) (fun c => absurd (decide_eq_true rfl) c)
    refine ⟨_, rfl, _, rfl, ln, _, rfl, .inl (SqL.of hln), _, rfl, log60 (small60 (by rw [List.length_map]; omega)), (by show 2 ≤ sizeLine; decide), fun lw hlw => ?_⟩
    show tSeq _ _ _ _ (upd H1 lw (.lst [.str "let", .str (numS ((nm.map V.str).length : Nat))]))
    rw [List.length_map]
    have hlwH : H lw = none := k1.free hlw (fun m => nomatch m)
    have kx : Kp [] H1 (upd H1 lw (.lst [.str "let", .str (numS (nm.length : Nat))])) := Kp.new hlw
    have k2 := k1.trans kx
    have hln2 : (upd H1 lw (.lst [.str "let", .str (numS (nm.length : Nat))])) ln = some (.lst (nm.map V.str)) := kx.lst hln (fun m => nomatch m)
    have hlw2 : (upd H1 lw (.lst [.str "let", .str (numS (nm.length : Nat))])) lw = some (.lst ((["let", numS (nm.length : Nat)] : List Str).map V.str)) := upd_same
    have hnlw : ln ≠ lw := ne_of_none hln hlw
    generalize upd H1 lw (.lst [.str "let", .str (numS (nm.length : Nat))]) = H2 at k2 hln2 hlw2 ⊢
    refine ⟨_, rfl, .ref a, .lt nm as b, rfl, Dp.keep k2 _ _ (data_fz _) hd, hok, hmany, fun li xs H3 k3 hli0 hli hdx => ?_⟩
    have hln3 := k3.lst hln2 (fun m => nomatch m)
    have hlw3 := k3.lst hlw2 (fun m => nomatch m)
    have nlw : li ≠ lw := (ne_of_none hlw2 hli0).symm
    refine ⟨li, xs, rfl, SqL.of hli, for_it (walk_enum (K := K) (a := li) (xs := xs)) (fun i σ H' => ∃ (v4 v5 : Option V), σ = [some (.ref a), some (.str "let"), some (.ref ln), some (.ref lw), v4, v5] ∧ Kp [] H H' ∧ H' li = some (.lst xs) ∧ DpAll K H' xs (Lz.P.datas (Lz.P.lt nm as b).inn) ∧ H' ln = some (.lst ((nm).map V.str)) ∧ H' lw = some (.lst (((["let", numS (nm.length : Nat)] : List Str) ++ Lz.P.wss (nm) ((Lz.P.lt nm as b).inn.take i)).map V.str)))
      ⟨none, none, rfl, k2.trans k3, hli, hdx, hln3, by rw [show Lz.P.wss (nm) ((Lz.P.lt nm as b).inn.take 0) = [] from wss_nil _, List.append_nil]; exact hlw3⟩ (fun i σ H' _ ⟨_, _, _, _, h, _⟩ => SqL.of h) ?_ ?_⟩
    · rintro i x σ H4 H5 hi ⟨v4, v5, rfl, k4, hli4, hdx4, hln4, hlw4⟩ ⟨T, a1, a2, rfl, hT, rfl, e1, e2⟩
      obtain rfl := Option.some.inj e1
      have k5 : Kp [] H4 (upd H4 T (.tup [.int (i : Nat), a2])) := Kp.new hT
      have hT5 : (upd H4 T (.tup [.int (i : Nat), a2])) T = some (.tup [.int (i : Nat), a2]) := upd_same
      obtain ⟨d, had, hdd⟩ := part_atU (Dp.keepAll k5 _ _ (datas_fz _) hdx4) (show xs[i]? = some a2 from e2)
      have hli5 := k5.lst hli4 (fun m => nomatch m)
      have hln5 := k5.lst hln4 (fun m => nomatch m)
      have hlw5 := k5.lst hlw4 (fun m => nomatch m)
      have hdx5 := Dp.keepAll k5 _ _ (datas_fz _) hdx4
      have kk5 := k4.trans k5
      generalize upd H4 T (.tup [.int (i : Nat), a2]) = H5 at hT5 hdd hli5 hln5 hlw5 hdx5 kk5 ⊢
      refine ⟨T, _, rfl, SqT.of hT5, rfl, _, _, rfl, _, _, rfl, rfl, ?_⟩
      have hlt : i < (Lz.P.lt nm as b).inn.length := (List.getElem?_eq_some_iff.mp had).1
      have hlen : ((["let", numS (nm.length : Nat)] : List Str) ++ Lz.P.wss (nm) ((Lz.P.lt nm as b).inn.take i)).length ≤ 5000 := by
        have h1 := wss_len (nm) ((Lz.P.lt nm as b).inn.take i)
        have h2 := manys_take (Lz.P.lt nm as b).inn i
        have h3 := many_inn (.lt nm as b)
        rw [List.length_append]
        show 2 + _ ≤ 5000
        omega
      refine ⟨fun σ' H' => σ' = [some (.ref a), some (.str "let"), some (.ref ln), some (.ref lw), some (.int (i : Nat)), some a2] ∧ Kp [] H H' ∧ Kp [lw] H5 H' ∧ H' lw = some (.lst (((["let", numS (nm.length : Nat)] : List Str) ++ Lz.P.wss (nm) ((Lz.P.lt nm as b).inn.take i) ++ preW (nm) i).map V.str)), ?_, ?_⟩
      · refine ⟨_, rfl, _, rfl, ln, _, rfl, .inl (SqL.of hln5), _, _, rfl, rfl, _, rfl, ?_⟩
        rw [List.length_map]
        refine ite2 (fun c => ?_) (fun c => ?_)
        · have hil : i < (nm).length := Int.ofNat_lt.mp (of_decide_eq_true c)
          have hx := List.getElem?_eq_getElem hil
          have hxm := List.getElem_mem hil
          generalize (nm)[i] = nx at hx hxm
          have hx8 := (hnm nx hxm).2.1
          refine ⟨_, rfl, .inl ⟨rfl, _, SqL.of hlw5⟩, _, rfl, _, rfl, ln, _, _, _, rfl, rfl, SqL.of hln5, at_of (j := i) rfl (by rw [List.getElem?_map, hx]; rfl), _, _, rfl, rfl, (by show 1 + nx.length ≤ sizeLine; have := line10k; omega), lw, _, _, rfl, rfl, hlw5, small5000 (by rw [List.length_map]; exact hlen), ?_⟩
          refine ⟨rfl, kk5.mut hlwH, Kp.put hlw5 List.mem_cons_self, ?_⟩
          rw [upd_same, preW_of hx, List.map_append (l₂ := [("." : Str) ++ nx])]
          rfl
        · have hil : (nm).length ≤ i := by
            have : ¬ ((i : Int) < ((nm).length : Int)) := of_decide_eq_false (Bool.eq_false_iff.mpr c)
            omega
          refine ⟨rfl, kk5, Kp.refl _ _, ?_⟩
          rw [preW_no hil, List.append_nil]
          exact hlw5
      · rintro σ' H6 ⟨rfl, k6, k56, hlw6⟩
        obtain ⟨dok, dm, ddp⟩ := inn_fits hok hmany hdeep had
        have dfit := fit_inn hfit d (List.mem_of_getElem? had)
        have hlen2 : ((["let", numS (nm.length : Nat)] : List Str) ++ Lz.P.wss (nm) ((Lz.P.lt nm as b).inn.take i) ++ preW (nm) i).length ≤ 5001 := by
          have h1 := preW_len (nm) i
          rw [List.length_append]
          omega
        refine ⟨_, rfl, .inl ⟨rfl, _, SqL.of hlw6⟩, _, rfl, a2, d, F, _, rfl, Dp.keep k56 _ _ (data_fz _) hdd, dok, dm, ddp, dfit, fun l2 H7 k7 hl20 hl2 => ?_⟩
        have hlw7 := k7.lst hlw6 (fun m => nomatch m)
        have hdl := ws_len d
        refine ⟨lw, l2, _, _, rfl, rfl, hlw7, hl2, ?_, ?_⟩
        · rw [List.length_map, List.length_map]
          have := line10k
          omega
        · have k57 : Kp [lw] H5 H7 := k56.trans (k7.mono (fun _ m => nomatch m))
          have kput : Kp [lw] H7 (upd H7 lw (.lst (((["let", numS (nm.length : Nat)] : List Str) ++ Lz.P.wss (nm) ((Lz.P.lt nm as b).inn.take i) ++ preW (nm) i).map V.str ++ d.ws.map V.str))) := Kp.put hlw7 List.mem_cons_self
          have nln : ln ≠ lw := hnlw
          refine ⟨_, _, rfl, (k6.trans k7).mut hlwH, (k57.trans kput).lst hli5 (not1 nlw), Dp.keepAll (k57.trans kput) _ _ (datas_fz _) hdx5, (k57.trans kput).lst hln5 (not1 nln), ?_⟩
          rw [upd_same, List.take_add_one, had]
          have e := wss_snoc (nm) ((Lz.P.lt nm as b).inn.take i) d
          rw [List.length_take, Nat.min_eq_left (Nat.le_of_lt hlt)] at e
          show some (HO.lst _) = some (HO.lst (((["let", numS (nm.length : Nat)] : List Str) ++ Lz.P.wss (nm) ((Lz.P.lt nm as b).inn.take i ++ [d])).map V.str))
          rw [e, ← List.map_append, List.append_assoc, List.append_assoc]
    · rintro σ H4 ⟨v4, v5, rfl, k4, hli4, hdx4, hln4, hlw4⟩
      have hxl : xs.length = (Lz.P.lt nm as b).inn.length := by rw [hdx4.length, datas_len]
      rw [hxl, List.take_length] at hlw4
      refine ⟨_, rfl, q lw H4 k4 hlwH ?_⟩
      rw [hlw4]
      exact congrArg (fun z : List Str => some (HO.lst (z.map V.str))) (lt_ws hok.1).symm
end
end Lz

set_option Elab.async false
set_option linter.all false
set_option maxRecDepth 100000
set_option maxHeartbeats 8000000
namespace Lz
open PySem PySem.Spec PyProof.Rows L2
structure TxOk (F sc : List Str) (t : Lz.P) : Prop where
  b : BodyOk t
  f : t.fit F sc
theorem TxOk.short {F sc : List Str} {t : Lz.P} (h : TxOk F sc t) : shortW t.ws := ws_short t sc h.b.ok h.f
theorem TxOk.len {F sc : List Str} {t : Lz.P} (h : TxOk F sc t) : t.ws.length ≤ 180 := by
  have h1 := ws_len t
  have h2 := h.b.many
  omega
theorem few_words {l : List Str} {n : Nat} (h : shortW l) (hl : l.length ≤ n) (s : Str) (hs : s.length = 1) : (l.map (·.length)).sum + l.length * s.length ≤ 1922 * n := by
  have h1 := sum_le h
  rw [hs]
  omega
theorem TxOk.sum {F sc : List Str} {t : Lz.P} (h : TxOk F sc t) : (t.ws.map (·.length)).sum + t.ws.length * (" " : Str).length ≤ 16777216 := by
  have := few_words h.short h.len " " (by decide +kernel)
  omega
theorem TxOk.txt {F sc : List Str} {t : Lz.P} (h : TxOk F sc t) : t.txt.length ≤ 400000 := by
  have h1 := join_len " " t.ws
  have h2 := few_words h.short h.len " " (by decide +kernel)
  show (Str.join " " t.ws).length ≤ _
  omega
def spPartT (K : PySem.W.Frag) : Sp := fun vs H Q _ => ∃ (v : V) (t : Lz.P) (F sc : List Str), vs = [v] ∧ Dp K H v t.data ∧ TxOk F sc t ∧ ∀ H', Kp [] H H' → Q (.str t.txt) H'
/-- a function whose row is written -/
structure FnT (F : List Str) (g : Fn) : Prop where
  nm : g.1.length ≤ 8
  th : g.2.1.length ≤ 4
  ns : ∀ x, x ∈ g.2.1 → nmOk x
  bd : TxOk F g.2.1 g.2.2
theorem fnW_short {F : List Str} {g : Fn} (h : FnT F g) : shortW (fnW g) := by
  refine .cons (by have := h.nm; omega) (.app (fun w m => ?_) (.cons (by decide +kernel) h.bd.short))
  obtain ⟨x, hx, rfl⟩ := List.mem_map.mp m
  exact one_name (h.ns x hx) (by decide +kernel)
theorem fnW_len {F : List Str} {g : Fn} (h : FnT F g) : (fnW g).length ≤ 190 := by
  have h1 := h.bd.len
  have h2 := h.th
  show (g.2.1.map _ ++ ("=" : Str) :: g.2.2.ws).length + 1 ≤ 190
  rw [List.length_append, List.length_map, List.length_cons]
  omega
theorem fnT_sum {F : List Str} {g : Fn} (h : FnT F g) : ((fnW g).map (·.length)).sum + (fnW g).length * (" " : Str).length ≤ 16777216 := by
  have := few_words (fnW_short h) (fnW_len h) " " (by decide +kernel)
  omega
theorem fnT_len {F : List Str} {g : Fn} (h : FnT F g) : (Str.join " " (fnW g)).length ≤ 400000 := by
  have h1 := join_len " " (fnW g)
  have h2 := few_words (fnW_short h) (fnW_len h) " " (by decide +kernel)
  omega
def spFnT (K : PySem.W.Frag) : Sp := fun vs H Q _ => ∃ (v : V) (g : Fn) (F : List Str), vs = [v] ∧ Dp K H v (fD g) ∧ FnT F g ∧ ∀ H', Kp [] H H' → Q (.str (Str.join " " (fnW g))) H'
theorem fn_oneT {K : PySem.W.Frag} {H : Hp} {v : V} {g : Fn} (h : Dp K H v (fD g)) : ∃ t r u, v = .ref t ∧ SqT K H t [.str g.1, .ref r, u] ∧ SqT K H r (g.2.1.map V.str) ∧ Dp K H u g.2.2.data := by
  obtain ⟨g', t, r, u, hg, e, h1, h2, h3⟩ := fn_atU (gs := [g]) (i := 0) (DpAll.one h) rfl
  obtain rfl : g = g' := Option.some.inj hg
  exact ⟨t, r, u, e, h1, h2, h3⟩
section
variable {P : Program} {w : World} {K : PySem.W.Frag} {mg : Str → Option Value} {base : Heap} {f : Addr} {fd : FuncData}
abbrev sPartText : Stmt := topS 51
theorem scPartText : FnScope ["part"] ["part"] (defScope sPartText) := ⟨rfl, rfl, rfl, by decide +kernel, rfl, by decide +kernel, by decide +kernel⟩
theorem ok_partT {j : Nat} (hj : 1 ≤ j) (F : Fun K "part_text" "part_text" sPartText f fd) (CWordsOf : C8.Cal P w K mg base j "words_of" (spWords K 12) []) : FnOk P w K mg base CX0 (j + 1) f fd ["part"] (spPartT K) := by
  refine F.ok scPartText (fun vs H Q E h => ?_) (fun cdv A outer s H vs Q E hr h => ?_)
  · obtain ⟨v, t, F, sc, rfl, _⟩ := h
    rfl
  obtain ⟨v, t, F, sc, rfl, hd, hx, q⟩ := h
  refine ⟨_, (pss_one (ps_ret (pe_join pe_str (C8.pe_c CWordsOf hr (by first | decide | omega) (by rfl) (pa_cons (pv 0) pa_nil))))), ?_⟩
  refine ⟨⟨_, rfl⟩, _, rfl, v, t, F, sc, rfl, hd, hx.b.ok, (by have := hx.b.many; omega), hx.b.deep, hx.f, fun l H1 k1 hl0 hl => ?_⟩
  refine ⟨_, l, t.ws, rfl, rfl, .inl (SqL.of hl), hx.sum, ?_⟩
  rw [TL.join_eq]
  exact q H1 k1
abbrev sFunctionText : Stmt := topS 52
theorem scFunctionText : FnScope ["function", "name", "names", "body", "own"] ["function"] (defScope sFunctionText) := ⟨rfl, rfl, rfl, by decide +kernel, rfl, by decide +kernel, by decide +kernel⟩
theorem ok_fnT {j : Nat} (hj : 1 ≤ j) (F : Fun K "function_text" "function_text" sFunctionText f fd) (CWordsOf : C8.Cal P w K mg base j "words_of" (spWords K 12) []) : FnOk P w K mg base CX0 (j + 1) f fd ["function"] (spFnT K) := by
  refine F.ok scFunctionText (fun vs H Q E h => ?_) (fun cdv A outer s H vs Q E hr h => ?_)
  · obtain ⟨v, g, F, rfl, _⟩ := h
    rfl
  obtain ⟨v, g, F, rfl, hd, hx, q⟩ := h
  refine ⟨_, (pss_cons (ps_asg (pv 0) (pg_tupK (K := K) (n := 3) rfl rfl (pgs_cons (pg_name (i := 1) scFunctionText.nd rfl (.inl rfl)) (pgs_cons (pg_name (i := 2) scFunctionText.nd rfl (.inl rfl)) (pgs_cons (pg_name (i := 3) scFunctionText.nd rfl (.inl rfl)) pgs_nil)))))
    (pss_one (ps_ret (pe_join pe_str (pe_lst (pa_cons (pv 1) (StX.pa_starK (K := K) rfl (pe_lc (own := [("own", 4)]) rfl scFunctionText.nd (pi_tupK (K := K) rfl (pv 2)) (blkOk_by (N := ["function", "name", "names", "body", "own"]) (sc := defScope sFunctionText) (by decide +kernel)) (fun _ _ _ _ _ => (pg_name (i := 4) scFunctionText.nd rfl (.inl rfl))) (fun _ _ _ _ _ => pts_nil) (fun _ _ _ _ _ => (pe_op op_add_str pe_str (pv 4)))) (pa_cons pe_str (StX.pa_starK (K := K) rfl (C8.pe_c CWordsOf hr (by first | decide | omega) (by rfl) (pa_cons (pv 3) pa_nil)) pa_nil))))))))), ?_⟩
  obtain ⟨t, r, u, rfl, ht, hr0, hu⟩ := fn_oneT hd
  refine ⟨_, rfl, t, _, rfl, ht, rfl, _, _, rfl, _, _, rfl, _, _, rfl, rfl, ?_⟩
  refine ⟨⟨_, rfl⟩, _, rfl, _, rfl, r, rfl, ⟨_, hr0⟩, fun D hD => ?_⟩
  have h4 := hx.th
  refine lc_tup (K := K) (a := r) (xs := g.2.1.map V.str) (fun i H' => Kp [] H H' ∧ H' D = some (.lst (((g.2.1.take i).map (fun x => ("." : Str) ++ x)).map V.str)))
    ⟨Kp.new hD, upd_same⟩ (fun i H' _ ⟨k, _⟩ => k.sqT hr0) ?_ ?_
  · rintro i x H1 hi ⟨k1, h1⟩
    rw [List.getElem?_map] at hi
    obtain ⟨y, hy, rfl⟩ : ∃ y, g.2.1[i]? = some y ∧ x = V.str y := by
      cases e : g.2.1[i]? with
      | none => rw [e] at hi; cases hi
      | some y => rw [e] at hi; exact ⟨y, rfl, (Option.some.inj hi).symm⟩
    have hy8 := (hx.ns y (List.mem_of_getElem? hy)).2.1
    refine ⟨rfl, ?_⟩
    refine ⟨_, rfl, _, _, rfl, rfl, (by show 1 + y.length ≤ sizeLine; have := line10k; omega), _, h1, (by rw [List.length_map, List.length_map, List.length_take]; exact small1000 (by omega)), k1.mut hD, ?_⟩
    rw [upd_same, List.take_add_one, hy, List.map_append, List.map_append]
    rfl
  · rintro H1 ⟨k1, h1⟩
    rw [List.length_map, List.take_length] at h1
    refine ⟨D, _, rfl, .inr (SqL.of h1), _, rfl, u, g.2.2, F, g.2.1, rfl, Dp.keep k1 _ _ (data_fz _) hu, hx.bd.b.ok, (by have := hx.bd.b.many; omega), hx.bd.b.deep, hx.bd.f, fun l H2 k2 hl0 hl => ?_⟩
    refine ⟨l, _, rfl, .inr (SqL.of hl), ?_, fun lf hlf => ?_⟩
    · have h5 := hx.bd.len
      have := line10k
      simp only [List.length_cons, List.length_append, List.length_map, List.length_nil]
      omega
    · refine ⟨_, lf, fnW g, rfl, rfl, .inl (SqL.of ?_), fnT_sum hx, ?_⟩
      · rw [upd_same]
        unfold fnW
        simp only [List.map_cons, List.map_append, List.append_nil]
      · rw [TL.join_eq]
        exact q _ (k1.trans (k2.trans (Kp.new hlf)))
end
end Lz

set_option Elab.async false
set_option linter.all false
set_option maxRecDepth 100000
set_option maxHeartbeats 8000000
namespace Lz
open PySem PySem.Spec PyProof.Rows L2
structure PrT (fs : List Fn) (d : Lz.P) : Prop where
  len : fs.length ≤ 8
  fn : ∀ g, g ∈ fs → FnT (fs.map (·.1)) g
  ak : TxOk (fs.map (·.1)) [] d
theorem Fits.prT {fs : List Fn} {d : Lz.P} (h : Fits fs d) : PrT fs d where
  len := h.len
  fn := fun g m => by
    have m' : g ∈ fnsOf fs d := List.mem_append_left _ m
    exact ⟨(h.nm g m).1.2.1, h.few g m', (h.nm g m).2, h.bd g m', h.ft g m'⟩
  ak := by
    have m' : (("" : Str), ([] : List Str), d) ∈ fnsOf fs d := List.mem_append_right _ List.mem_cons_self
    exact ⟨h.bd _ m', h.ft _ m'⟩
def rowsT (fs : List Fn) (d : Lz.P) : List Str := (rowsW fs d).map (Str.join " ")
theorem rowsT_eq (fs : List Fn) (d : Lz.P) : rowsT fs d = fs.map (fun g => Str.join " " (fnW g)) ++ [("? " : Str) ++ d.txt] := by
  unfold rowsT rowsW
  rw [List.map_append, List.map_map, List.map_cons, List.map_nil, ask_text]
  rfl
theorem PrT.askS {fs : List Fn} {d : Lz.P} (h : PrT fs d) : shortW (("?" : Str) :: d.ws) := .cons (by decide +kernel) h.ak.short
theorem PrT.askL {fs : List Fn} {d : Lz.P} (h : PrT fs d) : (("?" : Str) :: d.ws).length ≤ 190 := by
  have := h.ak.len
  show d.ws.length + 1 ≤ 190
  omega
theorem PrT.rowL {fs : List Fn} {d : Lz.P} (h : PrT fs d) : ∀ w, w ∈ rowsT fs d → w.length ≤ 400000 := fun w m => by
  obtain ⟨l, hl, rfl⟩ := List.mem_map.mp m
  rcases List.mem_append.mp hl with m | m
  · obtain ⟨g, hg, rfl⟩ := List.mem_map.mp m
    exact fnT_len (h.fn g hg)
  · rw [List.mem_singleton.mp m]
    have h1 := join_len " " (("?" : Str) :: d.ws)
    have h2 := few_words h.askS h.askL " " (by decide +kernel)
    omega
theorem PrT.rowN {fs : List Fn} {d : Lz.P} (h : PrT fs d) : (rowsT fs d).length ≤ 9 := by
  rw [rowsT_eq, List.length_append, List.length_map]
  have := h.len
  show _ + 1 ≤ 9
  omega
theorem PrT.sum {fs : List Fn} {d : Lz.P} (h : PrT fs d) : ((rowsT fs d).map (·.length)).sum + (rowsT fs d).length * ("\n" : Str).length ≤ 16777216 := by
  have h1 := sum_le h.rowL
  have h2 := h.rowN
  have e : ("\n" : Str).length = 1 := by decide +kernel
  rw [e]
  omega
theorem lineBig : 500000 ≤ sizeLine := by decide +kernel
def spWritten (K : PySem.W.Frag) : Sp := fun vs H Q _ => ∃ (v : V) (fs : List Fn) (d : Lz.P), vs = [v] ∧ Dp K H v (progD fs d) ∧ PrT fs d ∧ ∀ H', Kp [] H H' → Q (.str (progT fs d)) H'
section
variable {P : Program} {w : World} {K : PySem.W.Frag} {mg : Str → Option Value} {base : Heap} {f : Addr} {fd : FuncData}
abbrev sWritten : Stmt := topS 53
theorem scWritten : FnScope ["program", "rows", "function"] ["program"] (defScope sWritten) := ⟨rfl, rfl, rfl, by decide +kernel, rfl, by decide +kernel, by decide +kernel⟩
theorem ok_written {j : Nat} (F : Fun K "written" "written" sWritten f fd) (CPartText : C8.Cal P w K mg base j "part_text" (spPartT K) []) (CFunctionText : C8.Cal P w K mg base j "function_text" (spFnT K) []) : FnOk P w K mg base CX0 (j + 1) f fd ["program"] (spWritten K) := by
  refine F.ok scWritten (fun vs H Q E h => ?_) (fun cdv A outer s H vs Q E hr h => ?_)
  · obtain ⟨v, fs, d, rfl, _⟩ := h
    rfl
  obtain ⟨v, fs, d, rfl, hd, hx, q⟩ := h
  refine ⟨_, (pss_cons (ps_setLc (i := 1) (own := [("function", 2)]) rfl scWritten.nd rfl rfl (sw_true rfl rfl rfl (by decide +kernel)) (pi_tupK (K := K) rfl (pe_ix (ix_tupK (K := K) rfl) (pv 0) pe_int (fun _ _ => rfl))) (blkOk_by (N := ["program", "rows", "function"]) (sc := defScope sWritten) (by decide +kernel)) (fun _ _ _ _ _ => (pg_name (i := 2) scWritten.nd rfl (.inl rfl))) (fun _ _ _ _ _ => pts_nil) (fun _ _ _ _ _ => (C8.pe_c CFunctionText hr (by first | decide | omega) (by rfl) (pa_cons (pv 2) pa_nil))))
    (pss_one (ps_ret (pe_join pe_str (pe_lst (StX.pa_starK (K := K) rfl (pv 1) (pa_cons (pe_op op_add_str pe_str (C8.pe_c CPartText hr (by first | decide | omega) (by rfl) (pa_cons (pe_ix (ix_tupK (K := K) rfl) (pv 0) pe_int (fun _ _ => rfl)) pa_nil))) pa_nil))))))), ?_⟩
  obtain ⟨pr, ft, rs, vd, rfl, hpr, hft, hrs, hvd⟩ := prog_at hd
  have hrl : rs.length = fs.length := by rw [hrs.length, List.length_map]
  have h8 := hx.len
  refine ⟨_, rfl, pr, _, _, _, rfl, rfl, hpr, at_of (j := 0) rfl rfl, ft, rfl, ⟨_, hft⟩, fun D hD => ?_⟩
  refine lc_tup (K := K) (a := ft) (xs := rs) (fun i H' => Kp [] H H' ∧ H' D = some (.lst (((fs.take i).map (fun g => Str.join " " (fnW g))).map V.str)))
    ⟨Kp.new hD, upd_same⟩ (fun i H' _ ⟨k, _⟩ => k.sqT hft) ?_ ?_
  · rintro i x H1 hi ⟨k1, h1⟩
    obtain ⟨e, he, hde⟩ := (Dp.keepAll k1 _ _ (fd_fz _) hrs).at hi
    rw [List.getElem?_map] at he
    obtain ⟨g, hg, rfl⟩ : ∃ g, fs[i]? = some g ∧ e = fD g := by
      cases e1 : fs[i]? with
      | none => rw [e1] at he; cases he
      | some y => rw [e1] at he; exact ⟨y, rfl, (Option.some.inj he).symm⟩
    refine ⟨rfl, ?_⟩
    refine ⟨_, rfl, x, g, _, rfl, hde, hx.fn g (List.mem_of_getElem? hg), fun H2 k2 => ?_⟩
    have h2 := k2.lst h1 (fun m => nomatch m)
    refine ⟨_, h2, (by rw [List.length_map, List.length_map, List.length_take]; exact small1000 (by omega)), (k1.trans k2).mut hD, ?_⟩
    rw [upd_same, List.take_add_one, hg, List.map_append, List.map_append]
    rfl
  · rintro H1 ⟨k1, h1⟩
    rw [hrl, List.take_length] at h1
    refine ⟨⟨_, rfl⟩, _, rfl, D, _, rfl, .inr (SqL.of h1), _, rfl, pr, _, _, _, rfl, rfl, k1.sqT hpr, at_of (j := 1) rfl rfl, vd, d, _, [], rfl, Dp.keep k1 _ _ (data_fz _) hvd, hx.ak, fun H2 k2 => ?_⟩
    have h9 := hx.rowN
    rw [rowsT_eq, List.length_append, List.length_map] at h9
    refine ⟨_, _, rfl, rfl, (by show 2 + d.txt.length ≤ sizeLine; have h1 := hx.ak.txt; have h2 := lineBig; omega), ?_, fun lf hlf => ?_⟩
    · rw [List.length_append, List.length_map, List.length_map]
      have := line10k
      show fs.length + 1 ≤ sizeLine
      omega
    · refine ⟨_, lf, rowsT fs d, rfl, rfl, .inl (SqL.of ?_), hx.sum, ?_⟩
      · rw [upd_same, rowsT_eq, List.map_append]
        rfl
      · rw [TL.join_eq]
        exact q _ (k1.trans (k2.trans (Kp.new hlf)))
end
end Lz

set_option Elab.async false
set_option linter.all false
set_option maxRecDepth 100000
set_option maxHeartbeats 8000000
namespace Lz
open PySem PySem.Spec PyProof.Rows L2
abbrev dkv : List (Key × V) := mergeK [] [(Sum.inr "name", .str "."), (Sum.inr "fun", .str ":")]
theorem inV_strW (x : Str) : ∀ xs : List Str, inV (.str x) (xs.map V.str) = decide (x ∈ xs)
  | [] => by
    show false = _
    rw [decide_eq_false (fun m => nomatch m)]
  | y :: r => by
    have e : inV (.str x) ((y :: r).map V.str) = ((y == x) || inV (.str x) (r.map V.str)) := rfl
    rw [e, inV_strW x r, Bool.eq_iff_iff, Bool.or_eq_true, beq_iff_eq, decide_eq_true_iff, decide_eq_true_iff, List.mem_cons]
    exact ⟨fun h => h.elim (fun h => .inl h.symm) .inr, fun h => h.elim (fun h => .inl h.symm) .inr⟩
section
variable {P : Program} {w : World} {K : PySem.W.Frag} {mg : Str → Option Value} {base : Heap} {f : Addr} {fd : FuncData}
abbrev sLWords : Stmt := topS 67
theorem scLWords : FnScope ["_law_part_here", "_law_found", "_law_row", "_law_one"] ["_law_part_here"] (defScope sLWords) := ⟨rfl, rfl, rfl, by decide +kernel, rfl, by decide +kernel, by decide +kernel⟩
theorem ok_lwords {n j : Nat} (hj : 1 ≤ j) (F : Fun K "_law_words" "_law_words" sLWords f fd) (B : Bt mg) (mstr : mg "str" = none) (CLWords : C8.Cal P w K mg base j "_law_words" (spWords K n) []) : FnOk P w K mg base CX0 (j + 1) f fd ["_law_part_here"] (spWords K (n + 1)) := by
  have ml := B.len
  refine F.ok scLWords (fun vs H Q E h => ?_) (fun cdv A outer s H vs Q E hr h => ?_)
  · obtain ⟨v, t, F, sc, rfl, _⟩ := h
    rfl
  have hu := hu_of hr
  obtain ⟨v, t, F, sc, rfl, hd, hok, hmany, hdeep, hfit, q⟩ := h
  refine ⟨_, (pss_cons (ps_if (pt_cmpR op_eq (pe_ix (ix_tupK (K := K) rfl) (pv 0) pe_int (fun _ _ => rfl)) pe_str (nomark _)) (pss_one (ps_ret (pe_lst (pa_cons (pe_callTy call_str_int (by rfl) mstr (by decide +kernel) (pa_cons (pe_ix (ix_tupK (K := K) rfl) (pv 0) pe_int (fun _ _ => rfl)) pa_nil)) pa_nil)))) pss_nil)
    (pss_cons (ps_if (pt_cmpR (op_inK (K := K) rfl) (pe_ix (ix_tupK (K := K) rfl) (pv 0) pe_int (fun _ _ => rfl)) (pe_tup (pa_cons pe_str (pa_cons pe_str pa_nil))) rfl) (pss_one (ps_ret (pe_lst (pa_cons (pe_op op_add_str (pe_dget hu (pe_disp (pps_cons pe_str pe_str (pps_cons pe_str pe_str pps_nil)) rfl rfl (by intro q; cases q) (by decide)) (pe_ix (ix_tupK (K := K) rfl) (pv 0) pe_int (fun _ _ => rfl)) (fun _ _ => rfl)) (pe_ix (ix_tupK (K := K) rfl) (pv 0) pe_int (fun _ _ => rfl))) pa_nil)))) pss_nil)
    (pss_cons (ps_if (pt_cmpR op_eq (pe_ix (ix_tupK (K := K) rfl) (pv 0) pe_int (fun _ _ => rfl)) pe_str (nomark _)) (pss_cons (ps_set (i := 1) scLWords.nd rfl (.inl rfl) (pe_lst (pa_cons pe_str (pa_cons (pe_callTy call_str_int (by rfl) mstr (by decide +kernel) (pa_cons (pe_callB (call_lenK (K := K) rfl) (by rfl) ml PySem.boot_len (pa_cons (pe_ix (ix_tupK (K := K) rfl) (pv 0) pe_int (fun _ _ => rfl)) pa_nil)) pa_nil)) pa_nil))))
    (pss_cons (ps_for PassesOwn.never rfl (pi_tupK (K := K) rfl (pe_ix (ix_tupK (K := K) rfl) (pv 0) pe_int (fun _ _ => rfl))) (pg_name (i := 2) scLWords.nd rfl (.inl rfl)) (pss_one (ps_set (i := 1) scLWords.nd rfl (.inl rfl) (pe_op op_cat (pe_op op_cat (pv 1) (pe_lst (pa_cons (pe_op op_add_str pe_str (pe_ix (ix_tupK (K := K) rfl) (pv 2) pe_int (fun _ _ => rfl))) pa_nil))) (C8.pe_c CLWords hr (by first | decide | omega) (by rfl) (pa_cons (pe_ix (ix_tupK (K := K) rfl) (pv 2) pe_int (fun _ _ => rfl)) pa_nil))))))
    (pss_one (ps_ret (pe_op op_cat (pv 1) (C8.pe_c CLWords hr (by first | decide | omega) (by rfl) (pa_cons (pe_ix (ix_tupK (K := K) rfl) (pv 0) pe_int (fun _ _ => rfl)) pa_nil))))))) pss_nil)
    (pss_cons (ps_set (i := 1) scLWords.nd rfl (.inl rfl) (pe_lst (pa_cons (pe_ix (ix_tupK (K := K) rfl) (pv 0) pe_int (fun _ _ => rfl)) pa_nil)))
    (pss_cons (ps_for PassesOwn.never rfl (pi_tupK (K := K) rfl (pe_slice (sl_tupAK (K := K) rfl) (pv 0) (po_some pe_int) po_none)) (pg_name (i := 3) scLWords.nd rfl (.inl rfl)) (pss_one (ps_set (i := 1) scLWords.nd rfl (.inl rfl) (pe_op op_cat (pv 1) (C8.pe_c CLWords hr (by first | decide | omega) (by rfl) (pa_cons (pv 3) pa_nil))))))
    (pss_one (ps_ret (pv 1)))))))), ?_⟩
  cases t with
  | num i =>
    obtain ⟨a, u, rfl, ht, hu⟩ := two_at (k := "number") (e := .int i) hd
    cases hu
    refine ⟨_, rfl, a, _, _, _, rfl, rfl, ht, at_of (j := 0) rfl rfl, rfl, _, rfl, ?_⟩
    refine ite2 (fun _ => ?_) (fun c => absurd (decide_eq_true rfl) c)
    refine ⟨_, rfl, a, _, _, _, rfl, rfl, ht, at_of (j := 1) rfl rfl, i, rfl, log60 hfit, (by show 1 ≤ sizeLine; decide), fun l hl => ?_⟩
    exact q l _ (Kp.new hl) hl upd_same
  | nam x =>
    obtain ⟨a, u, rfl, ht, hu⟩ := two_at (k := "name") (e := .str x) hd
    cases hu
    have hx8 := (show nmOk x from hok).2.1
    refine ⟨_, rfl, a, _, _, _, rfl, rfl, ht, at_of (j := 0) rfl rfl, rfl, _, rfl, ?_⟩
    refine ite2 (fun c => absurd (V.str.inj (of_decide_eq_true c)) (by decide +kernel)) (fun _ => ?_)
    refine ⟨_, rfl, a, _, _, _, rfl, rfl, ht, at_of (j := 0) rfl rfl, (by show 2 ≤ sizeLine; decide), fun T hT => ?_⟩
    have hT1 : (upd H T (.tup [.str "name", .str "fun"])) T = some (.tup [.str "name", .str "fun"]) := upd_same
    have k1 : Kp [] H (upd H T (.tup [.str "name", .str "fun"])) := Kp.new hT
    generalize upd H T (.tup [.str "name", .str "fun"]) = H1 at hT1 k1 ⊢
    refine ⟨T, _, rfl, .inr (SqT.of hT1), rfl, rfl, _, rfl, ?_⟩
    refine ite2 (fun _ => ?_) (fun c => absurd (show inV (V.str "name") [.str "name", .str "fun"] = true by decide +kernel) c)
    refine fun dd hdd => ⟨upd_same, [(Sum.inr _, .str _), (Sum.inr _, .str _)], rfl, by decide, ?_⟩
    have k2 : Kp [] H1 (upd (upd H1 dd (.dK [])) dd (.dK dkv)) := by rw [upd_upd]; exact Kp.new hdd
    have hd2 : (upd (upd H1 dd (.dK [])) dd (.dK dkv)) dd = some (.dK dkv) := upd_same
    generalize upd (upd H1 dd (.dK [])) dd (.dK dkv) = H2 at k2 hd2 ⊢
    have ht2 := (k1.trans k2).sqT ht
    refine ⟨_, rfl, a, _, _, _, rfl, rfl, ht2, at_of (j := 0) rfl rfl, dd, .str ".", rfl, (by have := DGet.k (k := Sum.inr "name") hd2; rw [show valV dkv (Sum.inr "name") = some (.str ".") by decide +kernel] at this; exact this), ?_⟩
    refine ⟨_, rfl, a, _, _, _, rfl, rfl, ht2, at_of (j := 1) rfl rfl, _, _, rfl, rfl, (by show 1 + x.length ≤ sizeLine; have := line10k; omega), (by show 1 ≤ sizeLine; decide), fun l hl => ?_⟩
    exact q l _ (k1.trans (k2.trans (Kp.new hl))) ((k1.trans k2).free hl (fun m => nomatch m)) upd_same
  | fn x =>
    obtain ⟨a, u, rfl, ht, hu⟩ := two_at (k := "fun") (e := .str x) hd
    cases hu
    have hx8 := (show nmOk x from hok).2.1
    refine ⟨_, rfl, a, _, _, _, rfl, rfl, ht, at_of (j := 0) rfl rfl, rfl, _, rfl, ?_⟩
    refine ite2 (fun c => absurd (V.str.inj (of_decide_eq_true c)) (by decide +kernel)) (fun _ => ?_)
    refine ⟨_, rfl, a, _, _, _, rfl, rfl, ht, at_of (j := 0) rfl rfl, (by show 2 ≤ sizeLine; decide), fun T hT => ?_⟩
    have hT1 : (upd H T (.tup [.str "name", .str "fun"])) T = some (.tup [.str "name", .str "fun"]) := upd_same
    have k1 : Kp [] H (upd H T (.tup [.str "name", .str "fun"])) := Kp.new hT
    generalize upd H T (.tup [.str "name", .str "fun"]) = H1 at hT1 k1 ⊢
    refine ⟨T, _, rfl, .inr (SqT.of hT1), rfl, rfl, _, rfl, ?_⟩
    refine ite2 (fun _ => ?_) (fun c => absurd (show inV (V.str "fun") [.str "name", .str "fun"] = true by decide +kernel) c)
    refine fun dd hdd => ⟨upd_same, [(Sum.inr _, .str _), (Sum.inr _, .str _)], rfl, by decide, ?_⟩
    have k2 : Kp [] H1 (upd (upd H1 dd (.dK [])) dd (.dK dkv)) := by rw [upd_upd]; exact Kp.new hdd
    have hd2 : (upd (upd H1 dd (.dK [])) dd (.dK dkv)) dd = some (.dK dkv) := upd_same
    generalize upd (upd H1 dd (.dK [])) dd (.dK dkv) = H2 at k2 hd2 ⊢
    have ht2 := (k1.trans k2).sqT ht
    refine ⟨_, rfl, a, _, _, _, rfl, rfl, ht2, at_of (j := 0) rfl rfl, dd, .str ":", rfl, (by have := DGet.k (k := Sum.inr "fun") hd2; rw [show valV dkv (Sum.inr "fun") = some (.str ":") by decide +kernel] at this; exact this), ?_⟩
    refine ⟨_, rfl, a, _, _, _, rfl, rfl, ht2, at_of (j := 1) rfl rfl, _, _, rfl, rfl, (by show 1 + x.length ≤ sizeLine; have := line10k; omega), (by show 1 ≤ sizeLine; decide), fun l hl => ?_⟩
    exact q l _ (k1.trans (k2.trans (Kp.new hl))) ((k1.trans k2).free hl (fun m => nomatch m)) upd_same
  | op k as =>
    have hk := (show (k, as.length) ∈ kinds ∧ Lz.P.oks as from hok).1
    have hp := kind_plain hk
    obtain ⟨a, vs, rfl, ht, hvs⟩ := op_atU hd
    have hvl : vs.length = as.length := by rw [hvs.length, datas_len]
    refine ⟨_, rfl, a, _, _, _, rfl, rfl, ht, at_of (j := 0) rfl rfl, rfl, _, rfl, ?_⟩
    refine ite2 (fun c => absurd (V.str.inj (of_decide_eq_true c)) hp.2.1) (fun _ => ?_)
    refine ⟨_, rfl, a, _, _, _, rfl, rfl, ht, at_of (j := 0) rfl rfl, (by show 2 ≤ sizeLine; decide), fun T hT => ?_⟩
    have hT1 : (upd H T (.tup [.str "name", .str "fun"])) T = some (.tup [.str "name", .str "fun"]) := upd_same
    have k1 : Kp [] H (upd H T (.tup [.str "name", .str "fun"])) := Kp.new hT
    generalize upd H T (.tup [.str "name", .str "fun"]) = H1 at hT1 k1 ⊢
    refine ⟨T, _, rfl, .inr (SqT.of hT1), rfl, rfl, _, rfl, ?_⟩
    refine ite2 (fun c => ?_) (fun _ => ?_)
    · have c' := of_decide_eq_true ((inV_strW k ["name", "fun"]).symm.trans c)
      rcases List.mem_cons.mp c' with e | e
      · exact absurd e hp.2.2.1
      · exact absurd (List.mem_singleton.mp e) hp.2.2.2
    have ht1 := k1.sqT ht
    refine ⟨_, rfl, a, _, _, _, rfl, rfl, ht1, at_of (j := 0) rfl rfl, rfl, _, rfl, ?_⟩
    refine ite2 (fun c => absurd (V.str.inj (of_decide_eq_true c)) hp.1) (fun _ => ?_)
    refine ⟨_, rfl, a, _, _, _, rfl, rfl, ht1, at_of (j := 0) rfl rfl, (by show 1 ≤ sizeLine; decide), fun l0 hl0 => ?_⟩
    have k2 : Kp [] H (upd H1 l0 (.lst [.str k])) := k1.trans (Kp.new hl0)
    have h20 : (upd H1 l0 (.lst [.str k])) l0 = some (.lst (([k] : List Str).map V.str)) := upd_same
    have n20 : H l0 = none := k1.free hl0 (fun m => nomatch m)
    generalize upd H1 l0 (.lst [.str k]) = H2 at k2 h20 ⊢
    have ht2 := k2.sqT ht
    refine ⟨_, rfl, _, rfl, a, _, rfl, ht2, fun z => absurd z (not_wholeU _ _), fun _ t2 ht2 => ?_⟩
    rw [cut_tlU]
    have kx : Kp [] H2 (upd H2 t2 (.tup vs)) := Kp.new ht2
    have h3t : (upd H2 t2 (.tup vs)) t2 = some (.tup vs) := upd_same
    have h30 := kx.lst h20 (fun m => nomatch m)
    have k3 := k2.trans kx
    generalize upd H2 t2 (.tup vs) = H3 at h3t h30 k3 ⊢
    refine ⟨t2, rfl, ⟨_, SqT.of h3t⟩, for_tup (K := K) (a := t2) (xs := vs) (fun i σ H' => ∃ (lc : Addr) (v2 v3 : Option V), σ = [some (.ref a), some (.ref lc), v2, v3] ∧ Kp [] H H' ∧ Kp [] H3 H' ∧ H lc = none ∧ H' lc = some (.lst (([k] ++ Lz.P.wss [] (as.take i)).map V.str)))
      ⟨l0, none, none, rfl, k3, Kp.refl _ _, n20, by rw [show Lz.P.wss [] (as.take 0) = [] from wss_nil _, List.append_nil]; exact h30⟩ (fun i σ H' _ ⟨_, _, _, _, _, k, _⟩ => SqT.of (k.tup h3t)) ?_ ?_⟩
    · rintro i x σ H4 hi ⟨lc, v2, v3, rfl, k4, k34, nlc, hlc⟩
      obtain ⟨d, had, hdd⟩ := part_atU (Dp.keepAll k4 _ _ (datas_fz _) hvs) hi
      have hlt := (List.getElem?_eq_some_iff.mp had).1
      obtain ⟨dok, dm, ddp⟩ := inn_fits (t := .op k as) hok hmany hdeep had
      have dfit := fit_inn (t := .op k as) hfit d (List.mem_of_getElem? had)
      refine ⟨_, rfl, _, rfl, x, d, F, _, rfl, hdd, dok, dm, ddp, dfit, fun l2 H5 k5 hl20 hl2 => ?_⟩
      have hlc5 := k5.lst hlc (fun m => nomatch m)
      have hdl := ws_len d
      have h1 := wss_len [] (as.take i)
      have h2 := manys_take as i
      have h3 : (Lz.P.op k as).many = 1 + Lz.P.manys as := rfl
      refine ⟨lc, l2, _, _, rfl, rfl, hlc5, hl2, ?_, fun l3 hl3 => ?_⟩
      · rw [List.length_map, List.length_map, List.length_append]
        have := line10k
        show 1 + _ + _ ≤ sizeLine
        omega
      · refine ⟨l3, _, _, rfl, k4.trans (k5.trans (Kp.new hl3)), k34.trans (k5.trans (Kp.new hl3)), (k4.trans k5).free hl3 (fun m => nomatch m), ?_⟩
        rw [upd_same, List.take_add_one, had]
        have e := wss_snoc [] (as.take i) d
        rw [preW_no (Nat.zero_le _), List.nil_append] at e
        show some (HO.lst _) = some (HO.lst (([k] ++ Lz.P.wss [] (as.take i ++ [d])).map V.str))
        rw [e, ← List.map_append, List.append_assoc]
    · rintro σ H4 ⟨lc, v2, v3, rfl, k4, k34, nlc, hlc⟩
      rw [hvl, List.take_length] at hlc
      exact ⟨_, rfl, q lc H4 k4 nlc hlc⟩
  | lt nm as b =>
    have hok' : nm.length = as.length ∧ (∀ x, x ∈ nm → nmOk x) ∧ Lz.P.oks as ∧ Lz.P.ok b := hok
    have h4 : nm.length ≤ 4 := hfit.2.1
    obtain ⟨a, r, rs, vb, rfl, ht, hrt, hrs, hvb⟩ := let_atU hd
    have hrl : rs.length = nm.length := by rw [hrs.length, List.length_zipWith, datas_len]; omega
    refine ⟨_, rfl, a, _, _, _, rfl, rfl, ht, at_of (j := 0) rfl rfl, rfl, _, rfl, ?_⟩
    refine ite2 (fun c => absurd (V.str.inj (of_decide_eq_true c)) (by decide +kernel)) (fun _ => ?_)
    refine ⟨_, rfl, a, _, _, _, rfl, rfl, ht, at_of (j := 0) rfl rfl, (by show 2 ≤ sizeLine; decide), fun T hT => ?_⟩
    have hT1 : (upd H T (.tup [.str "name", .str "fun"])) T = some (.tup [.str "name", .str "fun"]) := upd_same
    have k1 : Kp [] H (upd H T (.tup [.str "name", .str "fun"])) := Kp.new hT
    generalize upd H T (.tup [.str "name", .str "fun"]) = H1 at hT1 k1 ⊢
    refine ⟨T, _, rfl, .inr (SqT.of hT1), rfl, rfl, _, rfl, ?_⟩
    refine ite2 (fun c => absurd c (by decide +kernel)) (fun _ => ?_)
    have ht1 := k1.sqT ht
    have hrt1 := k1.sqT hrt
    refine ⟨_, rfl, a, _, _, _, rfl, rfl, ht1, at_of (j := 0) rfl rfl, rfl, _, rfl, ?_⟩
    refine ite2 (fun _ => ?_) (fun c => absurd (decide_eq_true rfl) c)
    refine ⟨_, rfl, a, _, _, _, rfl, rfl, ht1, at_of (j := 1) rfl rfl, r, _, rfl, .inr hrt1, _, rfl, log60 (small60 (by omega)), (by show 2 ≤ sizeLine; decide), fun l0 hl0 => ?_⟩
    show tSeq _ _ _ _ (upd H1 l0 (.lst [.str "let", .str (numS (rs.length : Nat))]))
    rw [hrl]
    have k2 : Kp [] H (upd H1 l0 (.lst [.str "let", .str (numS (nm.length : Nat))])) := k1.trans (Kp.new hl0)
    have h20 : (upd H1 l0 (.lst [.str "let", .str (numS (nm.length : Nat))])) l0 = some (.lst ((["let", numS (nm.length : Nat)] : List Str).map V.str)) := upd_same
    have n20 : H l0 = none := k1.free hl0 (fun m => nomatch m)
    generalize upd H1 l0 (.lst [.str "let", .str (numS (nm.length : Nat))]) = H2 at k2 h20 ⊢
    refine ⟨_, rfl, a, _, _, _, rfl, rfl, k2.sqT ht, at_of (j := 1) rfl rfl, r, rfl, ⟨_, k2.sqT hrt⟩, for_tup (K := K) (a := r) (xs := rs) (fun i σ H' => ∃ (lc : Addr) (v2 v3 : Option V), σ = [some (.ref a), some (.ref lc), v2, v3] ∧ Kp [] H H' ∧ H lc = none ∧ H' lc = some (.lst (((["let", numS (nm.length : Nat)] : List Str) ++ Lz.P.wss nm (as.take i)).map V.str)))
      ⟨l0, none, none, rfl, k2, n20, by rw [show Lz.P.wss nm (as.take 0) = [] from wss_nil _, List.append_nil]; exact h20⟩ (fun i σ H' _ ⟨_, _, _, _, k, _⟩ => k.sqT hrt) ?_ ?_⟩
    · rintro i x σ H4 hi ⟨lc, v2, v3, rfl, k4, nlc, hlc⟩
      obtain ⟨t, nx, u, d, rfl, htt, hnx, had, hud⟩ := row_atU (Dp.keepAll k4 _ _ rows_fz hrs) hi
      have hlt := (List.getElem?_eq_some_iff.mp had).1
      have hinn : (Lz.P.lt nm as b).inn[i]? = some d := by
        show (as ++ [b])[i]? = some d
        rw [List.getElem?_append_left hlt]
        exact had
      obtain ⟨dok, dm, ddp⟩ := inn_fits (t := .lt nm as b) hok hmany hdeep hinn
      have dfit := fit_inn (t := .lt nm as b) hfit d (List.mem_of_getElem? hinn)
      have hx8 := (hok'.2.1 nx (List.mem_of_getElem? hnx)).2.1
      have hdl := ws_len d
      have h1 := wss_len nm (as.take i)
      have h2 := manys_take as i
      have h3 : (Lz.P.lt nm as b).many = 1 + (Lz.P.manys as + b.many) := rfl
      have hL := line10k
      refine ⟨_, rfl, _, rfl, t, _, _, _, rfl, rfl, htt, at_of (j := 0) rfl rfl, _, _, rfl, rfl, (by show 1 + nx.length ≤ sizeLine; omega), (by show 1 ≤ sizeLine; omega), fun l1 hl1 => ?_⟩
      have k5 : Kp [] H4 (upd H4 l1 (.lst [.str (("." : Str) ++ nx)])) := Kp.new hl1
      have h51 : (upd H4 l1 (.lst [.str (("." : Str) ++ nx)])) l1 = some (.lst [.str (("." : Str) ++ nx)]) := upd_same
      have hlc5 := k5.lst hlc (fun m => nomatch m)
      generalize upd H4 l1 (.lst [.str (("." : Str) ++ nx)]) = H5 at k5 h51 hlc5 ⊢
      refine ⟨lc, l1, _, _, rfl, rfl, hlc5, h51, ?_, fun l2 hl2 => ?_⟩
      · rw [List.length_map, List.length_append]
        show 2 + _ + 1 ≤ sizeLine
        omega
      have k6 : Kp [] H5 (upd H5 l2 (.lst (((["let", numS (nm.length : Nat)] : List Str) ++ Lz.P.wss nm (as.take i)).map V.str ++ [.str (("." : Str) ++ nx)]))) := Kp.new hl2
      have h62 : (upd H5 l2 (.lst (((["let", numS (nm.length : Nat)] : List Str) ++ Lz.P.wss nm (as.take i)).map V.str ++ [.str (("." : Str) ++ nx)]))) l2 = some (.lst (((["let", numS (nm.length : Nat)] : List Str) ++ Lz.P.wss nm (as.take i)).map V.str ++ [.str (("." : Str) ++ nx)])) := upd_same
      generalize upd H5 l2 (.lst (((["let", numS (nm.length : Nat)] : List Str) ++ Lz.P.wss nm (as.take i)).map V.str ++ [.str (("." : Str) ++ nx)])) = H6 at k6 h62 ⊢
      have k46 := k5.trans k6
      refine ⟨_, rfl, t, _, _, _, rfl, rfl, k46.sqT htt, at_of (j := 1) rfl rfl, u, d, F, _, rfl, Dp.keep k46 _ _ (data_fz _) hud, dok, dm, ddp, dfit, fun l3 H7 k7 hl30 hl3 => ?_⟩
      refine ⟨l2, l3, _, _, rfl, rfl, k7.lst h62 (fun m => nomatch m), hl3, ?_, fun l4 hl4 => ?_⟩
      · rw [List.length_append, List.length_map, List.length_map, List.length_append]
        show 2 + _ + 1 + _ ≤ sizeLine
        omega
      · have k47 := k46.trans k7
        refine ⟨l4, _, _, rfl, k4.trans (k47.trans (Kp.new hl4)), (k4.trans k47).free hl4 (fun m => nomatch m), ?_⟩
        rw [upd_same, List.take_add_one, had]
        have e := wss_snoc nm (as.take i) d
        rw [List.length_take, Nat.min_eq_left (Nat.le_of_lt hlt), preW_of hnx] at e
        show some (HO.lst _) = some (HO.lst (((["let", numS (nm.length : Nat)] : List Str) ++ Lz.P.wss nm (as.take i ++ [d])).map V.str))
        rw [e]
        simp only [List.map_append, List.append_assoc, List.map_cons, List.map_nil]
    · rintro σ H4 ⟨lc, v2, v3, rfl, k4, nlc, hlc⟩
      rw [hrl, hok'.1, List.take_length] at hlc
      have hinn : (Lz.P.lt nm as b).inn[as.length]? = some b := by
        show (as ++ [b])[as.length]? = some b
        rw [List.getElem?_append_right (Nat.le_refl _), Nat.sub_self]
        rfl
      obtain ⟨dok, dm, ddp⟩ := inn_fits (t := .lt nm as b) hok hmany hdeep hinn
      have dfit := fit_inn (t := .lt nm as b) hfit b (List.mem_of_getElem? hinn)
      have hdl := ws_len b
      have h1 := wss_len nm as
      have h3 : (Lz.P.lt nm as b).many = 1 + (Lz.P.manys as + b.many) := rfl
      have hL := line10k
      refine ⟨_, rfl, _, rfl, a, _, _, _, rfl, rfl, k4.sqT ht, at_of (j := 2) rfl rfl, vb, b, F, _, rfl, Dp.keep k4 _ _ (data_fz _) hvb, dok, dm, ddp, dfit, fun l3 H7 k7 hl30 hl3 => ?_⟩
      refine ⟨lc, l3, _, _, rfl, rfl, k7.lst hlc (fun m => nomatch m), hl3, ?_, fun l4 hl4 => ?_⟩
      · rw [List.length_map, List.length_map, List.length_append]
        show 2 + _ + _ ≤ sizeLine
        omega
      · refine q l4 _ (k4.trans (k7.trans (Kp.new hl4))) ((k4.trans k7).free hl4 (fun m => nomatch m)) ?_
        rw [upd_same, ← List.map_append, List.append_assoc, ← hok'.1]
        rfl
end
end Lz

set_option Elab.async false
set_option linter.all false
set_option maxRecDepth 100000
set_option maxHeartbeats 8000000
namespace StX
open PySem L2
def rJoinK (K : PySem.W.Frag) : V → List V → Hp → VK → Prop := fun x xs H Q => ∃ a p, ∃ ys : List Str, x = .str a ∧ xs = [.ref p] ∧ (SqL K H p (ys.map V.str) ∨ SqT K H p (ys.map V.str)) ∧ (ys.map (·.length)).sum + ys.length * a.length ≤ 16777216 ∧ Q (.str (Txt.join a ys)) H
theorem pe_joinK {X : Cx} {K : PySem.W.Frag} {o e : Expr} {to te : TE} {apos pos : Pos} (h : X.K = K) (ho : PE X o to) (he : PE X e te) (hs : starEach [e] X.env = [(false, eval e X.env)] := by rfl) (hbase : attributeBase o "join" X.env (eval o X.env) = eval o X.env := by rfl) (hline : (apos.endLine == pos.line) = true := by rfl) :
    PE X (.Call (.Attribute o "join" apos) [e] [] pos) (tM1 (rJoinK K) to te) := by
  subst h
  exact pe_join ho he hs hbase hline
end StX
namespace Lz
open PySem PySem.Spec PyProof.Rows L2
/-- rows of words, as lists that are none of S -/
def RowsAt (S : List Addr) (H : Hp) : List V → List (List Str) → Prop
  | [], [] => True
  | v :: vs, ws :: r => (∃ a, v = .ref a ∧ ¬ a ∈ S ∧ H a = some (.lst (ws.map V.str))) ∧ RowsAt S H vs r
  | [], _ :: _ => False
  | _ :: _, [] => False
theorem RowsAt.keep {S : List Addr} {H H' : Hp} (k : Kp S H H') : ∀ {vs : List V} {r : List (List Str)}, RowsAt S H vs r → RowsAt S H' vs r
  | [], [], _ => True.intro
  | v :: vs, ws :: r, ⟨⟨a, e, n, h⟩, t⟩ => ⟨⟨a, e, n, k.lst h n⟩, RowsAt.keep k t⟩
  | [], _ :: _, h => h.elim
  | _ :: _, [], h => h.elim
theorem RowsAt.none {S : List Addr} {H : Hp} : ∀ {vs : List V} {r : List (List Str)}, RowsAt S H vs r → RowsAt [] H vs r
  | [], [], _ => True.intro
  | v :: vs, ws :: r, ⟨⟨a, e, n, h⟩, t⟩ => ⟨⟨a, e, fun m => (nomatch m), h⟩, RowsAt.none t⟩
  | [], _ :: _, h => h.elim
  | _ :: _, [], h => h.elim
theorem RowsAt.snoc {S : List Addr} {H : Hp} {a : Addr} {ws : List Str} (n : ¬ a ∈ S) (h : H a = some (.lst (ws.map V.str))) : ∀ {vs : List V} {r : List (List Str)}, RowsAt S H vs r → RowsAt S H (vs ++ [.ref a]) (r ++ [ws])
  | [], [], _ => ⟨⟨a, rfl, n, h⟩, True.intro⟩
  | v :: vs, w :: r, ⟨hd, t⟩ => ⟨hd, RowsAt.snoc n h t⟩
  | [], _ :: _, h => h.elim
  | _ :: _, [], h => h.elim
theorem RowsAt.length {S : List Addr} {H : Hp} : ∀ {vs : List V} {r : List (List Str)}, RowsAt S H vs r → vs.length = r.length
  | [], [], _ => rfl
  | v :: vs, w :: r, ⟨_, t⟩ => by rw [List.length_cons, List.length_cons, RowsAt.length t]
  | [], _ :: _, h => h.elim
  | _ :: _, [], h => h.elim
theorem RowsAt.at {S : List Addr} {H : Hp} : ∀ {vs : List V} {r : List (List Str)} {i : Nat} {v : V}, RowsAt S H vs r → vs[i]? = some v → ∃ a ws, v = .ref a ∧ r[i]? = some ws ∧ H a = some (.lst (ws.map V.str))
  | [], _, _, _, _, e => by simp at e
  | v :: vs, w :: r, 0, _, ⟨⟨a, e1, _, h⟩, _⟩, e => ⟨a, w, by rw [← Option.some.inj e]; exact e1, rfl, h⟩
  | v :: vs, w :: r, i + 1, x, ⟨_, t⟩, e => RowsAt.at (i := i) t e
  | _ :: _, [], _, _, h, _ => h.elim
def spLRows (K : PySem.W.Frag) : Sp := fun vs H Q _ => ∃ (v : V) (fs : List Fn) (d : Lz.P), vs = [v] ∧ Dp K H v (progD fs d) ∧ PrT fs d ∧ ∀ (l : Addr) (xs : List V) (H' : Hp), Kp [] H H' → H' l = some (.lst xs) → RowsAt [] H' xs (rowsW fs d) → Q (.ref l) H'
def spLText (K : PySem.W.Frag) : Sp := fun vs H Q _ => ∃ (l : Addr) (xs : List V) (fs : List Fn) (d : Lz.P), vs = [.ref l] ∧ H l = some (.lst xs) ∧ RowsAt [] H xs (rowsW fs d) ∧ PrT fs d ∧ ∀ H', Kp [] H H' → Q (.str (progT fs d)) H'
theorem PrT.rowW {fs : List Fn} {d : Lz.P} (h : PrT fs d) : ∀ ws, ws ∈ rowsW fs d → (ws.map (·.length)).sum + ws.length * (" " : Str).length ≤ 16777216 := fun ws m => by
  rcases List.mem_append.mp m with m | m
  · obtain ⟨g, hg, rfl⟩ := List.mem_map.mp m
    exact fnT_sum (h.fn g hg)
  · rw [List.mem_singleton.mp m]
    have := few_words h.askS h.askL " " (by decide +kernel)
    omega
section
variable {P : Program} {w : World} {K : PySem.W.Frag} {mg : Str → Option Value} {base : Heap} {f : Addr} {fd : FuncData}
abbrev sLText : Stmt := topS 69
theorem scLText : FnScope ["_law_rows_here", "_law_words_here"] ["_law_rows_here"] (defScope sLText) := ⟨rfl, rfl, rfl, by decide +kernel, rfl, by decide +kernel, by decide +kernel⟩
theorem ok_ltext (F : Fun K "_law_text" "_law_text" sLText f fd) : FnOk P w K mg base CX0 1 f fd ["_law_rows_here"] (spLText K) := by
  refine F.ok scLText (fun vs H Q E h => ?_) (fun cdv A outer s H vs Q E hr h => ?_)
  · obtain ⟨l, xs, fs, d, rfl, _⟩ := h
    rfl
  obtain ⟨l, xs, fs, d, rfl, hl, hrw, hx, q⟩ := h
  refine ⟨_, (pss_one (ps_ret (pe_join pe_str (pe_lc (own := [("_law_words_here", 1)]) rfl scLText.nd (pi_listK (K := K) rfl (pv 0)) (blkOk_by (N := ["_law_rows_here", "_law_words_here"]) (sc := defScope sLText) (by decide +kernel)) (fun _ _ _ _ _ => (pg_name (i := 1) scLText.nd rfl (.inl rfl))) (fun _ _ _ _ _ => pts_nil) (fun _ _ _ _ _ => (StX.pe_joinK (K := K) rfl pe_str (pv 1))))))), ?_⟩
  have hxl := hrw.length
  have h9 := hx.rowN
  have e9 : (rowsT fs d).length = (rowsW fs d).length := List.length_map _
  refine ⟨⟨_, rfl⟩, _, rfl, l, rfl, ⟨_, SqL.of hl⟩, fun D hD => ?_⟩
  refine lc_list (K := K) (a := l) (xs := xs) (fun i H' => Kp [] H H' ∧ H' D = some (.lst ((((rowsW fs d).take i).map (Str.join " ")).map V.str)))
      ⟨Kp.new hD, upd_same⟩ (fun i H' _ ⟨k, _⟩ => SqL.of (k.lst hl (fun m => nomatch m))) ?_ ?_
  · rintro i x H1 hi ⟨k1, h1⟩
    obtain ⟨a, ws, rfl, hws, ha⟩ := (hrw.keep k1).at hi
    refine ⟨rfl, ?_⟩
    refine ⟨⟨_, rfl⟩, _, rfl, _, a, ws, rfl, rfl, .inl (SqL.of ha), hx.rowW ws (List.mem_of_getElem? hws), ?_⟩
    rw [TL.join_eq]
    refine ⟨_, h1, (by rw [List.length_map, List.length_map, List.length_take]; exact small1000 (by omega)), k1.mut hD, ?_⟩
    rw [upd_same, List.take_add_one, hws, List.map_append, List.map_append]
    rfl
  · rintro H1 ⟨k1, h1⟩
    rw [hxl, List.take_length] at h1
    refine ⟨_, D, rowsT fs d, rfl, rfl, .inl (SqL.of h1), hx.sum, ?_⟩
    rw [TL.join_eq]
    exact q H1 k1
end
end Lz

set_option Elab.async false
set_option linter.all false
set_option maxRecDepth 100000
set_option maxHeartbeats 8000000
namespace Lz
open PySem PySem.Spec PyProof.Rows L2
section
variable {P : Program} {w : World} {K : PySem.W.Frag} {mg : Str → Option Value} {base : Heap} {f : Addr} {fd : FuncData}
abbrev sLRows : Stmt := topS 68
theorem scLRows : FnScope ["_law_program_here", "_law_found", "_law_name", "_law_names_here", "_law_body_here", "_law_one"] ["_law_program_here"] (defScope sLRows) := ⟨rfl, rfl, rfl, by decide +kernel, rfl, by decide +kernel, by decide +kernel⟩
theorem ok_lrows {j : Nat} (hj : 1 ≤ j) (F : Fun K "_law_rows" "_law_rows" sLRows f fd) (CLWords : C8.Cal P w K mg base j "_law_words" (spWords K 12) []) : FnOk P w K mg base CX0 (j + 1) f fd ["_law_program_here"] (spLRows K) := by
  refine F.ok scLRows (fun vs H Q E h => ?_) (fun cdv A outer s H vs Q E hr h => ?_)
  · obtain ⟨v, fs, d, rfl, _⟩ := h
    rfl
  obtain ⟨v, fs, d, rfl, hd, hx, q⟩ := h
  refine ⟨_, (pss_cons (ps_set (i := 1) scLRows.nd rfl (.inl rfl) (pe_lst pa_nil))
    (pss_cons (ps_for PassesOwn.never rfl (pi_tupK (K := K) rfl (pe_ix (ix_tupK (K := K) rfl) (pv 0) pe_int (fun _ _ => rfl))) (pg_tupK (K := K) (n := 3) rfl rfl (pgs_cons (pg_name (i := 2) scLRows.nd rfl (.inl rfl)) (pgs_cons (pg_name (i := 3) scLRows.nd rfl (.inl rfl)) (pgs_cons (pg_name (i := 4) scLRows.nd rfl (.inl rfl)) pgs_nil)))) (pss_one (ps_expr (pe_bmK (K := K) rfl PySem.F.plainAttrs_list PySem.F.slot_list_append PySem.F.type_list_append mt_append (pv 1) (pa_cons (pe_op op_cat (pe_op op_cat (pe_op op_cat (pe_lst (pa_cons (pv 2) pa_nil)) (pe_lc (own := [("_law_one", 5)]) rfl scLRows.nd (pi_tupK (K := K) rfl (pv 3)) (blkOk_by (N := ["_law_program_here", "_law_found", "_law_name", "_law_names_here", "_law_body_here", "_law_one"]) (sc := defScope sLRows) (by decide +kernel)) (fun _ _ _ _ _ => (pg_name (i := 5) scLRows.nd rfl (.inl rfl))) (fun _ _ _ _ _ => pts_nil) (fun _ _ _ _ _ => (pe_op op_add_str pe_str (pv 5))))) (pe_lst (pa_cons pe_str pa_nil))) (C8.pe_c CLWords hr (by first | decide | omega) (by rfl) (pa_cons (pv 4) pa_nil))) pa_nil)))))
    (pss_one (ps_ret (pe_op op_cat (pv 1) (pe_lst (pa_cons (pe_op op_cat (pe_lst (pa_cons pe_str pa_nil)) (C8.pe_c CLWords hr (by first | decide | omega) (by rfl) (pa_cons (pe_ix (ix_tupK (K := K) rfl) (pv 0) pe_int (fun _ _ => rfl)) pa_nil))) pa_nil))))))), ?_⟩
  obtain ⟨pr, ft, rs, vd, rfl, hpr, hft, hrs, hvd⟩ := prog_at hd
  have hrl : rs.length = fs.length := by rw [hrs.length, List.length_map]
  have h8 := hx.len
  have hL := line10k
  refine ⟨Nat.zero_le _, fun lf hlf => ?_⟩
  have k1 : Kp [] H (upd H lf (.lst [])) := Kp.new hlf
  have h1f : (upd H lf (.lst [])) lf = some (.lst []) := upd_same
  generalize upd H lf (.lst []) = H1 at k1 h1f ⊢
  refine ⟨_, rfl, pr, _, _, _, rfl, rfl, k1.sqT hpr, at_of (j := 0) rfl rfl, ft, rfl, ⟨_, k1.sqT hft⟩, for_tup (K := K) (a := ft) (xs := rs) (fun i σ H' => ∃ (v2 v3 v4 v5 : Option V) (ys : List V), σ = [some (.ref pr), some (.ref lf), v2, v3, v4, v5] ∧ Kp [] H H' ∧ H' lf = some (.lst ys) ∧ RowsAt [lf] H' ys ((fs.take i).map fnW))
    ⟨none, none, none, none, [], rfl, k1, h1f, True.intro⟩ (fun i σ H' _ ⟨_, _, _, _, _, _, k, _⟩ => k.sqT hft) ?_ ?_⟩
  · rintro i x σ H2 hi ⟨v2, v3, v4, v5, ys, rfl, k2, h2f, hys⟩
    obtain ⟨g, t, r, u, hg, rfl, ht, hr0, hu⟩ := fn_atU (Dp.keepAll k2 _ _ (fd_fz _) hrs) hi
    have hgx := hx.fn g (List.mem_of_getElem? hg)
    have hil := (List.getElem?_eq_some_iff.mp hg).1
    have h4 := hgx.th
    have hwl := hgx.bd.len
    refine ⟨t, _, rfl, ht, rfl, _, _, rfl, _, _, rfl, _, _, rfl, rfl, ?_⟩
    refine ⟨_, rfl, .inl ⟨rfl, _, SqL.of h2f⟩, _, rfl, (by show 1 ≤ sizeLine; omega), fun l1 hl1 => ?_⟩
    have k3 : Kp [] H2 (upd H2 l1 (.lst [.str g.1])) := Kp.new hl1
    have h31 : (upd H2 l1 (.lst [.str g.1])) l1 = some (.lst [.str g.1]) := upd_same
    generalize upd H2 l1 (.lst [.str g.1]) = H3 at k3 h31 ⊢
    refine ⟨_, rfl, r, rfl, ⟨_, k3.sqT hr0⟩, fun D hD => ?_⟩
    refine lc_tup (K := K) (a := r) (xs := g.2.1.map V.str) (fun i H' => Kp [] H3 H' ∧ H' D = some (.lst (((g.2.1.take i).map (fun x => ("." : Str) ++ x)).map V.str)))
      ⟨Kp.new hD, upd_same⟩ (fun i H' _ ⟨k, _⟩ => (k3.trans k).sqT hr0) ?_ ?_
    · rintro i x H4 hi ⟨k4, h4⟩
      rw [List.getElem?_map] at hi
      obtain ⟨y, hy, rfl⟩ : ∃ y, g.2.1[i]? = some y ∧ x = V.str y := by
        cases e : g.2.1[i]? with
        | none => rw [e] at hi; cases hi
        | some y => rw [e] at hi; exact ⟨y, rfl, (Option.some.inj hi).symm⟩
      have hy8 := (hgx.ns y (List.mem_of_getElem? hy)).2.1
      refine ⟨rfl, ?_⟩
      refine ⟨_, rfl, _, _, rfl, rfl, (by show 1 + y.length ≤ sizeLine; omega), _, h4, (by rw [List.length_map, List.length_map, List.length_take]; exact small1000 (by omega)), k4.mut hD, ?_⟩
      rw [upd_same, List.take_add_one, hy, List.map_append, List.map_append]
      rfl
    · rintro H4 ⟨k4, h4D⟩
      rw [List.length_map, List.take_length] at h4D
      have h41 := k4.lst h31 (fun m => nomatch m)
      refine ⟨l1, D, _, _, rfl, rfl, h41, h4D, (by rw [List.length_map, List.length_map]; show 1 + g.2.1.length ≤ sizeLine; omega), fun l2 hl2 => ?_⟩
      generalize hds : g.2.1.map (fun x => ("." : Str) ++ x) = ds at h4D hl2 ⊢
      have hdl : ds.length ≤ 4 := by rw [← hds, List.length_map]; exact h4
      have k5 : Kp [] H4 (upd H4 l2 (.lst ([.str g.1] ++ ds.map V.str))) := Kp.new hl2
      have h52 : (upd H4 l2 (.lst ([.str g.1] ++ ds.map V.str))) l2 = some (.lst ([.str g.1] ++ ds.map V.str)) := upd_same
      generalize upd H4 l2 (.lst ([.str g.1] ++ ds.map V.str)) = H5 at k5 h52 ⊢
      refine ⟨(by show 1 ≤ sizeLine; omega), fun l3 hl3 => ?_⟩
      have k6 : Kp [] H5 (upd H5 l3 (.lst [.str "="])) := Kp.new hl3
      have h63 : (upd H5 l3 (.lst [.str "="])) l3 = some (.lst [.str "="]) := upd_same
      have h62 := k6.lst h52 (fun m => nomatch m)
      generalize upd H5 l3 (.lst [.str "="]) = H6 at k6 h63 h62 ⊢
      refine ⟨l2, l3, _, _, rfl, rfl, h62, h63, (by rw [List.length_append, List.length_map]; show 1 + ds.length + 1 ≤ sizeLine; omega), fun l4 hl4 => ?_⟩
      have k7 : Kp [] H6 (upd H6 l4 (.lst ([.str g.1] ++ ds.map V.str ++ [.str "="]))) := Kp.new hl4
      have h74 : (upd H6 l4 (.lst ([.str g.1] ++ ds.map V.str ++ [.str "="]))) l4 = some (.lst ([.str g.1] ++ ds.map V.str ++ [.str "="])) := upd_same
      generalize upd H6 l4 (.lst ([.str g.1] ++ ds.map V.str ++ [.str "="])) = H7 at k7 h74 ⊢
      have k27 := k3.trans (k4.trans (k5.trans (k6.trans k7)))
      refine ⟨_, rfl, u, g.2.2, _, g.2.1, rfl, Dp.keep k27 _ _ (data_fz _) hu, hgx.bd.b.ok, (by have := hgx.bd.b.many; omega), hgx.bd.b.deep, hgx.bd.f, fun l5 H8 k8 hl50 hl5 => ?_⟩
      refine ⟨l4, l5, _, _, rfl, rfl, k8.lst h74 (fun m => nomatch m), hl5, (by rw [List.length_append, List.length_append, List.length_map, List.length_map]; show 1 + ds.length + 1 + g.2.2.ws.length ≤ sizeLine; omega), fun l6 hl6 => ?_⟩
      have k28 := k27.trans k8
      have h8f := k28.lst h2f (fun m => nomatch m)
      have n6f : lf ≠ l6 := ne_of_none h8f hl6
      have k9 : Kp [] H8 (upd H8 l6 (.lst ([.str g.1] ++ ds.map V.str ++ [.str "="] ++ g.2.2.ws.map V.str))) := Kp.new hl6
      have h96 : (upd H8 l6 (.lst ([.str g.1] ++ ds.map V.str ++ [.str "="] ++ g.2.2.ws.map V.str))) l6 = some (.lst ((fnW g).map V.str)) := by
        rw [upd_same]
        unfold fnW
        rw [hds]
        simp only [List.map_cons, List.map_append, List.append_assoc, List.cons_append, List.nil_append]
      generalize upd H8 l6 (.lst ([.str g.1] ++ ds.map V.str ++ [.str "="] ++ g.2.2.ws.map V.str)) = H9 at k9 h96 ⊢
      have k29 := k28.trans k9
      have h9f := k29.lst h2f (fun m => nomatch m)
      have hyl := hys.length
      rw [List.length_map, List.length_take] at hyl
      refine ⟨lf, _, _, rfl, rfl, h9f, small1000 (by omega), ?_⟩
      have kput : Kp [lf] H9 (upd H9 lf (.lst (ys ++ [.ref l6]))) := Kp.put h9f List.mem_cons_self
      refine ⟨_, _, _, _, _, rfl, (k2.trans k29).mut hlf, upd_same, ?_⟩
      rw [List.take_add_one, hg, List.map_append]
      have hrows := hys.keep ((k29.mono (fun _ m => nomatch m)).trans kput)
      exact RowsAt.snoc (not1 n6f.symm) (kput.lst h96 (not1 n6f.symm)) hrows
  · rintro σ H2 ⟨v2, v3, v4, v5, ys, rfl, k2, h2f, hys⟩
    rw [hrl, List.take_length] at hys
    have hyl := hys.length
    rw [List.length_map] at hyl
    have hwl := hx.ak.len
    refine ⟨_, rfl, (by show 1 ≤ sizeLine; omega), fun m1 hm1 => ?_⟩
    have k3 : Kp [] H2 (upd H2 m1 (.lst [.str "?"])) := Kp.new hm1
    have h31 : (upd H2 m1 (.lst [.str "?"])) m1 = some (.lst [.str "?"]) := upd_same
    generalize upd H2 m1 (.lst [.str "?"]) = H3 at k3 h31 ⊢
    have k03 := k2.trans k3
    refine ⟨_, rfl, pr, _, _, _, rfl, rfl, k03.sqT hpr, at_of (j := 1) rfl rfl, vd, d, _, [], rfl, Dp.keep k03 _ _ (data_fz _) hvd, hx.ak.b.ok, (by have := hx.ak.b.many; omega), hx.ak.b.deep, hx.ak.f, fun m2 H4 k4 hm20 hm2 => ?_⟩
    refine ⟨m1, m2, _, _, rfl, rfl, k4.lst h31 (fun m => nomatch m), hm2, (by rw [List.length_map]; show 1 + d.ws.length ≤ sizeLine; omega), fun m3 hm3 => ?_⟩
    have h4f := (k3.trans k4).lst h2f (fun m => nomatch m)
    have k5 : Kp [] H4 (upd H4 m3 (.lst ([.str "?"] ++ d.ws.map V.str))) := Kp.new hm3
    have h53 : (upd H4 m3 (.lst ([.str "?"] ++ d.ws.map V.str))) m3 = some (.lst (((("?" : Str) :: d.ws)).map V.str)) := upd_same
    have n3f : lf ≠ m3 := ne_of_none h4f hm3
    generalize upd H4 m3 (.lst ([.str "?"] ++ d.ws.map V.str)) = H5 at k5 h53 ⊢
    refine ⟨(by show 1 ≤ sizeLine; omega), fun m4 hm4 => ?_⟩
    have k6 : Kp [] H5 (upd H5 m4 (.lst [.ref m3])) := Kp.new hm4
    have h64 : (upd H5 m4 (.lst [.ref m3])) m4 = some (.lst [.ref m3]) := upd_same
    generalize upd H5 m4 (.lst [.ref m3]) = H6 at k6 h64 ⊢
    have k26 := k3.trans (k4.trans (k5.trans k6))
    refine ⟨lf, m4, _, _, rfl, rfl, k26.lst h2f (fun m => nomatch m), h64, (by rw [hyl]; show fs.length + 1 ≤ sizeLine; omega), fun m5 hm5 => ?_⟩
    have k7 : Kp [] H6 (upd H6 m5 (.lst (ys ++ [.ref m3]))) := Kp.new hm5
    refine q m5 _ _ (k2.trans (k26.trans k7)) upd_same ?_
    have hrows : RowsAt [lf] (upd H6 m5 (.lst (ys ++ [.ref m3]))) ys (fs.map fnW) := hys.keep ((k26.trans k7).mono (fun _ m => nomatch m))
    exact (RowsAt.snoc (not1 n3f.symm) ((k6.trans k7).lst h53 (fun m => nomatch m)) hrows).none
end
end Lz

set_option Elab.async false
set_option linter.all false
set_option maxRecDepth 100000
set_option maxHeartbeats 4000000
/-! Rows read: heaps that keep all but one object; words as they are read. -/
namespace Lz
open PySem PySem.Spec PyProof.Rows L2 TL

/-- all is kept but what stands at r -/
def Kr (r : Addr) (H H' : Hp) : Prop := ∀ b o, H b = some o → b ≠ r → H' b = some o
section
variable {r p a : Addr} {H H1 H' : Hp} {K : PySem.W.Frag} {xs : List V} {o : HO}
theorem Kr.refl (r : Addr) (H : Hp) : Kr r H H := fun _ _ h _ => h
theorem Kr.trans (h : Kr r H H1) (k : Kr r H1 H') : Kr r H H' := fun b o e n => k b o (h b o e n) n
theorem Kr.of (k : Kp [] H H') : Kr r H H' := fun b o e _ => k b o e (fun m => nomatch m)
theorem Kr.new (h : H p = none) : Kr r H (upd H p o) := Kr.of (Kp.new h)
theorem Kr.at (r : Addr) (H : Hp) (o : HO) : Kr r H (upd H r o) := fun b x e n => by
  rw [upd_ne n]
  exact e
theorem Kr.mut (k : Kr r H H') (h : H p = none) : Kr r H (upd H' p o) := fun b x e n => by
  rw [upd_ne (ne_of_none e h)]
  exact k b x e n
theorem Kr.free (k : Kr r H H1) (h : H1 p = none) (n : p ≠ r) : H p = none := by
  cases e : H p with
  | none => rfl
  | some o =>
    have := k p o e n
    rw [h] at this
    cases this
/-- r itself was not there -/
theorem Kr.kp {H0 : Hp} {S : List Addr} (k0 : Kp S H0 H) (h : H0 r = none) (k : Kr r H H') : Kp S H0 H' := fun b o e n => k b o (k0 b o e n) (ne_of_none e h)
theorem Kr.sqT {C dx : Addr} {fs : List (Str × V)} (k : Kr r H H') (hr : H r = some (.ins C dx fs)) (h : SqT K H a xs) : SqT K H' a xs := by
  rcases h with (h | ⟨o, h⟩) | h
  · exact .inl (.inl (k _ _ h (fun e => by rw [e, hr] at h; cases h)))
  · exact .inl (.inr ⟨o, k _ _ h (fun e => by rw [e, hr] at h; cases h)⟩)
  · exact .inr h
end
end Lz
namespace L2
open PySem PySem.Spec PyProof.Rows Lz
section
variable {r : Addr} {H H' : Hp} {K : PySem.W.Frag} {C dx : Addr} {fs : List (Str × V)}
mutual
theorem Dp.keepR (k : Kr r H H') (hr : H r = some (.ins C dx fs)) : ∀ (d : PyData) (v : V), fz d = true → Dp K H v d → Dp K H' v d
  | .none, _, _, h => by cases h; exact .non
  | .bool b, _, _, h => by cases h; exact .bl b
  | .int i, _, _, h => by cases h; exact .int i
  | .str x, _, _, h => by cases h; exact .str x
  | .list ds, _, f, _ => by
    have : false = true := f
    cases this
  | .tuple ds, _, f, h => by
    cases h with
    | tup hs ha => exact .tup (k.sqT hr hs) (Dp.keepAllR k hr ds _ f ha)
  | .dict _, _, _, h => by cases h
theorem Dp.keepAllR (k : Kr r H H') (hr : H r = some (.ins C dx fs)) : ∀ (ds : List PyData) (vs : List V), fzAll ds = true → DpAll K H vs ds → DpAll K H' vs ds
  | [], _, _, h => by cases h; exact .nil
  | d :: ds, _, f, h => by
    have f' : fz d = true ∧ fzAll ds = true := by
      have : (fz d && fzAll ds) = true := f
      rwa [Bool.and_eq_true] at this
    cases h with
    | cons h1 h2 => exact .cons (Dp.keepR k hr d _ f'.1 h1) (Dp.keepAllR k hr ds _ f'.2 h2)
end
end
end L2
namespace Lz
open PySem PySem.Spec PyProof.Rows L2 TL

/-! ### a row -/
def rf (n : Int) (w : Addr) (a p : Int) : List (Str × V) := [("_number", .int n), ("_words", .ref w), ("_at", .int a), ("_parts", .int p)]
theorem kNW : ¬ (("_number" : Str) = "_words") := by decide +kernel
theorem kNA : ¬ (("_number" : Str) = "_at") := by decide +kernel
theorem kNP : ¬ (("_number" : Str) = "_parts") := by decide +kernel
theorem kWA : ¬ (("_words" : Str) = "_at") := by decide +kernel
theorem kWP : ¬ (("_words" : Str) = "_parts") := by decide +kernel
theorem kAP : ¬ (("_at" : Str) = "_parts") := by decide +kernel
theorem look_cons (k m : Str) (v : V) (l : List (Str × V)) : ((m, v) :: l).lookup k = if k = m then some v else l.lookup k := by
  by_cases h : k = m
  · subst h
    rw [if_pos rfl]
    simp [List.lookup]
  · rw [if_neg h]
    have hb : (k == m) = false := by
      cases e : (k == m) with
      | true => exact absurd (beq_iff_eq.mp e) h
      | false => rfl
    simp [List.lookup, hb]
theorem rf_w (n : Int) (w : Addr) (a p : Int) : (rf n w a p).lookup ("_words" : Str) = some (.ref w) := by
  unfold rf
  rw [look_cons, if_neg (fun e => kNW e.symm), look_cons, if_pos rfl]
theorem rf_a (n : Int) (w : Addr) (a p : Int) : (rf n w a p).lookup ("_at" : Str) = some (.int a) := by
  unfold rf
  rw [look_cons, if_neg (fun e => kNA e.symm), look_cons, if_neg (fun e => kWA e.symm), look_cons, if_pos rfl]
theorem rf_p (n : Int) (w : Addr) (a p : Int) : (rf n w a p).lookup ("_parts" : Str) = some (.int p) := by
  unfold rf
  rw [look_cons, if_neg (fun e => kNP e.symm), look_cons, if_neg (fun e => kWP e.symm), look_cons, if_neg (fun e => kAP e.symm), look_cons, if_pos rfl]
theorem rf_no (n : Int) (w : Addr) (a p : Int) {m : Str} (h1 : ¬ m = "_number") (h2 : ¬ m = "_words") (h3 : ¬ m = "_at") (h4 : ¬ m = "_parts") : (rf n w a p).lookup m = none := by
  unfold rf
  rw [look_cons, if_neg h1, look_cons, if_neg h2, look_cons, if_neg h3, look_cons, if_neg h4]
  rfl
theorem rf_putA (n : Int) (w : Addr) (a p b : Int) : putF "_at" (.int b) (rf n w a p) = rf n w b p := by
  unfold rf
  show (if ("_number" : Str) = "_at" then _ else (("_number" : Str), V.int n) :: (if ("_words" : Str) = "_at" then _ else (("_words" : Str), V.ref w) :: (if ("_at" : Str) = "_at" then (("_at" : Str), V.int b) :: [("_parts", V.int p)] else _))) = _
  rw [if_neg kNA, if_neg kWA, if_pos rfl]
theorem rf_putP (n : Int) (w : Addr) (a p b : Int) : putF "_parts" (.int b) (rf n w a p) = rf n w a b := by
  unfold rf
  show (if ("_number" : Str) = "_parts" then _ else (("_number" : Str), V.int n) :: (if ("_words" : Str) = "_parts" then _ else (("_words" : Str), V.ref w) :: (if ("_at" : Str) = "_parts" then _ else (("_at" : Str), V.int a) :: (if ("_parts" : Str) = "_parts" then [(("_parts" : Str), V.int b)] else _)))) = _
  rw [if_neg kNP, if_neg kWP, if_neg kAP, if_pos rfl]
theorem rf_new (n : Int) (w : Addr) : putF "_parts" (.int 0) (putF "_at" (.int 0) (putF "_words" (.ref w) (putF "_number" (.int n) []))) = rf n w 0 0 := by
  have e1 : putF "_words" (.ref w) (putF "_number" (.int n) []) = [(("_number" : Str), V.int n), ("_words", .ref w)] := by
    show (if ("_number" : Str) = "_words" then _ else (("_number" : Str), V.int n) :: [(("_words" : Str), V.ref w)]) = _
    rw [if_neg kNW]
  have e2 : putF "_at" (.int 0) [(("_number" : Str), V.int n), ("_words", .ref w)] = [(("_number" : Str), V.int n), ("_words", .ref w), ("_at", .int 0)] := by
    show (if ("_number" : Str) = "_at" then _ else (("_number" : Str), V.int n) :: (if ("_words" : Str) = "_at" then _ else (("_words" : Str), V.ref w) :: [(("_at" : Str), V.int 0)])) = _
    rw [if_neg kNA, if_neg kWA]
  rw [e1, e2]
  show (if ("_number" : Str) = "_parts" then _ else (("_number" : Str), V.int n) :: (if ("_words" : Str) = "_parts" then _ else (("_words" : Str), V.ref w) :: (if ("_at" : Str) = "_parts" then _ else (("_at" : Str), V.int 0) :: [(("_parts" : Str), V.int 0)]))) = _
  rw [if_neg kNP, if_neg kWP, if_neg kAP]
  rfl
structure RowAt (C : Addr) (H : Hp) (r : Addr) (n : Int) (w : Addr) (ws : List Str) (a p : Nat) : Prop where
  ob : ∃ dx, H r = some (.ins C dx (rf n w (a : Int) (p : Int)))
  wd : H w = some (.lst (ws.map V.str))
theorem RowAt.ne {C : Addr} {H : Hp} {r : Addr} {n : Int} {w : Addr} {ws : List Str} {a p : Nat} (h : RowAt C H r n w ws a p) : w ≠ r := fun e => by
  obtain ⟨dx, ho⟩ := h.ob
  have := h.wd
  rw [e, ho] at this
  cases this
theorem RowAt.keep {C : Addr} {H H' : Hp} {r : Addr} {n : Int} {w : Addr} {ws : List Str} {a p : Nat} (h : RowAt C H r n w ws a p) (k : Kp [] H H') : RowAt C H' r n w ws a p := by
  obtain ⟨dx, ho⟩ := h.ob
  exact ⟨⟨dx, k _ _ ho (fun m => nomatch m)⟩, k.lst h.wd (fun m => nomatch m)⟩
/-- the next word -/
def nxw (ws : List Str) (a : Nat) : Str := (ws[a]?).getD ""
theorem nxw_of {ws : List Str} {a : Nat} {x : Str} {rest : List Str} (h : ws.drop a = x :: rest) : nxw ws a = x ∧ a < ws.length ∧ ws[a]? = some x ∧ ws.drop (a + 1) = rest := by
  have e : ws[a]? = some x := by
    have : (ws.drop a)[0]? = ws[a]? := by rw [List.getElem?_drop]; rfl
    rw [← this, h]
    rfl
  have hl := (List.getElem?_eq_some_iff.mp e).1
  refine ⟨?_, hl, e, ?_⟩
  · unfold nxw
    rw [e]
    rfl
  · have : ws.drop (a + 1) = (ws.drop a).drop 1 := by rw [List.drop_drop]
    rw [this, h]
    rfl
theorem drop_app {ws xs rest : List Str} {a : Nat} (h : ws.drop a = xs ++ rest) : ws.drop (a + xs.length) = rest := by
  rw [← List.drop_drop, h, List.drop_left]

/-! ### words -/
abbrev figures : Str := "0123456789"
theorem tl_figures : tl figures = [48, 49, 50, 51, 52, 53, 54, 55, 56, 57] := by decide +kernel
theorem in_figs (c : Nat) : (!(Builtin.Str.occurrences figures ⟨#[c]⟩ 0 figures.length 1).isEmpty) = decide (48 ≤ c ∧ c ≤ 57) := by
  rw [Bool.eq_iff_iff, PySem.StrLaws.found_iff, decide_eq_true_iff]
  constructor
  · rintro ⟨i, h⟩
    have h2 := (PySem.StrLaws.subAt_one figures c i).mp h
    rw [show figures.cps.toList = [48, 49, 50, 51, 52, 53, 54, 55, 56, 57] from tl_figures] at h2
    have m := List.mem_of_getElem? h2
    simp only [List.mem_cons, List.not_mem_nil, or_false] at m
    omega
  · intro h
    refine ⟨c - 48, (PySem.StrLaws.subAt_one figures c (c - 48)).mpr ?_⟩
    rw [show figures.cps.toList = [48, 49, 50, 51, 52, 53, 54, 55, 56, 57] from tl_figures]
    have : ∀ j, j < 10 → [48, 49, 50, 51, 52, 53, 54, 55, 56, 57][j]? = some (48 + j) := by decide
    rw [this (c - 48) (by omega), show 48 + (c - 48) = c by omega]
/-- whether it begins with this one sign -/
theorem st_one {x y : Str} {c s : Nat} {l : List Nat} (hx : tl x = c :: l) (hy : tl y = [s]) : Txt.startswith x y = decide (c = s) := by
  unfold Txt.startswith
  rw [PySem.StrLaws.subAt_eq, show x.cps.toList = c :: l from hx, show y.cps.toList = [s] from hy]
  have ly : y.length = 1 := by rw [len_tl, hy]; rfl
  have lx : x.length = l.length + 1 := by rw [len_tl, hx]; rfl
  rw [ly, lx, decide_eq_true (show 0 + 1 ≤ l.length + 1 by omega), Bool.true_and]
  show ([c] == [s]) = _
  rw [Bool.eq_iff_iff, beq_iff_eq, decide_eq_true_iff]
  simp
theorem cut1 (x : Str) {c : Nat} {l : List Nat} (h : tl x = c :: l) : tl (cutS x (some 1) none) = l := by
  have lx : x.length = l.length + 1 := by rw [len_tl, h]; rfl
  show ((x.cps.toList.drop (HT.sIx x.length 0 (some 1))).take (HT.sIx x.length x.length none - HT.sIx x.length 0 (some 1))) = l
  have e1 : HT.sIx x.length 0 (some 1) = 1 := by
    rw [lx]
    unfold HT.sIx
    simp
    try omega
  have e2 : HT.sIx x.length x.length none = x.length := rfl
  rw [e1, e2, show x.cps.toList = c :: l from h, List.drop_one, List.tail_cons, lx]
  exact List.take_of_length_le (by omega)
theorem cut_app (c y : Str) {s : Nat} (h : tl c = [s]) : cutS (c ++ y) (some 1) none = y := by
  refine ext_tl ?_
  exact cut1 (c ++ y) (c := s) (by rw [tl_append, h]; rfl)
theorem tl_dot : tl ("." : Str) = [46] := by decide +kernel
theorem tl_col : tl (":" : Str) = [58] := by decide +kernel
theorem tl_min : tl ("-" : Str) = [45] := by decide +kernel
theorem tl_zero : tl ("0" : Str) = [48] := by decide +kernel
/-- a number's word -/
theorem numS_pos (n : Nat) : tl (numS (n : Int)) = numL n := tl_num n
theorem numS_neg (m : Nat) : tl (numS (Int.negSucc m)) = 45 :: numL (m + 1) := by
  unfold numS
  rw [tl_ofString]
  show (("-" ++ Nat.repr (m + 1) : String)).toList.map Char.toNat = _
  rw [String.toList_append, List.map_append]
  show [45] ++ _ = [45] ++ _
  congr 1
  have := tl_num (m + 1)
  rw [tl_ofString] at this
  exact this
theorem numL_head : ∀ n : Nat, 1 ≤ n → ∃ c l, numL n = c :: l ∧ 49 ≤ c ∧ c ≤ 57 := fun n => by
  induction n using Nat.strongRecOn with
  | _ n ih =>
    intro h1
    by_cases h : n < 10
    · exact ⟨48 + n, [], numL_lt h, by omega, by omega⟩
    · obtain ⟨c, l, e, h2, h3⟩ := ih (n / 10) (by omega) (by omega)
      refine ⟨c, l ++ [48 + n % 10], ?_, h2, h3⟩
      rw [numL_step (by omega), e]
      rfl
theorem numS_back {i : Int} (h : i.natAbs < 10 ^ 60) : intText? (numS i) = some i ∧ (numS i).length ≤ 640 := by
  cases i with
  | ofNat n =>
    have hl := numL_len (n := n) (k := 60) (by omega) h
    refine ⟨int_num (by omega), ?_⟩
    rw [len_tl, show tl (numS (Int.ofNat n)) = numL n from numS_pos n]
    omega
  | negSucc m =>
    have hl := numL_len (n := m + 1) (k := 60) (by omega) h
    have hn : (numS (Int.negSucc m)).length ≤ 61 := by
      rw [len_tl, numS_neg, List.length_cons]
      omega
    refine ⟨?_, by omega⟩
    rw [intText_neg (x := numS (Int.negSucc m)) (numS_neg m) (numL_digits _) (numL_ne _) (by omega), numL_val]
    rfl
theorem numS_inj {i j : Nat} (h : numS (i : Int) = numS (j : Int)) : i = j := by
  have := congrArg tl h
  rw [numS_pos, numS_pos] at this
  exact numL_inj this
end Lz

set_option Elab.async false
set_option linter.all false
set_option maxRecDepth 100000
set_option maxHeartbeats 8000000
namespace Lz
open PySem PySem.Spec PyProof.Rows L2 TL
/-- the class of rows, as the top leaves it -/
structure RC (K : PySem.W.Frag) (C : Addr) : Prop where
  cl : Cls K C
  nN : NoAttr K C "_number"
  nW : NoAttr K C "_words"
  nA : NoAttr K C "_at"
  nP : NoAttr K C "_parts"
def badC (c : Nat) : Prop := c = 46 ∨ c = 58 ∨ (97 ≤ c ∧ c ≤ 122)
def spNumW : Sp := fun vs H Q _ => ∃ (x : Str) (b : Bool), vs = [.str x] ∧ ((∃ i : Int, x = numS i ∧ i.natAbs < 10 ^ 60 ∧ b = true) ∨ (∃ c l, tl x = c :: l ∧ badC c ∧ x.length ≤ 60 ∧ b = false)) ∧ ∀ H', Kp [] H H' → Q (.bl b) H'
def spInitR (C : Addr) : Sp := fun vs H Q _ => ∃ (r dx w : Addr) (n : Int) (ws : List Str), vs = [.ref r, .int n, .ref w] ∧ H r = some (.ins C dx []) ∧ H w = some (.lst (ws.map V.str)) ∧ ∀ H', Kr r H H' → RowAt C H' r n w ws 0 0 → Q .non H'
def spNextW (C : Addr) : Sp := fun vs H Q _ => ∃ (r w : Addr) (n : Int) (ws : List Str) (a p : Nat), vs = [.ref r] ∧ RowAt C H r n w ws a p ∧ Q (.str (nxw ws a)) H
def spLook : Sp := fun vs H Q _ => ∃ v : V, vs = [v, .bl true] ∧ Q .non H
def spTakeR (C : Addr) : Sp := fun vs H Q _ => ∃ (r w : Addr) (n : Int) (ws : List Str) (a p : Nat) (x : Str), vs = [.ref r, .bl true] ∧ RowAt C H r n w ws a p ∧ ws[a]? = some x ∧ ∀ H', Kr r H H' → RowAt C H' r n w ws (a + 1) p → Q (.str x) H'
def spEndR (C : Addr) : Sp := fun vs H Q _ => ∃ (r w : Addr) (n : Int) (ws : List Str) (p : Nat), vs = [.ref r] ∧ RowAt C H r n w ws ws.length p ∧ Q .non H
def spNextN (C : Addr) : Sp := fun vs H Q _ => ∃ (r w : Addr) (n : Int) (ws : List Str) (a p : Nat) (x : Str), vs = [.ref r] ∧ RowAt C H r n w ws a p ∧ ws[a]? = some x ∧ nmOk x ∧ ∀ H', Kr r H H' → RowAt C H' r n w ws (a + 1) p → Q (.str x) H'
def spNameB (C : Addr) : Sp := fun vs H Q _ => ∃ (r w : Addr) (n : Int) (ws : List Str) (a p : Nat) (s y : Str) (c : Nat), vs = [.ref r, .str s] ∧ tl s = [c] ∧ RowAt C H r n w ws a p ∧ ws[a]? = some (s ++ y) ∧ nmOk y ∧ ∀ H', Kr r H H' → RowAt C H' r n w ws (a + 1) p → Q (.str y) H'
theorem nxw_at {ws : List Str} {a : Nat} {x : Str} (h : ws[a]? = some x) : nxw ws a = x := by
  unfold nxw
  rw [h]
  rfl
theorem all_false {l : List Nat} {c : Nat} (h : badC c) : (((c :: l).map (fun c => decide (48 ≤ c ∧ c ≤ 57)))).all id = false := by
  rw [List.map_cons, List.all_cons]
  have : decide (48 ≤ c ∧ c ≤ 57) = false := decide_eq_false (by unfold badC at h; omega)
  rw [this]
  rfl
theorem all_digits {l : List Nat} (h : NumText.AllDigits l) : ((l.map (fun c => decide (48 ≤ c ∧ c ≤ 57)))).all id = true := by
  rw [List.all_eq_true]
  intro b m
  obtain ⟨c, hc, rfl⟩ := List.mem_map.mp m
  exact decide_eq_true (h c hc)
theorem lineK : 1000 ≤ sizeLine := by decide +kernel
section
variable {P : Program} {w : World} {K : PySem.W.Frag} {mg : Str → Option Value} {base : Heap} {f C : Addr} {fd : FuncData}
abbrev sIsNumberWord : Stmt := topS 44
theorem scIsNumberWord : FnScope ["word", "figures", "sign"] ["word"] (defScope sIsNumberWord) := ⟨rfl, rfl, rfl, by decide +kernel, rfl, by decide +kernel, by decide +kernel⟩
theorem ok_numW (F : Fun K "is_number_word" "is_number_word" sIsNumberWord f fd) (B : Bu mg) (mMOST_FIGURES : ∃ t, mg "MOST_FIGURES" = some (.int 60 t)) (mFIGURES : ∃ t, mg "FIGURES" = some (.str figures t)) : FnOk P w K mg base CX0 1 f fd ["word"] spNumW := by
  have mall := B.all
  have ml := B.len
  obtain ⟨_, mMOST_FIGURES⟩ := mMOST_FIGURES
  obtain ⟨_, mFIGURES⟩ := mFIGURES
  refine F.ok scIsNumberWord (fun vs H Q E h => ?_) (fun cdv A outer s H vs Q E hr h => ?_)
  · obtain ⟨x, b, rfl, _⟩ := h
    rfl
  obtain ⟨x, b, rfl, hx, q⟩ := h
  refine ⟨_, (pss_cons (ps_set (i := 1) scIsNumberWord.nd rfl (.inl rfl) (pe_ifExp (pt_truthK (K := K) rfl (pe_m1 PySem.F.slot_str_startswith PySem.F.type_str_startswith mt_startswith (pv 0) pe_str) (fun _ => rfl)) (pe_slice sl_str (pv 0) (po_some pe_int) po_none) (pv 0)))
    (pss_cons (ps_if (PW.pt (pw_or (pt_not (pt_chain op_le op_le pe_int (pe_callB call_len_str (by rfl) ml PySem.boot_len (pa_cons (pv 1) pa_nil)) (pe_glob (v := .int 60) (by rfl) mMOST_FIGURES ⟨_, rfl⟩))) (pw_or1 (pt_not (pt_truthK (K := K) rfl (pe_callB (call_allK (K := K) rfl rfl) (by rfl) mall (by decide +kernel) (pa_cons (pe_lc (own := [("sign", 2)]) rfl scIsNumberWord.nd (pi_str (pv 1)) (blkOk_by (N := ["word", "figures", "sign"]) (sc := defScope sIsNumberWord) (by decide +kernel)) (fun _ _ _ _ _ => (pg_name (i := 2) scIsNumberWord.nd rfl (.inl rfl))) (fun _ _ _ _ _ => pts_nil) (fun _ _ _ _ _ => (pe_cmpR op_in_str (pv 2) (pe_glob (v := .str figures) (by rfl) mFIGURES ⟨_, rfl⟩) rfl))) pa_nil)) (fun _ => rfl)))))) (pss_one (ps_ret pe_bl)) pss_nil)
    (pss_one (ps_ret (pe_or (pe_cmpR op_eq (pv 0) pe_str (nomark _)) (pe_one (pe_not (pe_m1 PySem.F.slot_str_startswith PySem.F.type_str_startswith mt_startswith (pv 1) pe_str)))))))), ?_⟩
  have hne : ∃ c l, tl x = c :: l := by
    rcases hx with ⟨i, rfl, hi, _⟩ | ⟨c, l, e, _⟩
    · cases i with
      | ofNat n =>
        have := numS_pos n
        cases e : numL n with
        | nil => exact absurd e (numL_ne n)
        | cons c l => exact ⟨c, l, this.trans e⟩
      | negSucc m => exact ⟨_, _, numS_neg m⟩
    · exact ⟨c, l, e⟩
  obtain ⟨c0, l0, ex⟩ := hne
  have hL := lineK
  -- the figures: z
  have hx61 : x.length ≤ 61 := by
    rcases hx with ⟨i, rfl, hi, _⟩ | ⟨c, l, e, _, h, _⟩
    · rw [len_tl]
      cases i with
      | ofNat n =>
        have hl := numL_len (n := n) (k := 60) (by omega) hi
        rw [show tl (numS (Int.ofNat n)) = numL n from numS_pos n]
        omega
      | negSucc m =>
        have hl := numL_len (n := m + 1) (k := 60) (by omega) hi
        rw [numS_neg, List.length_cons]
        omega
    · omega
  refine ⟨_, rfl, ⟨_, rfl⟩, _, _, rfl, rfl, ?_⟩
  rw [st_one ex tl_min]
  refine ⟨_, rfl, ?_⟩
  refine ite2 (fun cc => ?_) (fun cc => ?_)
  · have cc := of_decide_eq_true cc
    obtain ⟨c, l, hzt, hz60, hb⟩ : ∃ c l, tl (cutS x (some 1) none) = c :: l ∧ (cutS x (some 1) none).length ≤ 60 ∧ ((((c :: l).map (fun c => decide (48 ≤ c ∧ c ≤ 57))).all id = false ∧ b = false) ∨ (((c :: l).map (fun c => decide (48 ≤ c ∧ c ≤ 57))).all id = true ∧ b = true ∧ (x = "0" ∨ ¬ c = 48))) := by
      rcases hx with ⟨i, rfl, hi, hb⟩ | ⟨c, l, e, hbad, h, _⟩
      · cases i with
        | ofNat n =>
          have e1 := (numS_pos n).symm.trans ex
          have := numL_digits n c0 (by rw [e1]; exact List.mem_cons_self)
          omega
        | negSucc m =>
          obtain ⟨c, l, e, h49, _⟩ := numL_head (m + 1) (by omega)
          have e2 := cut1 _ (numS_neg m)
          have hl := numL_len (n := m + 1) (k := 60) (by omega) hi
          refine ⟨c, l, e2.trans e, by rw [len_tl, e2]; exact hl, .inr ⟨?_, hb, .inr (by omega)⟩⟩
          exact all_digits (by rw [← e]; exact numL_digits _)
      · have e1 := (List.cons.inj (e.symm.trans ex)).1
        unfold badC at hbad
        omega
    have hz1 : 1 ≤ (cutS x (some 1) none).length := by rw [len_tl, hzt, List.length_cons]; omega
    refine ⟨_, rfl, 1, rfl, _, rfl, by omega, ?_⟩
    refine ⟨_, rfl, cutS x (some 1) none, rfl, by omega, _, _, rfl, rfl, _, rfl, ?_⟩
    rw [if_pos (decide_eq_true (show (1 : Int) ≤ ((cutS x (some 1) none).length : Nat) by omega))]
    refine ⟨_, _, rfl, rfl, _, rfl, ?_⟩
    rw [decide_eq_true (show (((cutS x (some 1) none).length : Nat) : Int) ≤ 60 by omega)]
    refine iteF ?_
    refine ⟨_, rfl, cutS x (some 1) none, rfl, fun D hD => ?_⟩
    refine lc_it (walk_str (z := cutS x (some 1) none)) (fun i H' => Kp [] H H' ∧ H' D = some (.lst ((((tl (cutS x (some 1) none)).take i).map (fun c => decide (48 ≤ c ∧ c ≤ 57))).map V.bl)))
      ⟨Kp.new hD, upd_same⟩ (fun i H' _ _ => True.intro) ?_ ?_
    · rintro i y H1 H2 hi ⟨k1, h1⟩ ⟨rfl, ch, hcx, rfl⟩
      refine ⟨rfl, ?_⟩
      refine ⟨_, rfl, _, _, rfl, rfl, ?_⟩
      have hcl : (tl (cutS x (some 1) none))[i]? = some ch := by
        show (cutS x (some 1) none).cps.toList[i]? = _
        rw [Array.getElem?_toList]
        exact hcx
      refine ⟨_, h1, ?_, k1.mut hD, ?_⟩
      · rw [List.length_map, List.length_map, List.length_take, ← len_tl]
        exact small1000 (by omega)
      · rw [upd_same, in_figs, List.take_add_one, hcl, List.map_append, List.map_append]
        rfl
    · rintro H1 ⟨k1, h1⟩
      rw [show (cutS x (some 1) none).cps.size = (tl (cutS x (some 1) none)).length from (len_tl _), List.take_length] at h1
      refine ⟨D, _, rfl, SqL.of h1, ?_⟩
      rw [hzt]
      rcases hb with ⟨ha, rfl⟩ | ⟨ha, rfl, hl⟩
      · rw [ha]
        refine ⟨_, rfl, ?_⟩
        refine iteT ?_
        exact q H1 k1
      · rw [ha]
        refine ⟨_, rfl, ?_⟩
        refine iteF ?_
        refine ⟨_, rfl, rfl, _, rfl, ?_⟩
        refine ite2 (fun _ => q H1 k1) (fun hno => ?_)
        have hl : ¬ c = 48 := hl.resolve_left (fun e => by rw [e] at hno; exact hno (decide_eq_true rfl))
        refine ⟨_, rfl, ⟨_, rfl⟩, _, _, rfl, rfl, ?_⟩
        rw [st_one hzt tl_zero, decide_eq_false hl]
        refine ⟨_, rfl, ?_⟩
        exact q H1 k1
  · have cc : ¬ c0 = 45 := of_decide_eq_false (Bool.eq_false_iff.mpr cc)
    obtain ⟨hz60, hb⟩ : x.length ≤ 60 ∧ ((((c0 :: l0).map (fun c => decide (48 ≤ c ∧ c ≤ 57))).all id = false ∧ b = false) ∨ (((c0 :: l0).map (fun c => decide (48 ≤ c ∧ c ≤ 57))).all id = true ∧ b = true ∧ (x = "0" ∨ ¬ c0 = 48))) := by
      rcases hx with ⟨i, rfl, hi, hb⟩ | ⟨c, l, e, hbad, h, hb⟩
      · cases i with
        | ofNat n =>
          have e1 := (numS_pos n).symm.trans ex
          have hl := numL_len (n := n) (k := 60) (by omega) hi
          refine ⟨by rw [len_tl, show tl (numS (Int.ofNat n)) = numL n from numS_pos n]; exact hl, .inr ⟨all_digits (by rw [← e1]; exact numL_digits _), hb, ?_⟩⟩
          by_cases h0 : n = 0
          · exact .inl (ext_tl (by rw [show tl (numS (Int.ofNat n)) = numL n from numS_pos n, h0, tl_zero]; decide +kernel))
          · obtain ⟨c, l, e, h49, _⟩ := numL_head n (by omega)
            have := (List.cons.inj (e.symm.trans e1)).1
            exact .inr (by omega)
        | negSucc m =>
          have := (List.cons.inj ((numS_neg m).symm.trans ex)).1
          omega
      · have e1 := List.cons.inj (e.symm.trans ex)
        rw [e1.1] at hbad
        exact ⟨h, .inl ⟨all_false hbad, hb⟩⟩
    have hzt := ex
    have hz1 : 1 ≤ x.length := by rw [len_tl, hzt, List.length_cons]; omega
    refine ⟨_, rfl, ?_⟩
    refine ⟨_, rfl, x, rfl, by omega, _, _, rfl, rfl, _, rfl, ?_⟩
    rw [if_pos (decide_eq_true (show (1 : Int) ≤ ((x).length : Nat) by omega))]
    refine ⟨_, _, rfl, rfl, _, rfl, ?_⟩
    rw [decide_eq_true (show (((x).length : Nat) : Int) ≤ 60 by omega)]
    refine iteF ?_
    refine ⟨_, rfl, x, rfl, fun D hD => ?_⟩
    refine lc_it (walk_str (z := x)) (fun i H' => Kp [] H H' ∧ H' D = some (.lst ((((tl (x)).take i).map (fun c => decide (48 ≤ c ∧ c ≤ 57))).map V.bl)))
      ⟨Kp.new hD, upd_same⟩ (fun i H' _ _ => True.intro) ?_ ?_
    · rintro i y H1 H2 hi ⟨k1, h1⟩ ⟨rfl, ch, hcx, rfl⟩
      refine ⟨rfl, ?_⟩
      refine ⟨_, rfl, _, _, rfl, rfl, ?_⟩
      have hcl : (tl (x))[i]? = some ch := by
        show (x).cps.toList[i]? = _
        rw [Array.getElem?_toList]
        exact hcx
      refine ⟨_, h1, ?_, k1.mut hD, ?_⟩
      · rw [List.length_map, List.length_map, List.length_take, ← len_tl]
        exact small1000 (by omega)
      · rw [upd_same, in_figs, List.take_add_one, hcl, List.map_append, List.map_append]
        rfl
    · rintro H1 ⟨k1, h1⟩
      rw [show (x).cps.size = (tl (x)).length from (len_tl _), List.take_length] at h1
      refine ⟨D, _, rfl, SqL.of h1, ?_⟩
      rw [hzt]
      rcases hb with ⟨ha, rfl⟩ | ⟨ha, rfl, hl⟩
      · rw [ha]
        refine ⟨_, rfl, ?_⟩
        refine iteT ?_
        exact q H1 k1
      · rw [ha]
        refine ⟨_, rfl, ?_⟩
        refine iteF ?_
        refine ⟨_, rfl, rfl, _, rfl, ?_⟩
        refine ite2 (fun _ => q H1 k1) (fun hno => ?_)
        have hl : ¬ c0 = 48 := hl.resolve_left (fun e => by rw [e] at hno; exact hno (decide_eq_true rfl))
        refine ⟨_, rfl, ⟨_, rfl⟩, _, _, rfl, rfl, ?_⟩
        rw [st_one hzt tl_zero, decide_eq_false hl]
        refine ⟨_, rfl, ?_⟩
        exact q H1 k1
abbrev sRInit : Stmt := inClass (topS 45) 0
theorem scRInit : FnScope ["self", "number", "words"] ["self", "number", "words"] (defScope sRInit) := ⟨rfl, rfl, rfl, by decide +kernel, rfl, by decide +kernel, by decide +kernel⟩
theorem ok_initR (F : Fun K "__init__" "Row.__init__" sRInit f fd) (R : RC K C) : FnOk P w K mg base CX0 1 f fd ["self", "number", "words"] (spInitR C) := by
  refine F.ok scRInit (fun vs H Q E h => ?_) (fun cdv A outer s H vs Q E hr h => ?_)
  · obtain ⟨r, dx, w, n, ws, rfl, _⟩ := h
    rfl
  obtain ⟨r, dx, w, n, ws, rfl, hr0, hw, q⟩ := h
  refine ⟨_, (pss_cons (ps_fld (pv 0) (pv 1) rfl)
    (pss_cons (ps_fld (pv 0) (pv 2) rfl)
    (pss_cons (ps_fld (pv 0) pe_int rfl)
    (pss_one (ps_fld (pv 0) pe_int rfl))))), ?_⟩
  have hwr : w ≠ r := fun e => by rw [e, hr0] at hw; cases hw
  refine ⟨_, rfl, _, rfl, r, C, dx, _, rfl, hr0, R.cl, R.nN, (by show 0 < 1000; decide), ?_⟩
  refine ⟨_, rfl, _, rfl, r, C, dx, _, rfl, upd_same, R.cl, R.nW, (by show 1 < 1000; decide), ?_⟩
  refine ⟨_, rfl, r, C, dx, _, rfl, upd_same, R.cl, R.nA, (by have := length_putF "_words" (.ref w) (putF "_number" (.int n) []); have := length_putF "_number" (.int n) []; simp at *; omega), ?_⟩
  refine ⟨_, rfl, r, C, dx, _, rfl, upd_same, R.cl, R.nP, (by have := length_putF "_at" (.int 0) (putF "_words" (.ref w) (putF "_number" (.int n) [])); have := length_putF "_words" (.ref w) (putF "_number" (.int n) []); have := length_putF "_number" (.int n) []; simp at *; omega), ?_⟩
  refine q _ (((Kr.at r H _).trans (Kr.at r _ _)).trans ((Kr.at r _ _).trans (Kr.at r _ _))) ⟨⟨dx, ?_⟩, ?_⟩
  · rw [upd_same, rf_new]
    rfl
  · rw [upd_ne hwr, upd_ne hwr, upd_ne hwr, upd_ne hwr]
    exact hw
abbrev sRNextWord : Stmt := inClass (topS 45) 1
theorem scRNextWord : FnScope ["self"] ["self"] (defScope sRNextWord) := ⟨rfl, rfl, rfl, by decide +kernel, rfl, by decide +kernel, by decide +kernel⟩
theorem ok_nextW (F : Fun K "next_word" "Row.next_word" sRNextWord f fd) (R : RC K C) (B : Bu mg) : FnOk P w K mg base CX0 1 f fd ["self"] (spNextW C) := by
  have ml := B.len
  refine F.ok scRNextWord (fun vs H Q E h => ?_) (fun cdv A outer s H vs Q E hr h => ?_)
  · obtain ⟨r, w, n, ws, a, p, rfl, _⟩ := h
    rfl
  obtain ⟨r, w, n, ws, a, p, rfl, R0, q⟩ := h
  refine ⟨_, (pss_one (ps_ret (pe_ifExp (pt_cmpR op_lt (pe_fld (pv 0) rfl) (pe_callB (call_lenK (K := K) rfl) (by rfl) ml PySem.boot_len (pa_cons (pe_fld (pv 0) rfl) pa_nil)) (nomark _)) (pe_ix (ix_listK (K := K) rfl) (pe_fld (pv 0) rfl) (pe_fld (pv 0) rfl) (fun _ _ => rfl)) pe_str))), ?_⟩
  obtain ⟨⟨dx, ho⟩, hw⟩ := id R0
  refine ⟨_, rfl, r, C, dx, _, _, rfl, ho, R.cl, R.nA, rf_a _ _ _ _, ?_⟩
  refine ⟨_, rfl, r, C, dx, _, _, rfl, ho, R.cl, R.nW, rf_w _ _ _ _, w, _, rfl, .inl (SqL.of hw), ?_⟩
  rw [List.length_map]
  refine ⟨_, _, rfl, rfl, _, rfl, ?_⟩
  refine ite2 (fun c => ?_) (fun c => ?_)
  · have hl : a < ws.length := Int.ofNat_lt.mp (of_decide_eq_true c)
    have hx := List.getElem?_eq_getElem hl
    refine ⟨_, rfl, r, C, dx, _, _, rfl, ho, R.cl, R.nW, rf_w _ _ _ _, _, rfl, r, C, dx, _, _, rfl, ho, R.cl, R.nA, rf_a _ _ _ _, w, _, _, _, rfl, rfl, SqL.of hw, at_of (j := a) rfl (by rw [List.getElem?_map, hx]; rfl), ?_⟩
    rw [nxw_at hx] at q
    exact q
  · have hl : ws.length ≤ a := by
      have : ¬ ((a : Int) < (ws.length : Int)) := of_decide_eq_false (Bool.eq_false_iff.mpr c)
      omega
    have : nxw ws a = "" := by
      unfold nxw
      rw [List.getElem?_eq_none hl]
      rfl
    rw [this] at q
    exact q
abbrev sRLook : Stmt := inClass (topS 45) 2
theorem scRLook : FnScope ["self", "can_stand"] ["self", "can_stand"] (defScope sRLook) := ⟨rfl, rfl, rfl, by decide +kernel, rfl, by decide +kernel, by decide +kernel⟩
theorem ok_look (F : Fun K "look" "Row.look" sRLook f fd) : FnOk P w K mg base CX0 1 f fd ["self", "can_stand"] spLook := by
  refine F.ok scRLook (fun vs H Q E h => ?_) (fun cdv A outer s H vs Q E hr h => ?_)
  · obtain ⟨v, rfl, _⟩ := h
    rfl
  obtain ⟨v, rfl, q⟩ := h
  refine ⟨_, (pss_one (ps_if (pt_not (pt_truthK (K := K) rfl (pv 1) (fun _ => rfl))) (pss_one ps_never) pss_nil)), ?_⟩
  refine ⟨_, rfl, _, rfl, ?_⟩
  exact q
abbrev sRTake : Stmt := inClass (topS 45) 3
theorem scRTake : FnScope ["self", "can_stand"] ["self", "can_stand"] (defScope sRTake) := ⟨rfl, rfl, rfl, by decide +kernel, rfl, by decide +kernel, by decide +kernel⟩
theorem ok_take (F : Fun K "take" "Row.take" sRTake f fd) (R : RC K C) (CRLook : C8.Met P w K mg base 1 C "look" spLook []) : FnOk P w K mg base CX0 2 f fd ["self", "can_stand"] (spTakeR C) := by
  refine F.ok scRTake (fun vs H Q E h => ?_) (fun cdv A outer s H vs Q E hr h => ?_)
  · obtain ⟨r, w, n, ws, a, p, x, rfl, _⟩ := h
    rfl
  obtain ⟨r, w, n, ws, a, p, x, rfl, R0, hx, q⟩ := h
  refine ⟨_, (pss_cons (ps_expr (C8.pe_mt CRLook hr (by first | decide | omega) (pv 0) (pa_cons (pv 1) pa_nil)))
    (pss_cons (ps_fldaug (pv 0) pe_int in_add)
    (pss_one (ps_ret (pe_ix (ix_listK (K := K) rfl) (pe_fld (pv 0) rfl) (pe_op op_sub (pe_fld (pv 0) rfl) pe_int) (fun _ _ => rfl)))))), ?_⟩
  obtain ⟨⟨dx, ho⟩, hw⟩ := id R0
  refine ⟨_, rfl, r, dx, _, rfl, ho, rf_no _ _ _ _ (by decide +kernel) (by decide +kernel) (by decide +kernel) (by decide +kernel), _, rfl, .ref r, rfl, ?_⟩
  refine ⟨_, rfl, r, C, dx, _, _, rfl, ho, R.cl, R.nA, rf_a _ _ _ _, _, _, rfl, rfl, dx, _, ho, (by show 4 < 1000; decide), ?_⟩
  rw [rf_putA]
  have e : (a : Int) + 1 = ((a + 1 : Nat) : Int) := by omega
  rw [e]
  have hwr := R0.ne
  have hw1 : (upd H r (.ins C dx (rf n w ((a + 1 : Nat) : Int) (p : Int)))) w = some (.lst (ws.map V.str)) := by rw [upd_ne hwr]; exact hw
  refine ⟨_, rfl, r, C, dx, _, _, rfl, upd_same, R.cl, R.nW, rf_w _ _ _ _, _, rfl, r, C, dx, _, _, rfl, upd_same, R.cl, R.nA, rf_a _ _ _ _, _, _, rfl, rfl, w, _, _, _, rfl, rfl, SqL.of hw1, at_of (j := a) (by omega) (by rw [List.getElem?_map, hx]; rfl), ?_⟩
  exact q _ (Kr.at r H _) ⟨⟨dx, upd_same⟩, hw1⟩
abbrev sREnd : Stmt := inClass (topS 45) 4
theorem scREnd : FnScope ["self"] ["self"] (defScope sREnd) := ⟨rfl, rfl, rfl, by decide +kernel, rfl, by decide +kernel, by decide +kernel⟩
theorem ok_endR (F : Fun K "end" "Row.end" sREnd f fd) (R : RC K C) (B : Bu mg) (CRLook : C8.Met P w K mg base 1 C "look" spLook []) : FnOk P w K mg base CX0 2 f fd ["self"] (spEndR C) := by
  have ml := B.len
  refine F.ok scREnd (fun vs H Q E h => ?_) (fun cdv A outer s H vs Q E hr h => ?_)
  · obtain ⟨r, w, n, ws, p, rfl, _⟩ := h
    rfl
  obtain ⟨r, w, n, ws, p, rfl, R0, q⟩ := h
  refine ⟨_, (pss_one (ps_expr (C8.pe_mt CRLook hr (by first | decide | omega) (pv 0) (pa_cons (pe_cmpR op_eq (pe_fld (pv 0) rfl) (pe_callB (call_lenK (K := K) rfl) (by rfl) ml PySem.boot_len (pa_cons (pe_fld (pv 0) rfl) pa_nil)) (nomark _)) pa_nil)))), ?_⟩
  obtain ⟨⟨dx, ho⟩, hw⟩ := id R0
  refine ⟨_, rfl, r, dx, _, rfl, ho, rf_no _ _ _ _ (by decide +kernel) (by decide +kernel) (by decide +kernel) (by decide +kernel), ?_⟩
  refine ⟨_, rfl, r, C, dx, _, _, rfl, ho, R.cl, R.nA, rf_a _ _ _ _, ?_⟩
  refine ⟨_, rfl, r, C, dx, _, _, rfl, ho, R.cl, R.nW, rf_w _ _ _ _, w, _, rfl, .inl (SqL.of hw), ?_⟩
  rw [List.length_map]
  refine ⟨rfl, .ref r, ?_, q⟩
  rw [decide_eq_true (rfl : V.int (ws.length : Nat) = V.int (ws.length : Nat))]
  rfl
abbrev sRNextName : Stmt := inClass (topS 45) 5
theorem scRNextName : FnScope ["self"] ["self"] (defScope sRNextName) := ⟨rfl, rfl, rfl, by decide +kernel, rfl, by decide +kernel, by decide +kernel⟩
theorem ok_nextN (F : Fun K "next_name" "Row.next_name" sRNextName f fd) (CIsName : C8.Cal P w K mg base 1 "is_name" spIsName []) (CRNextWord : C8.Met P w K mg base 1 C "next_word" (spNextW C) []) (CRTake : C8.Met P w K mg base 2 C "take" (spTakeR C) []) : FnOk P w K mg base CX0 3 f fd ["self"] (spNextN C) := by
  refine F.ok scRNextName (fun vs H Q E h => ?_) (fun cdv A outer s H vs Q E hr h => ?_)
  · obtain ⟨r, w, n, ws, a, p, x, rfl, _⟩ := h
    rfl
  obtain ⟨r, w, n, ws, a, p, x, rfl, R0, hx, hn, q⟩ := h
  refine ⟨_, (pss_one (ps_ret (C8.pe_mt CRTake hr (by first | decide | omega) (pv 0) (pa_cons (C8.pe_c CIsName hr (by first | decide | omega) (by rfl) (pa_cons (C8.pe_mt0 CRNextWord hr (by first | decide | omega) (pv 0)) pa_nil)) pa_nil)))), ?_⟩
  obtain ⟨⟨dx, ho⟩, hw⟩ := id R0
  refine ⟨_, rfl, r, dx, _, rfl, ho, rf_no _ _ _ _ (by decide +kernel) (by decide +kernel) (by decide +kernel) (by decide +kernel), ?_⟩
  refine ⟨_, rfl, r, dx, _, rfl, ho, rf_no _ _ _ _ (by decide +kernel) (by decide +kernel) (by decide +kernel) (by decide +kernel), r, w, n, ws, a, p, rfl, R0, ?_⟩
  rw [nxw_at hx]
  refine ⟨x, rfl, hn, fun H1 k1 => ?_⟩
  refine ⟨r, w, n, ws, a, p, x, rfl, R0.keep k1, hx, fun H2 k2 R2 => q H2 ((Kr.of k1).trans k2) R2⟩
abbrev sRNameBehind : Stmt := inClass (topS 45) 6
theorem scRNameBehind : FnScope ["self", "sign", "word"] ["self", "sign"] (defScope sRNameBehind) := ⟨rfl, rfl, rfl, by decide +kernel, rfl, by decide +kernel, by decide +kernel⟩
theorem ok_nameB (F : Fun K "name_behind" "Row.name_behind" sRNameBehind f fd) (CIsName : C8.Cal P w K mg base 1 "is_name" spIsName []) (CRNextWord : C8.Met P w K mg base 1 C "next_word" (spNextW C) []) (CRTake : C8.Met P w K mg base 2 C "take" (spTakeR C) []) : FnOk P w K mg base CX0 3 f fd ["self", "sign"] (spNameB C) := by
  refine F.ok scRNameBehind (fun vs H Q E h => ?_) (fun cdv A outer s H vs Q E hr h => ?_)
  · obtain ⟨r, w, n, ws, a, p, s, y, c, rfl, _⟩ := h
    rfl
  obtain ⟨r, w, n, ws, a, p, s, y, c, rfl, hs, R0, hx, hn, q⟩ := h
  refine ⟨_, (pss_cons (ps_set (i := 2) scRNameBehind.nd rfl (.inl rfl) (C8.pe_mt0 CRNextWord hr (by first | decide | omega) (pv 0)))
    (pss_one (ps_ret (pe_slice sl_str (C8.pe_mt CRTake hr (by first | decide | omega) (pv 0) (pa_cons (pe_and (pe_m1 PySem.F.slot_str_startswith PySem.F.type_str_startswith mt_startswith (pv 2) (pv 1)) (pe_one (C8.pe_c CIsName hr (by first | decide | omega) (by rfl) (pa_cons (pe_slice sl_str (pv 2) (po_some pe_int) po_none) pa_nil)))) pa_nil)) (po_some pe_int) po_none)))), ?_⟩
  obtain ⟨⟨dx, ho⟩, hw⟩ := id R0
  have hz : (s ++ y).length ≤ sizeLine := by
    have h8 := hn.2.1
    have := lineK
    rw [len_tl, tl_append, List.length_append, hs, ← len_tl]
    show 1 + y.length ≤ _
    omega
  refine ⟨_, rfl, r, dx, _, rfl, ho, rf_no _ _ _ _ (by decide +kernel) (by decide +kernel) (by decide +kernel) (by decide +kernel), r, w, n, ws, a, p, rfl, R0, ?_⟩
  rw [nxw_at hx]
  refine ⟨_, rfl, r, dx, _, rfl, ho, rf_no _ _ _ _ (by decide +kernel) (by decide +kernel) (by decide +kernel) (by decide +kernel), ?_⟩
  refine ⟨_, rfl, ⟨_, rfl⟩, _, rfl, _, _, rfl, rfl, ?_⟩
  rw [st_one (x := s ++ y) (c := c) (l := tl y) (by rw [tl_append, hs]; rfl) hs, decide_eq_true rfl]
  refine ⟨true, rfl, ?_⟩
  rw [if_pos rfl]
  refine ⟨_, rfl, 1, rfl, _, rfl, hz, ?_⟩
  rw [cut_app s y hs]
  refine ⟨y, rfl, hn, fun H1 k1 => ?_⟩
  refine ⟨r, w, n, ws, a, p, _, rfl, R0.keep k1, hx, fun H2 k2 R2 => ?_⟩
  refine ⟨1, rfl, _, rfl, hz, ?_⟩
  rw [cut_app s y hs]
  exact q H2 ((Kr.of k1).trans k2) R2
end
end Lz

set_option Elab.async false
set_option linter.all false
set_option maxRecDepth 100000
set_option maxHeartbeats 8000000
namespace Lz
open PySem PySem.Spec PyProof.Rows L2 TL
def spPartR (K : PySem.W.Frag) (C : Addr) (n : Nat) : Sp := fun vs H Q _ => ∃ (r w : Addr) (nn : Int) (ws : List Str) (a p d : Nat) (t : Lz.P) (F sc rest : List Str), vs = [.ref r, .int (d : Nat)] ∧ RowAt C H r nn w ws a p ∧ t.ok ∧ t.fit F sc ∧ ws.drop a = t.ws ++ rest ∧ d + t.deep ≤ 13 ∧ p + t.many ≤ 60 ∧ t.deep ≤ n ∧ ∀ (v : V) (H' : Hp), Kr r H H' → RowAt C H' r nn w ws (a + t.ws.length) (p + t.many) → Dp K H' v t.data → Q v H'
def spLetR (K : PySem.W.Frag) (C : Addr) (n : Nat) : Sp := fun vs H Q _ => ∃ (r w : Addr) (nn : Int) (ws : List Str) (a p d : Nat) (nm : List Str) (as : List Lz.P) (b : Lz.P) (F sc rest : List Str), vs = [.ref r, .int (d : Nat)] ∧ RowAt C H r nn w ws a p ∧ (Lz.P.lt nm as b).ok ∧ (Lz.P.lt nm as b).fit F sc ∧ ws.drop a = (Lz.P.lt nm as b).ws ++ rest ∧ d + (Lz.P.lt nm as b).deep ≤ 13 ∧ p + (Lz.P.manys as + b.many) ≤ 60 ∧ (Lz.P.lt nm as b).deep ≤ n + 1 ∧ ∀ (v : V) (H' : Hp), Kr r H H' → RowAt C H' r nn w ws (a + (Lz.P.lt nm as b).ws.length) (p + (Lz.P.manys as + b.many)) → Dp K H' v (Lz.P.lt nm as b).data → Q v H'
theorem kind_head {k : Str} {n : Nat} (h : (k, n) ∈ kinds) : ∃ c l, tl k = c :: l ∧ badC c ∧ ¬ c = 46 ∧ ¬ c = 58 ∧ k.length ≤ 60 := by
  have h0 : kinds.all (fun p => (match tl p.1 with | c :: _ => decide (97 ≤ c) && decide (c ≤ 122) | [] => false) && decide (p.1.length ≤ 60)) = true := by decide +kernel
  have q := List.all_eq_true.mp h0 _ h
  rw [Bool.and_eq_true, decide_eq_true_iff] at q
  cases e : tl k with
  | nil =>
    have q1 := q.1
    rw [show tl (k, n).1 = [] from e] at q1
    cases q1
  | cons c l =>
    have q1 := q.1
    rw [show tl (k, n).1 = c :: l from e] at q1
    have q2 : (decide (97 ≤ c) && decide (c ≤ 122)) = true := q1
    rw [Bool.and_eq_true, decide_eq_true_iff, decide_eq_true_iff] at q2
    exact ⟨c, l, rfl, .inr (.inr q2), by omega, by omega, q.2⟩
theorem tl_let : tl ("let" : Str) = [108, 101, 116] := by decide +kernel
theorem wss_app (nm : List Str) : ∀ (bs as : List Lz.P), ∃ r, Lz.P.wss nm (as ++ bs) = Lz.P.wss nm as ++ r
  | [], as => ⟨[], by rw [List.append_nil, List.append_nil]⟩
  | b :: bs, as => by
    obtain ⟨r, h⟩ := wss_app nm bs (as ++ [b])
    refine ⟨preW nm as.length ++ b.ws ++ r, ?_⟩
    rw [show as ++ b :: bs = (as ++ [b]) ++ bs by simp, h, wss_snoc, List.append_assoc, List.append_assoc]
theorem wss_split {nm : List Str} {as : List Lz.P} {i : Nat} {t : Lz.P} (h : as[i]? = some t) : ∃ r, Lz.P.wss nm as = Lz.P.wss nm (as.take i) ++ (preW nm i ++ (t.ws ++ r)) ∧ Lz.P.wss nm (as.take (i + 1)) = Lz.P.wss nm (as.take i) ++ (preW nm i ++ t.ws) := by
  have hl := (List.getElem?_eq_some_iff.mp h).1
  have e1 : as.take (i + 1) = as.take i ++ [t] := by rw [List.take_add_one, h]; rfl
  have e2 : (as.take i).length = i := by rw [List.length_take]; omega
  have e3 := wss_snoc nm (as.take i) t
  rw [e2, ← e1] at e3
  obtain ⟨r, hr⟩ := wss_app nm (as.drop (i + 1)) (as.take (i + 1))
  rw [List.take_append_drop] at hr
  refine ⟨r, ?_, e3⟩
  rw [hr, e3, List.append_assoc, List.append_assoc]
theorem manys_take1 {as : List Lz.P} {i : Nat} {t : Lz.P} (h : as[i]? = some t) : Lz.P.manys (as.take (i + 1)) = Lz.P.manys (as.take i) + t.many := by
  have e1 : as.take (i + 1) = as.take i ++ [t] := by rw [List.take_add_one, h]; rfl
  rw [e1, manys_append]
  show _ + (t.many + 0) = _
  omega
theorem datas_take1 {as : List Lz.P} {i : Nat} {t : Lz.P} (h : as[i]? = some t) : Lz.P.datas (as.take (i + 1)) = Lz.P.datas (as.take i) ++ [t.data] := by
  have e1 : as.take (i + 1) = as.take i ++ [t] := by rw [List.take_add_one, h]; rfl
  rw [e1, datas_map, datas_map, List.map_append]
  rfl
section
variable {P : Program} {w : World} {K : PySem.W.Frag} {mg : Str → Option Value} {base : Heap} {f C : Addr} {fd : FuncData}
abbrev sRPart : Stmt := inClass (topS 45) 7
theorem scRPart : FnScope ["self", "deep", "word", "_"] ["self", "deep"] (defScope sRPart) := ⟨rfl, rfl, rfl, by decide +kernel, rfl, by decide +kernel, by decide +kernel⟩
theorem ok_partR {n j : Nat} {pd : Addr} {es : Array DictEntry} {m : Nat} (hj : 3 ≤ j) (F : Fun K "part" "Row.part" sRPart f fd) (R : RC K C) (B : Bu mg) (U : Ut mg) (mPO : mg "PARTS_OF" = some (.ref pd)) (DK : KDict K w pd es m) (O : PN K pd)
    (CIsNumberWord : C8.Cal P w K mg base 1 "is_number_word" spNumW []) (CRLook : C8.Met P w K mg base 1 C "look" spLook []) (CRNextWord : C8.Met P w K mg base 1 C "next_word" (spNextW C) []) (CRTake : C8.Met P w K mg base 2 C "take" (spTakeR C) []) (CRNameBehind : C8.Met P w K mg base 3 C "name_behind" (spNameB C) []) (CRLet : C8.Met P w K mg base (j + 1) C "_let" (spLetR K C n) []) (CRPart : C8.Met P w K mg base j C "part" (spPartR K C n) []) :
    FnOk P w K mg base CX0 (j + 2) f fd ["self", "deep"] (spPartR K C (n + 1)) := by
  have mint := B.int
  have mrange := B.range
  obtain ⟨_, mMOST_DEEP⟩ := U.d
  obtain ⟨_, mMOST_PARTS⟩ := U.p
  refine F.ok scRPart (fun vs H Q E h => ?_) (fun cdv A outer s H vs Q E hr h => ?_)
  · obtain ⟨r, w, nn, ws, a, p, d, t, Fs, sc, rest, rfl, _⟩ := h
    rfl
  obtain ⟨r, w, nn, ws, a, p, d, t, Fs, sc, rest, rfl, R0, hok, hfit, hdr, hdeep, hmany, hn, q⟩ := h
  refine ⟨_, (pss_cons (ps_fldaug (pv 0) pe_int in_add)
    (pss_cons (ps_expr (C8.pe_mt CRLook hr (by first | decide | omega) (pv 0) (pa_cons (pe_and (pe_cmpR op_le (pv 1) (pe_glob (v := .int 12) (by rfl) mMOST_DEEP ⟨_, rfl⟩) (nomark _)) (pe_one (pe_cmpR op_le (pe_fld (pv 0) rfl) (pe_glob (v := .int 60) (by rfl) mMOST_PARTS ⟨_, rfl⟩) (nomark _)))) pa_nil)))
    (pss_cons (ps_set (i := 2) scRPart.nd rfl (.inl rfl) (C8.pe_mt0 CRNextWord hr (by first | decide | omega) (pv 0)))
    (pss_cons (ps_if (pt_truthK (K := K) rfl (C8.pe_c CIsNumberWord hr (by first | decide | omega) (by rfl) (pa_cons (pv 2) pa_nil)) (fun _ => rfl)) (pss_one (ps_ret (pe_tup (pa_cons pe_str (pa_cons (pe_callTy call_int_str (by rfl) mint (by decide +kernel) (pa_cons (C8.pe_mt CRTake hr (by first | decide | omega) (pv 0) (pa_cons pe_bl pa_nil)) pa_nil)) pa_nil))))) pss_nil)
    (pss_cons (ps_if (pt_truthK (K := K) rfl (pe_m1 PySem.F.slot_str_startswith PySem.F.type_str_startswith mt_startswith (pv 2) pe_str) (fun _ => rfl)) (pss_one (ps_ret (pe_tup (pa_cons pe_str (pa_cons (C8.pe_mt CRNameBehind hr (by first | decide | omega) (pv 0) (pa_cons pe_str pa_nil)) pa_nil))))) pss_nil)
    (pss_cons (ps_if (pt_truthK (K := K) rfl (pe_m1 PySem.F.slot_str_startswith PySem.F.type_str_startswith mt_startswith (pv 2) pe_str) (fun _ => rfl)) (pss_one (ps_ret (pe_tup (pa_cons pe_str (pa_cons (C8.pe_mt CRNameBehind hr (by first | decide | omega) (pv 0) (pa_cons pe_str pa_nil)) pa_nil))))) pss_nil)
    (pss_cons (ps_if (pt_cmpR op_eq (pv 2) pe_str (nomark _)) (pss_one (ps_ret (C8.pe_mt CRLet hr (by first | decide | omega) (pv 0) (pa_cons (pv 1) pa_nil)))) pss_nil)
    (pss_cons (ps_expr (C8.pe_mt CRTake hr (by first | decide | omega) (pv 0) (pa_cons (pe_cmpR (op_in_kdK (K := K) rfl DK) (pv 2) (pe_glob (v := .ref pd) (by rfl) mPO rfl) rfl) pa_nil)))
    (pss_one (ps_ret (pe_tup (pa_cons (pv 2) (StX.pa_starK (K := K) rfl (pe_lc (own := [("_", 3)]) rfl scRPart.nd (pi_range1 (by rfl) mrange (pa_cons (pe_ix (ix_kdK (K := K) rfl DK) (pe_glob (v := .ref pd) (by rfl) mPO rfl) (pv 2) (fun _ _ => rfl)) pa_nil)) (blkOk_by (N := ["self", "deep", "word", "_"]) (sc := defScope sRPart) (by decide +kernel)) (fun _ _ _ _ _ => (pg_name (i := 3) scRPart.nd rfl (.inl rfl))) (fun _ _ _ _ _ => pts_nil) (fun _ _ _ _ _ => (C8.pe_mt CRPart hr (by first | decide | omega) (pv 0) (pa_cons (pe_op op_add (pv 1) pe_int) pa_nil)))) pa_nil))))))))))))), ?_⟩
  have h1p := deep_pos t
  have h1m : 1 ≤ t.many := by rw [many_inn]; omega
  obtain ⟨⟨dx, ho⟩, hw⟩ := id R0
  refine ⟨_, rfl, r, C, dx, _, _, rfl, ho, R.cl, R.nP, rf_p _ _ _ _, _, _, rfl, rfl, dx, _, ho, (by show 4 < 1000; decide), ?_⟩
  rw [rf_putP]
  have e1 : (p : Int) + 1 = ((p + 1 : Nat) : Int) := by omega
  rw [e1]
  have k1 := Kr.at r H (.ins C dx (rf nn w (a : Int) ((p + 1 : Nat) : Int)))
  have R1 : RowAt C (upd H r (.ins C dx (rf nn w (a : Int) ((p + 1 : Nat) : Int)))) r nn w ws a (p + 1) := ⟨⟨dx, upd_same⟩, by rw [upd_ne R0.ne]; exact hw⟩
  generalize upd H r (.ins C dx (rf nn w (a : Int) ((p + 1 : Nat) : Int))) = H1 at k1 R1 ⊢
  obtain ⟨⟨dx1, ho1⟩, hw1⟩ := id R1
  have hno : ∀ (a p : Nat) (m : Str), m = "look" ∨ m = "next_word" ∨ m = "take" ∨ m = "name_behind" ∨ m = "_let" ∨ m = "part" → (rf nn w (a : Int) (p : Int)).lookup m = none := fun a p m h => by
    rcases h with rfl | rfl | rfl | rfl | rfl | rfl <;> exact rf_no _ _ _ _ (by decide +kernel) (by decide +kernel) (by decide +kernel) (by decide +kernel)
  refine ⟨_, rfl, r, dx1, _, rfl, ho1, hno _ _ _ (.inl rfl), ?_⟩
  refine ⟨_, rfl, _, _, rfl, rfl, true, ?_, ?_⟩
  · exact congrArg V.bl (decide_eq_true (show ((d : Nat) : Int) ≤ 12 by omega))
  rw [if_pos rfl]
  refine ⟨_, rfl, r, C, dx1, _, _, rfl, ho1, R.cl, R.nP, rf_p _ _ _ _, _, _, rfl, rfl, ?_⟩
  refine ⟨.ref r, congrArg (fun b => [V.ref r, V.bl b]) (decide_eq_true (show ((p + 1 : Nat) : Int) ≤ 60 by omega)), ?_⟩
  refine ⟨_, rfl, r, dx1, _, rfl, ho1, hno _ _ _ (.inr (.inl rfl)), r, w, nn, ws, a, p + 1, rfl, R1, ?_⟩
  cases t with
  | num i =>
    obtain ⟨hx, hxl, hxa, _⟩ := nxw_of (x := numS i) (rest := rest) hdr
    rw [hx]
    have h60 := log60 hfit
    refine ⟨_, rfl, numS i, true, rfl, .inl ⟨i, rfl, hfit, rfl⟩, fun H2 k2 => ?_⟩
    refine ⟨_, rfl, ?_⟩
    refine iteT ?_
    have R2 := R1.keep k2
    obtain ⟨⟨dx2, ho2⟩, hw2⟩ := id R2
    refine ⟨_, rfl, r, dx2, _, rfl, ho2, hno _ _ _ (.inr (.inr (.inl rfl))), r, w, nn, ws, a, p + 1, _, rfl, R2, hxa, fun H3 k3 R3 => ?_⟩
    refine ⟨_, i, rfl, (numS_back hfit).1, (numS_back hfit).2, ?_⟩
    refine ⟨(by show 2 ≤ sizeLine; decide), fun T hT => ?_⟩
    exact q _ _ (((k1.trans (Kr.of k2)).trans k3).trans (Kr.new hT)) (R3.keep (Kp.new hT)) (Dp.newT (ds := [.str "number", .int i]) hT (.cons (.str _) (.cons (.int _) .nil)) rfl)
  | nam x =>
    have hn : nmOk x := hok
    have h8 := hn.2.1
    obtain ⟨hx, hxl, hxa, _⟩ := nxw_of (x := ("." : Str) ++ x) (rest := rest) hdr
    rw [hx]
    have ht : tl (("." : Str) ++ x) = 46 :: tl x := by rw [tl_append, tl_dot]; rfl
    refine ⟨_, rfl, _, false, rfl, .inr ⟨46, _, ht, .inl rfl, (by rw [len_tl, ht, List.length_cons, ← len_tl]; omega), rfl⟩, fun H2 k2 => ?_⟩
    refine ⟨_, rfl, ?_⟩
    refine iteF ?_
    have R2 := R1.keep k2
    obtain ⟨⟨dx2, ho2⟩, hw2⟩ := id R2
    refine ⟨_, rfl, ⟨_, rfl⟩, _, _, rfl, rfl, ?_⟩
    rw [st_one ht tl_dot, decide_eq_true rfl]
    refine ⟨_, rfl, ?_⟩
    refine iteT ?_
    refine ⟨_, rfl, r, dx2, _, rfl, ho2, hno _ _ _ (.inr (.inr (.inr (.inl rfl)))), r, w, nn, ws, a, p + 1, _, x, 46, rfl, tl_dot, R2, hxa, hn, fun H3 k3 R3 => ?_⟩
    refine ⟨(by show 2 ≤ sizeLine; decide), fun T hT => ?_⟩
    exact q _ _ (((k1.trans (Kr.of k2)).trans k3).trans (Kr.new hT)) (R3.keep (Kp.new hT)) (Dp.newT (ds := [.str "name", .str x]) hT (.cons (.str _) (.cons (.str _) .nil)) rfl)
  | fn x =>
    have hn : nmOk x := hok
    have h8 := hn.2.1
    obtain ⟨hx, hxl, hxa, _⟩ := nxw_of (x := (":" : Str) ++ x) (rest := rest) hdr
    rw [hx]
    have ht : tl ((":" : Str) ++ x) = 58 :: tl x := by rw [tl_append, tl_col]; rfl
    refine ⟨_, rfl, _, false, rfl, .inr ⟨58, _, ht, .inr (.inl rfl), (by rw [len_tl, ht, List.length_cons, ← len_tl]; omega), rfl⟩, fun H2 k2 => ?_⟩
    refine ⟨_, rfl, ?_⟩
    refine iteF ?_
    have R2 := R1.keep k2
    obtain ⟨⟨dx2, ho2⟩, hw2⟩ := id R2
    refine ⟨_, rfl, ⟨_, rfl⟩, _, _, rfl, rfl, ?_⟩
    rw [st_one ht tl_dot, decide_eq_false (by decide)]
    refine ⟨_, rfl, ?_⟩
    refine iteF ?_
    refine ⟨_, rfl, ⟨_, rfl⟩, _, _, rfl, rfl, ?_⟩
    rw [st_one ht tl_col, decide_eq_true rfl]
    refine ⟨_, rfl, ?_⟩
    refine iteT ?_
    refine ⟨_, rfl, r, dx2, _, rfl, ho2, hno _ _ _ (.inr (.inr (.inr (.inl rfl)))), r, w, nn, ws, a, p + 1, _, x, 58, rfl, tl_col, R2, hxa, hn, fun H3 k3 R3 => ?_⟩
    refine ⟨(by show 2 ≤ sizeLine; decide), fun T hT => ?_⟩
    exact q _ _ (((k1.trans (Kr.of k2)).trans k3).trans (Kr.new hT)) (R3.keep (Kp.new hT)) (Dp.newT (ds := [.str "fun", .str x]) hT (.cons (.str _) (.cons (.str _) .nil)) rfl)
  | op k as =>
    have hk := (show (k, as.length) ∈ kinds ∧ Lz.P.oks as from hok).1
    have hks := (show (k, as.length) ∈ kinds ∧ Lz.P.oks as from hok).2
    obtain ⟨c, l, ht, hbad, h46, h58, h60⟩ := kind_head hk
    have har := arity_le hk
    obtain ⟨tk, hu⟩ := O.op k _ hk
    obtain ⟨hx, hxl, hxa, hdr1⟩ := nxw_of (x := k) (rest := Lz.P.wss [] as ++ rest) hdr
    rw [hx]
    refine ⟨_, rfl, _, false, rfl, .inr ⟨c, _, ht, hbad, h60, rfl⟩, fun H2 k2 => ?_⟩
    refine ⟨_, rfl, ?_⟩
    refine iteF ?_
    have R2 := R1.keep k2
    obtain ⟨⟨dx2, ho2⟩, hw2⟩ := id R2
    refine ⟨_, rfl, ⟨_, rfl⟩, _, _, rfl, rfl, ?_⟩
    rw [st_one ht tl_dot, decide_eq_false h46]
    refine ⟨_, rfl, ?_⟩
    refine iteF ?_
    refine ⟨_, rfl, ⟨_, rfl⟩, _, _, rfl, rfl, ?_⟩
    rw [st_one ht tl_col, decide_eq_false h58]
    refine ⟨_, rfl, ?_⟩
    refine iteF ?_
    refine ⟨_, rfl, rfl, _, rfl, ?_⟩
    refine ite2 (fun c => absurd (V.str.inj (of_decide_eq_true c)) (kind_plain hk).1) (fun _ => ?_)
    refine ⟨_, rfl, r, dx2, _, rfl, ho2, hno _ _ _ (.inr (.inr (.inl rfl))), _, rfl, k, _, rfl, rfl, hu, r, w, nn, ws, a, p + 1, k, rfl, R2, hxa, fun H3 k3 R3 => ?_⟩
    obtain ⟨⟨dx3, ho3⟩, hw3⟩ := id R3
    have k03 := (k1.trans (Kr.of k2)).trans k3
    refine ⟨_, rfl, _, rfl, k, _, .int (as.length : Nat), rfl, rfl, hu, ⟨_, rfl⟩, ((as.length : Nat) : Int), rfl, (by omega), (by omega), fun D hD => ?_⟩
    rw [show ((as.length : Nat) : Int).toNat = as.length from Int.toNat_natCast _]
    have nDr : D ≠ r := (ne_of_none ho3 hD).symm
    refine lc_range (lo := 0) (n := as.length) (fun i H' => Kr r H3 H' ∧ ∃ xs, H' D = some (.lst xs) ∧ DpAll K H' xs (Lz.P.datas (as.take i)) ∧ RowAt C H' r nn w ws (a + 1 + (Lz.P.wss [] (as.take i)).length) (p + 1 + Lz.P.manys (as.take i)))
      ⟨Kr.new hD, [], upd_same, .nil, ?_⟩ ?_ ?_
    · rw [show Lz.P.wss [] (as.take 0) = [] from wss_nil _]
      exact R3.keep (Kp.new hD)
    · rintro i H4 hi ⟨k4, xs, hD4, hx4, R4⟩
      refine ⟨rfl, ?_⟩
      have hxi := List.getElem?_eq_getElem hi
      have hmi := List.getElem_mem hi
      generalize as[i] = t at hxi hmi
      obtain ⟨r4, es1, es2⟩ := wss_split (nm := []) hxi
      rw [show preW ([] : List Str) i = [] from preW_no (Nat.zero_le _), List.nil_append] at es1 es2
      have em1 := manys_take1 hxi
      have em2 := manys_take as (i + 1)
      have hin := inn_deep (t := .op k as) (a := t) hmi
      have hmt : (Lz.P.op k as).many = 1 + Lz.P.manys as := rfl
      have hxl4 : xs.length = i := by rw [hx4.length, datas_len, List.length_take]; omega
      obtain ⟨⟨dx4, ho4⟩, hw4⟩ := id R4
      refine ⟨_, rfl, r, dx4, _, rfl, ho4, hno _ _ _ (.inr (.inr (.inr (.inr (.inr rfl))))), _, rfl, _, _, rfl, rfl, r, w, nn, ws, _, _, d + 1, t, Fs, sc, r4 ++ rest, rfl, R4, oks_iff.mp hks t hmi, fits_iff.mp hfit t hmi, ?_, by omega, by omega, by omega, fun v H5 k5 R5 d5 => ?_⟩
      · have h1 := drop_app (xs := Lz.P.wss [] (as.take i)) (rest := t.ws ++ (r4 ++ rest)) (a := a + 1) (ws := ws) (by rw [hdr1, es1]; simp [List.append_assoc])
        exact h1
      · have hD5 := k5 _ _ hD4 nDr
        refine ⟨xs, hD5, small1000 (by omega), ?_⟩
        have hDH3 : H3 D = none := hD
        have kk : Kp [D] H5 (upd H5 D (.lst (xs ++ [v]))) := Kp.put hD5 List.mem_cons_self
        refine ⟨(k4.trans k5).mut hD, xs ++ [v], upd_same, ?_, ?_⟩
        · rw [datas_take1 hxi]
          exact (Dp.keepAll kk _ _ (datas_fz _) (Dp.keepAllR k5 ho4 _ _ (datas_fz _) hx4)).append (.one (Dp.keep kk _ _ (data_fz _) d5))
        · rw [es2, List.length_append, em1, ← Nat.add_assoc, ← Nat.add_assoc]
          obtain ⟨⟨dx5, ho5⟩, hw5⟩ := id R5
          have nDw : D ≠ w := fun e => by rw [e, hw3] at hD; cases hD
          exact ⟨⟨dx5, by rw [upd_ne nDr.symm]; exact ho5⟩, by rw [upd_ne nDw.symm]; exact hw5⟩
    · rintro H4 ⟨k4, xs, hD4, hx4, R4⟩
      rw [List.take_length] at hx4 R4
      have hxl4 : xs.length = as.length := by rw [hx4.length, datas_len]
      refine ⟨D, xs, rfl, .inr (SqL.of hD4), ?_⟩
      refine ⟨(by rw [List.append_nil, List.length_cons]; exact Nat.le_of_lt (small1000 (by omega))), fun T hT => ?_⟩
      rw [List.append_nil]
      refine q _ _ ((k03.trans k4).trans (Kr.new hT)) ?_ (Dp.newT (ds := .str k :: Lz.P.datas as) hT (.cons (.str _) hx4) ?_)
      · have e2 : (Lz.P.op k as).ws.length = 1 + (Lz.P.wss [] as).length := by
          show (k :: Lz.P.wss [] as).length = _
          rw [List.length_cons]; omega
        rw [e2, show (Lz.P.op k as).many = 1 + Lz.P.manys as from rfl, ← Nat.add_assoc, ← Nat.add_assoc]
        exact R4.keep (Kp.new hT)
      · exact data_fz (.op k as)
  | lt nm as b =>
    obtain ⟨hx, hxl, hxa, _⟩ := nxw_of (x := "let") (rest := numS (nm.length : Nat) :: (Lz.P.wss nm as ++ b.ws) ++ rest) hdr
    rw [hx]
    have ht := tl_let
    refine ⟨_, rfl, _, false, rfl, .inr ⟨108, _, ht, .inr (.inr (by omega)), (by decide +kernel), rfl⟩, fun H2 k2 => ?_⟩
    refine ⟨_, rfl, ?_⟩
    refine iteF ?_
    have R2 := R1.keep k2
    obtain ⟨⟨dx2, ho2⟩, hw2⟩ := id R2
    refine ⟨_, rfl, ⟨_, rfl⟩, _, _, rfl, rfl, ?_⟩
    rw [st_one ht tl_dot, decide_eq_false (by decide)]
    refine ⟨_, rfl, ?_⟩
    refine iteF ?_
    refine ⟨_, rfl, ⟨_, rfl⟩, _, _, rfl, rfl, ?_⟩
    rw [st_one ht tl_col, decide_eq_false (by decide)]
    refine ⟨_, rfl, ?_⟩
    refine iteF ?_
    refine ⟨_, rfl, rfl, _, rfl, ?_⟩
    refine ite2 (fun _ => ?_) (fun c => absurd (decide_eq_true rfl) c)
    have em : (Lz.P.lt nm as b).many = 1 + (Lz.P.manys as + b.many) := rfl
    refine ⟨_, rfl, r, dx2, _, rfl, ho2, hno _ _ _ (.inr (.inr (.inr (.inr (.inl rfl))))), _, rfl, r, w, nn, ws, a, p + 1, d, nm, as, b, Fs, sc, rest, rfl, R2, hok, hfit, hdr, hdeep, by omega, by omega, fun v H3 k3 R3 d3 => ?_⟩
    refine q _ _ ((k1.trans (Kr.of k2)).trans k3) ?_ d3
    rw [em]
    rwa [show p + (1 + (Lz.P.manys as + b.many)) = p + 1 + (Lz.P.manys as + b.many) by omega]
end
end Lz

set_option Elab.async false
set_option linter.all false
set_option maxRecDepth 100000
set_option maxHeartbeats 8000000
namespace Lz
open PySem PySem.Spec PyProof.Rows L2 TL
theorem fz_take {ds : List PyData} (h : fzAll ds = true) (i : Nat) : fzAll (ds.take i) = true := fzAll_iff.mpr fun d m => fzAll_iff.mp h d (List.mem_of_mem_take m)
/-- the words that tell how many rows there are -/
def cntW (i : Nat) : List Str := (List.range i).map (fun j => numS ((1 + j : Nat) : Int))
theorem cntW_mem {m : Nat} (h1 : 1 ≤ m) (h4 : m ≤ 4) : inV (.str (numS (m : Nat))) ((cntW 4).map V.str) = true := by
  rw [inV_strW]
  refine decide_eq_true (List.mem_map.mpr ⟨m - 1, List.mem_range.mpr (by omega), ?_⟩)
  rw [show 1 + (m - 1) = m by omega]
section
variable {P : Program} {w : World} {K : PySem.W.Frag} {mg : Str → Option Value} {base : Heap} {f C : Addr} {fd : FuncData}
abbrev sRLet : Stmt := inClass (topS 45) 8
theorem scRLet : FnScope ["self", "deep", "counts", "many", "rows", "_"] ["self", "deep"] (defScope sRLet) := ⟨rfl, rfl, rfl, by decide +kernel, rfl, by decide +kernel, by decide +kernel⟩
theorem ok_letR {n j : Nat} (hj : 3 ≤ j) (F : Fun K "_let" "Row._let" sRLet f fd) (R : RC K C) (B : Bu mg) (U : Ut mg)
    (CRNextWord : C8.Met P w K mg base 1 C "next_word" (spNextW C) []) (CRTake : C8.Met P w K mg base 2 C "take" (spTakeR C) []) (CRNameBehind : C8.Met P w K mg base 3 C "name_behind" (spNameB C) []) (CRPart : C8.Met P w K mg base j C "part" (spPartR K C n) []) :
    FnOk P w K mg base CX0 (j + 1) f fd ["self", "deep"] (spLetR K C n) := by
  have mint := B.int
  have mstr := B.str
  have mtup := B.tuple
  have mrange := B.range
  obtain ⟨_, mMOST_ROWS⟩ := U.r
  refine F.ok scRLet (fun vs H Q E h => ?_) (fun cdv A outer s H vs Q E hr h => ?_)
  · obtain ⟨r, w, nn, ws, a, p, d, nm, as, b, Fs, sc, rest, rfl, _⟩ := h
    rfl
  obtain ⟨r, w, nn, ws, a, p, d, nm, as, b, Fs, sc, rest, rfl, R0, hok, hfit, hdr, hdeep, hmany, hn, q⟩ := h
  refine ⟨_, (pss_cons (ps_expr (C8.pe_mt CRTake hr (by first | decide | omega) (pv 0) (pa_cons pe_bl pa_nil)))
    (pss_cons (ps_setLc (i := 2) (own := [("many", 3)]) rfl scRLet.nd rfl rfl (sw_true rfl rfl rfl (by decide +kernel)) (pi_range2 (by rfl) mrange (pa_cons pe_int (pa_cons (pe_op op_add (pe_glob (v := .int 4) (by rfl) mMOST_ROWS ⟨_, rfl⟩) pe_int) pa_nil))) (blkOk_by (N := ["self", "deep", "counts", "many", "rows", "_"]) (sc := defScope sRLet) (by decide +kernel)) (fun _ _ _ _ _ => (pg_name (i := 3) scRLet.nd rfl (.inl rfl))) (fun _ _ _ _ _ => pts_nil) (fun _ _ _ _ _ => (pe_callTy call_str_int (by rfl) mstr (by decide +kernel) (pa_cons (pv 3) pa_nil))))
    (pss_cons (ps_set (i := 3) scRLet.nd rfl (.inl rfl) (pe_callTy call_int_str (by rfl) mint (by decide +kernel) (pa_cons (C8.pe_mt CRTake hr (by first | decide | omega) (pv 0) (pa_cons (pe_cmpR (op_inK (K := K) rfl) (C8.pe_mt0 CRNextWord hr (by first | decide | omega) (pv 0)) (pv 2) rfl) pa_nil)) pa_nil)))
    (pss_cons (ps_setLc (i := 4) (own := [("_", 5)]) rfl scRLet.nd rfl rfl (sw_true rfl rfl rfl (by decide +kernel)) (pi_range1 (by rfl) mrange (pa_cons (pv 3) pa_nil)) (blkOk_by (N := ["self", "deep", "counts", "many", "rows", "_"]) (sc := defScope sRLet) (by decide +kernel)) (fun _ _ _ _ _ => (pg_name (i := 5) scRLet.nd rfl (.inl rfl))) (fun _ _ _ _ _ => pts_nil) (fun _ _ _ _ _ => (pe_tup (pa_cons (C8.pe_mt CRNameBehind hr (by first | decide | omega) (pv 0) (pa_cons pe_str pa_nil)) (pa_cons (C8.pe_mt CRPart hr (by first | decide | omega) (pv 0) (pa_cons (pe_op op_add (pv 1) pe_int) pa_nil)) pa_nil)))))
    (pss_one (ps_ret (pe_tup (pa_cons pe_str (pa_cons (pe_callTy (call_tupleK (K := K) rfl) (by rfl) mtup (by decide +kernel) (pa_cons (pv 4) pa_nil)) (pa_cons (C8.pe_mt CRPart hr (by first | decide | omega) (pv 0) (pa_cons (pe_op op_add (pv 1) pe_int) pa_nil)) pa_nil)))))))))), ?_⟩
  obtain ⟨hnl, hnm, hks, hbo⟩ := (show nm.length = as.length ∧ (∀ x, x ∈ nm → nmOk x) ∧ Lz.P.oks as ∧ b.ok from hok)
  obtain ⟨hn1, hn4, hfs, hfb⟩ := (show 1 ≤ nm.length ∧ nm.length ≤ 4 ∧ Lz.P.fits Fs as (sc ++ nm) ∧ b.fit Fs (sc ++ nm) from hfit)
  have hno : ∀ (a p : Nat) (m : Str), m = "look" ∨ m = "next_word" ∨ m = "take" ∨ m = "name_behind" ∨ m = "_let" ∨ m = "part" → (rf nn w (a : Int) (p : Int)).lookup m = none := fun a p m h => by
    rcases h with rfl | rfl | rfl | rfl | rfl | rfl <;> exact rf_no _ _ _ _ (by decide +kernel) (by decide +kernel) (by decide +kernel) (by decide +kernel)
  obtain ⟨hx, hxl, hxa, hdr1⟩ := nxw_of (x := "let") (rest := numS (nm.length : Nat) :: (Lz.P.wss nm as ++ b.ws) ++ rest) hdr
  obtain ⟨hx1, hxl1, hxa1, hdr2⟩ := nxw_of (x := numS (nm.length : Nat)) (rest := (Lz.P.wss nm as ++ b.ws) ++ rest) hdr1
  obtain ⟨⟨dx, ho⟩, hw⟩ := id R0
  refine ⟨_, rfl, r, dx, _, rfl, ho, hno _ _ _ (.inr (.inr (.inl rfl))), r, w, nn, ws, a, p, _, rfl, R0, hxa, fun H1 k1 R1 => ?_⟩
  refine ⟨_, _, rfl, rfl, 1, 5, rfl, ⟨by omega, by omega, by omega, by omega⟩, fun D hD => ?_⟩
  refine lc_range (lo := 1) (n := 4) (fun i H' => Kp [] H1 H' ∧ H' D = some (.lst ((cntW i).map V.str))) ⟨Kp.new hD, upd_same⟩ ?_ ?_
  · rintro i H2 hi ⟨k2, hD2⟩
    refine ⟨rfl, ?_⟩
    refine ⟨_, rfl, _, rfl, log60 ?_, ?_⟩
    · have := small60 (n := 1 + i) (by omega)
      rwa [show (1 : Int) + (i : Nat) = ((1 + i : Nat) : Int) by omega]
    refine ⟨_, hD2, small1000 (by unfold cntW; rw [List.length_map, List.length_map, List.length_range]; omega), k2.mut hD, ?_⟩
    rw [upd_same, show cntW (i + 1) = cntW i ++ [numS ((1 + i : Nat) : Int)] by unfold cntW; rw [List.range_succ, List.map_append]; rfl, List.map_append, show (1 : Int) + (i : Nat) = ((1 + i : Nat) : Int) by omega]
    rfl
  rintro H2 ⟨k2, hD2⟩
  have R2 := R1.keep k2
  obtain ⟨⟨dx2, ho2⟩, hw2⟩ := id R2
  refine ⟨_, rfl, r, dx2, _, rfl, ho2, hno _ _ _ (.inr (.inr (.inl rfl))), ?_⟩
  refine ⟨_, rfl, r, dx2, _, rfl, ho2, hno _ _ _ (.inr (.inl rfl)), r, w, nn, ws, a + 1, p, rfl, R2, ?_⟩
  rw [hx1]
  refine ⟨_, rfl, D, _, rfl, .inl (SqL.of hD2), rfl, flat_strs _, ?_⟩
  refine ⟨r, w, nn, ws, a + 1, p, _, congrArg (fun b => [V.ref r, V.bl b]) (cntW_mem hn1 hn4), R2, hxa1, fun H3 k3 R3 => ?_⟩
  have hb := numS_back (i := (nm.length : Nat)) (small60 (by omega))
  refine ⟨_, _, rfl, hb.1, hb.2, ?_⟩
  obtain ⟨⟨dx3, ho3⟩, hw3⟩ := id R3
  have k03 := (k1.trans (Kr.of k2)).trans k3
  refine ⟨_, rfl, ((nm.length : Nat) : Int), rfl, by omega, by omega, fun D2 hD2' => ?_⟩
  rw [show ((nm.length : Nat) : Int).toNat = nm.length from Int.toNat_natCast _]
  have nDr : D2 ≠ r := (ne_of_none ho3 hD2').symm
  have nDw : D2 ≠ w := fun e => by rw [e, hw3] at hD2'; cases hD2'
  refine lc_range (lo := 0) (n := nm.length) (fun i H' => Kr r H3 H' ∧ ∃ xs, H' D2 = some (.lst xs) ∧ DpAll K H' xs ((List.zipWith rowD nm (Lz.P.datas as)).take i) ∧ RowAt C H' r nn w ws (a + 1 + 1 + (Lz.P.wss nm (as.take i)).length) (p + Lz.P.manys (as.take i)))
      ⟨Kr.new hD2', [], upd_same, .nil, ?_⟩ ?_ ?_
  · rw [show Lz.P.wss nm (as.take 0) = [] from wss_nil _]
    exact R3.keep (Kp.new hD2')
  · rintro i H4 hi ⟨k4, xs, hD4, hx4, R4⟩
    refine ⟨rfl, ?_⟩
    have hxn := List.getElem?_eq_getElem hi
    have hmn := List.getElem_mem hi
    generalize nm[i] = y at hxn hmn
    have hi' : i < as.length := by omega
    have hxi := List.getElem?_eq_getElem hi'
    have hmi := List.getElem_mem hi'
    generalize as[i] = t at hxi hmi
    obtain ⟨r4, es1, es2⟩ := wss_split (nm := nm) hxi
    rw [preW_of hxn] at es1 es2
    have em1 := manys_take1 hxi
    have em2 := manys_take as (i + 1)
    have hin := inn_deep (t := .lt nm as b) (a := t) (List.mem_append.mpr (.inl hmi))
    have hzi : (List.zipWith rowD nm (Lz.P.datas as))[i]? = some (rowD y t.data) := by
      rw [List.getElem?_zipWith, hxn, datas_map, List.getElem?_map, hxi]
      rfl
    have hxl4 : xs.length ≤ i := by rw [hx4.length, List.length_take]; omega
    obtain ⟨⟨dx4, ho4⟩, hw4⟩ := id R4
    have hd4 := drop_app (xs := Lz.P.wss nm (as.take i)) (rest := (("." : Str) ++ y) :: (t.ws ++ (r4 ++ (b.ws ++ rest)))) (a := a + 1 + 1) (ws := ws) (by rw [hdr2, es1]; simp [List.append_assoc])
    obtain ⟨hy, hyl, hya, hdy⟩ := nxw_of hd4
    refine ⟨_, rfl, r, dx4, _, rfl, ho4, hno _ _ _ (.inr (.inr (.inr (.inl rfl)))), r, w, nn, ws, _, _, _, y, 46, rfl, tl_dot, R4, hya, hnm y hmn, fun H5 k5 R5 => ?_⟩
    obtain ⟨⟨dx5, ho5⟩, hw5⟩ := id R5
    refine ⟨_, rfl, r, dx5, _, rfl, ho5, hno _ _ _ (.inr (.inr (.inr (.inr (.inr rfl))))), _, rfl, _, _, rfl, rfl, r, w, nn, ws, _, _, d + 1, t, Fs, sc ++ nm, r4 ++ (b.ws ++ rest), rfl, R5, oks_iff.mp hks t hmi, fits_iff.mp hfs t hmi, hdy, by omega, by omega, by omega, fun v H6 k6 R6 d6 => ?_⟩
    refine ⟨(by show 2 ≤ sizeLine; decide), fun T hT => ?_⟩
    have hD6 := k6 _ _ (k5 _ _ hD4 nDr) nDr
    have kT : Kp [] H6 (upd H6 T (.tup [.str y, v])) := Kp.new hT
    have hrow : Dp K (upd H6 T (.tup [.str y, v])) (.ref T) (rowD y t.data) := Dp.newT hT (.cons (.str _) (.cons d6 .nil)) (fzAll_iff.mpr fun e m => by
      rcases List.mem_cons.mp m with rfl | m
      · rfl
      · rw [List.mem_singleton.mp m]
        exact data_fz t)
    have hx6 := Dp.keepAll kT _ _ (fz_take rows_fz i) (Dp.keepAllR k6 ho5 _ _ (fz_take rows_fz i) (Dp.keepAllR k5 ho4 _ _ (fz_take rows_fz i) hx4))
    have hD7 := kT.lst hD6 (fun m => nomatch m)
    have R7 := R6.keep kT
    have k37 := ((k4.trans k5).trans k6).trans (Kr.of kT)
    generalize upd H6 T (.tup [.str y, v]) = H7 at hrow hx6 hD7 R7 k37 ⊢
    refine ⟨xs, hD7, small1000 (by omega), ?_⟩
    have kk : Kp [D2] H7 (upd H7 D2 (.lst (xs ++ [.ref T]))) := Kp.put hD7 List.mem_cons_self
    refine ⟨k37.mut hD2', xs ++ [.ref T], upd_same, ?_, ?_⟩
    · rw [List.take_add_one, hzi]
      refine (Dp.keepAll kk _ _ (fz_take rows_fz i) hx6).append (.one (Dp.keep kk _ _ ?_ hrow))
      have := fzAll_iff.mp (rows_fz (nm := nm) (as := as)) _ (List.mem_of_getElem? hzi)
      exact this
    · rw [es2, List.length_append, em1]
      have e3 : (([("." : Str) ++ y] : List Str) ++ t.ws).length = 1 + t.ws.length := by rw [List.length_append]; rfl
      rw [e3, ← Nat.add_assoc, ← Nat.add_assoc, ← Nat.add_assoc]
      obtain ⟨⟨dx7, ho7⟩, hw7⟩ := id R7
      exact ⟨⟨dx7, by rw [upd_ne nDr.symm]; exact ho7⟩, by rw [upd_ne nDw.symm]; exact hw7⟩
  · rintro H4 ⟨k4, xs, hD4, hx4, R4⟩
    rw [List.take_of_length_le (by rw [List.length_zipWith, datas_len]; omega)] at hx4
    rw [show as.take nm.length = as by rw [hnl]; exact List.take_length] at R4
    refine ⟨_, rfl, D2, xs, rfl, .inl ⟨SqL.of hD4, fun T1 hT1 => ?_⟩⟩
    have kT : Kp [] H4 (upd H4 T1 (.tup xs)) := Kp.new hT1
    have hrs : Dp K (upd H4 T1 (.tup xs)) (.ref T1) (.tuple (List.zipWith rowD nm (Lz.P.datas as))) := Dp.newT hT1 hx4 rows_fz
    have R5 := R4.keep kT
    have k05 := (k03.trans k4).trans (Kr.of kT)
    generalize upd H4 T1 (.tup xs) = H5 at hrs R5 k05 ⊢
    obtain ⟨⟨dx5, ho5⟩, hw5⟩ := id R5
    have hbd := inn_deep (t := .lt nm as b) (a := b) (List.mem_append.mpr (.inr List.mem_cons_self))
    have hdb := drop_app (xs := Lz.P.wss nm as) (rest := b.ws ++ rest) (a := a + 1 + 1) (ws := ws) (by rw [hdr2, List.append_assoc])
    refine ⟨_, rfl, r, dx5, _, rfl, ho5, hno _ _ _ (.inr (.inr (.inr (.inr (.inr rfl))))), _, rfl, _, _, rfl, rfl, r, w, nn, ws, _, _, d + 1, b, Fs, sc ++ nm, rest, rfl, R5, hbo, hfb, hdb, by omega, by omega, by omega, fun v H6 k6 R6 d6 => ?_⟩
    refine ⟨(by show 3 ≤ sizeLine; decide), fun T hT => ?_⟩
    refine q _ _ ((k05.trans k6).trans (Kr.new hT)) ?_ (Dp.newT (ds := [.str "let", .tuple (List.zipWith rowD nm (Lz.P.datas as)), b.data]) hT (.cons (.str _) (.cons (Dp.keepR k6 ho5 _ _ ?_ hrs) (.cons d6 .nil))) ?_)
    · have e2 : (Lz.P.lt nm as b).ws.length = 1 + 1 + ((Lz.P.wss nm as).length + b.ws.length) := by
        show (("let" : Str) :: numS (nm.length : Nat) :: (Lz.P.wss nm as ++ b.ws)).length = _
        rw [List.length_cons, List.length_cons, List.length_append]; omega
      rw [e2, ← Nat.add_assoc, ← Nat.add_assoc, ← Nat.add_assoc, ← Nat.add_assoc]
      exact R6.keep (Kp.new hT)
    · exact rows_fz (nm := nm) (as := as)
    · exact data_fz (.lt nm as b)
end
end Lz

set_option Elab.async false
set_option linter.all false
set_option maxRecDepth 100000
set_option maxHeartbeats 4000000
/-! Texts that are split again. -/
namespace Lz
open PySem PySem.Spec PyProof.Rows L2 TL
/-- no blank, no line end -/
def cleanS (w : Str) : Prop := ∀ c, c ∈ tl w → 33 ≤ c
def cleanW (l : List Str) : Prop := ∀ w, w ∈ l → cleanS w
theorem cleanW.app {l m : List Str} (h : cleanW l) (k : cleanW m) : cleanW (l ++ m) := fun w q => (List.mem_append.mp q).elim (h w) (k w)
theorem cleanW.cons {x : Str} {m : List Str} (h : cleanS x) (k : cleanW m) : cleanW (x :: m) := fun w q => (List.mem_cons.mp q).elim (fun e => by rw [e]; exact h) (k w)
theorem cleanW.nil : cleanW [] := fun _ q => nomatch q
theorem clean_num (i : Int) : cleanS (numS i) := fun c m => by
  cases i with
  | ofNat n =>
    rw [show tl (numS (Int.ofNat n)) = numL n from numS_pos n] at m
    have := numL_digits n c m
    omega
  | negSucc k =>
    rw [numS_neg] at m
    rcases List.mem_cons.mp m with e | m
    · omega
    · have := numL_digits _ c m
      omega
theorem clean_nm {x : Str} (h : nmOk x) : cleanS x := fun c m => by
  have := h.2.2 c m
  omega
theorem clean_lit {x : Str} (h : (tl x).all (fun c => decide (33 ≤ c)) = true) : cleanS x := fun c m => of_decide_eq_true (List.all_eq_true.mp h c m)
theorem cleanS.app {x y : Str} (h : cleanS x) (k : cleanS y) : cleanS (x ++ y) := fun c m => by
  rw [tl_append] at m
  exact (List.mem_append.mp m).elim (h c) (k c)
theorem clean_dot {x : Str} (h : nmOk x) : cleanS (("." : Str) ++ x) := (clean_lit (by decide +kernel)).app (clean_nm h)
theorem clean_col {x : Str} (h : nmOk x) : cleanS ((":" : Str) ++ x) := (clean_lit (by decide +kernel)).app (clean_nm h)
theorem clean_kind {k : Str} {n : Nat} (h : (k, n) ∈ kinds) : cleanS k := by
  have h0 : kinds.all (fun p => (tl p.1).all (fun c => decide (33 ≤ c))) = true := by decide +kernel
  exact clean_lit (List.all_eq_true.mp h0 _ h)
mutual
theorem ws_clean : ∀ t : P, t.ok → cleanW t.ws
  | .num i, _ => .cons (clean_num i) .nil
  | .nam x, h => .cons (clean_dot h) .nil
  | .fn x, h => .cons (clean_col h) .nil
  | .op k as, h => .cons (clean_kind h.1) (wss_clean [] as (fun _ q => nomatch q) h.2)
  | .lt nm as b, h => .cons (clean_lit (by decide +kernel)) (.cons (clean_num _) ((wss_clean nm as h.2.1 h.2.2.1).app (ws_clean b h.2.2.2)))
theorem wss_clean : ∀ (nm : List Str) (as : List P), (∀ x, x ∈ nm → nmOk x) → P.oks as → cleanW (P.wss nm as)
  | nm, [], _, _ => by
    have e : P.wss nm [] = [] := by cases nm <;> rfl
    rw [e]
    exact .nil
  | [], a :: as, hn, h => (ws_clean a h.1).app (wss_clean [] as hn h.2)
  | x :: nm, a :: as, hn, h => .cons (clean_dot (hn x List.mem_cons_self)) ((ws_clean a h.1).app (wss_clean nm as (fun y m => hn y (List.mem_cons_of_mem _ m)) h.2))
end
theorem joinL_mem {S : List Nat} {c : Nat} : ∀ {l : List (List Nat)}, c ∈ joinL S l → c ∈ S ∨ ∃ p, p ∈ l ∧ c ∈ p
  | [], h => nomatch h
  | [p], h => .inr ⟨p, List.mem_cons_self, h⟩
  | p :: q :: r, h => by
    rcases List.mem_append.mp (show c ∈ p ++ (S ++ joinL S (q :: r)) from h) with h | h
    · exact .inr ⟨p, List.mem_cons_self, h⟩
    · rcases List.mem_append.mp h with h | h
      · exact .inl h
      · rcases joinL_mem h with h | ⟨x, m, h⟩
        · exact .inl h
        · exact .inr ⟨x, List.mem_cons_of_mem _ m, h⟩
theorem tl_blank : tl (" " : Str) = [32] := by decide +kernel
theorem tl_end : tl ("\n" : Str) = [10] := by decide +kernel
/-- a row, split at its blanks -/
theorem split_row {ws : List Str} (hne : ws ≠ []) (h : cleanW ws) : Txt.split (Str.join " " ws) " " = ws := by
  rw [← join_eq]
  refine split_join tl_blank (by decide +kernel) hne fun p m k => ?_
  have := h p m _ k
  omega
/-- a text, split at its line ends -/
theorem split_text {rows : List (List Str)} (hne : rows ≠ []) (h : ∀ ws, ws ∈ rows → cleanW ws) : Txt.split (Str.join "\n" (rows.map (Str.join " "))) "\n" = rows.map (Str.join " ") := by
  rw [← join_eq]
  refine split_join tl_end (by decide +kernel) (fun e => hne (List.map_eq_nil_iff.mp e)) fun p m k => ?_
  obtain ⟨ws, hm, rfl⟩ := List.mem_map.mp m
  rw [tl_join, tl_blank] at k
  rcases joinL_mem k with k | ⟨q, mq, k⟩
  · rw [List.mem_singleton] at k
    omega
  · obtain ⟨x, mx, rfl⟩ := List.mem_map.mp mq
    have := h ws hm x mx _ k
    omega
theorem fnW_clean {g : Fn} (h1 : nmOk g.1) (h2 : ∀ x, x ∈ g.2.1 → nmOk x) (h3 : g.2.2.ok) : cleanW (fnW g) := by
  refine .cons (clean_nm h1) (.app (fun w m => ?_) (.cons (clean_lit (by decide +kernel)) (ws_clean _ h3)))
  obtain ⟨x, mx, rfl⟩ := List.mem_map.mp m
  exact clean_dot (h2 x mx)
theorem rows_clean {fs : List Fn} {d : P} (h : ∀ g, g ∈ fs → nmOk g.1 ∧ (∀ x, x ∈ g.2.1 → nmOk x) ∧ g.2.2.ok) (hd : d.ok) : ∀ ws, ws ∈ rowsW fs d → cleanW ws := fun ws m => by
  rcases List.mem_append.mp m with m | m
  · obtain ⟨g, mg, rfl⟩ := List.mem_map.mp m
    exact fnW_clean (h g mg).1 (h g mg).2.1 (h g mg).2.2
  · rw [List.mem_singleton.mp m]
    exact .cons (clean_lit (by decide +kernel)) (ws_clean d hd)
end Lz

set_option Elab.async false
set_option linter.all false
set_option maxRecDepth 100000
set_option maxHeartbeats 8000000
namespace Lz
open PySem PySem.Spec PyProof.Rows L2 TL
def spPartOf (K : PySem.W.Frag) (C : Addr) : Sp := fun vs H Q _ => ∃ (r w : Addr) (nn : Int) (ws : List Str) (a : Nat) (t : Lz.P) (F sc : List Str), vs = [.ref r] ∧ RowAt C H r nn w ws a 0 ∧ BodyOk t ∧ t.fit F sc ∧ ws.drop a = t.ws ∧ ∀ (v : V) (H' : Hp), Kr r H H' → Dp K H' v t.data → Q v H'
def spFnOf (K : PySem.W.Frag) (C : Addr) : Sp := fun vs H Q _ => ∃ (r w : Addr) (nn : Int) (g : Fn) (F : List Str), vs = [.ref r] ∧ RowAt C H r nn w (fnW g) 0 0 ∧ nmOk g.1 ∧ FnT F g ∧ ∀ (v : V) (H' : Hp), Kr r H H' → Dp K H' v (fD g) → Q v H'
theorem ne_head {x y : Str} {c s : Nat} {l m : List Nat} (hx : tl x = c :: l) (hy : tl y = s :: m) (h : ¬ c = s) : ¬ x = y := fun e => by
  rw [e, hy] at hx
  exact h (List.cons.inj hx).1.symm
section
variable {P : Program} {w : World} {K : PySem.W.Frag} {mg : Str → Option Value} {base : Heap} {f C : Addr} {fd : FuncData}
abbrev sPartOfRow : Stmt := topS 47
theorem scPartOfRow : FnScope ["row", "part"] ["row"] (defScope sPartOfRow) := ⟨rfl, rfl, rfl, by decide +kernel, rfl, by decide +kernel, by decide +kernel⟩
theorem ok_partOf {j : Nat} (hj : 3 ≤ j) (F : Fun K "part_of_row" "part_of_row" sPartOfRow f fd) (CREnd : C8.Met P w K mg base 2 C "end" (spEndR C) []) (CRPart : C8.Met P w K mg base j C "part" (spPartR K C 12) []) : FnOk P w K mg base CX0 (j + 1) f fd ["row"] (spPartOf K C) := by
  refine F.ok scPartOfRow (fun vs H Q E h => ?_) (fun cdv A outer s H vs Q E hr h => ?_)
  · obtain ⟨r, w, nn, ws, a, t, Fs, sc, rfl, _⟩ := h
    rfl
  obtain ⟨r, w, nn, ws, a, t, Fs, sc, rfl, R0, hb, hfit, hdr, q⟩ := h
  refine ⟨_, (pss_cons (ps_set (i := 1) scPartOfRow.nd rfl (.inl rfl) (C8.pe_mt CRPart hr (by first | decide | omega) (pv 0) (pa_cons pe_int pa_nil)))
    (pss_cons (ps_expr (C8.pe_mt0 CREnd hr (by first | decide | omega) (pv 0)))
    (pss_one (ps_ret (pv 1))))), ?_⟩
  obtain ⟨⟨dx, ho⟩, hw⟩ := id R0
  obtain ⟨x0, r0, e0⟩ := ws_ne t
  have hlen : a + t.ws.length = ws.length := by
    have h1 := congrArg List.length hdr
    rw [List.length_drop] at h1
    have h2 : 1 ≤ t.ws.length := by rw [e0, List.length_cons]; omega
    omega
  have hdp := hb.deep
  have hmn := hb.many
  refine ⟨_, rfl, r, dx, _, rfl, ho, rf_no _ _ _ _ (by decide +kernel) (by decide +kernel) (by decide +kernel) (by decide +kernel), r, w, nn, ws, a, 0, 1, t, Fs, sc, [], rfl, R0, hb.ok, hfit, by rw [hdr, List.append_nil], by omega, by omega, hdp, fun v H1 k1 R1 d1 => ?_⟩
  rw [hlen] at R1
  obtain ⟨⟨dx1, ho1⟩, hw1⟩ := id R1
  refine ⟨_, rfl, r, dx1, _, rfl, ho1, rf_no _ _ _ _ (by decide +kernel) (by decide +kernel) (by decide +kernel) (by decide +kernel), r, w, nn, ws, _, rfl, R1, ?_⟩
  refine ⟨_, rfl, ?_⟩
  exact q v H1 k1 d1
abbrev sFunctionOfRow : Stmt := topS 46
theorem scFunctionOfRow : FnScope ["row", "name", "names"] ["row"] (defScope sFunctionOfRow) := ⟨rfl, rfl, rfl, by decide +kernel, rfl, by decide +kernel, by decide +kernel⟩
theorem ok_fnOf {j : Nat} (hj : 3 ≤ j) (F : Fun K "function_of_row" "function_of_row" sFunctionOfRow f fd) (B : Bu mg) (U : Ut mg) (CRLook : C8.Met P w K mg base 1 C "look" spLook []) (CRNextWord : C8.Met P w K mg base 1 C "next_word" (spNextW C) []) (CRTake : C8.Met P w K mg base 2 C "take" (spTakeR C) []) (CRNextName : C8.Met P w K mg base 3 C "next_name" (spNextN C) []) (CRNameBehind : C8.Met P w K mg base 3 C "name_behind" (spNameB C) []) (CPartOfRow : C8.Cal P w K mg base j "part_of_row" (spPartOf K C) []) : FnOk P w K mg base CX0 (j + 1) f fd ["row"] (spFnOf K C) := by
  have ml := B.len
  have mtup := B.tuple
  obtain ⟨_, mMOST_THINGS⟩ := U.t
  refine F.ok scFunctionOfRow (fun vs H Q E h => ?_) (fun cdv A outer s H vs Q E hr h => ?_)
  · obtain ⟨r, w, nn, g, Fs, rfl, _⟩ := h
    rfl
  obtain ⟨r, w, nn, g, Fs, rfl, R0, hn, hg, q⟩ := h
  refine ⟨_, (pss_cons (ps_set (i := 1) scFunctionOfRow.nd rfl (.inl rfl) (C8.pe_mt0 CRNextName hr (by first | decide | omega) (pv 0)))
    (pss_cons (ps_set (i := 2) scFunctionOfRow.nd rfl (.inl rfl) (pe_lst pa_nil))
    (pss_cons (ps_while PassesOwn.never (pt_cmpR op_ne (C8.pe_mt0 CRNextWord hr (by first | decide | omega) (pv 0)) pe_str (nomark _)) (pss_cons (ps_expr (C8.pe_mt CRLook hr (by first | decide | omega) (pv 0) (pa_cons (pe_cmpR op_lt (pe_callB (call_lenK (K := K) rfl) (by rfl) ml PySem.boot_len (pa_cons (pv 2) pa_nil)) (pe_glob (v := .int 4) (by rfl) mMOST_THINGS ⟨_, rfl⟩) (nomark _)) pa_nil)))
    (pss_one (ps_expr (pe_bmK (K := K) rfl PySem.F.plainAttrs_list PySem.F.slot_list_append PySem.F.type_list_append mt_append (pv 2) (pa_cons (C8.pe_mt CRNameBehind hr (by first | decide | omega) (pv 0) (pa_cons pe_str pa_nil)) pa_nil))))))
    (pss_cons (ps_expr (C8.pe_mt CRTake hr (by first | decide | omega) (pv 0) (pa_cons pe_bl pa_nil)))
    (pss_one (ps_ret (pe_tup (pa_cons (pv 1) (pa_cons (pe_callTy (call_tupleK (K := K) rfl) (by rfl) mtup (by decide +kernel) (pa_cons (pv 2) pa_nil)) (pa_cons (C8.pe_c CPartOfRow hr (by first | decide | omega) (by rfl) (pa_cons (pv 0) pa_nil)) pa_nil)))))))))), ?_⟩
  obtain ⟨⟨dx, ho⟩, hw⟩ := id R0
  have h4 := hg.th
  have hd0 : (fnW g).drop 1 = g.2.1.map (fun x => ("." : Str) ++ x) ++ ("=" : Str) :: g.2.2.ws := rfl
  refine ⟨_, rfl, r, dx, _, rfl, ho, rf_no _ _ _ _ (by decide +kernel) (by decide +kernel) (by decide +kernel) (by decide +kernel), r, w, nn, fnW g, 0, 0, g.1, rfl, R0, rfl, hn, fun H1 k1 R1 => ?_⟩
  refine ⟨Nat.zero_le _, fun L hL => ?_⟩
  obtain ⟨⟨dx1, ho1⟩, hw1⟩ := id R1
  have nLr : L ≠ r := (ne_of_none ho1 hL).symm
  have nLw : L ≠ w := fun e => by rw [e, hw1] at hL; cases hL
  refine ⟨fun m σ H' => ∃ i, i ≤ g.2.1.length ∧ m = g.2.1.length - i ∧ σ = [some (.ref r), some (.str g.1), some (.ref L)] ∧ Kr r H1 H' ∧ H' L = some (.lst ((g.2.1.take i).map V.str)) ∧ RowAt C H' r nn w (fnW g) (1 + i) 0,
    ⟨_, 0, Nat.zero_le _, rfl, rfl, Kr.new hL, upd_same, R1.keep (Kp.new hL)⟩, ?_⟩
  rintro m σ H2 ⟨i, hi, rfl, rfl, k2, hL2, R2⟩
  obtain ⟨⟨dx2, ho2⟩, hw2⟩ := id R2
  refine ⟨_, rfl, r, dx2, _, rfl, ho2, rf_no _ _ _ _ (by decide +kernel) (by decide +kernel) (by decide +kernel) (by decide +kernel), r, w, nn, fnW g, 1 + i, 0, rfl, R2, ?_⟩
  have hdi : (fnW g).drop (1 + i) = (g.2.1.drop i).map (fun x => ("." : Str) ++ x) ++ ("=" : Str) :: g.2.2.ws := by
    rw [← List.drop_drop, hd0, List.drop_append_of_le_length (by rw [List.length_map]; exact hi), List.map_drop]
  refine ⟨rfl, _, rfl, ?_⟩
  refine ite2 (fun c => ?_) (fun c => ?_)
  · -- one thing more
    have hil : i < g.2.1.length := by
      rcases Nat.lt_or_ge i g.2.1.length with h | h
      · exact h
      · rw [List.drop_of_length_le h] at hdi
        obtain ⟨hx, _⟩ := nxw_of (x := "=") (rest := g.2.2.ws) hdi
        rw [hx, decide_eq_true rfl] at c
        cases c
    have hxn := List.getElem?_eq_getElem hil
    have hmn := List.getElem_mem hil
    have hdn : g.2.1.drop i = g.2.1[i] :: g.2.1.drop (i + 1) := List.drop_eq_getElem_cons hil
    generalize g.2.1[i] = y at hxn hmn hdn
    rw [hdn] at hdi
    obtain ⟨hx, hxl, hxa, _⟩ := nxw_of (x := ("." : Str) ++ y) (rest := (g.2.1.drop (i + 1)).map (fun x => ("." : Str) ++ x) ++ ("=" : Str) :: g.2.2.ws) hdi
    refine ⟨fun σ' H' => ∃ m', m' < g.2.1.length - i ∧ ∃ i, i ≤ g.2.1.length ∧ m' = g.2.1.length - i ∧ σ' = [some (.ref r), some (.str g.1), some (.ref L)] ∧ Kr r H1 H' ∧ H' L = some (.lst ((g.2.1.take i).map V.str)) ∧ RowAt C H' r nn w (fnW g) (1 + i) 0, fun σ' H' h => h, ?_⟩
    refine ⟨_, rfl, r, dx2, _, rfl, ho2, rf_no _ _ _ _ (by decide +kernel) (by decide +kernel) (by decide +kernel) (by decide +kernel), _, rfl, L, _, rfl, .inl (SqL.of hL2), _, _, rfl, rfl, .ref r, congrArg (fun b => [V.ref r, V.bl b]) (decide_eq_true (show ((((g.2.1.take i).map V.str).length : Nat) : Int) < 4 by rw [List.length_map, List.length_take]; omega)), ?_⟩
    refine ⟨_, rfl, .inl ⟨rfl, _, SqL.of hL2⟩, _, rfl, r, dx2, _, rfl, ho2, rf_no _ _ _ _ (by decide +kernel) (by decide +kernel) (by decide +kernel) (by decide +kernel), r, w, nn, fnW g, _, _, _, y, 46, rfl, tl_dot, R2, hxa, hg.ns y hmn, fun H3 k3 R3 => ?_⟩
    have hL3 := k3 _ _ hL2 nLr
    refine ⟨L, _, _, rfl, rfl, hL3, small1000 (by rw [List.length_map, List.length_take]; omega), ?_⟩
    obtain ⟨⟨dx3, ho3⟩, hw3⟩ := id R3
    refine ⟨_, by omega, i + 1, hil, rfl, rfl, (k2.trans k3).mut hL, ?_, ⟨⟨dx3, ?_⟩, ?_⟩⟩
    · rw [upd_same, List.take_add_one, hxn, List.map_append]
      rfl
    · rw [upd_ne nLr.symm]
      exact ho3
    · rw [upd_ne nLw.symm]
      exact hw3
  · have hil : i = g.2.1.length := by
      rcases Nat.lt_or_ge i g.2.1.length with h | h
      · have hdn : g.2.1.drop i = g.2.1[i] :: g.2.1.drop (i + 1) := List.drop_eq_getElem_cons h
        rw [hdn] at hdi
        obtain ⟨hx, _⟩ := nxw_of (x := ("." : Str) ++ g.2.1[i]) (rest := (g.2.1.drop (i + 1)).map (fun x => ("." : Str) ++ x) ++ ("=" : Str) :: g.2.2.ws) hdi
        rw [hx, decide_eq_false (fun e => ne_head (x := ("." : Str) ++ g.2.1[i]) (y := "=") (c := 46) (s := 61) (by rw [tl_append, tl_dot]; rfl) (show tl ("=" : Str) = 61 :: [] by decide +kernel) (by decide) (V.str.inj e))] at c
        exact absurd rfl c
      · omega
    rw [hil, List.drop_length] at hdi
    rw [hil] at R2
    rw [hil, List.take_length] at hL2
    obtain ⟨hx, hxl, hxa, hdb⟩ := nxw_of (x := "=") (rest := g.2.2.ws) hdi
    refine ⟨_, rfl, r, dx2, _, rfl, ho2, rf_no _ _ _ _ (by decide +kernel) (by decide +kernel) (by decide +kernel) (by decide +kernel), r, w, nn, fnW g, _, _, _, rfl, R2, hxa, fun H3 k3 R3 => ?_⟩
    have hL3 := k3 _ _ hL2 nLr
    refine ⟨_, rfl, _, rfl, L, _, rfl, .inl ⟨SqL.of hL3, fun T1 hT1 => ?_⟩⟩
    have kT : Kp [] H3 (upd H3 T1 (.tup (g.2.1.map V.str))) := Kp.new hT1
    have hnt : Dp K (upd H3 T1 (.tup (g.2.1.map V.str))) (.ref T1) (.tuple (g.2.1.map PyData.str)) := Dp.newT hT1 (DpAll.strs _) (strs_fz _)
    have R4 := R3.keep kT
    have k04 := ((k1.trans k2).trans k3).trans (Kr.of kT)
    generalize upd H3 T1 (.tup (g.2.1.map V.str)) = H4 at hnt R4 k04 ⊢
    obtain ⟨⟨dx4, ho4⟩, hw4⟩ := id R4
    refine ⟨_, rfl, r, w, nn, fnW g, _, g.2.2, Fs, g.2.1, rfl, R4, hg.bd.b, hg.bd.f, hdb, fun v H5 k5 d5 => ?_⟩
    refine ⟨(by show 3 ≤ sizeLine; decide), fun T hT => ?_⟩
    refine q _ _ ((k04.trans k5).trans (Kr.new hT)) (Dp.newT (ds := [.str g.1, .tuple (g.2.1.map .str), g.2.2.data]) hT (.cons (.str _) (.cons (Dp.keepR k5 ho4 _ _ (strs_fz _) hnt) (.cons d5 .nil))) ?_)
    exact fzAll_iff.mpr fun e m => by
      rcases List.mem_cons.mp m with rfl | m
      · rfl
      rcases List.mem_cons.mp m with rfl | m
      · exact strs_fz _
      · rw [List.mem_singleton.mp m]
        exact data_fz _
end
end Lz

set_option Elab.async false
set_option linter.all false
set_option maxRecDepth 100000
set_option maxHeartbeats 8000000
namespace Lz
open PySem PySem.Spec PyProof.Rows L2 TL
def spRead (K : PySem.W.Frag) : Sp := fun vs H Q _ => ∃ (fs : List Fn) (d : Lz.P), vs = [.str (progT fs d)] ∧ Fits fs d ∧ ∀ (v : V) (H' : Hp), Kp [] H H' → Dp K H' v (progD fs d) → Q v H'
theorem sz16 : sizeLine = 16777216 := sizeLine_eq
theorem PrT.textL {fs : List Fn} {d : Lz.P} (h : PrT fs d) : (progT fs d).length + 2 ≤ sizeLine := by
  have h1 := join_len "\n" (rowsT fs d)
  have h2 := sum_le (c := 400000) h.rowL
  have h3 := h.rowN
  have h4 := sz16
  have h5 : ("\n" : Str).length = 1 := by decide +kernel
  rw [h5] at h1
  have h6 : 400000 * (rowsT fs d).length ≤ 400000 * 9 := Nat.mul_le_mul_left _ h3
  show (Str.join "\n" (rowsT fs d)).length + 2 ≤ sizeLine
  omega
theorem dp_ref {K : PySem.W.Frag} {H : Hp} {v : V} {t : Lz.P} (h : Dp K H v t.data) : ∃ a, v = .ref a := by
  obtain ⟨a, xs, e, _⟩ := hd_at h
  exact ⟨a, e⟩
section
variable {P : Program} {w : World} {K : PySem.W.Frag} {mg : Str → Option Value} {base : Heap} {f C : Addr} {fd : FuncData}
abbrev sRead : Stmt := topS 48
theorem scRead : FnScope ["text", "functions", "asked", "lines", "number", "line", "row"] ["text"] (defScope sRead) := ⟨rfl, rfl, rfl, by decide +kernel, rfl, by decide +kernel, by decide +kernel⟩
theorem ok_read {j : Nat} (hj : 20 ≤ j) (F : Fun K "read" "read" sRead f fd) (B : Bu mg) (U : Ut mg) (CRowMake : C8.Mak P w K mg base 1 "Row" C (spInitR C) []) (CRLook : C8.Met P w K mg base 1 C "look" spLook []) (CRNextWord : C8.Met P w K mg base 1 C "next_word" (spNextW C) []) (CRTake : C8.Met P w K mg base 2 C "take" (spTakeR C) []) (CPartOfRow : C8.Cal P w K mg base j "part_of_row" (spPartOf K C) []) (CFunctionOfRow : C8.Cal P w K mg base (j + 1) "function_of_row" (spFnOf K C) []) (CLooked : C8.Cal P w K mg base 16 "looked" (spLooked K) []) : FnOk P w K mg base CX0 (j + 2) f fd ["text"] (spRead K) := by
  have ml := B.len
  have mtup := B.tuple
  have menum := B.enumerate
  obtain ⟨_, mMOST_FUNCTIONS⟩ := U.f
  refine F.ok scRead (fun vs H Q E h => ?_) (fun cdv A outer s H vs Q E hr h => ?_)
  · obtain ⟨fs, d, rfl, _⟩ := h
    rfl
  obtain ⟨fs, d, rfl, hfit, q⟩ := h
  refine ⟨_, (pss_cons (ps_set (i := 1) scRead.nd rfl (.inl rfl) (pe_lst pa_nil))
    (pss_cons (ps_set (i := 2) scRead.nd rfl (.inl rfl) pe_non)
    (pss_cons (ps_set (i := 3) scRead.nd rfl (.inl rfl) (pe_split (pv 0) pe_str))
    (pss_cons (ps_for PassesOwn.never rfl (pi_enumK (K := K) rfl (by rfl) menum (pa_cons (pv 3) pa_nil)) (pg_tupK (K := K) (n := 2) rfl rfl (pgs_cons (pg_name (i := 4) scRead.nd rfl (.inl rfl)) (pgs_cons (pg_name (i := 5) scRead.nd rfl (.inl rfl)) pgs_nil))) (pss_cons (ps_set (i := 6) scRead.nd rfl (.inl rfl) (C8.pe_mk CRowMake hr (by first | decide | omega) (by rfl) (pa_cons (pv 4) (pa_cons (pe_split (pv 5) pe_str) pa_nil))))
    (pss_cons (ps_expr (C8.pe_mt CRLook hr (by first | decide | omega) (pv 6) (pa_cons (pe_cmpR op_isN (pv 2) pe_non (nomark _)) pa_nil)))
    (pss_one (ps_if (pt_cmpR op_eq (C8.pe_mt0 CRNextWord hr (by first | decide | omega) (pv 6)) pe_str (nomark _)) (pss_cons (ps_expr (C8.pe_mt CRTake hr (by first | decide | omega) (pv 6) (pa_cons pe_bl pa_nil)))
    (pss_one (ps_set (i := 2) scRead.nd rfl (.inl rfl) (C8.pe_c CPartOfRow hr (by first | decide | omega) (by rfl) (pa_cons (pv 6) pa_nil))))) (pss_cons (ps_expr (C8.pe_mt CRLook hr (by first | decide | omega) (pv 6) (pa_cons (pe_cmpR op_lt (pe_callB (call_lenK (K := K) rfl) (by rfl) ml PySem.boot_len (pa_cons (pv 1) pa_nil)) (pe_glob (v := .int 8) (by rfl) mMOST_FUNCTIONS ⟨_, rfl⟩) (nomark _)) pa_nil)))
    (pss_one (ps_expr (pe_bmK (K := K) rfl PySem.F.plainAttrs_list PySem.F.slot_list_append PySem.F.type_list_append mt_append (pv 1) (pa_cons (C8.pe_c CFunctionOfRow hr (by first | decide | omega) (by rfl) (pa_cons (pv 6) pa_nil)) pa_nil))))))))))
    (pss_cons (ps_if (pt_cmpR op_isN (pv 2) pe_non (nomark _)) (pss_one ps_never) pss_nil)
    (pss_one (ps_ret (C8.pe_c CLooked hr (by first | decide | omega) (by rfl) (pa_cons (pe_tup (pa_cons (pe_callTy (call_tupleK (K := K) rfl) (by rfl) mtup (by decide +kernel) (pa_cons (pv 1) pa_nil)) (pa_cons (pv 2) pa_nil))) pa_nil))))))))), ?_⟩
  have hx := hfit.prT
  have h8 := hx.len
  have hfn : ∀ g, g ∈ fs → nmOk g.1 ∧ (∀ x, x ∈ g.2.1 → nmOk x) ∧ g.2.2.ok := fun g m => ⟨(hfit.nm g m).1, (hfit.nm g m).2, (hx.fn g m).bd.b.ok⟩
  have hcl := rows_clean hfn hx.ak.b.ok
  have hrne : rowsW fs d ≠ [] := fun e => by
    have := congrArg List.length e
    unfold rowsW at this
    rw [List.length_append] at this
    simp at this
  have hrl : (rowsW fs d).length = fs.length + 1 := by
    unfold rowsW
    rw [List.length_append, List.length_map]
    rfl
  refine ⟨Nat.zero_le _, fun L hL => ?_⟩
  have kL : Kp [] H (upd H L (.lst [])) := Kp.new hL
  have hL1 : (upd H L (.lst [])) L = some (.lst []) := upd_same
  generalize upd H L (.lst []) = H1 at kL hL1 ⊢
  refine ⟨_, rfl, ⟨_, rfl⟩, _, _, rfl, rfl, (by decide +kernel), hx.textL, fun LL hLL => ?_⟩
  rw [show Txt.split (progT fs d) "\n" = rowsT fs d from split_text hrne hcl]
  have nLL : L ≠ LL := ne_of_none hL1 hLL
  have kLL : Kp [] H1 (upd H1 LL (.lst ((rowsT fs d).map V.str))) := Kp.new hLL
  have hLL2 : (upd H1 LL (.lst ((rowsT fs d).map V.str))) LL = some (.lst ((rowsT fs d).map V.str)) := upd_same
  have hL2 := kLL.lst hL1 (fun m => nomatch m)
  have k02 := kL.trans kLL
  generalize upd H1 LL (.lst ((rowsT fs d).map V.str)) = H2 at kLL hLL2 hL2 k02 ⊢
  refine ⟨_, rfl, LL, _, rfl, SqL.of hLL2, for_it (walk_enum (K := K) (a := LL) (xs := (rowsT fs d).map V.str)) (fun i σ H' => ∃ (v2 : V) (v4 v5 v6 : Option V) (xs : List V), σ = [some (.str (progT fs d)), some (.ref L), some v2, some (.ref LL), v4, v5, v6] ∧ Kp [] H H' ∧ H' LL = some (.lst ((rowsT fs d).map V.str)) ∧ H' L = some (.lst xs) ∧ DpAll K H' xs ((fs.take i).map fD) ∧ (i ≤ fs.length → v2 = .non) ∧ (i = fs.length + 1 → Dp K H' v2 d.data))
    ⟨.non, none, none, none, [], rfl, k02, hLL2, hL2, .nil, fun _ => rfl, fun h => by omega⟩ (fun i σ H' _ ⟨_, _, _, _, _, _, _, h, _⟩ => SqL.of h) ?_ ?_⟩
  · rintro i x σ H3 H4 hi ⟨v2, v4, v5, v6, xs, rfl, k3, hLL3, hL3, hx3, hn3, _⟩ ⟨T, a1, a2, rfl, hT, rfl, e1, e2⟩
    obtain rfl := Option.some.inj e1
    have hi' : i < fs.length + 1 := by
      rw [List.length_map, show (rowsT fs d).length = (rowsW fs d).length from List.length_map _, hrl] at hi
      exact hi
    obtain rfl := hn3 (by omega)
    obtain ⟨wsr, hws⟩ : ∃ wsr, (rowsW fs d)[i]? = some wsr := ⟨_, List.getElem?_eq_getElem (by omega)⟩
    have hmem := List.mem_of_getElem? hws
    have hline : a2 = .str (Str.join " " wsr) := by
      have e : ((rowsT fs d).map V.str)[i]? = some (.str (Str.join " " wsr)) := by
        rw [List.getElem?_map, show (rowsT fs d)[i]? = some (Str.join " " wsr) by unfold rowsT; rw [List.getElem?_map, hws]; rfl]
        rfl
      exact Option.some.inj (e2.symm.trans e)
    subst hline
    have kT : Kp [] H3 (upd H3 T (.tup [.int (i : Nat), .str (Str.join " " wsr)])) := Kp.new hT
    have hT4 : (upd H3 T (.tup [.int (i : Nat), .str (Str.join " " wsr)])) T = some (.tup [.int (i : Nat), .str (Str.join " " wsr)]) := upd_same
    have hLL4 := kT.lst hLL3 (fun m => nomatch m)
    have hL4 := kT.lst hL3 (fun m => nomatch m)
    have hx4 := Dp.keepAll kT _ _ (fd_fz _) hx3
    have k4 := k3.trans kT
    generalize upd H3 T (.tup [.int (i : Nat), .str (Str.join " " wsr)]) = H4 at hT4 hLL4 hL4 hx4 k4 ⊢
    refine ⟨T, _, rfl, SqT.of hT4, rfl, _, _, rfl, _, _, rfl, rfl, ?_⟩
    have hwl : (Str.join " " wsr).length + 2 ≤ sizeLine := by
      have h1 := hx.rowL (Str.join " " wsr) (List.mem_map.mpr ⟨wsr, hmem, rfl⟩)
      have := sz16
      omega
    have hwne : wsr ≠ [] := by
      rcases List.mem_append.mp hmem with m | m
      · obtain ⟨g, _, rfl⟩ := List.mem_map.mp m
        exact fun e => nomatch e
      · rw [List.mem_singleton.mp m]
        exact fun e => nomatch e
    refine ⟨_, rfl, _, rfl, ⟨_, rfl⟩, _, _, rfl, rfl, (by decide +kernel), hwl, fun W hW => ?_⟩
    rw [split_row hwne (hcl wsr hmem)]
    intro r dr hr5 hdr5 hne
    have kW : Kp [] H4 (upd H4 W (.lst (wsr.map V.str))) := Kp.new hW
    have hW5 : (upd H4 W (.lst (wsr.map V.str))) W = some (.lst (wsr.map V.str)) := upd_same
    generalize upd H4 W (.lst (wsr.map V.str)) = H5 at kW hW5 hr5 hdr5 ⊢
    have kd : Kp [] H5 (upd H5 dr (.own r)) := Kp.new hdr5
    have hr6 : (upd H5 dr (.own r)) r = none := by rw [upd_ne hne.symm]; exact hr5
    have hW6 := kd.lst hW5 (fun m => nomatch m)
    generalize upd H5 dr (.own r) = H6 at kd hr6 hW6 ⊢
    have kr : Kp [] H6 (upd H6 r (.ins C dr [])) := Kp.new hr6
    refine ⟨r, dr, W, (i : Nat), wsr, rfl, upd_same, kr.lst hW6 (fun m => nomatch m), fun H7 k7 R7 => ⟨rfl, ?_⟩⟩
    -- from H4 on all is kept, as r was not there
    have hr4 : H4 r = none := (kW.trans kd).free hr6 (fun m => nomatch m)
    have k47 : Kp [] H4 H7 := Kr.kp ((kW.trans kd).trans kr) hr4 k7
    obtain ⟨⟨dx7, ho7⟩, hw7⟩ := id R7
    refine ⟨_, rfl, r, dx7, _, rfl, ho7, rf_no _ _ _ _ (by decide +kernel) (by decide +kernel) (by decide +kernel) (by decide +kernel), _, rfl, rfl, .ref r, rfl, ?_⟩
    refine ⟨_, rfl, r, dx7, _, rfl, ho7, rf_no _ _ _ _ (by decide +kernel) (by decide +kernel) (by decide +kernel) (by decide +kernel), r, W, _, wsr, 0, 0, rfl, R7, rfl, _, rfl, ?_⟩
    rcases Nat.lt_or_ge i fs.length with hif | hif
    · -- a function
      have hgi := List.getElem?_eq_getElem hif
      have hgm := List.getElem_mem hif
      generalize fs[i] = g at hgi hgm
      have ew : wsr = fnW g := by
        have : (rowsW fs d)[i]? = some (fnW g) := by
          unfold rowsW
          rw [List.getElem?_append_left (by rw [List.length_map]; exact hif), List.getElem?_map, hgi]
          rfl
        exact Option.some.inj (hws.symm.trans this)
      subst ew
      refine ite2 (fun c => ?_) (fun _ => ?_)
      · have hn := (hfn g hgm).1
        have ex : nxw (fnW g) 0 = g.1 := rfl
        rw [ex] at c
        exfalso
        cases et : tl g.1 with
        | nil =>
          have h1 := hn.1
          rw [len_tl, et] at h1
          exact absurd h1 (by decide)
        | cons ch l =>
          have hc := hn.2.2 ch (by rw [show g.1.cps.toList = ch :: l from et]; exact List.mem_cons_self)
          exact ne_head et (show tl ("?" : Str) = 63 :: [] by decide +kernel) (by omega) (V.str.inj (of_decide_eq_true c))
      have hL7 := k47.lst hL4 (fun m => nomatch m)
      have hx7 := Dp.keepAll k47 _ _ (fd_fz _) hx4
      have hxl : xs.length = i := by rw [hx4.length, List.length_map, List.length_take]; omega
      refine ⟨_, rfl, r, dx7, _, rfl, ho7, rf_no _ _ _ _ (by decide +kernel) (by decide +kernel) (by decide +kernel) (by decide +kernel), _, rfl, L, _, rfl, .inl (SqL.of hL7), _, _, rfl, rfl, .ref r, congrArg (fun b => [V.ref r, V.bl b]) (decide_eq_true (show ((xs.length : Nat) : Int) < 8 by omega)), ?_⟩
      refine ⟨_, rfl, .inl ⟨rfl, _, SqL.of hL7⟩, _, rfl, r, W, _, g, _, rfl, R7, (hfn g hgm).1, hx.fn g hgm, fun v H8 k8 d8 => ?_⟩
      have k48 : Kp [] H4 H8 := Kr.kp k47 hr4 k8
      have hL8 := k48.lst hL4 (fun m => nomatch m)
      have hLL8 := k48.lst hLL4 (fun m => nomatch m)
      have hx8 := Dp.keepAll k48 _ _ (fd_fz _) hx4
      refine ⟨L, _, _, rfl, rfl, hL8, small1000 (by omega), ?_⟩
      have kk : Kp [L] H8 (upd H8 L (.lst (xs ++ [v]))) := Kp.put hL8 List.mem_cons_self
      refine ⟨.non, _, _, _, xs ++ [v], rfl, (k4.trans k48).mut hL, by rw [upd_ne nLL.symm]; exact hLL8, upd_same, ?_, fun _ => rfl, fun h => by omega⟩
      rw [List.take_add_one, hgi, List.map_append]
      refine (Dp.keepAll kk _ _ (fd_fz _) hx8).append (.one (Dp.keep kk _ _ ?_ d8))
      have := fzAll_iff.mp (fd_fz fs) (fD g) (List.mem_map.mpr ⟨g, hgm, rfl⟩)
      exact this
    · -- what is asked
      have ei : i = fs.length := by omega
      have ew : wsr = ("?" : Str) :: d.ws := by
        have : (rowsW fs d)[i]? = some (("?" : Str) :: d.ws) := by
          unfold rowsW
          rw [List.getElem?_append_right (by rw [List.length_map]; exact hif), List.length_map, ei, Nat.sub_self]
          rfl
        exact Option.some.inj (hws.symm.trans this)
      subst ew
      refine ite2 (fun _ => ?_) (fun c => absurd (decide_eq_true rfl) c)
      refine ⟨_, rfl, r, dx7, _, rfl, ho7, rf_no _ _ _ _ (by decide +kernel) (by decide +kernel) (by decide +kernel) (by decide +kernel), r, W, _, _, 0, 0, _, rfl, R7, rfl, fun H8 k8 R8 => ?_⟩
      refine ⟨_, rfl, r, W, _, _, _, d, _, _, rfl, R8, hx.ak.b, hx.ak.f, rfl, fun v H9 k9 d9 => ?_⟩
      have k49 : Kp [] H4 H9 := Kr.kp k47 hr4 (k8.trans k9)
      refine ⟨v, _, _, _, xs, rfl, k4.trans k49, k49.lst hLL4 (fun m => nomatch m), k49.lst hL4 (fun m => nomatch m), ?_, fun h => by omega, fun _ => d9⟩
      have := Dp.keepAll k49 _ _ (fd_fz _) hx4
      rw [List.take_of_length_le (by omega)] at this ⊢
      exact this
  · rintro σ H3 ⟨v2, v4, v5, v6, xs, rfl, k3, hLL3, hL3, hx3, _, hd3⟩
    rw [List.length_map, show (rowsT fs d).length = (rowsW fs d).length from List.length_map _, hrl] at hx3 hd3
    have hd := hd3 rfl
    rw [List.take_of_length_le (by omega)] at hx3
    obtain ⟨ad, rfl⟩ := dp_ref hd
    refine ⟨_, rfl, rfl, _, rfl, ?_⟩
    refine ite2 (fun c => absurd (of_decide_eq_true c) (fun e => nomatch e)) (fun _ => ?_)
    refine ⟨_, rfl, L, xs, rfl, .inl ⟨SqL.of hL3, fun T1 hT1 => ?_⟩⟩
    have kT : Kp [] H3 (upd H3 T1 (.tup xs)) := Kp.new hT1
    have hft : Dp K (upd H3 T1 (.tup xs)) (.ref T1) (.tuple (fs.map fD)) := Dp.newT hT1 hx3 (fd_fz _)
    have hd4 := Dp.keep kT _ _ (data_fz _) hd
    have k4 := k3.trans kT
    generalize upd H3 T1 (.tup xs) = H4 at hft hd4 k4 ⊢
    refine ⟨_, rfl, (by show 2 ≤ sizeLine; decide), fun T hT => ?_⟩
    have hpg : Dp K (upd H4 T (.tup [.ref T1, .ref ad])) (.ref T) (progD fs d) := Dp.newT (ds := [.tuple (fs.map fD), d.data]) hT (.cons hft (.cons hd4 .nil)) (fzAll_iff.mpr fun e m => by
      rcases List.mem_cons.mp m with rfl | m
      · exact fd_fz _
      · rw [List.mem_singleton.mp m]
        exact data_fz _)
    refine ⟨.ref T, fs, d, rfl, hpg, hfit, fun H5 k5 => ?_⟩
    exact q _ H5 ((k4.trans (Kp.new hT)).trans k5) (Dp.keep k5 _ _ (progU_fz _ _) hpg)
end
end Lz

set_option Elab.async false
set_option linter.all false
set_option maxRecDepth 100000
set_option maxHeartbeats 4000000
/-! zip of a tuple and a list. -/
namespace StZ
open PySem PySem.Spec PyProof.Rows L2 RZ
section
variable {P : Program} {w : World} {A : Around} {E : Value → Shared → Prop} {t : Shared}
/-- a tuple's and a list's turn of a zip at q, of the iterators at u and v -/
structure At (h : Heap) (q I O u v a b : Addr) (i j : Nat) (xs ys : Array Value) : Prop where
  u1 : h.IsTupleIter u a i
  v1 : h.IsListIter v b j
  a1 : h.IsTuple a xs
  b1 : h.IsList b ys
/-- what the turn leaves -/
def Kept (h g : Heap) (q O u v : Addr) : Prop := ∀ c o, c ≠ q → c ≠ O → c ≠ u → c ≠ v → h.get? c = some o → g.get? c = some o
theorem one_turn {q I O u v a b : Addr} {i j : Nat} {xs ys : Array Value} {x y m n : Value} {Q : Value → Shared → Prop} (Ap : ZipApart q I O u v a b) (zq : IsZip t.heap q I O .none) (zi : IsPair t.heap I (.ref u) (.ref v)) (zo : IsPair t.heap O m n) (S : At t.heap q I O u v a b i j xs ys) (ex : xs[i]? = some x) (ey : ys[j]? = some y)
    (k : ∀ g, IsZip g q I O (rawInt t.heap.objs.size) → IsPair g O x y → g.IsTupleIter u a (i + 1) → g.IsListIter v b (j + 1) → IsPair g t.heap.objs.size x y → g.objs.size = t.heap.objs.size + 1 → Kept t.heap g q O u v → Q (.ref t.heap.objs.size) { t with heap := g }) :
    wpAny (model P w) A (Builtin.«zip.__next__» ⟨[.ref q], []⟩) (fun f t' => ∃ r, f = .done (.ret r) ∧ Q r t') E t := by
  show wpAny _ _ (field (.ref q) 2 >>= _) _ _ _
  refine wpAny_bind (wpAny_field zq rfl (x := .bool false) rfl ?_); show wpAny _ _ (field (.ref q) 3 >>= _) _ _ _
  refine wpAny_bind (wpAny_field zq rfl (x := .ref I) rfl (wpAny_bind (wpAny_seqItems zi rfl ?_)))
  show wpAny _ _ (Builtin.SmallTypes.ownedTupleIsFree (.ref q) >>= _) _ _ _
  refine wpAny_bind ?_; unfold Builtin.SmallTypes.ownedTupleIsFree
  refine wpAny_bind (wpAny_field zq rfl (x := .none) rfl (wpAny_pure ?_)); simp only [if_true]
  refine wpAny_bind (wpAny_rule (wpAny_bind (wpAny_field zq rfl (x := .ref O) rfl ?_)))
  refine wpAny_bind (wpAny_setField_rec zq (by simp) fun g1 zq1 s1 => ?_)
  have zq1 : IsZip g1 q I O .ellipsis := zq1
  refine wpAny_bind ?_; simp only [List.zipIdx_cons, List.zipIdx_nil, List.forIn_cons, List.forIn_nil]
  -- the tuple's
  refine wpAny_bind (wpAny_bind (wpAny_onRaise ?_)); show wpAny _ _ (Builtin.SmallTypes.nextOf (.ref u) >>= _) _ _ _
  refine wpAny_bind (nextOf_tuple_item (S.u1.extBut s1.extBut Ap.i1z) (S.a1.extBut s1.extBut Ap.l1z) ex fun g2 u2 s2 => wpAny_pure ?_)
  have zo2 : IsPair g2 O m n := s2.extBut _ _ Ap.TOi1 (s1.extBut _ _ Ap.TOz zo)
  refine wpAny_bind (wpAny_seqItems zo2 rfl (wpAny_bind (wpAny_updateSeq_pair zo2 fun g3 zo3 s3 => ?_)))
  have zo3 : IsPair g3 O x n := zo3
  refine wpAny_bind (wpAny_letGo (wpAny_pure ?_))
  -- the list's
  refine wpAny_bind (wpAny_bind (wpAny_onRaise ?_)); show wpAny _ _ (Builtin.SmallTypes.nextOf (.ref v) >>= _) _ _ _
  have v3 := ((S.v1.extBut s1.extBut Ap.i2z).extBut s2.extBut Ap.i12.symm).extBut s3.extBut Ap.TOi2.symm
  have b3 := ((S.b1.extBut s1.extBut Ap.l2z).extBut s2.extBut Ap.l2i1).extBut s3.extBut Ap.l2TO
  refine wpAny_bind (wpAny_nextOf_list_item v3 b3 ey fun g4 v4 s4 => wpAny_pure ?_)
  have zo4 : IsPair g4 O x n := s4.extBut _ _ Ap.TOi2 zo3
  refine wpAny_bind (wpAny_seqItems zo4 rfl (wpAny_bind (wpAny_updateSeq_pair zo4 fun g5 zo5 s5 => ?_)))
  have zo5 : IsPair g5 O x y := zo5
  refine wpAny_bind (wpAny_letGo (wpAny_pure (wpAny_pure (wpAny_bind (wpAny_seqItems zo5 rfl (wpAny_bind (wpAny_newTuple ?_)))))))
  have big : g5.objs.size = t.heap.objs.size := by rw [s5.1, s4.1, s3.1, s2.1, s1.1]
  have zq5 : IsZip g5 q I O .ellipsis := s5.extBut _ _ Ap.TOz.symm (s4.extBut _ _ Ap.i2z.symm (s3.extBut _ _ Ap.TOz.symm (s2.extBut _ _ Ap.i1z.symm zq1)))
  have all5 : Kept t.heap g5 q O u v := fun c o n1 n2 n3 n4 e => s5.extBut _ _ n2 (s4.extBut _ _ n4 (s3.extBut _ _ n2 (s2.extBut _ _ n3 (s1.extBut _ _ n1 e))))
  have u5 := ((u2.extBut s3.extBut Ap.TOi1.symm).extBut s4.extBut Ap.i12).extBut s5.extBut Ap.TOi1.symm
  have v5 := v4.extBut s5.extBut Ap.TOi2.symm
  have ql : q < g5.objs.size := Heap.lt_size zq5
  show wpAny _ _ (Builtin.SmallTypes.ownedTupleHandOut (.ref q) (.ref g5.objs.size) >>= _) _ _ _
  refine wpAny_bind ?_; unfold Builtin.SmallTypes.ownedTupleHandOut
  have zq6 : IsZip (g5.push { cls := .type "tuple", data := .seq #[x, y] }) q I O .ellipsis := Heap.get?_push_of_some _ zq5
  refine wpAny_bind (wpAny_setField_rec zq6 (by simp) fun g7 zq7 s7 => ?_)
  have zq7 : IsZip g7 q I O (rawInt g5.objs.size) := zq7
  refine wpAny_setField_rec zq7 (by simp) fun g8 zq8 s8 => ?_
  have zq8 : IsZip g8 q I O (rawInt g5.objs.size) := zq8
  have up : ∀ c o, c ≠ q → g5.get? c = some o → g8.get? c = some o := fun c o n1 e => s8.extBut _ _ n1 (s7.extBut _ _ n1 (Heap.get?_push_of_some _ e))
  have two8 : IsPair g8 g5.objs.size x y := s8.extBut _ _ (Nat.ne_of_gt ql) (s7.extBut _ _ (Nat.ne_of_gt ql) (Heap.get?_push_size _ rfl))
  have big8 : g8.objs.size = g5.objs.size + 1 := by rw [s8.1, s7.1, Heap.size_push]
  rw [big] at zq8 two8 big8
  refine wpAny_pure ⟨_, rfl, ?_⟩
  show Q (.ref g5.objs.size) _
  rw [big]
  exact k g8 zq8 (up _ _ Ap.TOz zo5) (u5.at fun o e => up _ o Ap.i1z e) (v5.at fun o e => up _ o Ap.i2z e) two8 big8 fun c o n1 n2 n3 n4 e => up c o n1 (all5 c o n1 n2 n3 n4 e)
theorem at_end {q I O u v a b : Addr} {i j : Nat} {xs ys : Array Value} {m n : Value} {Q : Fin → Shared → Prop} (hh : A.handled = none) (Ap : ZipApart q I O u v a b) (zq : IsZip t.heap q I O .none) (zi : IsPair t.heap I (.ref u) (.ref v)) (zo : IsPair t.heap O m n) (S : At t.heap q I O u v a b i j xs ys) (over : xs[i]? = none ∨ ys[j]? = none)
    (k : ∀ g e, Kept t.heap g q O u v → (∃ o, g.get? e = some o ∧ o.cls = .type "StopIteration") → E (.ref e) { t with heap := g }) : wpAny (model P w) A (Builtin.«zip.__next__» ⟨[.ref q], []⟩) Q E t := by
  show wpAny _ _ (field (.ref q) 2 >>= _) _ _ _
  refine wpAny_bind (wpAny_field zq rfl (x := .bool false) rfl ?_); show wpAny _ _ (field (.ref q) 3 >>= _) _ _ _
  refine wpAny_bind (wpAny_field zq rfl (x := .ref I) rfl (wpAny_bind (wpAny_seqItems zi rfl ?_)))
  show wpAny _ _ (Builtin.SmallTypes.ownedTupleIsFree (.ref q) >>= _) _ _ _
  refine wpAny_bind ?_; unfold Builtin.SmallTypes.ownedTupleIsFree
  refine wpAny_bind (wpAny_field zq rfl (x := .none) rfl (wpAny_pure ?_)); simp only [if_true]
  refine wpAny_bind (wpAny_rule (wpAny_bind (wpAny_field zq rfl (x := .ref O) rfl ?_)))
  refine wpAny_bind (wpAny_setField_rec zq (by simp) fun g1 zq1 s1 => ?_)
  have zq1 : IsZip g1 q I O .ellipsis := zq1
  refine wpAny_bind ?_; simp only [List.zipIdx_cons, List.zipIdx_nil, List.forIn_cons, List.forIn_nil]
  refine wpAny_bind (wpAny_bind (wpAny_onRaise ?_)); show wpAny _ _ (Builtin.SmallTypes.nextOf (.ref u) >>= _) _ _ _
  cases ex : xs[i]? with
  | none =>
    refine wpAny_bind (nextOf_tuple_end hh (S.u1.extBut s1.extBut Ap.i1z) (S.a1.extBut s1.extBut Ap.l1z) ex fun g2 e s2 ⟨oe, oe1, oe2⟩ => ?_)
    have zq2 : IsZip g2 q I O .ellipsis := s2 _ _ Ap.i1z.symm zq1
    have ne : e ≠ q := by
      rintro rfl
      rw [zq2] at oe1
      cases oe1
      simp at oe2
    exact wpAny_setField_rec zq2 (by simp) fun g3 _ s3 => k g3 e (fun c o n1 _ n3 _ z => s3.extBut _ _ n1 (s2 _ _ n3 (s1.extBut _ _ n1 z))) ⟨oe, s3.extBut _ _ ne oe1, oe2⟩
  | some x =>
    have ey : ys[j]? = none := over.elim (fun z => by rw [ex] at z; cases z) id
    refine wpAny_bind (nextOf_tuple_item (S.u1.extBut s1.extBut Ap.i1z) (S.a1.extBut s1.extBut Ap.l1z) ex fun g2 u2 s2 => wpAny_pure ?_)
    have zo2 : IsPair g2 O m n := s2.extBut _ _ Ap.TOi1 (s1.extBut _ _ Ap.TOz zo)
    refine wpAny_bind (wpAny_seqItems zo2 rfl (wpAny_bind (wpAny_updateSeq_pair zo2 fun g3 zo3 s3 => ?_)))
    refine wpAny_bind (wpAny_letGo (wpAny_pure ?_))
    refine wpAny_bind (wpAny_bind (wpAny_onRaise ?_)); show wpAny _ _ (Builtin.SmallTypes.nextOf (.ref v) >>= _) _ _ _
    have v3 := ((S.v1.extBut s1.extBut Ap.i2z).extBut s2.extBut Ap.i12.symm).extBut s3.extBut Ap.TOi2.symm
    have b3 := ((S.b1.extBut s1.extBut Ap.l2z).extBut s2.extBut Ap.l2i1).extBut s3.extBut Ap.l2TO
    refine wpAny_bind (wpAny_nextOf_list_end hh v3 b3 ey fun g4 e s4 ⟨oe, oe1, oe2⟩ => ?_)
    have zq4 : IsZip g4 q I O .ellipsis := s4 _ _ Ap.i2z.symm (s3.extBut _ _ Ap.TOz.symm (s2.extBut _ _ Ap.i1z.symm zq1))
    have ne : e ≠ q := by
      rintro rfl
      rw [zq4] at oe1
      cases oe1
      simp at oe2
    exact wpAny_setField_rec zq4 (by simp) fun g5 _ s5 => k g5 e (fun c o n1 n2 n3 n4 z => s5.extBut _ _ n1 (s4 _ _ n4 (s3.extBut _ _ n2 (s2.extBut _ _ n3 (s1.extBut _ _ n1 z))))) ⟨oe, s5.extBut _ _ ne oe1, oe2⟩
theorem next_turn {q I O u v a b : Addr} {i j : Nat} {xs ys : Array Value} {x y m n : Value} {Q : Option Value → Shared → Prop} (Ap : ZipApart q I O u v a b) (zq : IsZip t.heap q I O .none) (zi : IsPair t.heap I (.ref u) (.ref v)) (zo : IsPair t.heap O m n) (S : At t.heap q I O u v a b i j xs ys) (ex : xs[i]? = some x) (ey : ys[j]? = some y)
    (k : ∀ g, IsZip g q I O (rawInt t.heap.objs.size) → IsPair g O x y → g.IsTupleIter u a (i + 1) → g.IsListIter v b (j + 1) → IsPair g t.heap.objs.size x y → g.objs.size = t.heap.objs.size + 1 → Kept t.heap g q O u v → Q (some (.ref t.heap.objs.size)) { t with heap := g }) : wpAny (model P w) A (pyNext (.ref q)) Q E t := by
  have ty : t.TypeIs (.ref q) "zip" := ⟨_, zq, rfl⟩
  unfold pyNext
  refine wpAny_bind (wpAny_attempt (wpAny_callSpecial?_slot (name := Str.ofString "__next__") ty F.slot_zip_next (wpAny_call_entry F.slot_zip_next ty F.entry_zip_next ?_ (F.args_zip_next_1 _))))
  exact one_turn Ap zq zi zo S ex ey fun g k1 k2 k3 k4 k5 k6 k7 => wpAny_pure (k g k1 k2 k3 k4 k5 k6 k7)
theorem next_end {q I O u v a b : Addr} {i j : Nat} {xs ys : Array Value} {m n : Value} {Q : Option Value → Shared → Prop} (hh : A.handled = none) (Ap : ZipApart q I O u v a b) (zq : IsZip t.heap q I O .none) (zi : IsPair t.heap I (.ref u) (.ref v)) (zo : IsPair t.heap O m n) (S : At t.heap q I O u v a b i j xs ys) (over : xs[i]? = none ∨ ys[j]? = none)
    (k : ∀ g, Kept t.heap g q O u v → Q none { t with heap := g }) : wpAny (model P w) A (pyNext (.ref q)) Q E t := by
  have ty : t.TypeIs (.ref q) "zip" := ⟨_, zq, rfl⟩
  unfold pyNext
  refine wpAny_bind (wpAny_attempt (wpAny_callSpecial?_slot (name := Str.ofString "__next__") ty F.slot_zip_next (wpAny_call_entry F.slot_zip_next ty F.entry_zip_next ?_ (F.args_zip_next_1 _))))
  refine at_end hh Ap zq zi zo S over fun g e kk ⟨o, o1, o2⟩ => ?_
  exact wpAny_bind (wpAny_isInstance (T := "StopIteration") (b := true) ⟨o, o1, o2⟩ isSubtype_stop (wpAny_pure (k g kk)))
end
/-! ### its making -/
abbrev m1 (h : Heap) (a : Addr) : Heap := h.push { cls := .type "tuple_iterator", data := .fields #[.ref a, .int 0 0] }
abbrev m2 (h : Heap) (a b : Addr) : Heap := (m1 h a).push { cls := .type "list_iterator", data := .fields #[.ref b, .int 0 0] }
abbrev m3 (h : Heap) (a b : Addr) : Heap := (m2 h a b).push { cls := .type "tuple", data := .seq #[.ref h.objs.size, .ref (m1 h a).objs.size] }
abbrev m4 (h : Heap) (a b : Addr) : Heap := (m3 h a b).push { cls := .type "tuple", data := .seq #[.none, .none] }
abbrev m5 (h : Heap) (a b : Addr) : Heap := (m4 h a b).push { cls := .type "zip", data := .fields #[.none, .bool false, .bool false, .ref (m2 h a b).objs.size, .ref (m3 h a b).objs.size] }
theorem made (a b : Addr) (xs ys : Array Value) : Meets (Builtin.«zip.__new__» ⟨[.type "zip", .ref a, .ref b], []⟩) (fun _ R s => s.heap.IsTuple a xs ∧ s.heap.IsList b ys ∧ R (.ok (.ret (.ref (m4 s.heap a b).objs.size))) { s with heap := m5 s.heap a b }) :=
  .of_wp fun prog w A R s h => by
    obtain ⟨hp, g, d, tk, os⟩ := s
    obtain ⟨ta, tb, r⟩ := h
    have sub := sub_zip
    have La : Heap.IsTuple (Shared.heap ⟨hp, g, d, tk, os⟩) a xs := ta
    have Lb : Heap.IsList (Shared.heap ⟨m1 hp a, g, d, tk, os⟩) b ys := Heap.IsList.push tb _
    wp_walk using wpAny_pyIter_tuple La, wpAny_pyIter_list Lb
    exact ⟨_, rfl, r⟩
theorem call_made {P : Program} {w : World} {A : Around} {E : Value → Shared → Prop} {t : Shared} {a b : Addr} {xs ys : Array Value} {Q : Value → Shared → Prop} (ta : t.heap.IsTuple a xs) (tb : t.heap.IsList b ys)
    (k : ∀ g, IsZip g (t.heap.objs.size + 4) (t.heap.objs.size + 2) (t.heap.objs.size + 3) .none → IsPair g (t.heap.objs.size + 2) (.ref t.heap.objs.size) (.ref (t.heap.objs.size + 1)) → IsPair g (t.heap.objs.size + 3) .none .none → g.IsTupleIter t.heap.objs.size a 0 → g.IsListIter (t.heap.objs.size + 1) b 0 →
      (∀ c o, t.heap.get? c = some o → g.get? c = some o) → Q (.ref (t.heap.objs.size + 4)) { t with heap := g }) : wpAny (model P w) A (call (.type "zip") [.ref a, .ref b]) Q E t := by
  refine callType_new F.called_zip (by decide) (F.typeCall_zip_2 _ _) (F.newCall_zip_2 _ _) (fun obj => F.args_object_init_3 obj _ _) F.entry_zip_new (made a b xs ys) ⟨ta, tb, ?_⟩
  have n1 : (m1 t.heap a).objs.size = t.heap.objs.size + 1 := Heap.size_push ..
  have n2 : (m2 t.heap a b).objs.size = t.heap.objs.size + 2 := by rw [Heap.size_push, n1]
  have n3 : (m3 t.heap a b).objs.size = t.heap.objs.size + 3 := by rw [Heap.size_push, n2]
  have n4 : (m4 t.heap a b).objs.size = t.heap.objs.size + 4 := by rw [Heap.size_push, n3]
  have up : ∀ {h : Heap} {c : Addr} {o o' : Obj}, h.get? c = some o → (h.push o').get? c = some o := fun e => Heap.get?_push_of_some _ e
  have e5 : (m5 t.heap a b).get? (m4 t.heap a b).objs.size = some _ := Heap.get?_push_size _ rfl
  have e4 : (m5 t.heap a b).get? (m3 t.heap a b).objs.size = some _ := up (Heap.get?_push_size _ rfl)
  have e3 : (m5 t.heap a b).get? (m2 t.heap a b).objs.size = some _ := up (up (Heap.get?_push_size _ rfl))
  have e2 : (m5 t.heap a b).get? (m1 t.heap a).objs.size = some _ := up (up (up (Heap.get?_push_size _ rfl)))
  have e1 : (m5 t.heap a b).get? t.heap.objs.size = some _ := up (up (up (up (Heap.get?_push_size _ rfl))))
  show _ ∧ _
  rw [n2, n3, n4] at e5
  rw [n1, n2] at e3
  rw [n3] at e4
  rw [n1] at e2
  rw [n4]
  exact ⟨⟨_, e5, rfl⟩, k _ e5 e3 e4 ⟨_, e1, rfl, rfl⟩ ⟨_, e2, rfl, rfl⟩ fun c o z => up (up (up (up (up z))))⟩
end StZ

set_option Elab.async false
set_option linter.all false
set_option maxRecDepth 100000
set_option maxHeartbeats 4000000
/-! The layer's rule for zip of a tuple and a list. -/
namespace StZ
open PySem PySem.Spec PyProof.Rows L2 RZ
/-- the tuple at a and the list at b, as they stand at each turn -/
def Itm (K : PySem.W.Frag) (a b : Addr) : It where
  go i H := ∃ (xs ys : List V) (x y : V), SqT K H a xs ∧ SqL K H b ys ∧ xs[i]? = some x ∧ ys[i]? = some y
  yld i H v H' := ∃ T x y, v = .ref T ∧ H T = none ∧ H' = upd H T (.tup [x, y]) ∧ (∀ xs, SqT K H a xs → xs[i]? = some x) ∧ ∀ ys, SqL K H b ys → ys[i]? = some y
  stop i H := ∃ xs ys : List V, SqT K H a xs ∧ SqL K H b ys ∧ (xs.length ≤ i ∨ ys.length ≤ i)
/-- how the five objects of a zip stand ahead of turn i -/
def Stand (a b z TI TO u v : Addr) (i : Nat) (h : Heap) : Prop := IsZip h z TI TO .none ∧ IsPair h TI (.ref u) (.ref v) ∧ (∃ x y, IsPair h TO x y) ∧ h.IsTupleIter u a i ∧ h.IsListIter v b i
theorem five {c z TI TO u v : Addr} (h : c ∈ [z, TI, TO, u, v]) : c = z ∨ c = TI ∨ c = TO ∨ c = u ∨ c = v := by simpa using h
theorem stand_some {a b z TI TO u v c : Addr} {i : Nat} {h : Heap} (s : Stand a b z TI TO u v i h) (hc : c ∈ [z, TI, TO, u, v]) : ∃ o, h.get? c = some o ∧ ∀ w, o.data ≠ .cell w := by
  obtain ⟨hz, hi, ⟨x, y, ho⟩, ⟨o1, e1, _, d1⟩, ⟨o2, e2, _, d2⟩⟩ := s
  rcases five hc with q | q | q | q | q <;> subst q
  · exact ⟨_, hz, fun w q => nomatch q⟩
  · exact ⟨_, hi, fun w q => nomatch q⟩
  · exact ⟨_, ho, fun w q => nomatch q⟩
  · exact ⟨o1, e1, fun w q => by rw [d1] at q; cases q⟩
  · exact ⟨o2, e2, fun w q => by rw [d2] at q; cases q⟩
theorem kept_but {h g : Heap} {q TI O u v : Addr} (k : Kept h g q O u v) : ∀ c o, c ∉ [q, TI, O, u, v] → h.get? c = some o → g.get? c = some o :=
  fun c o n e => k c o (fun z => n (by simp [z])) (fun z => n (by simp [z])) (fun z => n (by simp [z])) (fun z => n (by simp [z])) e
theorem turn_mix {P : Program} {w : World} {K : PySem.W.Frag} {elts : List Expr} {kk : Nat} {tpos : Pos} {a b z TI TO u v : Addr} (D : ZipApart z TI TO u v a b) :
    Turn P w K (.Tuple elts kk tpos) (Itm K a b) [z, TI, TO, u, v] z (Stand a b z TI TO u v) where
  mem := by simp
  obj := fun i h st c hc => stand_some st hc
  keep := fun i h h' ⟨h1, h2, ⟨x, y, h3⟩, h4, h5⟩ k => ⟨k z (by simp) _ h1, k TI (by simp) _ h2, ⟨x, y, k TO (by simp) _ h3⟩, h4.at fun o q => k u (by simp) o q, h5.at fun o q => k v (by simp) o q⟩
  item := by
    rintro X rfl rfl rfl hc i pins s σ H E I hf st ⟨xs, ys, x, y, qx, qy, ex, ey⟩
    have all := fun c hc => stand_some st (c := c) hc
    obtain ⟨hz, hi, ⟨x0, y0, ho⟩, h1, h2⟩ := st
    obtain ⟨us, rv, p, _⟩ := I.tuple qx
    obtain ⟨vs, rv2, p2, _⟩ := I.list qy
    obtain ⟨m, hm, rm⟩ := rv.get ex
    obtain ⟨n, hn, rn⟩ := rv2.get ey
    have S : At s.heap z TI TO u v a b i i us.toArray vs.toArray := ⟨h1, h2, p, p2.isList⟩
    refine next_turn D hz hi ho S (x := m) (y := n) (by simpa using hm) (by simpa using hn) fun g z' o' u' v' nw sz k => ⟨_, rfl, ?_⟩
    refine wpAny_letOwnedTupleGo_zip (s := { s with heap := g }) z' fun g2 z2 sb => ?_
    have lz : z < s.heap.objs.size := Heap.lt_size hz
    have nw2 : g2.get? s.heap.objs.size = some { cls := .type "tuple", data := .seq #[m, n] } := (sb.2 _ (Nat.ne_of_gt lz)).trans nw
    have ok : ObjOk X.prog X.w (upd H s.heap.objs.size (.tup [x, y])) g2 s.heap.objs.size (.tup [x, y]) := ⟨by show 2 ≤ sizeLine; decide, [m, n], .cons rm (.cons rn .nil), ⟨_, nw2, rfl, _, rfl⟩⟩
    have I2 : Inv X pins σ (upd H s.heap.objs.size (.tup [x, y])) { s with heap := g2 } :=
      I.turnedNew (t' := s.toks) (ch := [z, TI, TO, u, v]) (fun c o hb q => (sb.2 c fun e => hb (by simp [e])).trans (kept_but k c o hb q)) hf (Nat.le_refl _) ok
    refine ⟨.ref s.heap.objs.size, _, I2, rfl, ⟨_, x, y, rfl, I.hok.fresh (Nat.le_refl _), rfl, fun l hl => (I.tuple_inj hl qx).symm ▸ ex, fun l hl => (I.list_inj hl qy).symm ▸ ey⟩, ⟨z2, ?_, ⟨m, n, (sb.2 _ D.TOz).trans o'⟩, ?_, ?_⟩, fun c hc => ?_⟩
    · exact (sb.2 _ D.TIz).trans (k _ _ D.TIz D.TITO D.TIi1 D.TIi2 hi)
    · exact u'.at fun o q => (sb.2 _ D.i1z).trans q
    · exact v'.at fun o q => (sb.2 _ D.i2z).trans q
    · obtain ⟨o, eo, _⟩ := all c hc
      rw [upd_ne (Nat.ne_of_lt (Heap.lt_size eo))]
      exact (hf c hc).1
  done := by
    rintro X rfl rfl rfl hc i pins s σ H E I hf ⟨hz, hi, ⟨x0, y0, ho⟩, h1, h2⟩ ⟨xs, ys, qx, qy, over⟩
    obtain ⟨us, rv, p, _⟩ := I.tuple qx
    obtain ⟨vs, rv2, p2, _⟩ := I.list qy
    have l1 := rv.length
    have l2 := rv2.length
    have S : At s.heap z TI TO u v a b i i us.toArray vs.toArray := ⟨h1, h2, p, p2.isList⟩
    have ov : us.toArray[i]? = none ∨ vs.toArray[i]? = none := over.imp (fun q => by simp; omega) (fun q => by simp; omega)
    exact next_end (I.ok.hd hc) D hz hi ho S ov fun g k => ⟨rfl, I.turnedL (t' := s.toks) (ch := [z, TI, TO, u, v]) (kept_but k) hf⟩
  self := fun A i s Q E st h => wpAny_pyIter_zip st.1 h
def iMix (K : PySem.W.Frag) (ta : TA) : TI := fun σ H R => ta σ H fun vs H1 => ∃ a b xs ys, vs = [.ref a, .ref b] ∧ SqT K H1 a xs ∧ SqL K H1 b ys ∧ R (Itm K a b) H1
theorem pi_mix {X : Cx} {e e2 : Expr} {ta : TA} {p pos tpos : Pos} {elts : List Expr} {kk : Nat} (hg : Gl X "zip") (hm : X.mg "zip" = none) (ha : PA X [e, e2] ta)
    (hs : starEach [e, e2] X.env = (false, eval e X.env) :: starEach [e2] X.env := by rfl) (hpl : (backTo pos (starEach [e2] X.env)).any (·.1) = false := by rfl) :
    PI X (.Tuple elts kk tpos) (.Call (.Name "zip" p) [e, e2] [] pos) (iMix X.K ta) := by
  refine ⟨fun pins s σ H R I h => Call_ (ld_blt I hg hm PyProof.Rows.boot_zip (PyProof.Rows.callWith_type1 (thn (ha.run pos pins s σ H _ I h) fun us s1 ⟨vs, H1, I1, r1, q1⟩ => ?_) hs hpl))⟩
  obtain ⟨a, b, xs, ys, rfl, qx, qy, q⟩ := q1
  cases r1 with
  | cons r rr =>
    cases rr with
    | cons r' rr =>
      cases rr
      cases r
      cases r'
      obtain ⟨m1, rv, p1, _⟩ := I1.tuple qx
      obtain ⟨m2, rv2, p2, _⟩ := I1.list qy
      obtain ⟨o1, ho1, _⟩ := id p1
      refine call_made (show s1.heap.IsTuple a m1.toArray from p1) p2.isList fun g hz hi ho h1 h2 k => wpAny_pyIter_zip hz ?_
      have I2 : Inv X pins σ H1 { s1 with heap := g } := I1.kept (t' := s1.toks) k
      refine ⟨s1.heap.objs.size + 4, [s1.heap.objs.size + 4, s1.heap.objs.size + 2, s1.heap.objs.size + 3, s1.heap.objs.size, s1.heap.objs.size + 1], _, _, H1, rfl, I2, turn_mix (PySem.W.ktu_apart s1.heap.objs.size a b (Heap.lt_size ho1) p2.lt), ⟨hz, hi, ⟨_, _, ho⟩, h1, h2⟩, fun c hc => ?_, q⟩
      have le : s1.heap.objs.size ≤ c := by
        rcases five hc with e | e | e | e | e <;> rw [e] <;> first | exact Nat.le_refl _ | exact Nat.le_add_right _ _
      exact I1.fpOk le (I1.hok.fresh le)
theorem walk_mix {K : PySem.W.Frag} {a b : Addr} {xs ys : List V} {n : Nat} (hn : n = min xs.length ys.length) : Walk (Itm K a b) n (fun H => SqT K H a xs ∧ SqL K H b ys) (YPair (fun i => xs[i]?) (fun i => ys[i]?)) where
  goes i H hi q := ⟨xs, ys, xs[i]'(by omega), ys[i]'(by omega), q.1, q.2, by simp [show i < xs.length by omega], by simp [show i < ys.length by omega]⟩
  stops H q := ⟨xs, ys, q.1, q.2, by omega⟩
  yields i H v H' hi q y := by
    obtain ⟨T, x, z, h1, h2, h3, h4, h5⟩ := y
    exact ⟨T, x, z, h1, h2, h3, h4 xs q.1, h5 ys q.2⟩
end StZ

set_option Elab.async false
set_option linter.all false
set_option maxRecDepth 100000
set_option maxHeartbeats 4000000
namespace StZ
open PySem PySem.Spec PyProof.Rows L2 RZ
theorem pi_zipTK {X : Cx} {K : PySem.W.Frag} {e e2 : Expr} {ta : TA} {p pos tpos : Pos} {elts : List Expr} {kk : Nat} (h : X.K = K) (hg : Gl X "zip") (hm : X.mg "zip" = none) (ha : PA X [e, e2] ta)
    (hs : starEach [e, e2] X.env = (false, eval e X.env) :: starEach [e2] X.env := by rfl) (hpl : (backTo pos (starEach [e2] X.env)).any (·.1) = false := by rfl) :
    PI X (.Tuple elts kk tpos) (.Call (.Name "zip" p) [e, e2] [] pos) (iZipA K ta) := by
  subst h
  exact pi_zipA hg hm ha hs hpl
theorem walk_two {K : PySem.W.Frag} {a b : Addr} {xs ys : List V} {n : Nat} (hn : n = min xs.length ys.length) : Walk (ItzT K a b) n (fun H => SqT K H a xs ∧ SqT K H b ys) (YPair (fun i => xs[i]?) (fun i => ys[i]?)) where
  goes i H hi q := ⟨xs, ys, xs[i]'(by omega), ys[i]'(by omega), q.1, q.2, by simp [show i < xs.length by omega], by simp [show i < ys.length by omega]⟩
  stops H q := ⟨xs, ys, q.1, q.2, by omega⟩
  yields i H v H' hi q y := by
    obtain ⟨T, x, z, h1, h2, h3, h4, h5⟩ := y
    exact ⟨T, x, z, h1, h2, h3, h4 xs q.1, h5 ys q.2⟩
end StZ
namespace Lz
open PySem PySem.Spec PyProof.Rows L2
/-- tuples, numbers, texts alone, none of them long -/
inductive Pl : PyData → Prop
  | int (i : Int) : Pl (.int i)
  | str (x : Str) : Pl (.str x)
  | tup (ds : List PyData) (h : ∀ d, d ∈ ds → Pl d) (l : ds.length ≤ 1000) : Pl (.tuple ds)
mutual
theorem data_pl {F : List Str} : ∀ (t : P) (sc : List Str), t.ok → t.fit F sc → Pl t.data
  | .num i, _, _, _ => .tup _ (fun d m => by
      rcases List.mem_cons.mp m with rfl | m
      · exact .str _
      · rw [List.mem_singleton.mp m]; exact .int _) (by simp)
  | .nam x, _, _, _ => .tup _ (fun d m => by
      rcases List.mem_cons.mp m with rfl | m
      · exact .str _
      · rw [List.mem_singleton.mp m]; exact .str _) (by simp)
  | .fn x, _, _, _ => .tup _ (fun d m => by
      rcases List.mem_cons.mp m with rfl | m
      · exact .str _
      · rw [List.mem_singleton.mp m]; exact .str _) (by simp)
  | .op k as, sc, h, h2 => .tup _ (fun d m => by
      rcases List.mem_cons.mp m with rfl | m
      · exact .str _
      · exact datas_pl as sc h.2 h2 d m) (by
      have := arity_le h.1
      rw [List.length_cons, datas_len]; omega)
  | .lt nm as b, sc, h, h2 => .tup _ (fun d m => by
      rcases List.mem_cons.mp m with rfl | m
      · exact .str _
      rcases List.mem_cons.mp m with rfl | m
      · refine .tup _ (fun e me => ?_) (by rw [List.length_zipWith]; have := h2.2.1; omega)
        obtain ⟨x, e1, hx, he, rfl⟩ := zip_mem me
        refine .tup _ (fun d m => ?_) (by simp)
        rcases List.mem_cons.mp m with rfl | m
        · exact .str _
        · rw [List.mem_singleton.mp m]
          exact datas_pl as (sc ++ nm) h.2.2.1 h2.2.2.1 e1 he
      · rw [List.mem_singleton.mp m]
        exact data_pl b (sc ++ nm) h.2.2.2 h2.2.2.2) (by simp)
theorem datas_pl {F : List Str} : ∀ (as : List P) (sc : List Str), P.oks as → P.fits F as sc → ∀ d, d ∈ P.datas as → Pl d
  | [], _, _, _, d, m => nomatch m
  | a :: as, sc, h, h2, d, m => by
    rcases List.mem_cons.mp (show d ∈ a.data :: P.datas as from m) with e | m
    · rw [e]
      exact data_pl a sc h.1 h2.1
    · exact datas_pl as sc h.2 h2.2 d m
end
theorem prog_pl {fs : List Fn} {d : P} (h : Fits fs d) : Pl (progD fs d) := by
  have hg : ∀ g, g ∈ fnsOf fs d → Pl g.2.2.data := fun g m => data_pl _ _ (h.bd g m).ok (h.ft g m)
  refine .tup _ (fun e m => ?_) (by simp)
  rcases List.mem_cons.mp m with rfl | m
  · refine .tup _ (fun e m => ?_) (by rw [List.length_map]; have := h.len; omega)
    obtain ⟨g, hgm, rfl⟩ := List.mem_map.mp m
    refine .tup _ (fun e m => ?_) (by simp)
    rcases List.mem_cons.mp m with rfl | m
    · exact .str _
    rcases List.mem_cons.mp m with rfl | m
    · refine .tup _ (fun e m => ?_) (by rw [List.length_map]; have := h.few g (List.mem_append_left _ hgm); omega)
      obtain ⟨x, _, rfl⟩ := List.mem_map.mp m
      exact .str _
    · rw [List.mem_singleton.mp m]
      exact hg g (List.mem_append_left _ hgm)
  · rw [List.mem_singleton.mp m]
    exact hg (askedFn d) (List.mem_append_right _ List.mem_cons_self)
theorem pl_fz {d : PyData} (h : Pl d) : fz d = true := by
  induction h with
  | int i => rfl
  | str x => rfl
  | tup ds _ _ ih => exact fzAll_iff.mpr ih
end Lz

set_option Elab.async false
set_option linter.all false
set_option maxRecDepth 100000
set_option maxHeartbeats 4000000
/-! The program at all bounds: plain Lean. -/
namespace Lz
open PySem
theorem kind_right : (("right" : Str), 1) ∈ kinds := by decide +kernel
theorem kind_left : (("left" : Str), 1) ∈ kinds := by decide +kernel
def deepP : Nat → P → P
  | 0, t => t
  | m + 1, t => .op "right" [deepP m t]
theorem deepP_facts {F sc : List Str} {t : P} (h1 : t.ok) (h2 : t.fit F sc) (h3 : t.rown = []) : ∀ m, (deepP m t).ok ∧ (deepP m t).fit F sc ∧ (deepP m t).rown = [] ∧ (deepP m t).many = m + t.many ∧ (deepP m t).deep = m + t.deep
  | 0 => ⟨h1, h2, h3, (Nat.zero_add _).symm, (Nat.zero_add _).symm⟩
  | m + 1 => by
    obtain ⟨a, b, c, d, e⟩ := deepP_facts h1 h2 h3 m
    refine ⟨⟨kind_right, a, True.intro⟩, ⟨b, True.intro⟩, ?_, ?_, ?_⟩
    · show (deepP m t).rown ++ [] = []
      rw [c]
      rfl
    · show 1 + ((deepP m t).many + 0) = _
      omega
    · show 1 + max (deepP m t).deep 0 = _
      omega
def stepP : List P → List P
  | a :: b :: r => r ++ [.op "pair" [a, b]]
  | l => l
def iterP : Nat → List P → List P
  | 0, l => l
  | i + 1, l => stepP (iterP i l)
def stepN : List Nat → List Nat
  | a :: b :: r => r ++ [1 + max a (max b 0)]
  | l => l
def iterN : Nat → List Nat → List Nat
  | 0, l => l
  | i + 1, l => stepN (iterN i l)
theorem step_deep : ∀ l : List P, (stepP l).map P.deep = stepN (l.map P.deep)
  | [] => rfl
  | [_] => rfl
  | a :: b :: r => by
    show (r ++ [P.op "pair" [a, b]]).map P.deep = r.map P.deep ++ [1 + max a.deep (max b.deep 0)]
    rw [List.map_append]
    rfl
theorem iter_deep (l : List P) : ∀ i, (iterP i l).map P.deep = iterN i (l.map P.deep)
  | 0 => rfl
  | i + 1 => by
    show (stepP (iterP i l)).map P.deep = stepN (iterN i (l.map P.deep))
    rw [step_deep, iter_deep l i]
theorem step_len : ∀ l : List P, 2 ≤ l.length → (stepP l).length + 1 = l.length
  | a :: b :: r, _ => by
    show (r ++ [P.op "pair" [a, b]]).length + 1 = r.length + 1 + 1
    rw [List.length_append]
    rfl
theorem step_many : ∀ l : List P, 2 ≤ l.length → P.manys (stepP l) = P.manys l + 1
  | a :: b :: r, _ => by
    show P.manys (r ++ [P.op "pair" [a, b]]) = a.many + (b.many + P.manys r) + 1
    rw [manys_append]
    show P.manys r + ((1 + (a.many + (b.many + 0))) + 0) = _
    omega
theorem step_all {p : P → Prop} (hp : ∀ a b, p a → p b → p (.op "pair" [a, b])) : ∀ l : List P, (∀ a, a ∈ l → p a) → ∀ a, a ∈ stepP l → p a
  | [], h, a, m => h a m
  | [_], h, a, m => h a m
  | x :: y :: r, h, a, m => by
    rcases List.mem_append.mp (show a ∈ r ++ [P.op "pair" [x, y]] from m) with m | m
    · exact h a (List.mem_cons_of_mem _ (List.mem_cons_of_mem _ m))
    · rw [List.mem_singleton.mp m]
      exact hp x y (h x List.mem_cons_self) (h y (List.mem_cons_of_mem _ List.mem_cons_self))
theorem iter_all {p : P → Prop} (hp : ∀ a b, p a → p b → p (.op "pair" [a, b])) {l : List P} (h : ∀ a, a ∈ l → p a) : ∀ i, ∀ a, a ∈ iterP i l → p a
  | 0 => h
  | i + 1 => step_all hp _ (iter_all hp h i)
theorem iter_len {l : List P} : ∀ i, i < l.length → (iterP i l).length + i = l.length
  | 0, _ => rfl
  | i + 1, h => by
    have ih := iter_len (l := l) i (by omega)
    have := step_len (iterP i l) (by omega)
    show (stepP (iterP i l)).length + (i + 1) = _
    omega
theorem iter_many {l : List P} : ∀ i, i < l.length → P.manys (iterP i l) = P.manys l + i
  | 0, _ => rfl
  | i + 1, h => by
    have ih := iter_many (l := l) i (by omega)
    have := step_many (iterP i l) (by have := iter_len (l := l) i (by omega); omega)
    show P.manys (stepP (iterP i l)) = _
    omega
def partsP (k i : Nat) (t : P) : List P := iterP i (List.replicate (k + 1) t)
def wideP (k : Nat) (t : P) : P := (partsP k k t).headD t
theorem parts_len (k i : Nat) (t : P) (h : i ≤ k) : (partsP k i t).length = k + 1 - i := by
  have := iter_len (l := List.replicate (k + 1) t) i (by rw [List.length_replicate]; omega)
  rw [List.length_replicate] at this
  show (iterP i (List.replicate (k + 1) t)).length = _
  omega
theorem parts_end (k : Nat) (t : P) : partsP k k t = [wideP k t] := by
  have h := parts_len k k t (Nat.le_refl _)
  unfold wideP
  match e : partsP k k t, h with
  | [], h => simp at h
  | [x], _ => rfl
  | x :: y :: r, h => simp only [List.length_cons] at h; omega
theorem parts_step (k i : Nat) (t : P) (h : i < k) : ∃ a b r, partsP k i t = a :: b :: r ∧ partsP k (i + 1) t = r ++ [.op "pair" [a, b]] := by
  have hl := parts_len k i t (by omega)
  match e : partsP k i t, hl with
  | [], hl => simp only [List.length_nil] at hl; omega
  | [x], hl => simp only [List.length_cons, List.length_nil] at hl; omega
  | a :: b :: r, _ =>
    refine ⟨a, b, r, rfl, ?_⟩
    show stepP (partsP k i t) = _
    rw [e]
    rfl
theorem manys_rep (t : P) : ∀ n, P.manys (List.replicate n t) = n * t.many
  | 0 => (Nat.zero_mul _).symm
  | n + 1 => by
    show t.many + P.manys (List.replicate n t) = _
    rw [manys_rep t n, Nat.succ_mul, Nat.add_comm]
theorem wideP_facts {F sc : List Str} {t : P} (h1 : t.ok) (h2 : t.fit F sc) (h3 : t.rown = []) (k : Nat) : (wideP k t).ok ∧ (wideP k t).fit F sc ∧ (wideP k t).rown = [] ∧ (wideP k t).many = (k + 1) * t.many + k := by
  have hm : wideP k t ∈ iterP k (List.replicate (k + 1) t) := by
    have := parts_end k t
    unfold partsP at this
    rw [this]
    exact List.mem_cons_self
  have h := iter_all (p := fun u => u.ok ∧ u.fit F sc ∧ u.rown = []) (fun a b ha hb => ⟨⟨kind_pair, ha.1, hb.1, True.intro⟩, ⟨ha.2.1, hb.2.1, True.intro⟩, by show a.rown ++ (b.rown ++ []) = []; rw [ha.2.2, hb.2.2]; rfl⟩) (l := List.replicate (k + 1) t) (fun a m => by rw [List.eq_of_mem_replicate m]; exact ⟨h1, h2, h3⟩) k _ hm
  refine ⟨h.1, h.2.1, h.2.2, ?_⟩
  have e := iter_many (l := List.replicate (k + 1) t) k (by rw [List.length_replicate]; omega)
  have e2 := parts_end k t
  unfold partsP at e2
  rw [e2, manys_rep] at e
  have e3 : P.manys [wideP k t] = (wideP k t).many + 0 := rfl
  omega
theorem wide_deep {t : P} {k n : Nat} (ht : t.deep = 1) (h : iterN k (List.replicate (k + 1) 1) = [n]) : (wideP k t).deep = n := by
  have e := iter_deep (List.replicate (k + 1) t) k
  rw [List.map_replicate, ht, h] at e
  have e2 := parts_end k t
  unfold partsP at e2
  rw [e2] at e
  exact List.head_eq_of_cons_eq e
/-- a body of the program at all bounds -/
structure Good (ns ts : List Str) (b : P) : Prop where
  bd : BodyOk b
  ft : b.fit ns (ts.take 4)
  hid : (ts.take 4 ++ b.rown).Nodup
theorem good_plain {ns ts : List Str} {b : P} (nd : ts.Nodup) (h1 : b.ok) (h2 : b.fit ns (ts.take 4)) (h3 : b.rown = []) (h4 : b.many ≤ 60) (h5 : b.deep ≤ 12) : Good ns ts b :=
  ⟨⟨h1, h4, h5⟩, h2, by rw [h3, List.append_nil]; exact nd.sublist (List.take_sublist _ _)⟩
theorem nams_rown : ∀ nm : List Str, P.rowns (nm.map .nam) = []
  | [] => rfl
  | x :: r => nams_rown r
theorem nams_many : ∀ nm : List Str, P.manys (nm.map .nam) = nm.length
  | [] => rfl
  | x :: r => by
    show 1 + P.manys (r.map .nam) = r.length + 1
    rw [nams_many r]
    omega
theorem nams_deep (nm : List Str) : P.deeps (nm.map .nam) ≤ 1 := deeps_le fun a m => by
  obtain ⟨x, _, rfl⟩ := List.mem_map.mp m
  exact Nat.le_refl _
section
variable {ns ts : List Str} (hn : ns.length = 8) (ht : ts.length = 8) (nd : ts.Nodup) (on : ∀ x, x ∈ ns → nmOk x) (ot : ∀ x, x ∈ ts → nmOk x)
include hn ht nd on ot
theorem good_let {x : Str} (h7 : ts[7]? = some x) : Good ns ts (.lt (ts.drop 4) ((ts.drop 4).map .nam) (.nam x)) := by
  have hx : x ∈ ts.drop 4 := List.mem_of_getElem? (i := 3) (by rw [List.getElem?_drop]; exact h7)
  have hl : (ts.drop 4).length = 4 := by rw [List.length_drop]; omega
  have m := nams_many (ts.drop 4)
  have dp := nams_deep (ts.drop 4)
  refine ⟨⟨⟨by rw [List.length_map], fun y hy => ot y (List.mem_of_mem_drop hy), oks_iff.mpr fun a m => ?_, ot x (List.mem_of_mem_drop hx)⟩, ?_, ?_⟩, ⟨by omega, by omega, fits_iff.mpr fun a m => ?_, List.mem_append_right _ hx⟩, ?_⟩
  · obtain ⟨y, hy, rfl⟩ := List.mem_map.mp m
    exact ot y (List.mem_of_mem_drop hy)
  · show 1 + (P.manys ((ts.drop 4).map .nam) + 1) ≤ 60
    omega
  · show 1 + max (P.deeps ((ts.drop 4).map .nam)) 1 ≤ 12
    omega
  · obtain ⟨y, hy, rfl⟩ := List.mem_map.mp m
    exact List.mem_append_right _ hy
  · show (ts.take 4 ++ (ts.drop 4 ++ (P.rowns ((ts.drop 4).map .nam) ++ []))).Nodup
    rw [nams_rown, List.append_nil, List.append_nil, List.take_append_drop]
    exact nd
theorem good_deep {x : Str} (h7 : ns[7]? = some x) : Good ns ts (deepP 11 (.fn x)) := by
  have hx := List.mem_of_getElem? h7
  obtain ⟨a, b, c, d, e⟩ := deepP_facts (F := ns) (sc := ts.take 4) (t := .fn x) (on x hx) hx rfl 11
  have f1 : (P.fn x).many = 1 := rfl
  have f2 : (P.fn x).deep = 1 := rfl
  exact good_plain nd a b c (by omega) (by omega)
theorem good_wide {x : Str} {i : Int} (h3 : ts[3]? = some x) (hi : i.natAbs < 10 ^ 60) : Good ns ts (.op "plus" [wideP 28 (.nam x), .op "left" [.num i]]) := by
  have hx : x ∈ ts.take 4 := List.mem_of_getElem? (i := 3) (by rw [List.getElem?_take_of_lt (by decide)]; exact h3)
  obtain ⟨a, b, c, d⟩ := wideP_facts (F := ns) (sc := ts.take 4) (t := .nam x) (ot x (List.mem_of_mem_take hx)) hx rfl 28
  have f1 : (P.nam x).many = 1 := rfl
  have f2 := wide_deep (t := .nam x) (k := 28) (n := 6) rfl (by decide +kernel)
  have f3 : (P.op "left" [.num i]).many = 2 := rfl
  refine good_plain nd ⟨kind_plus, a, ⟨kind_left, True.intro, True.intro⟩, True.intro⟩ ⟨b, ⟨hi, True.intro⟩, True.intro⟩ ?_ ?_ ?_
  · show (wideP 28 (.nam x)).rown ++ [] = []
    rw [c]
    rfl
  · show 1 + ((wideP 28 (.nam x)).many + (2 + 0)) ≤ 60
    omega
  · show 1 + max (wideP 28 (.nam x)).deep 2 ≤ 12
    omega
theorem good_left {i : Int} (hi : i.natAbs < 10 ^ 60) : Good ns ts (.op "left" [wideP 29 (.num i)]) := by
  obtain ⟨a, b, c, d⟩ := wideP_facts (F := ns) (sc := ts.take 4) (t := .num i) True.intro hi rfl 29
  have f1 : (P.num i).many = 1 := rfl
  have f2 := wide_deep (t := .num i) (k := 29) (n := 6) rfl (by decide +kernel)
  refine good_plain nd ⟨kind_left, a, True.intro⟩ ⟨b, True.intro⟩ ?_ ?_ ?_
  · show (wideP 29 (.num i)).rown ++ [] = []
    rw [c]
    rfl
  · show 1 + ((wideP 29 (.num i)).many + 0) ≤ 60
    omega
  · show 1 + max (wideP 29 (.num i)).deep 0 ≤ 12
    omega
theorem great_fits {fs : List Fn} {i : Int} (nn : ns.Nodup) (e : fs.map (·.1) = ns) (h : ∀ g, g ∈ fs → g.2.1 = ts.take 4 ∧ Good ns ts g.2.2) (hi : i.natAbs < 10 ^ 60) : Fits fs (deepP 11 (.num i)) := by
  have hl : fs.length = 8 := by rw [← hn, ← e, List.length_map]
  obtain ⟨a, b, c, d, f⟩ := deepP_facts (F := ns) (sc := []) (t := .num i) True.intro hi rfl 11
  have f1 : (P.num i).many = 1 := rfl
  have f2 : (P.num i).deep = 1 := rfl
  have key : ∀ g, g ∈ fnsOf fs (deepP 11 (.num i)) → g.2.1.length ≤ 4 ∧ BodyOk g.2.2 ∧ g.2.2.fit ns g.2.1 ∧ (g.2.1 ++ g.2.2.rown).Nodup := fun g m => by
    rcases List.mem_append.mp m with m | m
    · obtain ⟨q1, q2⟩ := h g m
      rw [q1]
      exact ⟨by rw [List.length_take]; omega, q2.bd, q2.ft, q2.hid⟩
    · rw [List.mem_singleton.mp m]
      refine ⟨Nat.zero_le _, ⟨a, by show (deepP 11 (.num i)).many ≤ 60; omega, by show (deepP 11 (.num i)).deep ≤ 12; omega⟩, b, ?_⟩
      show ([] ++ (deepP 11 (.num i)).rown).Nodup
      rw [c]
      exact List.nodup_nil
  refine ⟨by omega, fun g m => ⟨?_, fun x hx => ?_⟩, by rw [e]; exact nn, fun g m => (key g m).1, fun g m => (key g m).2.1, fun g m => by rw [e]; exact (key g m).2.2.1, fun g m => (key g m).2.2.2⟩
  · refine on _ ?_
    rw [← e]
    exact List.mem_map.mpr ⟨g, m, rfl⟩
  · rw [(h g m).1] at hx
    exact ot x (List.mem_of_mem_take hx)
end
end Lz

set_option Elab.async false
set_option linter.all false
set_option maxRecDepth 100000
set_option maxHeartbeats 8000000
namespace Lz
open PySem PySem.Spec PyProof.Rows L2
def spLaw (K : PySem.W.Frag) : Sp := fun vs H Q _ => ∃ (s : Addr) (ns : List Int), vs = [.ref s] ∧ SqL K H s (ns.map V.int) ∧ ns.length ≤ 63 ∧ ∀ H', Q (.bl true) H'
def spPlain (K : PySem.W.Frag) (n : Nat) : Sp := fun vs H Q _ => ∃ (v v' : V) (d : PyData), vs = [v, v'] ∧ Dp K H v d ∧ Dp K H v' d ∧ Pl d ∧ d.depth + 1 ≤ n ∧ ∀ H', Kp [] H H' → Q (.bl true) H'
def pgD (p : List Fn × Lz.P) : PyData := progD p.1 p.2
theorem pg_fz (ps : List (List Fn × Lz.P)) : fzAll (ps.map pgD) = true := fzAll_iff.mpr fun d m => by
  obtain ⟨g, _, rfl⟩ := List.mem_map.mp m
  exact prog_fz _ _
theorem prog_lay {fs : List Fn} {d : Lz.P} (h : Fits fs d) : (progD fs d).canLay0 = true := by
  have hb : ∀ g, g ∈ fnsOf fs d → g.2.2.data.canLay0 = true := fun g m => data_lay _ (h.bd g m).ok
  have h1 : PyData.canLayAll0 (fs.map fD) = true := layAll_iff.mpr fun e m => by
    obtain ⟨g, hg, rfl⟩ := List.mem_map.mp m
    have h2 : PyData.canLayAll0 (g.2.1.map PyData.str) = true := layAll_iff.mpr fun e m => by
      obtain ⟨x, hx, rfl⟩ := List.mem_map.mp m
      rw [lay_str]
      exact ((h.nm g hg).2 x hx).strOk
    show (PyData.tuple [.str g.1, .tuple (g.2.1.map .str), g.2.2.data]).canLay0 = true
    rw [lay_tup, lay_cons, lay_cons, lay_cons, lay_nil, lay_str, lay_tup, h2, (h.nm g hg).1.strOk, hb g (List.mem_append_left _ hg)]
    rfl
  show (PyData.tuple [.tuple (fs.map fD), d.data]).canLay0 = true
  rw [lay_tup, lay_cons, lay_cons, lay_nil, lay_tup, h1, show d.data.canLay0 = true from hb (askedFn d) (List.mem_append_right _ List.mem_cons_self)]
  rfl
theorem prog_depth {fs : List Fn} {d : Lz.P} (h : Fits fs d) : (progD fs d).depth ≤ 40 := by
  have hb : ∀ g, g ∈ fnsOf fs d → g.2.2.data.depth ≤ 36 := fun g m => by
    have h1 := data_depth g.2.2
    have h2 := (h.bd g m).deep
    omega
  have h1 : PyData.depthAll (fs.map fD) ≤ 37 := depthAll_le fun e m => by
    obtain ⟨g, hg, rfl⟩ := List.mem_map.mp m
    have h2 : PyData.depthAll (g.2.1.map PyData.str) ≤ 0 := depthAll_le fun e m => by
      obtain ⟨x, hx, rfl⟩ := List.mem_map.mp m
      rw [depth_str]
      exact Nat.le_refl _
    have h3 := hb g (List.mem_append_left _ hg)
    show (PyData.tuple [.str g.1, .tuple (g.2.1.map .str), g.2.2.data]).depth ≤ 37
    rw [depth_tup, depthAll_cons, depthAll_cons, depthAll_cons, depth_str, depth_tup]
    simp only [PyData.depthAll]
    omega
  have h3 := hb (askedFn d) (List.mem_append_right _ List.mem_cons_self)
  have h3' : d.data.depth ≤ 36 := h3
  show (PyData.tuple [.tuple (fs.map fD), d.data]).depth ≤ 40
  rw [depth_tup, depthAll_cons, depthAll_cons, depth_tup]
  simp only [PyData.depthAll]
  omega
theorem prog_shaped {fs : List Fn} {d : Lz.P} (h : Fits fs d) : SeqAt.shaped (progD fs d) = true := by
  have := prog_depth h
  unfold SeqAt.shaped
  rw [prog_lay h, Bool.true_and]
  exact decide_eq_true (by omega)
theorem prog_same {fs : List Fn} {d : Lz.P} (h : Fits fs d) : PyData.eqv (progD fs d) (progD fs d) = true := by
  have e := prog_lay h
  show PyData.eqv (.tuple [.tuple (fs.map fD), d.data]) (.tuple [.tuple (fs.map fD), d.data]) = true
  rw [PyData.eqv]
  refine SeqAt.eqvAll_refl _ ?_
  rw [← lay_tup]
  exact e
theorem least_fits : Fits [] (.num 0) := by
  have key : ∀ g, g ∈ fnsOf [] (.num 0) → g = askedFn (.num 0) := fun g m => List.mem_singleton.mp m
  refine ⟨Nat.zero_le _, (fun g m => nomatch m), List.nodup_nil, fun g m => ?_, fun g m => ?_, fun g m => ?_, fun g m => ?_⟩
  · rw [key g m]; exact Nat.zero_le _
  · rw [key g m]; exact ⟨True.intro, by decide, by decide⟩
  · rw [key g m]; show (0 : Int).natAbs < 10 ^ 60; decide +kernel
  · rw [key g m]; exact List.nodup_nil
section
variable {P : Program} {w : World} {K : PySem.W.Frag} {mg : Str → Option Value} {base : Heap} {f : Addr} {fd : FuncData}
abbrev sLPlain : Stmt := topS 70
theorem scLPlain : FnScope ["_law_found", "_law_due", "_law_one", "_law_other"] ["_law_found", "_law_due"] (defScope sLPlain) := ⟨rfl, rfl, rfl, by decide +kernel, rfl, by decide +kernel, by decide +kernel⟩
theorem ok_plain {n j : Nat} (F : Fun K "_law_plain" "_law_plain" sLPlain f fd) (B : Bu mg) (mzip : mg "zip" = none) (CLPlain : C8.Cal P w K mg base j "_law_plain" (spPlain K n) []) : FnOk P w K mg base CX0 (j + 1) f fd ["_law_found", "_law_due"] (spPlain K (n + 1)) := by
  have mis := B.isinstance
  have mtup := B.tuple
  have mbool := B.bool
  have mall := B.all
  have ml := B.len
  refine F.ok scLPlain (fun vs H Q E h => ?_) (fun cdv A outer s H vs Q E hr h => ?_)
  · obtain ⟨v, v', d, rfl, _⟩ := h
    rfl
  obtain ⟨v, v', d, rfl, h1, h2, hp, hd, q⟩ := h
  refine ⟨_, (pss_cons (ps_if (pt_truthK (K := K) rfl (pe_callB (call_isK (K := K) rfl) (by rfl) mis (by decide +kernel) (pa_cons (pv 1) (pa_cons (pe_bltn (v := .ty "tuple") (by rfl) mtup (by decide +kernel) rfl) pa_nil))) (fun _ => rfl)) (pss_one (ps_ret (pe_and (pe_callB (call_isK (K := K) rfl) (by rfl) mis (by decide +kernel) (pa_cons (pv 0) (pa_cons (pe_bltn (v := .ty "tuple") (by rfl) mtup (by decide +kernel) rfl) pa_nil))) (pe_and (pe_cmpR op_eq (pe_callB (call_lenK (K := K) rfl) (by rfl) ml PySem.boot_len (pa_cons (pv 0) pa_nil)) (pe_callB (call_lenK (K := K) rfl) (by rfl) ml PySem.boot_len (pa_cons (pv 1) pa_nil)) (nomark _)) (pe_one (pe_callB (call_allK (K := K) rfl rfl) (by rfl) mall (by decide +kernel) (pa_cons (pe_lc (own := [("_law_one", 2), ("_law_other", 3)]) rfl scLPlain.nd (StZ.pi_zipTK (K := K) rfl (by rfl) mzip (pa_cons (pv 0) (pa_cons (pv 1) pa_nil))) (blkOk_by (N := ["_law_found", "_law_due", "_law_one", "_law_other"]) (sc := defScope sLPlain) (by decide +kernel)) (fun _ _ _ _ _ => (pg_tupK (K := K) (n := 2) rfl rfl (pgs_cons (pg_name (i := 2) scLPlain.nd rfl (.inl rfl)) (pgs_cons (pg_name (i := 3) scLPlain.nd rfl (.inl rfl)) pgs_nil)))) (fun _ _ _ _ _ => pts_nil) (fun _ _ _ _ _ => (C8.pe_c CLPlain hr (by first | decide | omega) (by rfl) (pa_cons (pv 2) (pa_cons (pv 3) pa_nil))))) pa_nil))))))) pss_nil)
    (pss_one (ps_ret (pe_and (pe_not (pe_callB (call_isK (K := K) rfl) (by rfl) mis (by decide +kernel) (pa_cons (pv 0) (pa_cons (pe_bltn (v := .ty "bool") (by rfl) mbool (by decide +kernel) rfl) pa_nil)))) (pe_one (pe_cmpR op_eq (pv 0) (pv 1) (nomark _))))))), ?_⟩
  cases hp with
  | int i =>
    cases h1
    cases h2
    refine ⟨_, rfl, .int i, .ty "tuple", .type "int", .type "tuple", false, rfl, .ty _, .base (.int i), kit_ty (by decide +kernel), false, rfl, ?_⟩
    refine iteF ?_
    refine ⟨_, rfl, .int i, .ty "bool", .type "int", .type "bool", false, rfl, .ty _, .base (.int i), kit_ty (by decide +kernel), false, rfl, ?_⟩
    refine ⟨true, rfl, ?_⟩
    rw [if_pos rfl]
    refine ⟨_, rfl, _, rfl, rfl, ?_⟩
    rw [decide_eq_true (rfl : V.int i = V.int i)]
    exact q H (Kp.refl _ _)
  | str x =>
    cases h1
    cases h2
    refine ⟨_, rfl, .str x, .ty "tuple", .type "str", .type "tuple", false, rfl, .ty _, .base (.str x), kit_ty (by decide +kernel), false, rfl, ?_⟩
    refine iteF ?_
    refine ⟨_, rfl, .str x, .ty "bool", .type "str", .type "bool", false, rfl, .ty _, .base (.str x), kit_ty (by decide +kernel), false, rfl, ?_⟩
    refine ⟨true, rfl, ?_⟩
    rw [if_pos rfl]
    refine ⟨_, rfl, _, rfl, rfl, ?_⟩
    rw [decide_eq_true (rfl : V.str x = V.str x)]
    exact q H (Kp.refl _ _)
  | tup ds hds hl =>
    obtain ⟨a1, xs1, rfl, ht1, hx1⟩ := Dp.tup_of h1
    obtain ⟨a2, xs2, rfl, ht2, hx2⟩ := Dp.tup_of h2
    have e1 := hx1.length
    have e2 := hx2.length
    have hdep := depth_tup ds
    have hfz : fzAll ds = true := fzAll_iff.mpr fun d m => pl_fz (hds d m)
    refine ⟨_, rfl, .ref a2, .ty "tuple", .type "tuple", .type "tuple", true, rfl, .ty _, tyT ht2, kit_ty (by decide +kernel), true, rfl, ?_⟩
    refine iteT ?_
    refine ⟨_, rfl, .ref a1, .ty "tuple", .type "tuple", .type "tuple", true, rfl, .ty _, tyT ht1, kit_ty (by decide +kernel), true, rfl, ?_⟩
    rw [if_pos rfl]
    refine ⟨_, rfl, a1, xs1, rfl, .inr ht1, _, rfl, a2, xs2, rfl, .inr ht2, rfl, true, congrArg V.bl (decide_eq_true (congrArg (fun n : Nat => V.int n) (e1.trans e2.symm))), ?_⟩
    rw [if_pos rfl]
    refine ⟨_, rfl, _, rfl, a1, a2, xs1, xs2, rfl, .inr ⟨ht1, ht2, fun D hD => ?_⟩⟩
    refine lc_it (StZ.walk_two (n := ds.length) (by omega)) (fun i H' => Kp [] H H' ∧ H' D = some (.lst ((List.replicate i true).map V.bl)))
      ⟨Kp.new hD, upd_same⟩ (fun i H' _ ⟨k, _⟩ => ⟨k.sqT ht1, k.sqT ht2⟩) ?_ ?_
    · rintro i y H1 H2 hi ⟨k1, hD1⟩ ⟨T, x1, x2, rfl, hT, rfl, f1, f2⟩
      obtain ⟨d1, hg1, hd1⟩ := (Dp.keepAll k1 _ _ hfz hx1).at (show xs1[i]? = some x1 from f1)
      obtain ⟨d2, hg2, hd2⟩ := (Dp.keepAll k1 _ _ hfz hx2).at (show xs2[i]? = some x2 from f2)
      obtain rfl := Option.some.inj (hg1.symm.trans hg2)
      have hm := List.mem_of_getElem? hg1
      have hpl := hds d1 hm
      have hdd := depth_mem hm
      have kT : Kp [] H1 (upd H1 T (.tup [x1, x2])) := Kp.new hT
      have hT2 : (upd H1 T (.tup [x1, x2])) T = some (.tup [x1, x2]) := upd_same
      have hD2 := kT.lst hD1 (fun m => nomatch m)
      have g1 := Dp.keep kT _ _ (pl_fz hpl) hd1
      have g2 := Dp.keep kT _ _ (pl_fz hpl) hd2
      have k2 := k1.trans kT
      generalize upd H1 T (.tup [x1, x2]) = H2 at hT2 hD2 g1 g2 k2 ⊢
      refine ⟨T, _, rfl, SqT.of hT2, rfl, _, _, rfl, _, _, rfl, rfl, rfl, ?_⟩
      refine ⟨_, rfl, _, rfl, x1, x2, d1, rfl, g1, g2, hpl, by omega, fun H3 k3 => ?_⟩
      have hD3 := k3.lst hD2 (fun m => nomatch m)
      refine ⟨_, hD3, ?_, (k2.trans k3).mut hD, ?_⟩
      · rw [List.length_map, List.length_replicate]
        exact small1000 (by omega)
      · rw [upd_same, List.replicate_succ', List.map_append]
        rfl
    · rintro H1 ⟨k1, hD1⟩
      refine ⟨D, _, rfl, SqL.of hD1, ?_⟩
      rw [all_true]
      exact q H1 k1
end
end Lz

set_option Elab.async false
set_option linter.all false
set_option maxRecDepth 100000
set_option maxHeartbeats 8000000
namespace Lz
open PySem PySem.Spec PyProof.Rows L2
theorem least_text : (V.str "? 0") = V.str (progT [] (.num 0)) := by
  have : ("? 0" : Str) = progT [] (.num 0) := by decide +kernel
  rw [← this]
section
variable {P : Program} {w : World} {K : PySem.W.Frag} {mg : Str → Option Value} {base : Heap} {f : Addr} {fd : FuncData}
abbrev sLaw : Stmt := topS 71
theorem scLaw : FnScope ["_law_script", "_law_pen_here", "_law_programs", "_law_program_here", "_law_due", "_law_found", "_law_k"] ["_law_script"] (defScope sLaw) := ⟨rfl, rfl, rfl, by decide +kernel, rfl, by decide +kernel, by decide +kernel⟩
theorem ok_law {j : Nat} (hj : 42 ≤ j) (F : Fun K "law" "law" sLaw f fd) (B : Bu mg) (CLPen : C8.Cal P w K mg base 1 "_law_pen" (spPen K) []) (CLProgram : C8.Cal P w K mg base 31 "_law_program" (spProgram K) [])
    (CRead : C8.Cal P w K mg base 31 "read" (spRead K) []) (CLPlain : C8.Cal P w K mg base 42 "_law_plain" (spPlain K 41) []) (CWritten : C8.Cal P w K mg base 15 "written" (spWritten K) []) (CLRows : C8.Cal P w K mg base 14 "_law_rows" (spLRows K) []) (CLText : C8.Cal P w K mg base 1 "_law_text" (spLText K) []) : FnOk P w K mg base CX0 (j + 1) f fd ["_law_script"] (spLaw K) := by
  have ml := B.len
  have mmax := B.max
  have mmin := B.min
  have mrange := B.range
  refine F.ok scLaw (fun vs H Q E h => ?_) (fun cdv A outer s H vs Q E hr h => ?_)
  · obtain ⟨s0, ns, rfl, _⟩ := h
    rfl
  have hu64 := hr.units
  obtain ⟨s0, ns, rfl, hS, hlen, q⟩ := h
  refine ⟨_, (pss_cons (ps_set (i := 1) scLaw.nd rfl (.inr rfl) (C8.pe_c CLPen hr (by first | decide | omega) (by rfl) (pa_cons (pv 0) pa_nil)))
    (pss_cons (ps_setLc (i := 2) (own := [("_law_k", 6)]) rfl scLaw.nd rfl rfl (sw_true rfl rfl rfl (by decide +kernel)) (pi_range1 (by rfl) mrange (pa_cons (pe_callB (call_max2 rfl) (by rfl) mmax (by decide +kernel) (pa_cons pe_int (pa_cons (pe_callB (call_min2 rfl) (by rfl) mmin (by decide +kernel) (pa_cons pe_int (pa_cons (pe_callB (call_lenK (K := K) rfl) (by rfl) ml PySem.boot_len (pa_cons (pv 0) pa_nil)) pa_nil))) pa_nil))) pa_nil)) (blkOk_by (N := ["_law_script", "_law_pen_here", "_law_programs", "_law_program_here", "_law_due", "_law_found", "_law_k"]) (sc := defScope sLaw) (by decide +kernel)) (fun _ _ _ _ _ => (pg_name (i := 6) scLaw.nd rfl (.inl rfl))) (fun _ _ _ _ _ => pts_nil) (fun _ _ _ _ _ => (C8.pe_c CLProgram hr (by first | decide | omega) (by rfl) (pa_cons (pv 1) pa_nil))))
    (pss_cons (ps_for PassesOwn.never rfl (pi_listK (K := K) rfl (pe_op op_cat (pv 2) (pe_slice (sl_listK (K := K) rfl) (pv 2) po_none (po_some pe_int)))) (pg_name (i := 3) scLaw.nd rfl (.inl rfl)) (pss_cons (ps_set (i := 4) scLaw.nd rfl (.inl rfl) (C8.pe_c CLText hr (by first | decide | omega) (by rfl) (pa_cons (C8.pe_c CLRows hr (by first | decide | omega) (by rfl) (pa_cons (pv 3) pa_nil)) pa_nil)))
    (pss_cons (ps_set (i := 5) scLaw.nd rfl (.inl rfl) (C8.pe_c CRead hr (by first | decide | omega) (by rfl) (pa_cons (pv 4) pa_nil)))
    (pss_one (ps_if (PW.pt (pw_or (pt_not (pt_truthK (K := K) rfl (C8.pe_c CLPlain hr (by first | decide | omega) (by rfl) (pa_cons (pv 5) (pa_cons (pv 3) pa_nil))) (fun _ => rfl))) (pw_or (pt_cmpR op_ne (C8.pe_c CWritten hr (by first | decide | omega) (by rfl) (pa_cons (pv 5) pa_nil)) (pv 4) (nomark _)) (pw_or1 (pt_cmpR op_ne (C8.pe_c CWritten hr (by first | decide | omega) (by rfl) (pa_cons (C8.pe_c CRead hr (by first | decide | omega) (by rfl) (pa_cons (pv 4) pa_nil)) pa_nil)) (pv 4) (nomark _)))))) (pss_one (ps_ret pe_bl)) pss_nil)))))
    (pss_one (ps_ret (pe_cmpR (op_eqDK (K := K) rfl hu64) (C8.pe_c CRead hr (by first | decide | omega) (by rfl) (pa_cons pe_str pa_nil)) (pe_tup (pa_cons (pe_tup pa_nil) (pa_cons (pe_tup (pa_cons pe_str (pa_cons pe_int pa_nil))) pa_nil))) (nomark _))))))), ?_⟩
  refine ⟨_, rfl, s0, ns, rfl, hS, hlen, fun p a H1 s1 hp ha pen1 => ?_⟩
  refine ⟨_, rfl, s0, _, rfl, .inl (s1.seq hS), _, _, rfl, _, _, rfl, _, rfl, ?_⟩
  have hml : (ns.map V.int).length ≤ 63 := by rw [List.length_map]; exact hlen
  generalize (ns.map V.int).length = nl at hml ⊢
  refine ⟨by split <;> split <;> omega, by split <;> split <;> omega, fun D hD => ?_⟩
  have hap := pen1.apart hD
  refine lc_range (lo := 0) (fun i H' => Kp [p] H1 H' ∧ PenAt H' p a ∧ ∃ (ps : List (List Fn × Lz.P)) (xs : List V), H' D = some (.lst xs) ∧ DpAll K H' xs (ps.map pgD) ∧ xs.length = i ∧ ∀ z, z ∈ ps → Fits z.1 z.2)
      ⟨Kp.new hD, pen1.new hD, [], [], upd_same, .nil, rfl, fun z m => nomatch m⟩ ?_ ?_
  · rintro i H2 hi ⟨k2, pen2, ps, xs, hD2, hx2, hxl, hps⟩
    have hi64 : i < 64 := by
      revert hi
      split <;> split <;> intro hi <;> omega
    refine ⟨rfl, ?_⟩
    refine ⟨_, rfl, p, a, rfl, pen2, fun v fs d H3 k3 pen3 d3 hpr => ?_⟩
    have hD3 := k3.lst hD2 (fun m => hap.1 (List.mem_singleton.mp m))
    refine ⟨xs, hD3, small1000 (by omega), ?_⟩
    have kk : Kp [D] H3 (upd H3 D (.lst (xs ++ [v]))) := Kp.put hD3 List.mem_cons_self
    refine ⟨(k2.trans k3).mut hD, pen3.mut hap.1 hap.2, ps ++ [(fs, d)], xs ++ [v], upd_same, ?_, by rw [List.length_append, hxl]; rfl, fun z m => ?_⟩
    · rw [List.map_append]
      exact (Dp.keepAll kk _ _ (pg_fz _) (Dp.keepAll k3 _ _ (pg_fz _) hx2)).append (.one (Dp.keep kk _ _ (prog_fz _ _) d3))
    · rcases List.mem_append.mp m with m | m
      · exact hps z m
      · rw [List.mem_singleton.mp m]
        exact hpr.fits
  rintro H6 ⟨_, _, ps, xs, hD6, hd6, hxl, hps⟩
  have hvl : xs.length ≤ 63 := by
    rw [hxl]
    split <;> split <;> omega
  refine ⟨_, rfl, _, rfl, _, rfl, D, _, rfl, SqL.of hD6, fun pc hpc => ?_⟩
  have ecut : cutV xs none (some 1) = xs.take 1 := cutV_to xs 1
  rw [ecut]
  have kc := Kp.new (S := []) (o := .lst (xs.take 1)) hpc
  refine ⟨D, pc, _, _, rfl, rfl, kc.lst hD6 (fun m => nomatch m), upd_same, ?_, fun R hR => ?_⟩
  · rw [List.length_take]
    exact Nat.le_of_lt (small1000 (by omega))
  have kR := kc.trans (Kp.new (S := []) (o := .lst (xs ++ xs.take 1)) hR)
  have hR4 : (upd (upd H6 pc (.lst (xs.take 1))) R (.lst (xs ++ xs.take 1))) R = some (.lst (xs ++ xs.take 1)) := upd_same
  have hd4 : DpAll K (upd (upd H6 pc (.lst (xs.take 1))) R (.lst (xs ++ xs.take 1))) (xs ++ xs.take 1) ((ps ++ ps.take 1).map pgD) := by
    have h1 := hd6.take 1
    rw [← List.map_take] at h1
    rw [List.map_append]
    exact (Dp.keepAll kR _ _ (pg_fz _) hd6).append (Dp.keepAll kR _ _ (pg_fz _) h1)
  have hps4 : ∀ z, z ∈ ps ++ ps.take 1 → Fits z.1 z.2 := fun z m => by
    rcases List.mem_append.mp m with m | m
    · exact hps z m
    · exact hps z (List.mem_of_mem_take m)
  generalize upd (upd H6 pc (.lst (xs.take 1))) R (.lst (xs ++ xs.take 1)) = H7 at hR4 hd4 ⊢
  generalize ps ++ ps.take 1 = qs at hd4 hps4
  generalize xs ++ xs.take 1 = zs at hR4 hd4
  refine ⟨R, rfl, ⟨_, SqL.of hR4⟩, for_list (K := K) (a := R) (xs := zs) (fun i σ H' => Kp [] H7 H' ∧ ∃ v3 v4 v5, σ = [some (.ref s0), some (.ref p), some (.ref D), v3, v4, v5, none])
    ⟨Kp.refl _ _, _, _, _, rfl⟩ (fun i σ H' _ ⟨k, _⟩ => SqL.of (k.lst hR4 (fun m => nomatch m))) ?_ ?_⟩
  · rintro i x σ H8 hi ⟨k8, v3, v4, v5, rfl⟩
    obtain ⟨e, he, hdx⟩ := (Dp.keepAll k8 _ _ (pg_fz _) hd4).at hi
    rw [List.getElem?_map] at he
    obtain ⟨g, hg, rfl⟩ : ∃ g, qs[i]? = some g ∧ e = pgD g := by
      cases e1 : qs[i]? with
      | none => rw [e1] at he; cases he
      | some y => rw [e1] at he; exact ⟨y, rfl, (Option.some.inj he).symm⟩
    have hft := hps4 g (List.mem_of_getElem? hg)
    have hx := hft.prT
    have hdep := prog_depth hft
    have edec : (!decide (V.str (progT g.1 g.2) = V.str (progT g.1 g.2))) = false := by simp
    refine ⟨_, rfl, x, g.1, g.2, rfl, hdx, hx, fun l ys H9 k9 hl9 hr9 => ?_⟩
    refine ⟨l, ys, g.1, g.2, rfl, hl9, hr9, hx, fun H10 k10 => ?_⟩
    refine ⟨_, rfl, g.1, g.2, rfl, hft, fun v H11 k11 d11 => ?_⟩
    have k811 := (k9.trans k10).trans k11
    refine ⟨_, rfl, _, rfl, v, x, _, rfl, d11, Dp.keep k811 _ _ (prog_fz g.1 g.2) hdx, prog_pl hft, by omega, fun H12 k12 => ?_⟩
    refine ⟨true, rfl, ?_⟩
    refine iteF ?_
    have d12 := Dp.keep k12 _ _ (prog_fz g.1 g.2) d11
    refine ⟨_, rfl, v, g.1, g.2, rfl, d12, hx, fun H13 k13 => ?_⟩
    refine ⟨_, rfl, rfl, _, rfl, ?_⟩
    rw [edec]
    refine iteF ?_
    refine ⟨_, rfl, g.1, g.2, rfl, hft, fun v2 H14 k14 d14 => ?_⟩
    refine ⟨v2, g.1, g.2, rfl, d14, hx, fun H15 k15 => ?_⟩
    refine ⟨_, rfl, rfl, _, rfl, ?_⟩
    rw [edec]
    refine iteF ?_
    exact ⟨((k8.trans k811).trans (k12.trans k13)).trans (k14.trans k15), _, _, _, rfl⟩
  · rintro σ H8 ⟨k8, v3, v4, v5, rfl⟩
    refine ⟨[], .num 0, congrArg (fun v => [v]) least_text, least_fits, fun v H10 k10 d10 => ?_⟩
    refine ⟨(Nat.zero_le _), fun e2 he2 => ?_⟩
    have k11 := Kp.new (S := []) (o := .tup []) he2
    refine ⟨(by show 2 ≤ sizeLine; decide), fun t2 ht2 => ?_⟩
    have ke2 := Kp.new (S := []) (o := .tup [.str "number", .int 0]) ht2
    have het2 := ke2.tup (show (upd H10 e2 (.tup [])) e2 = some (.tup []) from upd_same)
    have htt2 : (upd (upd H10 e2 (.tup [])) t2 (.tup [.str "number", .int 0])) t2 = some (.tup [.str "number", .int 0]) := upd_same
    have k12 := k11.trans ke2
    generalize upd (upd H10 e2 (.tup [])) t2 (.tup [.str "number", .int 0]) = H12 at het2 htt2 k12 ⊢
    refine ⟨(by show 2 ≤ sizeLine; decide), fun pr2 hpr2 => ?_⟩
    have kp2 := Kp.new (S := []) (o := .tup [.ref e2, .ref t2]) hpr2
    have hone2 : Dp K (upd H12 pr2 (.tup [.ref e2, .ref t2])) (.ref pr2) (progD [] (.num 0)) := .tup (SqT.of upd_same) (.cons (.tup (SqT.of (kp2.tup het2)) .nil) (.cons (.tup (SqT.of (kp2.tup htt2)) (.cons (.str _) (.cons (.int _) .nil))) .nil))
    refine ⟨_, _, Dp.keep (k12.trans kp2) _ _ (prog_fz _ _) d10, hone2, prog_shaped least_fits, prog_shaped least_fits, ?_⟩
    rw [prog_same least_fits]
    exact q _
end
end Lz

set_option Elab.async false
set_option linter.all false
set_option maxRecDepth 100000
set_option maxHeartbeats 8000000
namespace Lz
open PySem PySem.Spec PyProof.Rows L2
theorem no_part {P : Program} {w : World} {K : PySem.W.Frag} {mg : Str → Option Value} {base : Heap} {f : Addr} {fd : FuncData} {j : Nat} {ps : List Str} : FnOk P w K mg base CX0 j f fd ps (spPart K 0) := by
  have no : ∀ vs H Q E, ¬ spPart K 0 vs H Q E := fun vs H Q E h => by
    obtain ⟨_, _, _, _, _, _, _, _, _, _, _, _, _, _, _, _, h1, h2, _⟩ := h
    omega
  exact ⟨fun vs H Q E h => absurd h (no vs H Q E), fun A outer s H args us vs Q E _ _ _ _ h => absurd h (no vs H Q E)⟩
theorem no_str {P : Program} {w : World} {K : PySem.W.Frag} {mg : Str → Option Value} {base : Heap} {f : Addr} {fd : FuncData} {j : Nat} {ps : List Str} : FnOk P w K mg base CX0 j f fd ps (spStr K 0) := by
  have no : ∀ vs H Q E, ¬ spStr K 0 vs H Q E := fun vs H Q E h => by
    obtain ⟨_, t, _, _, _, _, _, _, _, _, h1, _⟩ := h
    have := deep_pos t
    omega
  exact ⟨fun vs H Q E h => absurd h (no vs H Q E), fun A outer s H args us vs Q E _ _ _ _ h => absurd h (no vs H Q E)⟩
theorem pn_mk {K : PySem.W.Frag} {pd : Addr} {t1 t2 t3 t4 t5 t6 t7 t8 t9 : Tok} (h1 : PySem.W.nsIn K pd "give" = some (some (.int 2 t1))) (h2 : PySem.W.nsIn K pd "plus" = some (some (.int 2 t2))) (h3 : PySem.W.nsIn K pd "less" = some (some (.int 2 t3))) (h4 : PySem.W.nsIn K pd "times" = some (some (.int 2 t4))) (h5 : PySem.W.nsIn K pd "below" = some (some (.int 2 t5))) (h6 : PySem.W.nsIn K pd "when" = some (some (.int 3 t6))) (h7 : PySem.W.nsIn K pd "pair" = some (some (.int 2 t7))) (h8 : PySem.W.nsIn K pd "left" = some (some (.int 1 t8))) (h9 : PySem.W.nsIn K pd "right" = some (some (.int 1 t9))) : PN K pd := by
  refine ⟨fun k n h => ?_⟩
  unfold kinds at h
  simp only [List.mem_cons, Prod.mk.injEq, List.not_mem_nil, or_false] at h
  rcases h with ⟨rfl, rfl⟩ | ⟨rfl, rfl⟩ | ⟨rfl, rfl⟩ | ⟨rfl, rfl⟩ | ⟨rfl, rfl⟩ | ⟨rfl, rfl⟩ | ⟨rfl, rfl⟩ | ⟨rfl, rfl⟩ | ⟨rfl, rfl⟩
  · exact ⟨_, h1⟩
  · exact ⟨_, h2⟩
  · exact ⟨_, h3⟩
  · exact ⟨_, h4⟩
  · exact ⟨_, h5⟩
  · exact ⟨_, h6⟩
  · exact ⟨_, h7⟩
  · exact ⟨_, h8⟩
  · exact ⟨_, h9⟩
/-- PARTS_OF as the top leaves it -/
theorem po_mk {K : PySem.W.Frag} {pd : Addr} {u1 u2 u3 u4 u5 u6 u7 u8 u9 : Value} (h1 : PySem.W.nsIn K pd "give" = some (some u1)) (h2 : PySem.W.nsIn K pd "plus" = some (some u2)) (h3 : PySem.W.nsIn K pd "less" = some (some u3)) (h4 : PySem.W.nsIn K pd "times" = some (some u4)) (h5 : PySem.W.nsIn K pd "below" = some (some u5))
    (h6 : PySem.W.nsIn K pd "when" = some (some u6)) (h7 : PySem.W.nsIn K pd "pair" = some (some u7)) (h8 : PySem.W.nsIn K pd "left" = some (some u8)) (h9 : PySem.W.nsIn K pd "right" = some (some u9)) (n1 : PySem.W.nsIn K pd "number" = some none) (n2 : PySem.W.nsIn K pd "name" = some none) (n3 : PySem.W.nsIn K pd "fun" = some none) : PO K pd := by
  refine ⟨fun k n h => ?_, n1, n2, n3⟩
  have hk : k = "give" ∨ k = "plus" ∨ k = "less" ∨ k = "times" ∨ k = "below" ∨ k = "when" ∨ k = "pair" ∨ k = "left" ∨ k = "right" := by
    unfold kinds at h
    simp only [List.mem_cons, Prod.mk.injEq, List.not_mem_nil, or_false] at h
    rcases h with h | h | h | h | h | h | h | h | h
    · exact .inl h.1
    · exact .inr (.inl h.1)
    · exact .inr (.inr (.inl h.1))
    · exact .inr (.inr (.inr (.inl h.1)))
    · exact .inr (.inr (.inr (.inr (.inl h.1))))
    · exact .inr (.inr (.inr (.inr (.inr (.inl h.1)))))
    · exact .inr (.inr (.inr (.inr (.inr (.inr (.inl h.1))))))
    · exact .inr (.inr (.inr (.inr (.inr (.inr (.inr (.inl h.1)))))))
    · exact .inr (.inr (.inr (.inr (.inr (.inr (.inr (.inr h.1)))))))
  rcases hk with rfl | rfl | rfl | rfl | rfl | rfl | rfl | rfl | rfl
  · exact ⟨_, h1⟩
  · exact ⟨_, h2⟩
  · exact ⟨_, h3⟩
  · exact ⟨_, h4⟩
  · exact ⟨_, h5⟩
  · exact ⟨_, h6⟩
  · exact ⟨_, h7⟩
  · exact ⟨_, h8⟩
  · exact ⟨_, h9⟩
theorem no_words {P : Program} {w : World} {K : PySem.W.Frag} {mg : Str → Option Value} {base : Heap} {f : Addr} {fd : FuncData} {j : Nat} {ps : List Str} : FnOk P w K mg base CX0 j f fd ps (spWords K 0) := by
  have no : ∀ vs H Q E, ¬ spWords K 0 vs H Q E := fun vs H Q E h => by
    obtain ⟨_, t, _, _, _, _, _, _, h1, _⟩ := h
    have := deep_pos t
    omega
  exact ⟨fun vs H Q E h => absurd h (no vs H Q E), fun A outer s H args us vs Q E _ _ _ _ h => absurd h (no vs H Q E)⟩
theorem no_partR {C : Addr} {P : Program} {w : World} {K : PySem.W.Frag} {mg : Str → Option Value} {base : Heap} {f : Addr} {fd : FuncData} {j : Nat} {ps : List Str} : FnOk P w K mg base CX0 j f fd ps (spPartR K C 0) := by
  have no : ∀ vs H Q E, ¬ spPartR K C 0 vs H Q E := fun vs H Q E h => by
    obtain ⟨_, _, _, _, _, _, _, t, _, _, _, _, _, _, _, _, _, _, h1, _⟩ := h
    have := deep_pos t
    omega
  exact ⟨fun vs H Q E h => absurd h (no vs H Q E), fun A outer s H args us vs Q E _ _ _ _ h => absurd h (no vs H Q E)⟩
theorem no_plain {P : Program} {w : World} {K : PySem.W.Frag} {mg : Str → Option Value} {base : Heap} {f : Addr} {fd : FuncData} {j : Nat} {ps : List Str} : FnOk P w K mg base CX0 j f fd ps (spPlain K 0) := by
  have no : ∀ vs H Q E, ¬ spPlain K 0 vs H Q E := fun vs H Q E h => by
    obtain ⟨_, _, _, _, _, _, _, h1, _⟩ := h
    omega
  exact ⟨fun vs H Q E h => absurd h (no vs H Q E), fun A outer s H args us vs Q E _ _ _ _ h => absurd h (no vs H Q E)⟩
theorem all_mk {l : PySem.W.OpenLaw} {w : World} {K : PySem.W.Frag} {h : Heap} {mg : Str → Option Value} {fa C : Addr} (X : K.In h) (G : h.Ns mainGlobals mg) (hfa : mg "law" = some (.ref fa))
    {pd : Addr} {es : Array DictEntry} {n : Nat} {t1 t2 t3 t4 t5 t6 t7 t8 t9 tL : Tok} {q1 q2 q3 q4 q5 q6 q7 q8 tF : Tok}
    {fFits : Addr} {odFits anFits : Option Addr} {slFits : Array (Option Value)} {ocFits kVFits dcFits pmFits cdFits ctFits : Value}
    (aFits : PySem.W.nsIn K mainGlobals "fits" = some (some (.ref fFits))) (lFits : K.lookup fFits = some ⟨ocFits, odFits, .func (PySem.W.fnOf "fits" "fits" (defArgs sFits) (defBody sFits) (defScope sFits) .none kVFits dcFits pmFits anFits cdFits ctFits), slFits⟩) (cFits : PySem.W.codeIn K cdFits "fits" = true) (kFits : PySem.W.keepIn K (.ref fFits) = true)
    {fIsWhole : Addr} {odIsWhole anIsWhole : Option Addr} {slIsWhole : Array (Option Value)} {ocIsWhole kVIsWhole dcIsWhole pmIsWhole cdIsWhole ctIsWhole : Value}
    (aIsWhole : PySem.W.nsIn K mainGlobals "is_whole" = some (some (.ref fIsWhole))) (lIsWhole : K.lookup fIsWhole = some ⟨ocIsWhole, odIsWhole, .func (PySem.W.fnOf "is_whole" "is_whole" (defArgs sIsWhole) (defBody sIsWhole) (defScope sIsWhole) .none kVIsWhole dcIsWhole pmIsWhole anIsWhole cdIsWhole ctIsWhole), slIsWhole⟩) (cIsWhole : PySem.W.codeIn K cdIsWhole "is_whole" = true) (kIsWhole : PySem.W.keepIn K (.ref fIsWhole) = true)
    {fIsTupleOf : Addr} {odIsTupleOf anIsTupleOf : Option Addr} {slIsTupleOf : Array (Option Value)} {ocIsTupleOf kVIsTupleOf dcIsTupleOf pmIsTupleOf cdIsTupleOf ctIsTupleOf : Value}
    (aIsTupleOf : PySem.W.nsIn K mainGlobals "is_tuple_of" = some (some (.ref fIsTupleOf))) (lIsTupleOf : K.lookup fIsTupleOf = some ⟨ocIsTupleOf, odIsTupleOf, .func (PySem.W.fnOf "is_tuple_of" "is_tuple_of" (defArgs sIsTupleOf) (defBody sIsTupleOf) (defScope sIsTupleOf) .none kVIsTupleOf dcIsTupleOf pmIsTupleOf anIsTupleOf cdIsTupleOf ctIsTupleOf), slIsTupleOf⟩) (cIsTupleOf : PySem.W.codeIn K cdIsTupleOf "is_tuple_of" = true) (kIsTupleOf : PySem.W.keepIn K (.ref fIsTupleOf) = true)
    {fRowNames : Addr} {odRowNames anRowNames : Option Addr} {slRowNames : Array (Option Value)} {ocRowNames kVRowNames dcRowNames pmRowNames cdRowNames ctRowNames : Value}
    (aRowNames : PySem.W.nsIn K mainGlobals "row_names" = some (some (.ref fRowNames))) (lRowNames : K.lookup fRowNames = some ⟨ocRowNames, odRowNames, .func (PySem.W.fnOf "row_names" "row_names" (defArgs sRowNames) (defBody sRowNames) (defScope sRowNames) .none kVRowNames dcRowNames pmRowNames anRowNames cdRowNames ctRowNames), slRowNames⟩) (cRowNames : PySem.W.codeIn K cdRowNames "row_names" = true) (kRowNames : PySem.W.keepIn K (.ref fRowNames) = true)
    {fWithin : Addr} {odWithin anWithin : Option Addr} {slWithin : Array (Option Value)} {ocWithin kVWithin dcWithin pmWithin cdWithin ctWithin : Value}
    (aWithin : PySem.W.nsIn K mainGlobals "within" = some (some (.ref fWithin))) (lWithin : K.lookup fWithin = some ⟨ocWithin, odWithin, .func (PySem.W.fnOf "within" "within" (defArgs sWithin) (defBody sWithin) (defScope sWithin) .none kVWithin dcWithin pmWithin anWithin cdWithin ctWithin), slWithin⟩) (cWithin : PySem.W.codeIn K cdWithin "within" = true) (kWithin : PySem.W.keepIn K (.ref fWithin) = true)
    {fAllIn : Addr} {odAllIn anAllIn : Option Addr} {slAllIn : Array (Option Value)} {ocAllIn kVAllIn dcAllIn pmAllIn cdAllIn ctAllIn : Value}
    (aAllIn : PySem.W.nsIn K mainGlobals "all_in" = some (some (.ref fAllIn))) (lAllIn : K.lookup fAllIn = some ⟨ocAllIn, odAllIn, .func (PySem.W.fnOf "all_in" "all_in" (defArgs sAllIn) (defBody sAllIn) (defScope sAllIn) .none kVAllIn dcAllIn pmAllIn anAllIn cdAllIn ctAllIn), slAllIn⟩) (cAllIn : PySem.W.codeIn K cdAllIn "all_in" = true) (kAllIn : PySem.W.keepIn K (.ref fAllIn) = true)
    {fLetNames : Addr} {odLetNames anLetNames : Option Addr} {slLetNames : Array (Option Value)} {ocLetNames kVLetNames dcLetNames pmLetNames cdLetNames ctLetNames : Value}
    (aLetNames : PySem.W.nsIn K mainGlobals "let_names" = some (some (.ref fLetNames))) (lLetNames : K.lookup fLetNames = some ⟨ocLetNames, odLetNames, .func (PySem.W.fnOf "let_names" "let_names" (defArgs sLetNames) (defBody sLetNames) (defScope sLetNames) .none kVLetNames dcLetNames pmLetNames anLetNames cdLetNames ctLetNames), slLetNames⟩) (cLetNames : PySem.W.codeIn K cdLetNames "let_names" = true) (kLetNames : PySem.W.keepIn K (.ref fLetNames) = true)
    {fAllFunctions : Addr} {odAllFunctions anAllFunctions : Option Addr} {slAllFunctions : Array (Option Value)} {ocAllFunctions kVAllFunctions dcAllFunctions pmAllFunctions cdAllFunctions ctAllFunctions : Value}
    (aAllFunctions : PySem.W.nsIn K mainGlobals "all_functions" = some (some (.ref fAllFunctions))) (lAllFunctions : K.lookup fAllFunctions = some ⟨ocAllFunctions, odAllFunctions, .func (PySem.W.fnOf "all_functions" "all_functions" (defArgs sAllFunctions) (defBody sAllFunctions) (defScope sAllFunctions) .none kVAllFunctions dcAllFunctions pmAllFunctions anAllFunctions cdAllFunctions ctAllFunctions), slAllFunctions⟩) (cAllFunctions : PySem.W.codeIn K cdAllFunctions "all_functions" = true) (kAllFunctions : PySem.W.keepIn K (.ref fAllFunctions) = true)
    {fIsName : Addr} {odIsName anIsName : Option Addr} {slIsName : Array (Option Value)} {ocIsName kVIsName dcIsName pmIsName cdIsName ctIsName : Value}
    (aIsName : PySem.W.nsIn K mainGlobals "is_name" = some (some (.ref fIsName))) (lIsName : K.lookup fIsName = some ⟨ocIsName, odIsName, .func (PySem.W.fnOf "is_name" "is_name" (defArgs sIsName) (defBody sIsName) (defScope sIsName) .none kVIsName dcIsName pmIsName anIsName cdIsName ctIsName), slIsName⟩) (cIsName : PySem.W.codeIn K cdIsName "is_name" = true) (kIsName : PySem.W.keepIn K (.ref fIsName) = true)
    {fIsNumber : Addr} {odIsNumber anIsNumber : Option Addr} {slIsNumber : Array (Option Value)} {ocIsNumber kVIsNumber dcIsNumber pmIsNumber cdIsNumber ctIsNumber : Value}
    (aIsNumber : PySem.W.nsIn K mainGlobals "is_number" = some (some (.ref fIsNumber))) (lIsNumber : K.lookup fIsNumber = some ⟨ocIsNumber, odIsNumber, .func (PySem.W.fnOf "is_number" "is_number" (defArgs sIsNumber) (defBody sIsNumber) (defScope sIsNumber) .none kVIsNumber dcIsNumber pmIsNumber anIsNumber cdIsNumber ctIsNumber), slIsNumber⟩) (cIsNumber : PySem.W.codeIn K cdIsNumber "is_number" = true) (kIsNumber : PySem.W.keepIn K (.ref fIsNumber) = true)
    {fAreLetRows : Addr} {odAreLetRows anAreLetRows : Option Addr} {slAreLetRows : Array (Option Value)} {ocAreLetRows kVAreLetRows dcAreLetRows pmAreLetRows cdAreLetRows ctAreLetRows : Value}
    (aAreLetRows : PySem.W.nsIn K mainGlobals "are_let_rows" = some (some (.ref fAreLetRows))) (lAreLetRows : K.lookup fAreLetRows = some ⟨ocAreLetRows, odAreLetRows, .func (PySem.W.fnOf "are_let_rows" "are_let_rows" (defArgs sAreLetRows) (defBody sAreLetRows) (defScope sAreLetRows) .none kVAreLetRows dcAreLetRows pmAreLetRows anAreLetRows cdAreLetRows ctAreLetRows), slAreLetRows⟩) (cAreLetRows : PySem.W.codeIn K cdAreLetRows "are_let_rows" = true) (kAreLetRows : PySem.W.keepIn K (.ref fAreLetRows) = true)
    {fIsPartByItself : Addr} {odIsPartByItself anIsPartByItself : Option Addr} {slIsPartByItself : Array (Option Value)} {ocIsPartByItself kVIsPartByItself dcIsPartByItself pmIsPartByItself cdIsPartByItself ctIsPartByItself : Value}
    (aIsPartByItself : PySem.W.nsIn K mainGlobals "is_part_by_itself" = some (some (.ref fIsPartByItself))) (lIsPartByItself : K.lookup fIsPartByItself = some ⟨ocIsPartByItself, odIsPartByItself, .func (PySem.W.fnOf "is_part_by_itself" "is_part_by_itself" (defArgs sIsPartByItself) (defBody sIsPartByItself) (defScope sIsPartByItself) .none kVIsPartByItself dcIsPartByItself pmIsPartByItself anIsPartByItself cdIsPartByItself ctIsPartByItself), slIsPartByItself⟩) (cIsPartByItself : PySem.W.codeIn K cdIsPartByItself "is_part_by_itself" = true) (kIsPartByItself : PySem.W.keepIn K (.ref fIsPartByItself) = true)
    {fIsBody : Addr} {odIsBody anIsBody : Option Addr} {slIsBody : Array (Option Value)} {ocIsBody kVIsBody dcIsBody pmIsBody cdIsBody ctIsBody : Value}
    (aIsBody : PySem.W.nsIn K mainGlobals "is_body" = some (some (.ref fIsBody))) (lIsBody : K.lookup fIsBody = some ⟨ocIsBody, odIsBody, .func (PySem.W.fnOf "is_body" "is_body" (defArgs sIsBody) (defBody sIsBody) (defScope sIsBody) .none kVIsBody dcIsBody pmIsBody anIsBody cdIsBody ctIsBody), slIsBody⟩) (cIsBody : PySem.W.codeIn K cdIsBody "is_body" = true) (kIsBody : PySem.W.keepIn K (.ref fIsBody) = true)
    {fIsFunction : Addr} {odIsFunction anIsFunction : Option Addr} {slIsFunction : Array (Option Value)} {ocIsFunction kVIsFunction dcIsFunction pmIsFunction cdIsFunction ctIsFunction : Value}
    (aIsFunction : PySem.W.nsIn K mainGlobals "is_function" = some (some (.ref fIsFunction))) (lIsFunction : K.lookup fIsFunction = some ⟨ocIsFunction, odIsFunction, .func (PySem.W.fnOf "is_function" "is_function" (defArgs sIsFunction) (defBody sIsFunction) (defScope sIsFunction) .none kVIsFunction dcIsFunction pmIsFunction anIsFunction cdIsFunction ctIsFunction), slIsFunction⟩) (cIsFunction : PySem.W.codeIn K cdIsFunction "is_function" = true) (kIsFunction : PySem.W.keepIn K (.ref fIsFunction) = true)
    {fIsBuilt : Addr} {odIsBuilt anIsBuilt : Option Addr} {slIsBuilt : Array (Option Value)} {ocIsBuilt kVIsBuilt dcIsBuilt pmIsBuilt cdIsBuilt ctIsBuilt : Value}
    (aIsBuilt : PySem.W.nsIn K mainGlobals "is_built" = some (some (.ref fIsBuilt))) (lIsBuilt : K.lookup fIsBuilt = some ⟨ocIsBuilt, odIsBuilt, .func (PySem.W.fnOf "is_built" "is_built" (defArgs sIsBuilt) (defBody sIsBuilt) (defScope sIsBuilt) .none kVIsBuilt dcIsBuilt pmIsBuilt anIsBuilt cdIsBuilt ctIsBuilt), slIsBuilt⟩) (cIsBuilt : PySem.W.codeIn K cdIsBuilt "is_built" = true) (kIsBuilt : PySem.W.keepIn K (.ref fIsBuilt) = true)
    {fFirstAgain : Addr} {odFirstAgain anFirstAgain : Option Addr} {slFirstAgain : Array (Option Value)} {ocFirstAgain kVFirstAgain dcFirstAgain pmFirstAgain cdFirstAgain ctFirstAgain : Value}
    (aFirstAgain : PySem.W.nsIn K mainGlobals "first_again" = some (some (.ref fFirstAgain))) (lFirstAgain : K.lookup fFirstAgain = some ⟨ocFirstAgain, odFirstAgain, .func (PySem.W.fnOf "first_again" "first_again" (defArgs sFirstAgain) (defBody sFirstAgain) (defScope sFirstAgain) .none kVFirstAgain dcFirstAgain pmFirstAgain anFirstAgain cdFirstAgain ctFirstAgain), slFirstAgain⟩) (cFirstAgain : PySem.W.codeIn K cdFirstAgain "first_again" = true) (kFirstAgain : PySem.W.keepIn K (.ref fFirstAgain) = true)
    {fNamesOf : Addr} {odNamesOf anNamesOf : Option Addr} {slNamesOf : Array (Option Value)} {ocNamesOf kVNamesOf dcNamesOf pmNamesOf cdNamesOf ctNamesOf : Value}
    (aNamesOf : PySem.W.nsIn K mainGlobals "names_of" = some (some (.ref fNamesOf))) (lNamesOf : K.lookup fNamesOf = some ⟨ocNamesOf, odNamesOf, .func (PySem.W.fnOf "names_of" "names_of" (defArgs sNamesOf) (defBody sNamesOf) (defScope sNamesOf) .none kVNamesOf dcNamesOf pmNamesOf anNamesOf cdNamesOf ctNamesOf), slNamesOf⟩) (cNamesOf : PySem.W.codeIn K cdNamesOf "names_of" = true) (kNamesOf : PySem.W.keepIn K (.ref fNamesOf) = true)
    {fStrangers : Addr} {odStrangers anStrangers : Option Addr} {slStrangers : Array (Option Value)} {ocStrangers kVStrangers dcStrangers pmStrangers cdStrangers ctStrangers : Value}
    (aStrangers : PySem.W.nsIn K mainGlobals "strangers" = some (some (.ref fStrangers))) (lStrangers : K.lookup fStrangers = some ⟨ocStrangers, odStrangers, .func (PySem.W.fnOf "strangers" "strangers" (defArgs sStrangers) (defBody sStrangers) (defScope sStrangers) .none kVStrangers dcStrangers pmStrangers anStrangers cdStrangers ctStrangers), slStrangers⟩) (cStrangers : PySem.W.codeIn K cdStrangers "strangers" = true) (kStrangers : PySem.W.keepIn K (.ref fStrangers) = true)
    {fLookAtNames : Addr} {odLookAtNames anLookAtNames : Option Addr} {slLookAtNames : Array (Option Value)} {ocLookAtNames kVLookAtNames dcLookAtNames pmLookAtNames cdLookAtNames ctLookAtNames : Value}
    (aLookAtNames : PySem.W.nsIn K mainGlobals "look_at_names" = some (some (.ref fLookAtNames))) (lLookAtNames : K.lookup fLookAtNames = some ⟨ocLookAtNames, odLookAtNames, .func (PySem.W.fnOf "look_at_names" "look_at_names" (defArgs sLookAtNames) (defBody sLookAtNames) (defScope sLookAtNames) .none kVLookAtNames dcLookAtNames pmLookAtNames anLookAtNames cdLookAtNames ctLookAtNames), slLookAtNames⟩) (cLookAtNames : PySem.W.codeIn K cdLookAtNames "look_at_names" = true) (kLookAtNames : PySem.W.keepIn K (.ref fLookAtNames) = true)
    {fLooked : Addr} {odLooked anLooked : Option Addr} {slLooked : Array (Option Value)} {ocLooked kVLooked dcLooked pmLooked cdLooked ctLooked : Value}
    (aLooked : PySem.W.nsIn K mainGlobals "looked" = some (some (.ref fLooked))) (lLooked : K.lookup fLooked = some ⟨ocLooked, odLooked, .func (PySem.W.fnOf "looked" "looked" (defArgs sLooked) (defBody sLooked) (defScope sLooked) .none kVLooked dcLooked pmLooked anLooked cdLooked ctLooked), slLooked⟩) (cLooked : PySem.W.codeIn K cdLooked "looked" = true) (kLooked : PySem.W.keepIn K (.ref fLooked) = true)
    {fIsNumberWord : Addr} {odIsNumberWord anIsNumberWord : Option Addr} {slIsNumberWord : Array (Option Value)} {ocIsNumberWord kVIsNumberWord dcIsNumberWord pmIsNumberWord cdIsNumberWord ctIsNumberWord : Value}
    (aIsNumberWord : PySem.W.nsIn K mainGlobals "is_number_word" = some (some (.ref fIsNumberWord))) (lIsNumberWord : K.lookup fIsNumberWord = some ⟨ocIsNumberWord, odIsNumberWord, .func (PySem.W.fnOf "is_number_word" "is_number_word" (defArgs sIsNumberWord) (defBody sIsNumberWord) (defScope sIsNumberWord) .none kVIsNumberWord dcIsNumberWord pmIsNumberWord anIsNumberWord cdIsNumberWord ctIsNumberWord), slIsNumberWord⟩) (cIsNumberWord : PySem.W.codeIn K cdIsNumberWord "is_number_word" = true) (kIsNumberWord : PySem.W.keepIn K (.ref fIsNumberWord) = true)
    {fFunctionOfRow : Addr} {odFunctionOfRow anFunctionOfRow : Option Addr} {slFunctionOfRow : Array (Option Value)} {ocFunctionOfRow kVFunctionOfRow dcFunctionOfRow pmFunctionOfRow cdFunctionOfRow ctFunctionOfRow : Value}
    (aFunctionOfRow : PySem.W.nsIn K mainGlobals "function_of_row" = some (some (.ref fFunctionOfRow))) (lFunctionOfRow : K.lookup fFunctionOfRow = some ⟨ocFunctionOfRow, odFunctionOfRow, .func (PySem.W.fnOf "function_of_row" "function_of_row" (defArgs sFunctionOfRow) (defBody sFunctionOfRow) (defScope sFunctionOfRow) .none kVFunctionOfRow dcFunctionOfRow pmFunctionOfRow anFunctionOfRow cdFunctionOfRow ctFunctionOfRow), slFunctionOfRow⟩) (cFunctionOfRow : PySem.W.codeIn K cdFunctionOfRow "function_of_row" = true) (kFunctionOfRow : PySem.W.keepIn K (.ref fFunctionOfRow) = true)
    {fPartOfRow : Addr} {odPartOfRow anPartOfRow : Option Addr} {slPartOfRow : Array (Option Value)} {ocPartOfRow kVPartOfRow dcPartOfRow pmPartOfRow cdPartOfRow ctPartOfRow : Value}
    (aPartOfRow : PySem.W.nsIn K mainGlobals "part_of_row" = some (some (.ref fPartOfRow))) (lPartOfRow : K.lookup fPartOfRow = some ⟨ocPartOfRow, odPartOfRow, .func (PySem.W.fnOf "part_of_row" "part_of_row" (defArgs sPartOfRow) (defBody sPartOfRow) (defScope sPartOfRow) .none kVPartOfRow dcPartOfRow pmPartOfRow anPartOfRow cdPartOfRow ctPartOfRow), slPartOfRow⟩) (cPartOfRow : PySem.W.codeIn K cdPartOfRow "part_of_row" = true) (kPartOfRow : PySem.W.keepIn K (.ref fPartOfRow) = true)
    {fRead : Addr} {odRead anRead : Option Addr} {slRead : Array (Option Value)} {ocRead kVRead dcRead pmRead cdRead ctRead : Value}
    (aRead : PySem.W.nsIn K mainGlobals "read" = some (some (.ref fRead))) (lRead : K.lookup fRead = some ⟨ocRead, odRead, .func (PySem.W.fnOf "read" "read" (defArgs sRead) (defBody sRead) (defScope sRead) .none kVRead dcRead pmRead anRead cdRead ctRead), slRead⟩) (cRead : PySem.W.codeIn K cdRead "read" = true) (kRead : PySem.W.keepIn K (.ref fRead) = true)
    {fWordsOf : Addr} {odWordsOf anWordsOf : Option Addr} {slWordsOf : Array (Option Value)} {ocWordsOf kVWordsOf dcWordsOf pmWordsOf cdWordsOf ctWordsOf : Value}
    (aWordsOf : PySem.W.nsIn K mainGlobals "words_of" = some (some (.ref fWordsOf))) (lWordsOf : K.lookup fWordsOf = some ⟨ocWordsOf, odWordsOf, .func (PySem.W.fnOf "words_of" "words_of" (defArgs sWordsOf) (defBody sWordsOf) (defScope sWordsOf) .none kVWordsOf dcWordsOf pmWordsOf anWordsOf cdWordsOf ctWordsOf), slWordsOf⟩) (cWordsOf : PySem.W.codeIn K cdWordsOf "words_of" = true) (kWordsOf : PySem.W.keepIn K (.ref fWordsOf) = true)
    {fPartText : Addr} {odPartText anPartText : Option Addr} {slPartText : Array (Option Value)} {ocPartText kVPartText dcPartText pmPartText cdPartText ctPartText : Value}
    (aPartText : PySem.W.nsIn K mainGlobals "part_text" = some (some (.ref fPartText))) (lPartText : K.lookup fPartText = some ⟨ocPartText, odPartText, .func (PySem.W.fnOf "part_text" "part_text" (defArgs sPartText) (defBody sPartText) (defScope sPartText) .none kVPartText dcPartText pmPartText anPartText cdPartText ctPartText), slPartText⟩) (cPartText : PySem.W.codeIn K cdPartText "part_text" = true) (kPartText : PySem.W.keepIn K (.ref fPartText) = true)
    {fFunctionText : Addr} {odFunctionText anFunctionText : Option Addr} {slFunctionText : Array (Option Value)} {ocFunctionText kVFunctionText dcFunctionText pmFunctionText cdFunctionText ctFunctionText : Value}
    (aFunctionText : PySem.W.nsIn K mainGlobals "function_text" = some (some (.ref fFunctionText))) (lFunctionText : K.lookup fFunctionText = some ⟨ocFunctionText, odFunctionText, .func (PySem.W.fnOf "function_text" "function_text" (defArgs sFunctionText) (defBody sFunctionText) (defScope sFunctionText) .none kVFunctionText dcFunctionText pmFunctionText anFunctionText cdFunctionText ctFunctionText), slFunctionText⟩) (cFunctionText : PySem.W.codeIn K cdFunctionText "function_text" = true) (kFunctionText : PySem.W.keepIn K (.ref fFunctionText) = true)
    {fWritten : Addr} {odWritten anWritten : Option Addr} {slWritten : Array (Option Value)} {ocWritten kVWritten dcWritten pmWritten cdWritten ctWritten : Value}
    (aWritten : PySem.W.nsIn K mainGlobals "written" = some (some (.ref fWritten))) (lWritten : K.lookup fWritten = some ⟨ocWritten, odWritten, .func (PySem.W.fnOf "written" "written" (defArgs sWritten) (defBody sWritten) (defScope sWritten) .none kVWritten dcWritten pmWritten anWritten cdWritten ctWritten), slWritten⟩) (cWritten : PySem.W.codeIn K cdWritten "written" = true) (kWritten : PySem.W.keepIn K (.ref fWritten) = true)
    {fLPen : Addr} {odLPen anLPen : Option Addr} {slLPen : Array (Option Value)} {ocLPen kVLPen dcLPen pmLPen cdLPen ctLPen : Value}
    (aLPen : PySem.W.nsIn K mainGlobals "_law_pen" = some (some (.ref fLPen))) (lLPen : K.lookup fLPen = some ⟨ocLPen, odLPen, .func (PySem.W.fnOf "_law_pen" "_law_pen" (defArgs sLPen) (defBody sLPen) (defScope sLPen) .none kVLPen dcLPen pmLPen anLPen cdLPen ctLPen), slLPen⟩) (cLPen : PySem.W.codeIn K cdLPen "_law_pen" = true) (kLPen : PySem.W.keepIn K (.ref fLPen) = true)
    {fLDraw : Addr} {odLDraw anLDraw : Option Addr} {slLDraw : Array (Option Value)} {ocLDraw kVLDraw dcLDraw pmLDraw cdLDraw ctLDraw : Value}
    (aLDraw : PySem.W.nsIn K mainGlobals "_law_draw" = some (some (.ref fLDraw))) (lLDraw : K.lookup fLDraw = some ⟨ocLDraw, odLDraw, .func (PySem.W.fnOf "_law_draw" "_law_draw" (defArgs sLDraw) (defBody sLDraw) (defScope sLDraw) .none kVLDraw dcLDraw pmLDraw anLDraw cdLDraw ctLDraw), slLDraw⟩) (cLDraw : PySem.W.codeIn K cdLDraw "_law_draw" = true) (kLDraw : PySem.W.keepIn K (.ref fLDraw) = true)
    {fLNames : Addr} {odLNames anLNames : Option Addr} {slLNames : Array (Option Value)} {ocLNames kVLNames dcLNames pmLNames cdLNames ctLNames : Value}
    (aLNames : PySem.W.nsIn K mainGlobals "_law_names" = some (some (.ref fLNames))) (lLNames : K.lookup fLNames = some ⟨ocLNames, odLNames, .func (PySem.W.fnOf "_law_names" "_law_names" (defArgs sLNames) (defBody sLNames) (defScope sLNames) .none kVLNames dcLNames pmLNames anLNames cdLNames ctLNames), slLNames⟩) (cLNames : PySem.W.codeIn K cdLNames "_law_names" = true) (kLNames : PySem.W.keepIn K (.ref fLNames) = true)
    {fLNumber : Addr} {odLNumber anLNumber : Option Addr} {slLNumber : Array (Option Value)} {ocLNumber kVLNumber dcLNumber pmLNumber cdLNumber ctLNumber : Value}
    (aLNumber : PySem.W.nsIn K mainGlobals "_law_number" = some (some (.ref fLNumber))) (lLNumber : K.lookup fLNumber = some ⟨ocLNumber, odLNumber, .func (PySem.W.fnOf "_law_number" "_law_number" (defArgs sLNumber) (defBody sLNumber) (defScope sLNumber) .none kVLNumber dcLNumber pmLNumber anLNumber cdLNumber ctLNumber), slLNumber⟩) (cLNumber : PySem.W.codeIn K cdLNumber "_law_number" = true) (kLNumber : PySem.W.keepIn K (.ref fLNumber) = true)
    {fLLeaf : Addr} {odLLeaf anLLeaf : Option Addr} {slLLeaf : Array (Option Value)} {ocLLeaf kVLLeaf dcLLeaf pmLLeaf cdLLeaf ctLLeaf : Value}
    (aLLeaf : PySem.W.nsIn K mainGlobals "_law_leaf" = some (some (.ref fLLeaf))) (lLLeaf : K.lookup fLLeaf = some ⟨ocLLeaf, odLLeaf, .func (PySem.W.fnOf "_law_leaf" "_law_leaf" (defArgs sLLeaf) (defBody sLLeaf) (defScope sLLeaf) .none kVLLeaf dcLLeaf pmLLeaf anLLeaf cdLLeaf ctLLeaf), slLLeaf⟩) (cLLeaf : PySem.W.codeIn K cdLLeaf "_law_leaf" = true) (kLLeaf : PySem.W.keepIn K (.ref fLLeaf) = true)
    {fLFits : Addr} {odLFits anLFits : Option Addr} {slLFits : Array (Option Value)} {ocLFits kVLFits dcLFits pmLFits cdLFits ctLFits : Value}
    (aLFits : PySem.W.nsIn K mainGlobals "_law_fits" = some (some (.ref fLFits))) (lLFits : K.lookup fLFits = some ⟨ocLFits, odLFits, .func (PySem.W.fnOf "_law_fits" "_law_fits" (defArgs sLFits) (defBody sLFits) (defScope sLFits) .none kVLFits dcLFits pmLFits anLFits cdLFits ctLFits), slLFits⟩) (cLFits : PySem.W.codeIn K cdLFits "_law_fits" = true) (kLFits : PySem.W.keepIn K (.ref fLFits) = true)
    {fLCall : Addr} {odLCall anLCall : Option Addr} {slLCall : Array (Option Value)} {ocLCall kVLCall dcLCall pmLCall cdLCall ctLCall : Value}
    (aLCall : PySem.W.nsIn K mainGlobals "_law_call" = some (some (.ref fLCall))) (lLCall : K.lookup fLCall = some ⟨ocLCall, odLCall, .func (PySem.W.fnOf "_law_call" "_law_call" (defArgs sLCall) (defBody sLCall) (defScope sLCall) .none kVLCall dcLCall pmLCall anLCall cdLCall ctLCall), slLCall⟩) (cLCall : PySem.W.codeIn K cdLCall "_law_call" = true) (kLCall : PySem.W.keepIn K (.ref fLCall) = true)
    {fLLet : Addr} {odLLet anLLet : Option Addr} {slLLet : Array (Option Value)} {ocLLet kVLLet dcLLet pmLLet cdLLet ctLLet : Value}
    (aLLet : PySem.W.nsIn K mainGlobals "_law_let" = some (some (.ref fLLet))) (lLLet : K.lookup fLLet = some ⟨ocLLet, odLLet, .func (PySem.W.fnOf "_law_let" "_law_let" (defArgs sLLet) (defBody sLLet) (defScope sLLet) .none kVLLet dcLLet pmLLet anLLet cdLLet ctLLet), slLLet⟩) (cLLet : PySem.W.codeIn K cdLLet "_law_let" = true) (kLLet : PySem.W.keepIn K (.ref fLLet) = true)
    {fLPart : Addr} {odLPart anLPart : Option Addr} {slLPart : Array (Option Value)} {ocLPart kVLPart dcLPart pmLPart cdLPart ctLPart : Value}
    (aLPart : PySem.W.nsIn K mainGlobals "_law_part" = some (some (.ref fLPart))) (lLPart : K.lookup fLPart = some ⟨ocLPart, odLPart, .func (PySem.W.fnOf "_law_part" "_law_part" (defArgs sLPart) (defBody sLPart) (defScope sLPart) .none kVLPart dcLPart pmLPart anLPart cdLPart ctLPart), slLPart⟩) (cLPart : PySem.W.codeIn K cdLPart "_law_part" = true) (kLPart : PySem.W.keepIn K (.ref fLPart) = true)
    {fLLoop : Addr} {odLLoop anLLoop : Option Addr} {slLLoop : Array (Option Value)} {ocLLoop kVLLoop dcLLoop pmLLoop cdLLoop ctLLoop : Value}
    (aLLoop : PySem.W.nsIn K mainGlobals "_law_loop" = some (some (.ref fLLoop))) (lLLoop : K.lookup fLLoop = some ⟨ocLLoop, odLLoop, .func (PySem.W.fnOf "_law_loop" "_law_loop" (defArgs sLLoop) (defBody sLLoop) (defScope sLLoop) .none kVLLoop dcLLoop pmLLoop anLLoop cdLLoop ctLLoop), slLLoop⟩) (cLLoop : PySem.W.codeIn K cdLLoop "_law_loop" = true) (kLLoop : PySem.W.keepIn K (.ref fLLoop) = true)
    {fLBody : Addr} {odLBody anLBody : Option Addr} {slLBody : Array (Option Value)} {ocLBody kVLBody dcLBody pmLBody cdLBody ctLBody : Value}
    (aLBody : PySem.W.nsIn K mainGlobals "_law_body" = some (some (.ref fLBody))) (lLBody : K.lookup fLBody = some ⟨ocLBody, odLBody, .func (PySem.W.fnOf "_law_body" "_law_body" (defArgs sLBody) (defBody sLBody) (defScope sLBody) .none kVLBody dcLBody pmLBody anLBody cdLBody ctLBody), slLBody⟩) (cLBody : PySem.W.codeIn K cdLBody "_law_body" = true) (kLBody : PySem.W.keepIn K (.ref fLBody) = true)
    {fLProgram : Addr} {odLProgram anLProgram : Option Addr} {slLProgram : Array (Option Value)} {ocLProgram kVLProgram dcLProgram pmLProgram cdLProgram ctLProgram : Value}
    (aLProgram : PySem.W.nsIn K mainGlobals "_law_program" = some (some (.ref fLProgram))) (lLProgram : K.lookup fLProgram = some ⟨ocLProgram, odLProgram, .func (PySem.W.fnOf "_law_program" "_law_program" (defArgs sLProgram) (defBody sLProgram) (defScope sLProgram) .none kVLProgram dcLProgram pmLProgram anLProgram cdLProgram ctLProgram), slLProgram⟩) (cLProgram : PySem.W.codeIn K cdLProgram "_law_program" = true) (kLProgram : PySem.W.keepIn K (.ref fLProgram) = true)
    {fLWords : Addr} {odLWords anLWords : Option Addr} {slLWords : Array (Option Value)} {ocLWords kVLWords dcLWords pmLWords cdLWords ctLWords : Value}
    (aLWords : PySem.W.nsIn K mainGlobals "_law_words" = some (some (.ref fLWords))) (lLWords : K.lookup fLWords = some ⟨ocLWords, odLWords, .func (PySem.W.fnOf "_law_words" "_law_words" (defArgs sLWords) (defBody sLWords) (defScope sLWords) .none kVLWords dcLWords pmLWords anLWords cdLWords ctLWords), slLWords⟩) (cLWords : PySem.W.codeIn K cdLWords "_law_words" = true) (kLWords : PySem.W.keepIn K (.ref fLWords) = true)
    {fLRows : Addr} {odLRows anLRows : Option Addr} {slLRows : Array (Option Value)} {ocLRows kVLRows dcLRows pmLRows cdLRows ctLRows : Value}
    (aLRows : PySem.W.nsIn K mainGlobals "_law_rows" = some (some (.ref fLRows))) (lLRows : K.lookup fLRows = some ⟨ocLRows, odLRows, .func (PySem.W.fnOf "_law_rows" "_law_rows" (defArgs sLRows) (defBody sLRows) (defScope sLRows) .none kVLRows dcLRows pmLRows anLRows cdLRows ctLRows), slLRows⟩) (cLRows : PySem.W.codeIn K cdLRows "_law_rows" = true) (kLRows : PySem.W.keepIn K (.ref fLRows) = true)
    {fLText : Addr} {odLText anLText : Option Addr} {slLText : Array (Option Value)} {ocLText kVLText dcLText pmLText cdLText ctLText : Value}
    (aLText : PySem.W.nsIn K mainGlobals "_law_text" = some (some (.ref fLText))) (lLText : K.lookup fLText = some ⟨ocLText, odLText, .func (PySem.W.fnOf "_law_text" "_law_text" (defArgs sLText) (defBody sLText) (defScope sLText) .none kVLText dcLText pmLText anLText cdLText ctLText), slLText⟩) (cLText : PySem.W.codeIn K cdLText "_law_text" = true) (kLText : PySem.W.keepIn K (.ref fLText) = true)
    {fLPlain : Addr} {odLPlain anLPlain : Option Addr} {slLPlain : Array (Option Value)} {ocLPlain kVLPlain dcLPlain pmLPlain cdLPlain ctLPlain : Value}
    (aLPlain : PySem.W.nsIn K mainGlobals "_law_plain" = some (some (.ref fLPlain))) (lLPlain : K.lookup fLPlain = some ⟨ocLPlain, odLPlain, .func (PySem.W.fnOf "_law_plain" "_law_plain" (defArgs sLPlain) (defBody sLPlain) (defScope sLPlain) .none kVLPlain dcLPlain pmLPlain anLPlain cdLPlain ctLPlain), slLPlain⟩) (cLPlain : PySem.W.codeIn K cdLPlain "_law_plain" = true) (kLPlain : PySem.W.keepIn K (.ref fLPlain) = true)
    {fLaw : Addr} {odLaw anLaw : Option Addr} {slLaw : Array (Option Value)} {ocLaw kVLaw dcLaw pmLaw cdLaw ctLaw : Value}
    (aLaw : PySem.W.nsIn K mainGlobals "law" = some (some (.ref fLaw))) (lLaw : K.lookup fLaw = some ⟨ocLaw, odLaw, .func (PySem.W.fnOf "law" "law" (defArgs sLaw) (defBody sLaw) (defScope sLaw) .none kVLaw dcLaw pmLaw anLaw cdLaw ctLaw), slLaw⟩) (cLaw : PySem.W.codeIn K cdLaw "law" = true) (kLaw : PySem.W.keepIn K (.ref fLaw) = true)
    (zlen : PySem.W.nsIn K mainGlobals "len" = some none)
    (zmax : PySem.W.nsIn K mainGlobals "max" = some none)
    (zmin : PySem.W.nsIn K mainGlobals "min" = some none)
    (zabs : PySem.W.nsIn K mainGlobals "abs" = some none)
    (zrange : PySem.W.nsIn K mainGlobals "range" = some none)
    (zint : PySem.W.nsIn K mainGlobals "int" = some none)
    (zlist : PySem.W.nsIn K mainGlobals "list" = some none)
    (ztuple : PySem.W.nsIn K mainGlobals "tuple" = some none)
    (zsum : PySem.W.nsIn K mainGlobals "sum" = some none)
    (zisinstance : PySem.W.nsIn K mainGlobals "isinstance" = some none)
    (zbool : PySem.W.nsIn K mainGlobals "bool" = some none)
    (zenumerate : PySem.W.nsIn K mainGlobals "enumerate" = some none)
    (zstr : PySem.W.nsIn K mainGlobals "str" = some none)
    (zall : PySem.W.nsIn K mainGlobals "all" = some none)
    (zzip : PySem.W.nsIn K mainGlobals "zip" = some none)
    (aP : PySem.W.nsIn K mainGlobals "PARTS_OF" = some (some (.ref pd))) (lP : K.lookup pd = some ⟨.type "dict", none, .dict es n, #[]⟩) (tP : PySem.W.KeysLit w.params es.toList) (wP : (pd == sysModules) = false)
    (h1 : PySem.W.nsIn K pd "give" = some (some (.int 2 t1))) (h2 : PySem.W.nsIn K pd "plus" = some (some (.int 2 t2))) (h3 : PySem.W.nsIn K pd "less" = some (some (.int 2 t3))) (h4 : PySem.W.nsIn K pd "times" = some (some (.int 2 t4))) (h5 : PySem.W.nsIn K pd "below" = some (some (.int 2 t5)))
    (h6 : PySem.W.nsIn K pd "when" = some (some (.int 3 t6))) (h7 : PySem.W.nsIn K pd "pair" = some (some (.int 2 t7))) (h8 : PySem.W.nsIn K pd "left" = some (some (.int 1 t8))) (h9 : PySem.W.nsIn K pd "right" = some (some (.int 1 t9))) (n1 : PySem.W.nsIn K pd "number" = some none) (n2 : PySem.W.nsIn K pd "name" = some none) (n3 : PySem.W.nsIn K pd "fun" = some none)
    (gLETTERS : PySem.W.nsIn K mainGlobals "LETTERS" = some (some (.str letters tL))) (gMOSTLETTERS : PySem.W.nsIn K mainGlobals "MOST_LETTERS" = some (some (.int 8 q1))) (gMOSTROWS : PySem.W.nsIn K mainGlobals "MOST_ROWS" = some (some (.int 4 q2))) (gMOSTTHINGS : PySem.W.nsIn K mainGlobals "MOST_THINGS" = some (some (.int 4 q3))) (gMOSTFUNCTIONS : PySem.W.nsIn K mainGlobals "MOST_FUNCTIONS" = some (some (.int 8 q4))) (gMOSTPARTS : PySem.W.nsIn K mainGlobals "MOST_PARTS" = some (some (.int 60 q5))) (gMOSTDEEP : PySem.W.nsIn K mainGlobals "MOST_DEEP" = some (some (.int 12 q6))) (gBEYOND : PySem.W.nsIn K mainGlobals "BEYOND" = some (some (.int beyond q7)))
    {fRInit : Addr} {odRInit anRInit : Option Addr} {slRInit : Array (Option Value)} {ocRInit kVRInit dcRInit pmRInit cdRInit ctRInit : Value}
    (aRInit : PySem.W.findIn K (.ref C) "__init__" = some (some (.ref fRInit))) (iRInit : PySem.W.isFn K (.ref fRInit) = true) (lRInit : K.lookup fRInit = some ⟨ocRInit, odRInit, .func (PySem.W.fnOf "__init__" "Row.__init__" (defArgs sRInit) (defBody sRInit) (defScope sRInit) .none kVRInit dcRInit pmRInit anRInit cdRInit ctRInit), slRInit⟩) (cRInit : PySem.W.codeIn K cdRInit "Row.__init__" = true) (kRInit : PySem.W.keepIn K (.ref fRInit) = true)
    {fRNextWord : Addr} {odRNextWord anRNextWord : Option Addr} {slRNextWord : Array (Option Value)} {ocRNextWord kVRNextWord dcRNextWord pmRNextWord cdRNextWord ctRNextWord : Value}
    (aRNextWord : PySem.W.findIn K (.ref C) "next_word" = some (some (.ref fRNextWord))) (iRNextWord : PySem.W.isFn K (.ref fRNextWord) = true) (lRNextWord : K.lookup fRNextWord = some ⟨ocRNextWord, odRNextWord, .func (PySem.W.fnOf "next_word" "Row.next_word" (defArgs sRNextWord) (defBody sRNextWord) (defScope sRNextWord) .none kVRNextWord dcRNextWord pmRNextWord anRNextWord cdRNextWord ctRNextWord), slRNextWord⟩) (cRNextWord : PySem.W.codeIn K cdRNextWord "Row.next_word" = true) (kRNextWord : PySem.W.keepIn K (.ref fRNextWord) = true)
    {fRLook : Addr} {odRLook anRLook : Option Addr} {slRLook : Array (Option Value)} {ocRLook kVRLook dcRLook pmRLook cdRLook ctRLook : Value}
    (aRLook : PySem.W.findIn K (.ref C) "look" = some (some (.ref fRLook))) (iRLook : PySem.W.isFn K (.ref fRLook) = true) (lRLook : K.lookup fRLook = some ⟨ocRLook, odRLook, .func (PySem.W.fnOf "look" "Row.look" (defArgs sRLook) (defBody sRLook) (defScope sRLook) .none kVRLook dcRLook pmRLook anRLook cdRLook ctRLook), slRLook⟩) (cRLook : PySem.W.codeIn K cdRLook "Row.look" = true) (kRLook : PySem.W.keepIn K (.ref fRLook) = true)
    {fRTake : Addr} {odRTake anRTake : Option Addr} {slRTake : Array (Option Value)} {ocRTake kVRTake dcRTake pmRTake cdRTake ctRTake : Value}
    (aRTake : PySem.W.findIn K (.ref C) "take" = some (some (.ref fRTake))) (iRTake : PySem.W.isFn K (.ref fRTake) = true) (lRTake : K.lookup fRTake = some ⟨ocRTake, odRTake, .func (PySem.W.fnOf "take" "Row.take" (defArgs sRTake) (defBody sRTake) (defScope sRTake) .none kVRTake dcRTake pmRTake anRTake cdRTake ctRTake), slRTake⟩) (cRTake : PySem.W.codeIn K cdRTake "Row.take" = true) (kRTake : PySem.W.keepIn K (.ref fRTake) = true)
    {fREnd : Addr} {odREnd anREnd : Option Addr} {slREnd : Array (Option Value)} {ocREnd kVREnd dcREnd pmREnd cdREnd ctREnd : Value}
    (aREnd : PySem.W.findIn K (.ref C) "end" = some (some (.ref fREnd))) (iREnd : PySem.W.isFn K (.ref fREnd) = true) (lREnd : K.lookup fREnd = some ⟨ocREnd, odREnd, .func (PySem.W.fnOf "end" "Row.end" (defArgs sREnd) (defBody sREnd) (defScope sREnd) .none kVREnd dcREnd pmREnd anREnd cdREnd ctREnd), slREnd⟩) (cREnd : PySem.W.codeIn K cdREnd "Row.end" = true) (kREnd : PySem.W.keepIn K (.ref fREnd) = true)
    {fRNextName : Addr} {odRNextName anRNextName : Option Addr} {slRNextName : Array (Option Value)} {ocRNextName kVRNextName dcRNextName pmRNextName cdRNextName ctRNextName : Value}
    (aRNextName : PySem.W.findIn K (.ref C) "next_name" = some (some (.ref fRNextName))) (iRNextName : PySem.W.isFn K (.ref fRNextName) = true) (lRNextName : K.lookup fRNextName = some ⟨ocRNextName, odRNextName, .func (PySem.W.fnOf "next_name" "Row.next_name" (defArgs sRNextName) (defBody sRNextName) (defScope sRNextName) .none kVRNextName dcRNextName pmRNextName anRNextName cdRNextName ctRNextName), slRNextName⟩) (cRNextName : PySem.W.codeIn K cdRNextName "Row.next_name" = true) (kRNextName : PySem.W.keepIn K (.ref fRNextName) = true)
    {fRNameBehind : Addr} {odRNameBehind anRNameBehind : Option Addr} {slRNameBehind : Array (Option Value)} {ocRNameBehind kVRNameBehind dcRNameBehind pmRNameBehind cdRNameBehind ctRNameBehind : Value}
    (aRNameBehind : PySem.W.findIn K (.ref C) "name_behind" = some (some (.ref fRNameBehind))) (iRNameBehind : PySem.W.isFn K (.ref fRNameBehind) = true) (lRNameBehind : K.lookup fRNameBehind = some ⟨ocRNameBehind, odRNameBehind, .func (PySem.W.fnOf "name_behind" "Row.name_behind" (defArgs sRNameBehind) (defBody sRNameBehind) (defScope sRNameBehind) .none kVRNameBehind dcRNameBehind pmRNameBehind anRNameBehind cdRNameBehind ctRNameBehind), slRNameBehind⟩) (cRNameBehind : PySem.W.codeIn K cdRNameBehind "Row.name_behind" = true) (kRNameBehind : PySem.W.keepIn K (.ref fRNameBehind) = true)
    {fRPart : Addr} {odRPart anRPart : Option Addr} {slRPart : Array (Option Value)} {ocRPart kVRPart dcRPart pmRPart cdRPart ctRPart : Value}
    (aRPart : PySem.W.findIn K (.ref C) "part" = some (some (.ref fRPart))) (iRPart : PySem.W.isFn K (.ref fRPart) = true) (lRPart : K.lookup fRPart = some ⟨ocRPart, odRPart, .func (PySem.W.fnOf "part" "Row.part" (defArgs sRPart) (defBody sRPart) (defScope sRPart) .none kVRPart dcRPart pmRPart anRPart cdRPart ctRPart), slRPart⟩) (cRPart : PySem.W.codeIn K cdRPart "Row.part" = true) (kRPart : PySem.W.keepIn K (.ref fRPart) = true)
    {fRLet : Addr} {odRLet anRLet : Option Addr} {slRLet : Array (Option Value)} {ocRLet kVRLet dcRLet pmRLet cdRLet ctRLet : Value}
    (aRLet : PySem.W.findIn K (.ref C) "_let" = some (some (.ref fRLet))) (iRLet : PySem.W.isFn K (.ref fRLet) = true) (lRLet : K.lookup fRLet = some ⟨ocRLet, odRLet, .func (PySem.W.fnOf "_let" "Row._let" (defArgs sRLet) (defBody sRLet) (defScope sRLet) .none kVRLet dcRLet pmRLet anRLet cdRLet ctRLet), slRLet⟩) (cRLet : PySem.W.codeIn K cdRLet "Row._let" = true) (kRLet : PySem.W.keepIn K (.ref fRLet) = true)
    (aC : PySem.W.nsIn K mainGlobals "Row" = some (some (.ref C))) (pg : PySem.W.plainGet K C Str.empty = true) (hd : PySem.W.hasDictIn K C = true) (po : PySem.W.plainOver K C = true) (sa : PySem.W.findIn K (.ref C) "__setattr__" = some (some (.builtin "object.__setattr__"))) (mk : PySem.W.makesIn K C = true) (kc : PySem.W.keepIn K (.ref C) = true)
    (nN : PySem.W.findIn K (.ref C) "_number" = some none) (nW : PySem.W.findIn K (.ref C) "_words" = some none) (nA : PySem.W.findIn K (.ref C) "_at" = some none) (nP : PySem.W.findIn K (.ref C) "_parts" = some none)
    (gFIGURES : PySem.W.nsIn K mainGlobals "FIGURES" = some (some (.str figures tF))) (gMOSTFIGURES : PySem.W.nsIn K mainGlobals "MOST_FIGURES" = some (some (.int 60 q8))) :
    ∃ fd : FuncData, (∀ (s : Shared) (v : Value), BindsTo s fd ⟨[v], []⟩ [("_law_script", v)]) ∧ ∀ base : Heap, K.In base → base.Ns mainGlobals mg → FnOk l.prog w K mg base CX0 43 fa fd ["_law_script"] (spLaw K) := by
  have e := hfa.symm.trans (PySem.W.mg_of X G aLaw)
  cases e
  have FFits := fun_mk (st := sFits) lFits cFits kFits
  have bFits := FFits.binds (ps := ["n"]) fun _ _ _ _ _ _ us hl => match us, hl with | [_], _ => rfl
  have mFits := PySem.W.mg_of X G aFits
  have FIsWhole := fun_mk (st := sIsWhole) lIsWhole cIsWhole kIsWhole
  have bIsWhole := FIsWhole.binds (ps := ["thing"]) fun _ _ _ _ _ _ us hl => match us, hl with | [_], _ => rfl
  have mIsWhole := PySem.W.mg_of X G aIsWhole
  have FIsTupleOf := fun_mk (st := sIsTupleOf) lIsTupleOf cIsTupleOf kIsTupleOf
  have bIsTupleOf := FIsTupleOf.binds (ps := ["thing", "many"]) fun _ _ _ _ _ _ us hl => match us, hl with | [_, _], _ => rfl
  have mIsTupleOf := PySem.W.mg_of X G aIsTupleOf
  have FRowNames := fun_mk (st := sRowNames) lRowNames cRowNames kRowNames
  have bRowNames := FRowNames.binds (ps := ["part"]) fun _ _ _ _ _ _ us hl => match us, hl with | [_], _ => rfl
  have mRowNames := PySem.W.mg_of X G aRowNames
  have FWithin := fun_mk (st := sWithin) lWithin cWithin kWithin
  have bWithin := FWithin.binds (ps := ["part"]) fun _ _ _ _ _ _ us hl => match us, hl with | [_], _ => rfl
  have mWithin := PySem.W.mg_of X G aWithin
  have FAllIn := fun_mk (st := sAllIn) lAllIn cAllIn kAllIn
  have bAllIn := FAllIn.binds (ps := ["part"]) fun _ _ _ _ _ _ us hl => match us, hl with | [_], _ => rfl
  have mAllIn := PySem.W.mg_of X G aAllIn
  have FLetNames := fun_mk (st := sLetNames) lLetNames cLetNames kLetNames
  have bLetNames := FLetNames.binds (ps := ["part"]) fun _ _ _ _ _ _ us hl => match us, hl with | [_], _ => rfl
  have mLetNames := PySem.W.mg_of X G aLetNames
  have FAllFunctions := fun_mk (st := sAllFunctions) lAllFunctions cAllFunctions kAllFunctions
  have bAllFunctions := FAllFunctions.binds (ps := ["program"]) fun _ _ _ _ _ _ us hl => match us, hl with | [_], _ => rfl
  have mAllFunctions := PySem.W.mg_of X G aAllFunctions
  have FIsName := fun_mk (st := sIsName) lIsName cIsName kIsName
  have bIsName := FIsName.binds (ps := ["thing"]) fun _ _ _ _ _ _ us hl => match us, hl with | [_], _ => rfl
  have mIsName := PySem.W.mg_of X G aIsName
  have FIsNumber := fun_mk (st := sIsNumber) lIsNumber cIsNumber kIsNumber
  have bIsNumber := FIsNumber.binds (ps := ["thing"]) fun _ _ _ _ _ _ us hl => match us, hl with | [_], _ => rfl
  have mIsNumber := PySem.W.mg_of X G aIsNumber
  have FAreLetRows := fun_mk (st := sAreLetRows) lAreLetRows cAreLetRows kAreLetRows
  have bAreLetRows := FAreLetRows.binds (ps := ["thing"]) fun _ _ _ _ _ _ us hl => match us, hl with | [_], _ => rfl
  have mAreLetRows := PySem.W.mg_of X G aAreLetRows
  have FIsPartByItself := fun_mk (st := sIsPartByItself) lIsPartByItself cIsPartByItself kIsPartByItself
  have bIsPartByItself := FIsPartByItself.binds (ps := ["thing"]) fun _ _ _ _ _ _ us hl => match us, hl with | [_], _ => rfl
  have mIsPartByItself := PySem.W.mg_of X G aIsPartByItself
  have FIsBody := fun_mk (st := sIsBody) lIsBody cIsBody kIsBody
  have bIsBody := FIsBody.binds (ps := ["thing"]) fun _ _ _ _ _ _ us hl => match us, hl with | [_], _ => rfl
  have mIsBody := PySem.W.mg_of X G aIsBody
  have FIsFunction := fun_mk (st := sIsFunction) lIsFunction cIsFunction kIsFunction
  have bIsFunction := FIsFunction.binds (ps := ["thing"]) fun _ _ _ _ _ _ us hl => match us, hl with | [_], _ => rfl
  have mIsFunction := PySem.W.mg_of X G aIsFunction
  have FIsBuilt := fun_mk (st := sIsBuilt) lIsBuilt cIsBuilt kIsBuilt
  have bIsBuilt := FIsBuilt.binds (ps := ["thing"]) fun _ _ _ _ _ _ us hl => match us, hl with | [_], _ => rfl
  have mIsBuilt := PySem.W.mg_of X G aIsBuilt
  have FFirstAgain := fun_mk (st := sFirstAgain) lFirstAgain cFirstAgain kFirstAgain
  have bFirstAgain := FFirstAgain.binds (ps := ["names"]) fun _ _ _ _ _ _ us hl => match us, hl with | [_], _ => rfl
  have mFirstAgain := PySem.W.mg_of X G aFirstAgain
  have FNamesOf := fun_mk (st := sNamesOf) lNamesOf cNamesOf kNamesOf
  have bNamesOf := FNamesOf.binds (ps := ["function"]) fun _ _ _ _ _ _ us hl => match us, hl with | [_], _ => rfl
  have mNamesOf := PySem.W.mg_of X G aNamesOf
  have FStrangers := fun_mk (st := sStrangers) lStrangers cStrangers kStrangers
  have bStrangers := FStrangers.binds (ps := ["part", "known", "funs"]) fun _ _ _ _ _ _ us hl => match us, hl with | [_, _, _], _ => rfl
  have mStrangers := PySem.W.mg_of X G aStrangers
  have FLookAtNames := fun_mk (st := sLookAtNames) lLookAtNames cLookAtNames kLookAtNames
  have bLookAtNames := FLookAtNames.binds (ps := ["function", "funs"]) fun _ _ _ _ _ _ us hl => match us, hl with | [_, _], _ => rfl
  have mLookAtNames := PySem.W.mg_of X G aLookAtNames
  have FLooked := fun_mk (st := sLooked) lLooked cLooked kLooked
  have bLooked := FLooked.binds (ps := ["thing"]) fun _ _ _ _ _ _ us hl => match us, hl with | [_], _ => rfl
  have mLooked := PySem.W.mg_of X G aLooked
  have FIsNumberWord := fun_mk (st := sIsNumberWord) lIsNumberWord cIsNumberWord kIsNumberWord
  have bIsNumberWord := FIsNumberWord.binds (ps := ["word"]) fun _ _ _ _ _ _ us hl => match us, hl with | [_], _ => rfl
  have mIsNumberWord := PySem.W.mg_of X G aIsNumberWord
  have FFunctionOfRow := fun_mk (st := sFunctionOfRow) lFunctionOfRow cFunctionOfRow kFunctionOfRow
  have bFunctionOfRow := FFunctionOfRow.binds (ps := ["row"]) fun _ _ _ _ _ _ us hl => match us, hl with | [_], _ => rfl
  have mFunctionOfRow := PySem.W.mg_of X G aFunctionOfRow
  have FPartOfRow := fun_mk (st := sPartOfRow) lPartOfRow cPartOfRow kPartOfRow
  have bPartOfRow := FPartOfRow.binds (ps := ["row"]) fun _ _ _ _ _ _ us hl => match us, hl with | [_], _ => rfl
  have mPartOfRow := PySem.W.mg_of X G aPartOfRow
  have FRead := fun_mk (st := sRead) lRead cRead kRead
  have bRead := FRead.binds (ps := ["text"]) fun _ _ _ _ _ _ us hl => match us, hl with | [_], _ => rfl
  have mRead := PySem.W.mg_of X G aRead
  have FWordsOf := fun_mk (st := sWordsOf) lWordsOf cWordsOf kWordsOf
  have bWordsOf := FWordsOf.binds (ps := ["part"]) fun _ _ _ _ _ _ us hl => match us, hl with | [_], _ => rfl
  have mWordsOf := PySem.W.mg_of X G aWordsOf
  have FPartText := fun_mk (st := sPartText) lPartText cPartText kPartText
  have bPartText := FPartText.binds (ps := ["part"]) fun _ _ _ _ _ _ us hl => match us, hl with | [_], _ => rfl
  have mPartText := PySem.W.mg_of X G aPartText
  have FFunctionText := fun_mk (st := sFunctionText) lFunctionText cFunctionText kFunctionText
  have bFunctionText := FFunctionText.binds (ps := ["function"]) fun _ _ _ _ _ _ us hl => match us, hl with | [_], _ => rfl
  have mFunctionText := PySem.W.mg_of X G aFunctionText
  have FWritten := fun_mk (st := sWritten) lWritten cWritten kWritten
  have bWritten := FWritten.binds (ps := ["program"]) fun _ _ _ _ _ _ us hl => match us, hl with | [_], _ => rfl
  have mWritten := PySem.W.mg_of X G aWritten
  have FLPen := fun_mk (st := sLPen) lLPen cLPen kLPen
  have bLPen := FLPen.binds (ps := ["_law_script"]) fun _ _ _ _ _ _ us hl => match us, hl with | [_], _ => rfl
  have mLPen := PySem.W.mg_of X G aLPen
  have FLDraw := fun_mk (st := sLDraw) lLDraw cLDraw kLDraw
  have bLDraw := FLDraw.binds (ps := ["_law_pen_here", "_law_many"]) fun _ _ _ _ _ _ us hl => match us, hl with | [_, _], _ => rfl
  have mLDraw := PySem.W.mg_of X G aLDraw
  have FLNames := fun_mk (st := sLNames) lLNames cLNames kLNames
  have bLNames := FLNames.binds (ps := ["_law_pen_here", "_law_many"]) fun _ _ _ _ _ _ us hl => match us, hl with | [_, _], _ => rfl
  have mLNames := PySem.W.mg_of X G aLNames
  have FLNumber := fun_mk (st := sLNumber) lLNumber cLNumber kLNumber
  have bLNumber := FLNumber.binds (ps := ["_law_pen_here"]) fun _ _ _ _ _ _ us hl => match us, hl with | [_], _ => rfl
  have mLNumber := PySem.W.mg_of X G aLNumber
  have FLLeaf := fun_mk (st := sLLeaf) lLLeaf cLLeaf kLLeaf
  have bLLeaf := FLLeaf.binds (ps := ["_law_pen_here", "_law_world", "_law_scope", "_law_want"]) fun _ _ _ _ _ _ us hl => match us, hl with | [_, _, _, _], _ => rfl
  have mLLeaf := PySem.W.mg_of X G aLLeaf
  have FLFits := fun_mk (st := sLFits) lLFits cLFits kLFits
  have bLFits := FLFits.binds (ps := ["_law_room", "_law_many"]) fun _ _ _ _ _ _ us hl => match us, hl with | [_, _], _ => rfl
  have mLFits := PySem.W.mg_of X G aLFits
  have FLCall := fun_mk (st := sLCall) lLCall cLCall kLCall
  have bLCall := FLCall.binds (ps := ["_law_pen_here", "_law_world", "_law_scope", "_law_room", "_law_want"]) fun _ _ _ _ _ _ us hl => match us, hl with | [_, _, _, _, _], _ => rfl
  have mLCall := PySem.W.mg_of X G aLCall
  have FLLet := fun_mk (st := sLLet) lLLet cLLet kLLet
  have bLLet := FLLet.binds (ps := ["_law_pen_here", "_law_world", "_law_scope", "_law_room", "_law_want"]) fun _ _ _ _ _ _ us hl => match us, hl with | [_, _, _, _, _], _ => rfl
  have mLLet := PySem.W.mg_of X G aLLet
  have FLPart := fun_mk (st := sLPart) lLPart cLPart kLPart
  have bLPart := FLPart.binds (ps := ["_law_pen_here", "_law_world", "_law_scope", "_law_room", "_law_want"]) fun _ _ _ _ _ _ us hl => match us, hl with | [_, _, _, _, _], _ => rfl
  have mLPart := PySem.W.mg_of X G aLPart
  have FLLoop := fun_mk (st := sLLoop) lLLoop cLLoop kLLoop
  have bLLoop := FLLoop.binds (ps := ["_law_pen_here", "_law_world", "_law_me", "_law_things", "_law_room"]) fun _ _ _ _ _ _ us hl => match us, hl with | [_, _, _, _, _], _ => rfl
  have mLLoop := PySem.W.mg_of X G aLLoop
  have FLBody := fun_mk (st := sLBody) lLBody cLBody kLBody
  have bLBody := FLBody.binds (ps := ["_law_pen_here", "_law_world", "_law_me", "_law_things", "_law_stock"]) fun _ _ _ _ _ _ us hl => match us, hl with | [_, _, _, _, _], _ => rfl
  have mLBody := PySem.W.mg_of X G aLBody
  have FLProgram := fun_mk (st := sLProgram) lLProgram cLProgram kLProgram
  have bLProgram := FLProgram.binds (ps := ["_law_pen_here"]) fun _ _ _ _ _ _ us hl => match us, hl with | [_], _ => rfl
  have mLProgram := PySem.W.mg_of X G aLProgram
  have FLWords := fun_mk (st := sLWords) lLWords cLWords kLWords
  have bLWords := FLWords.binds (ps := ["_law_part_here"]) fun _ _ _ _ _ _ us hl => match us, hl with | [_], _ => rfl
  have mLWords := PySem.W.mg_of X G aLWords
  have FLRows := fun_mk (st := sLRows) lLRows cLRows kLRows
  have bLRows := FLRows.binds (ps := ["_law_program_here"]) fun _ _ _ _ _ _ us hl => match us, hl with | [_], _ => rfl
  have mLRows := PySem.W.mg_of X G aLRows
  have FLText := fun_mk (st := sLText) lLText cLText kLText
  have bLText := FLText.binds (ps := ["_law_rows_here"]) fun _ _ _ _ _ _ us hl => match us, hl with | [_], _ => rfl
  have mLText := PySem.W.mg_of X G aLText
  have FLPlain := fun_mk (st := sLPlain) lLPlain cLPlain kLPlain
  have bLPlain := FLPlain.binds (ps := ["_law_found", "_law_due"]) fun _ _ _ _ _ _ us hl => match us, hl with | [_, _], _ => rfl
  have mLPlain := PySem.W.mg_of X G aLPlain
  have FLaw := fun_mk (st := sLaw) lLaw cLaw kLaw
  have bLaw := FLaw.binds (ps := ["_law_script"]) fun _ _ _ _ _ _ us hl => match us, hl with | [_], _ => rfl
  have mLaw := PySem.W.mg_of X G aLaw
  have FRInit := fun_mk (st := sRInit) lRInit cRInit kRInit
  have bRInit := FRInit.binds (ps := ["self", "number", "words"]) fun _ _ _ _ _ _ us hl => match us, hl with | [_, _, _], _ => rfl
  have FRNextWord := fun_mk (st := sRNextWord) lRNextWord cRNextWord kRNextWord
  have bRNextWord := FRNextWord.binds (ps := ["self"]) fun _ _ _ _ _ _ us hl => match us, hl with | [_], _ => rfl
  have FRLook := fun_mk (st := sRLook) lRLook cRLook kRLook
  have bRLook := FRLook.binds (ps := ["self", "can_stand"]) fun _ _ _ _ _ _ us hl => match us, hl with | [_, _], _ => rfl
  have FRTake := fun_mk (st := sRTake) lRTake cRTake kRTake
  have bRTake := FRTake.binds (ps := ["self", "can_stand"]) fun _ _ _ _ _ _ us hl => match us, hl with | [_, _], _ => rfl
  have FREnd := fun_mk (st := sREnd) lREnd cREnd kREnd
  have bREnd := FREnd.binds (ps := ["self"]) fun _ _ _ _ _ _ us hl => match us, hl with | [_], _ => rfl
  have FRNextName := fun_mk (st := sRNextName) lRNextName cRNextName kRNextName
  have bRNextName := FRNextName.binds (ps := ["self"]) fun _ _ _ _ _ _ us hl => match us, hl with | [_], _ => rfl
  have FRNameBehind := fun_mk (st := sRNameBehind) lRNameBehind cRNameBehind kRNameBehind
  have bRNameBehind := FRNameBehind.binds (ps := ["self", "sign"]) fun _ _ _ _ _ _ us hl => match us, hl with | [_, _], _ => rfl
  have FRPart := fun_mk (st := sRPart) lRPart cRPart kRPart
  have bRPart := FRPart.binds (ps := ["self", "deep"]) fun _ _ _ _ _ _ us hl => match us, hl with | [_, _], _ => rfl
  have FRLet := fun_mk (st := sRLet) lRLet cRLet kRLet
  have bRLet := FRLet.binds (ps := ["self", "deep"]) fun _ _ _ _ _ _ us hl => match us, hl with | [_, _], _ => rfl
  have B : Bu mg := ⟨⟨PySem.W.mg_none_of X G zlen, PySem.W.mg_none_of X G zmax, PySem.W.mg_none_of X G zmin, PySem.W.mg_none_of X G zabs, PySem.W.mg_none_of X G zrange, PySem.W.mg_none_of X G zint, PySem.W.mg_none_of X G zlist, PySem.W.mg_none_of X G ztuple, PySem.W.mg_none_of X G zsum, PySem.W.mg_none_of X G zisinstance⟩, PySem.W.mg_none_of X G zbool, PySem.W.mg_none_of X G zstr, PySem.W.mg_none_of X G zall, PySem.W.mg_none_of X G zenumerate⟩
  have U : Ut mg := ⟨⟨_, PySem.W.mg_of X G gLETTERS⟩, ⟨_, PySem.W.mg_of X G gMOSTLETTERS⟩, ⟨_, PySem.W.mg_of X G gMOSTROWS⟩, ⟨_, PySem.W.mg_of X G gMOSTTHINGS⟩, ⟨_, PySem.W.mg_of X G gMOSTFUNCTIONS⟩, ⟨_, PySem.W.mg_of X G gMOSTPARTS⟩, ⟨_, PySem.W.mg_of X G gMOSTDEEP⟩, ⟨_, PySem.W.mg_of X G gBEYOND⟩⟩
  have N := pn_mk h1 h2 h3 h4 h5 h6 h7 h8 h9
  refine ⟨PySem.W.fnOf "law" "law" (defArgs sLaw) (defBody sLaw) (defScope sLaw) .none kVLaw dcLaw pmLaw anLaw cdLaw ctLaw, fun s v => .of_eq rfl, fun base _ _ => ?_⟩
  have DK : KDict K w pd es n := ⟨lP, tP, wP⟩
  have O := po_mk h1 h2 h3 h4 h5 h6 h7 h8 h9 n1 n2 n3
  have CLDraw := cal_mk (P := l.prog) (w := w) (base := base) FLDraw (ok_draw FLDraw B.toBt) mLDraw bLDraw
  have CLNames := cal_mk (P := l.prog) (w := w) (base := base) FLNames (ok_names FLNames B.toBt CLDraw) mLNames bLNames
  have CLNumber := cal_mk (P := l.prog) (w := w) (base := base) FLNumber (ok_number FLNumber B.toBt CLDraw) mLNumber bLNumber
  have CLLeaf := cal_mk (P := l.prog) (w := w) (base := base) FLLeaf (ok_leaf FLLeaf B.toBt CLDraw CLNumber) mLLeaf bLLeaf
  have CLFits := cal_mk (P := l.prog) (w := w) (base := base) FLFits (ok_fits FLFits) mLFits bLFits
  have parts : ∀ k, C8.Cal l.prog w K mg base (2 * k + 4) "_law_part" (spPart K k) [] := fun k => by
    induction k with
    | zero => exact cal_mk FLPart no_part mLPart bLPart
    | succ k ih =>
      have c1 := cal_mk FLCall (ok_call (by omega) FLCall B.toBt CLDraw CLLeaf CLFits ih) mLCall bLCall
      have c2 := cal_mk FLLet (ok_let (by omega) FLLet B.toBt CLDraw CLLeaf CLFits ih) mLLet bLLet
      exact cal_mk FLPart (ok_part (by omega) FLPart B.toBt CLDraw CLLeaf CLFits ih c1 c2) mLPart bLPart
  have CLPart := parts 12
  have CLLoop := cal_mk FLLoop (ok_loop (by omega) (by omega) FLLoop B.toBt CLDraw CLPart) mLLoop bLLoop
  have CLBody := cal_mk FLBody (ok_body (by omega) FLBody B.toBt CLDraw CLPart CLLoop) mLBody bLBody
  have CLProgram := cal_mk FLProgram (ok_program (by omega) FLProgram B.toBt CLDraw CLNames CLBody) mLProgram bLProgram
  have CLPen := cal_mk (P := l.prog) (w := w) (base := base) FLPen (ok_pen FLPen B.toBt) mLPen bLPen
  have CWithin := cal_mk (P := l.prog) (w := w) (base := base) FWithin (ok_within FWithin B.toBt (PySem.W.mg_of X G aP) DK O) mWithin bWithin
  have CAllIn := cal_mk (P := l.prog) (w := w) (K := K) (base := base) FAllIn (ok_all (n := 12) FAllIn CWithin) mAllIn bAllIn
  have strns : ∀ k, C8.Cal l.prog w K mg base (k + 1) "strangers" (spStr K k) [] := fun k => by
    induction k with
    | zero => exact cal_mk FStrangers no_str mStrangers bStrangers
    | succ k ih => exact cal_mk FStrangers (ok_str (by omega) FStrangers (cal_mk FRowNames (ok_rowNames FRowNames) mRowNames bRowNames) CWithin ih) mStrangers bStrangers
  have CRowNames := cal_mk (P := l.prog) (w := w) (K := K) (base := base) FRowNames (ok_rowNames FRowNames) mRowNames bRowNames
  have CAllFunctions := cal_mk (P := l.prog) (w := w) (K := K) (base := base) FAllFunctions (ok_funs FAllFunctions) mAllFunctions bAllFunctions
  have CIsTupleOf := cal_mk (P := l.prog) (w := w) (K := K) (base := base) FIsTupleOf (ok_tupOf FIsTupleOf B) mIsTupleOf bIsTupleOf
  have CIsName := cal_mk (P := l.prog) (w := w) (K := K) (base := base) FIsName (ok_name FIsName B U) mIsName bIsName
  have CIsNumber := cal_mk (P := l.prog) (w := w) (K := K) (base := base) FIsNumber (ok_num FIsNumber (cal_mk FIsWhole (ok_whI FIsWhole B) mIsWhole bIsWhole) (cal_mk FFits (ok_fitI FFits B U) mFits bFits)) mIsNumber bIsNumber
  have CAreLetRows := cal_mk (P := l.prog) (w := w) (K := K) (base := base) FAreLetRows (ok_rows FAreLetRows B U CIsTupleOf CIsName) mAreLetRows bAreLetRows
  have CIsPart := cal_mk (P := l.prog) (w := w) (K := K) (base := base) FIsPartByItself (ok_self FIsPartByItself B (PySem.W.mg_of X G aP) DK N CIsName CIsNumber CAreLetRows) mIsPartByItself bIsPartByItself
  have CIsBody := cal_mk (P := l.prog) (w := w) (K := K) (base := base) FIsBody (ok_isBody FIsBody B U CWithin CIsPart) mIsBody bIsBody
  have CIsFunction := cal_mk (P := l.prog) (w := w) (K := K) (base := base) FIsFunction (ok_isFn FIsFunction B U CIsTupleOf CIsName CIsBody) mIsFunction bIsFunction
  have CIsBuilt := cal_mk (P := l.prog) (w := w) (K := K) (base := base) FIsBuilt (ok_isBuilt FIsBuilt B U CIsTupleOf CIsFunction CIsBody) mIsBuilt bIsBuilt
  have CFirstAgain := cal_mk (P := l.prog) (w := w) (K := K) (base := base) FFirstAgain (ok_first FFirstAgain B) mFirstAgain bFirstAgain
  have CNamesOf := cal_mk (P := l.prog) (w := w) (K := K) (base := base) FNamesOf (ok_namesOf FNamesOf (cal_mk FLetNames (ok_letNames FLetNames CAllIn CRowNames) mLetNames bLetNames)) mNamesOf bNamesOf
  have CLookAtNames := cal_mk (P := l.prog) (w := w) (K := K) (base := base) FLookAtNames (ok_lookN FLookAtNames B CFirstAgain CNamesOf (strns 12)) mLookAtNames bLookAtNames
  have CLooked := cal_mk (P := l.prog) (w := w) (K := K) (base := base) FLooked (ok_looked FLooked CIsBuilt CFirstAgain CAllFunctions CLookAtNames) mLooked bLooked
  have mstr := PySem.W.mg_none_of X G zstr
  have menum := PySem.W.mg_none_of X G zenumerate
  have words : ∀ k, C8.Cal l.prog w K mg base (k + 1) "words_of" (spWords K k) [] := fun k => by
    induction k with
    | zero => exact cal_mk FWordsOf no_words mWordsOf bWordsOf
    | succ k ih => exact cal_mk FWordsOf (ok_words (by omega) FWordsOf B.toBt mstr menum CRowNames CWithin ih) mWordsOf bWordsOf
  have lwords : ∀ k, C8.Cal l.prog w K mg base (k + 1) "_law_words" (spWords K k) [] := fun k => by
    induction k with
    | zero => exact cal_mk FLWords no_words mLWords bLWords
    | succ k ih => exact cal_mk FLWords (ok_lwords (by omega) FLWords B.toBt mstr ih) mLWords bLWords
  have CPartText := cal_mk FPartText (ok_partT (by omega) FPartText (words 12)) mPartText bPartText
  have CFunctionText := cal_mk FFunctionText (ok_fnT (by omega) FFunctionText (words 12)) mFunctionText bFunctionText
  have CWritten := cal_mk FWritten (ok_written FWritten CPartText CFunctionText) mWritten bWritten
  have CLRows := cal_mk FLRows (ok_lrows (by omega) FLRows (lwords 12)) mLRows bLRows
  have CLText := cal_mk (P := l.prog) (w := w) (K := K) (base := base) FLText (ok_ltext FLText) mLText bLText
  have R : RC K C := ⟨⟨pg, hd, po, sa⟩, nN, nW, nA, nP⟩
  have CIsNumberWord := cal_mk (P := l.prog) (w := w) (K := K) (base := base) FIsNumberWord (ok_numW FIsNumberWord B ⟨_, PySem.W.mg_of X G gMOSTFIGURES⟩ ⟨_, PySem.W.mg_of X G gFIGURES⟩) mIsNumberWord bIsNumberWord
  have CRowMake : C8.Mak l.prog w K mg base 1 "Row" C (spInitR C) [] := ⟨_, _, _, [], ⟨mk, aRInit, iRInit, kc⟩, ok_initR FRInit R, PySem.W.mg_of X G aC, bRInit, .nil⟩
  have CRNextWord : C8.Met l.prog w K mg base 1 C "next_word" (spNextW C) [] := ⟨_, _, _, [], R.cl, ⟨aRNextWord, iRNextWord, kRNextWord⟩, ok_nextW FRNextWord R B, bRNextWord, .nil⟩
  have CRLook : C8.Met l.prog w K mg base 1 C "look" (spLook) [] := ⟨_, _, _, [], R.cl, ⟨aRLook, iRLook, kRLook⟩, ok_look FRLook, bRLook, .nil⟩
  have CRTake : C8.Met l.prog w K mg base 2 C "take" (spTakeR C) [] := ⟨_, _, _, [], R.cl, ⟨aRTake, iRTake, kRTake⟩, ok_take FRTake R CRLook, bRTake, .nil⟩
  have CREnd : C8.Met l.prog w K mg base 2 C "end" (spEndR C) [] := ⟨_, _, _, [], R.cl, ⟨aREnd, iREnd, kREnd⟩, ok_endR FREnd R B CRLook, bREnd, .nil⟩
  have CRNextName : C8.Met l.prog w K mg base 3 C "next_name" (spNextN C) [] := ⟨_, _, _, [], R.cl, ⟨aRNextName, iRNextName, kRNextName⟩, ok_nextN FRNextName CIsName CRNextWord CRTake, bRNextName, .nil⟩
  have CRNameBehind : C8.Met l.prog w K mg base 3 C "name_behind" (spNameB C) [] := ⟨_, _, _, [], R.cl, ⟨aRNameBehind, iRNameBehind, kRNameBehind⟩, ok_nameB FRNameBehind CIsName CRNextWord CRTake, bRNameBehind, .nil⟩
  have partR : ∀ k, C8.Met l.prog w K mg base (2 * k + 4) C "part" (spPartR K C k) [] := fun k => by
    induction k with
    | zero => exact ⟨_, _, _, [], R.cl, ⟨aRPart, iRPart, kRPart⟩, no_partR, bRPart, .nil⟩
    | succ k ih =>
      have c1 : C8.Met l.prog w K mg base (2 * k + 4 + 1) C "_let" (spLetR K C k) [] := ⟨_, _, _, [], R.cl, ⟨aRLet, iRLet, kRLet⟩, ok_letR (by omega) FRLet R B U CRNextWord CRTake CRNameBehind ih, bRLet, .nil⟩
      exact ⟨_, _, _, [], R.cl, ⟨aRPart, iRPart, kRPart⟩, ok_partR (by omega) FRPart R B U (PySem.W.mg_of X G aP) DK N CIsNumberWord CRLook CRNextWord CRTake CRNameBehind c1 ih, bRPart, .nil⟩
  have CPartOfRow := cal_mk FPartOfRow (ok_partOf (by omega) FPartOfRow CREnd (partR 12)) mPartOfRow bPartOfRow
  have CFunctionOfRow := cal_mk FFunctionOfRow (ok_fnOf (by omega) FFunctionOfRow B U CRLook CRNextWord CRTake CRNextName CRNameBehind CPartOfRow) mFunctionOfRow bFunctionOfRow
  have CRead := cal_mk FRead (ok_read (by omega) FRead B U CRowMake CRLook CRNextWord CRTake CPartOfRow CFunctionOfRow CLooked) mRead bRead
  have plains : ∀ k, C8.Cal l.prog w K mg base (k + 1) "_law_plain" (spPlain K k) [] := fun k => by
    induction k with
    | zero => exact cal_mk FLPlain no_plain mLPlain bLPlain
    | succ k ih => exact cal_mk FLPlain (ok_plain FLPlain B (PySem.W.mg_none_of X G zzip) ih) mLPlain bLPlain
  exact ok_law (by omega) FLaw B CLPen CLProgram CRead (plains 41) CWritten CLRows CLText
end Lz
open PySem PySem.W PyProof.Rows
set_option maxRecDepth 100000 in
set_option maxHeartbeats 0 in
theorem PySem.Challenge.cw_lazywebs_k71_programs_read_back_holds : PySem.Challenge.rw_lazywebs_k71_programs_read_back.Holds := by
  w_on; o_law; k_head; (case hw => w_witness2)
  k_fill
  refine L2.walk_of (l := PySem.Challenge.rw_lazywebs_k71_programs_read_back) (n := 63) (k := 43) (x := "_law_script") (CX := fun _ => L2.CX0) (sp := fun w => Lz.spLaw _) rfl (by decide) rfl ⟨rfl, by decide, by decide⟩ (fun w h Y => PySem.W.kIn_of Y) ?F (fun _ _ a ns hl _ hS => ⟨a, ns, rfl, hS, hl, fun _ => rfl⟩) (fun _ _ _ _ _ h => h)
  case F =>
    intro w mg fa h KX G hmg
    refine' Lz.all_mk KX G hmg ?aFits ?lFits ?cFits ?kFits ?aIsWhole ?lIsWhole ?cIsWhole ?kIsWhole ?aIsTupleOf ?lIsTupleOf ?cIsTupleOf ?kIsTupleOf ?aRowNames ?lRowNames ?cRowNames ?kRowNames ?aWithin ?lWithin ?cWithin ?kWithin ?aAllIn ?lAllIn ?cAllIn ?kAllIn ?aLetNames ?lLetNames ?cLetNames ?kLetNames ?aAllFunctions ?lAllFunctions ?cAllFunctions ?kAllFunctions ?aIsName ?lIsName ?cIsName ?kIsName ?aIsNumber ?lIsNumber ?cIsNumber ?kIsNumber ?aAreLetRows ?lAreLetRows ?cAreLetRows ?kAreLetRows ?aIsPartByItself ?lIsPartByItself ?cIsPartByItself ?kIsPartByItself ?aIsBody ?lIsBody ?cIsBody ?kIsBody ?aIsFunction ?lIsFunction ?cIsFunction ?kIsFunction ?aIsBuilt ?lIsBuilt ?cIsBuilt ?kIsBuilt ?aFirstAgain ?lFirstAgain ?cFirstAgain ?kFirstAgain ?aNamesOf ?lNamesOf ?cNamesOf ?kNamesOf ?aStrangers ?lStrangers ?cStrangers ?kStrangers ?aLookAtNames ?lLookAtNames ?cLookAtNames ?kLookAtNames ?aLooked ?lLooked ?cLooked ?kLooked ?aIsNumberWord ?lIsNumberWord ?cIsNumberWord ?kIsNumberWord ?aFunctionOfRow ?lFunctionOfRow ?cFunctionOfRow ?kFunctionOfRow ?aPartOfRow ?lPartOfRow ?cPartOfRow ?kPartOfRow ?aRead ?lRead ?cRead ?kRead ?aWordsOf ?lWordsOf ?cWordsOf ?kWordsOf ?aPartText ?lPartText ?cPartText ?kPartText ?aFunctionText ?lFunctionText ?cFunctionText ?kFunctionText ?aWritten ?lWritten ?cWritten ?kWritten ?aLPen ?lLPen ?cLPen ?kLPen ?aLDraw ?lLDraw ?cLDraw ?kLDraw ?aLNames ?lLNames ?cLNames ?kLNames ?aLNumber ?lLNumber ?cLNumber ?kLNumber ?aLLeaf ?lLLeaf ?cLLeaf ?kLLeaf ?aLFits ?lLFits ?cLFits ?kLFits ?aLCall ?lLCall ?cLCall ?kLCall ?aLLet ?lLLet ?cLLet ?kLLet ?aLPart ?lLPart ?cLPart ?kLPart ?aLLoop ?lLLoop ?cLLoop ?kLLoop ?aLBody ?lLBody ?cLBody ?kLBody ?aLProgram ?lLProgram ?cLProgram ?kLProgram ?aLWords ?lLWords ?cLWords ?kLWords ?aLRows ?lLRows ?cLRows ?kLRows ?aLText ?lLText ?cLText ?kLText ?aLPlain ?lLPlain ?cLPlain ?kLPlain ?aLaw ?lLaw ?cLaw ?kLaw ?zlen ?zmax ?zmin ?zabs ?zrange ?zint ?zlist ?ztuple ?zsum ?zisinstance ?zbool ?zenumerate ?zstr ?zall ?zzip ?aP ?lP ?tP ?wP ?h1 ?h2 ?h3 ?h4 ?h5 ?h6 ?h7 ?h8 ?h9 ?n1 ?n2 ?n3 ?gLETTERS ?gMOSTLETTERS ?gMOSTROWS ?gMOSTTHINGS ?gMOSTFUNCTIONS ?gMOSTPARTS ?gMOSTDEEP ?gBEYOND ?aRInit ?iRInit ?lRInit ?cRInit ?kRInit ?aRNextWord ?iRNextWord ?lRNextWord ?cRNextWord ?kRNextWord ?aRLook ?iRLook ?lRLook ?cRLook ?kRLook ?aRTake ?iRTake ?lRTake ?cRTake ?kRTake ?aREnd ?iREnd ?lREnd ?cREnd ?kREnd ?aRNextName ?iRNextName ?lRNextName ?cRNextName ?kRNextName ?aRNameBehind ?iRNameBehind ?lRNameBehind ?cRNameBehind ?kRNameBehind ?aRPart ?iRPart ?lRPart ?cRPart ?kRPart ?aRLet ?iRLet ?lRLet ?cRLet ?kRLet ?aC ?pg ?hd ?po ?sa ?mk ?kc ?nN ?nW ?nA ?nP ?gFIGURES ?gMOSTFIGURES
    (case aFits => k_is); (case lFits => k_is); (case cFits => k_is); (case kFits => k_is)
    (case aIsWhole => k_is); (case lIsWhole => k_is); (case cIsWhole => k_is); (case kIsWhole => k_is)
    (case aIsTupleOf => k_is); (case lIsTupleOf => k_is); (case cIsTupleOf => k_is); (case kIsTupleOf => k_is)
    (case aRowNames => k_is); (case lRowNames => k_is); (case cRowNames => k_is); (case kRowNames => k_is)
    (case aWithin => k_is); (case lWithin => k_is); (case cWithin => k_is); (case kWithin => k_is)
    (case aAllIn => k_is); (case lAllIn => k_is); (case cAllIn => k_is); (case kAllIn => k_is)
    (case aLetNames => k_is); (case lLetNames => k_is); (case cLetNames => k_is); (case kLetNames => k_is)
    (case aAllFunctions => k_is); (case lAllFunctions => k_is); (case cAllFunctions => k_is); (case kAllFunctions => k_is)
    (case aIsName => k_is); (case lIsName => k_is); (case cIsName => k_is); (case kIsName => k_is)
    (case aIsNumber => k_is); (case lIsNumber => k_is); (case cIsNumber => k_is); (case kIsNumber => k_is)
    (case aAreLetRows => k_is); (case lAreLetRows => k_is); (case cAreLetRows => k_is); (case kAreLetRows => k_is)
    (case aIsPartByItself => k_is); (case lIsPartByItself => k_is); (case cIsPartByItself => k_is); (case kIsPartByItself => k_is)
    (case aIsBody => k_is); (case lIsBody => k_is); (case cIsBody => k_is); (case kIsBody => k_is)
    (case aIsFunction => k_is); (case lIsFunction => k_is); (case cIsFunction => k_is); (case kIsFunction => k_is)
    (case aIsBuilt => k_is); (case lIsBuilt => k_is); (case cIsBuilt => k_is); (case kIsBuilt => k_is)
    (case aFirstAgain => k_is); (case lFirstAgain => k_is); (case cFirstAgain => k_is); (case kFirstAgain => k_is)
    (case aNamesOf => k_is); (case lNamesOf => k_is); (case cNamesOf => k_is); (case kNamesOf => k_is)
    (case aStrangers => k_is); (case lStrangers => k_is); (case cStrangers => k_is); (case kStrangers => k_is)
    (case aLookAtNames => k_is); (case lLookAtNames => k_is); (case cLookAtNames => k_is); (case kLookAtNames => k_is)
    (case aLooked => k_is); (case lLooked => k_is); (case cLooked => k_is); (case kLooked => k_is)
    (case aIsNumberWord => k_is); (case lIsNumberWord => k_is); (case cIsNumberWord => k_is); (case kIsNumberWord => k_is)
    (case aFunctionOfRow => k_is); (case lFunctionOfRow => k_is); (case cFunctionOfRow => k_is); (case kFunctionOfRow => k_is)
    (case aPartOfRow => k_is); (case lPartOfRow => k_is); (case cPartOfRow => k_is); (case kPartOfRow => k_is)
    (case aRead => k_is); (case lRead => k_is); (case cRead => k_is); (case kRead => k_is)
    (case aWordsOf => k_is); (case lWordsOf => k_is); (case cWordsOf => k_is); (case kWordsOf => k_is)
    (case aPartText => k_is); (case lPartText => k_is); (case cPartText => k_is); (case kPartText => k_is)
    (case aFunctionText => k_is); (case lFunctionText => k_is); (case cFunctionText => k_is); (case kFunctionText => k_is)
    (case aWritten => k_is); (case lWritten => k_is); (case cWritten => k_is); (case kWritten => k_is)
    (case aLPen => k_is); (case lLPen => k_is); (case cLPen => k_is); (case kLPen => k_is)
    (case aLDraw => k_is); (case lLDraw => k_is); (case cLDraw => k_is); (case kLDraw => k_is)
    (case aLNames => k_is); (case lLNames => k_is); (case cLNames => k_is); (case kLNames => k_is)
    (case aLNumber => k_is); (case lLNumber => k_is); (case cLNumber => k_is); (case kLNumber => k_is)
    (case aLLeaf => k_is); (case lLLeaf => k_is); (case cLLeaf => k_is); (case kLLeaf => k_is)
    (case aLFits => k_is); (case lLFits => k_is); (case cLFits => k_is); (case kLFits => k_is)
    (case aLCall => k_is); (case lLCall => k_is); (case cLCall => k_is); (case kLCall => k_is)
    (case aLLet => k_is); (case lLLet => k_is); (case cLLet => k_is); (case kLLet => k_is)
    (case aLPart => k_is); (case lLPart => k_is); (case cLPart => k_is); (case kLPart => k_is)
    (case aLLoop => k_is); (case lLLoop => k_is); (case cLLoop => k_is); (case kLLoop => k_is)
    (case aLBody => k_is); (case lLBody => k_is); (case cLBody => k_is); (case kLBody => k_is)
    (case aLProgram => k_is); (case lLProgram => k_is); (case cLProgram => k_is); (case kLProgram => k_is)
    (case aLWords => k_is); (case lLWords => k_is); (case cLWords => k_is); (case kLWords => k_is)
    (case aLRows => k_is); (case lLRows => k_is); (case cLRows => k_is); (case kLRows => k_is)
    (case aLText => k_is); (case lLText => k_is); (case cLText => k_is); (case kLText => k_is)
    (case aLPlain => k_is); (case lLPlain => k_is); (case cLPlain => k_is); (case kLPlain => k_is)
    (case aLaw => k_is); (case lLaw => k_is); (case cLaw => k_is); (case kLaw => k_is)
    (case zlen => k_is)
    (case zmax => k_is)
    (case zmin => k_is)
    (case zabs => k_is)
    (case zrange => k_is)
    (case zint => k_is)
    (case zlist => k_is)
    (case ztuple => k_is)
    (case zsum => k_is)
    (case zisinstance => k_is)
    (case zbool => k_is)
    (case zenumerate => k_is)
    (case zstr => k_is)
    (case zall => k_is)
    (case zzip => k_is)
    (case aP => k_is); (case lP => k_is)
    (case tP => exact ⟨⟨_, _, rfl, rfl⟩, ⟨_, _, rfl, rfl⟩, ⟨_, _, rfl, rfl⟩, ⟨_, _, rfl, rfl⟩, ⟨_, _, rfl, rfl⟩, ⟨_, _, rfl, rfl⟩, ⟨_, _, rfl, rfl⟩, ⟨_, _, rfl, rfl⟩, ⟨_, _, rfl, rfl⟩, True.intro⟩)
    (case wP => rfl)
    (case h1 => k_is); (case h2 => k_is); (case h3 => k_is); (case h4 => k_is); (case h5 => k_is); (case h6 => k_is); (case h7 => k_is); (case h8 => k_is); (case h9 => k_is)
    (case n1 => k_is); (case n2 => k_is); (case n3 => k_is)
    (case gLETTERS => k_is); (case gMOSTLETTERS => k_is); (case gMOSTROWS => k_is); (case gMOSTTHINGS => k_is); (case gMOSTFUNCTIONS => k_is); (case gMOSTPARTS => k_is); (case gMOSTDEEP => k_is); (case gBEYOND => k_is)
    (case aC => k_is)
    (case aRInit => k_is); (case iRInit => k_is); (case lRInit => k_is); (case cRInit => k_is); (case kRInit => k_is)
    (case aRNextWord => k_is); (case iRNextWord => k_is); (case lRNextWord => k_is); (case cRNextWord => k_is); (case kRNextWord => k_is)
    (case aRLook => k_is); (case iRLook => k_is); (case lRLook => k_is); (case cRLook => k_is); (case kRLook => k_is)
    (case aRTake => k_is); (case iRTake => k_is); (case lRTake => k_is); (case cRTake => k_is); (case kRTake => k_is)
    (case aREnd => k_is); (case iREnd => k_is); (case lREnd => k_is); (case cREnd => k_is); (case kREnd => k_is)
    (case aRNextName => k_is); (case iRNextName => k_is); (case lRNextName => k_is); (case cRNextName => k_is); (case kRNextName => k_is)
    (case aRNameBehind => k_is); (case iRNameBehind => k_is); (case lRNameBehind => k_is); (case cRNameBehind => k_is); (case kRNameBehind => k_is)
    (case aRPart => k_is); (case iRPart => k_is); (case lRPart => k_is); (case cRPart => k_is); (case kRPart => k_is)
    (case aRLet => k_is); (case iRLet => k_is); (case lRLet => k_is); (case cRLet => k_is); (case kRLet => k_is)
    (case pg => k_is); (case hd => k_is); (case po => k_is); (case sa => k_is); (case mk => k_is); (case kc => k_is); (case nN => k_is); (case nW => k_is); (case nA => k_is); (case nP => k_is); (case gFIGURES => k_is); (case gMOSTFIGURES => k_is)

