import PyProof.Rows.All
import Wide.All
import OpenK.AllK
import Wide.FinOn
import PyProof.EqLayable
import PyProof.P3Eq
import HandS.ForMost
import HandS.IsInst
import HandS.TupAny
import HandS.Wide
import HandS.Codes
import HandS.Text
import HandS.Style
import HandS.SortKw
import HandS.More
import HandS.Star
import HandS.Walk
import HandS.Iter
import KE.DatumOrd
import HandS.Zip
import HandS.DictComp
import HandS.Finally
import KE.KDictZip
import HandS.CallLocal
import PySem.Challenge.RW_lazywebs_k10_steps_one_by_one
set_option Elab.async false
set_option linter.all false
set_option maxRecDepth 100000
set_option maxHeartbeats 4000000
/-! Parts, and what a drawing makes of them: plain Lean. -/
namespace Lz
open PySem

/-! ### data without lists stays what it is -/
mutual
def fz : PyData → Bool
  | .none => true
  | .bool _ => true
  | .int _ => true
  | .str _ => true
  | .tuple xs => fzAll xs
  | .list _ => false
  | .dict _ => false
def fzAll : List PyData → Bool
  | [] => true
  | x :: xs => fz x && fzAll xs
end
theorem fzAll_iff : ∀ {ds : List PyData}, fzAll ds = true ↔ ∀ d, d ∈ ds → fz d = true
  | [] => ⟨fun _ _ h => (nomatch h), fun _ => rfl⟩
  | x :: xs => by
    show (fz x && fzAll xs) = true ↔ _
    rw [Bool.and_eq_true, fzAll_iff]
    refine ⟨fun h d m => ?_, fun h => ⟨h x List.mem_cons_self, fun d m => h d (List.mem_cons_of_mem _ m)⟩⟩
    rcases List.mem_cons.mp m with e | m
    · rw [e]; exact h.1
    · exact h.2 d m
theorem layAll_iff : ∀ {ds : List PyData}, PyData.canLayAll0 ds = true ↔ ∀ d, d ∈ ds → d.canLay0 = true
  | [] => ⟨fun _ _ h => (nomatch h), fun _ => by simp only [PyData.canLayAll0]⟩
  | x :: xs => by
    have e : PyData.canLayAll0 (x :: xs) = (x.canLay0 && PyData.canLayAll0 xs) := by rw [PyData.canLayAll0]
    rw [e, Bool.and_eq_true, layAll_iff]
    refine ⟨fun h d m => ?_, fun h => ⟨h x List.mem_cons_self, fun d m => h d (List.mem_cons_of_mem _ m)⟩⟩
    rcases List.mem_cons.mp m with e | m
    · rw [e]; exact h.1
    · exact h.2 d m
theorem depthAll_le : ∀ {ds : List PyData} {n : Nat}, (∀ d, d ∈ ds → d.depth ≤ n) → PyData.depthAll ds ≤ n
  | [], n, _ => by simp only [PyData.depthAll, Nat.zero_le]
  | x :: xs, n, h => by
    have h1 := h x List.mem_cons_self
    have h2 := depthAll_le (ds := xs) (n := n) fun d m => h d (List.mem_cons_of_mem _ m)
    simp only [PyData.depthAll]
    omega
theorem depth_mem : ∀ {ds : List PyData} {d : PyData}, d ∈ ds → d.depth ≤ PyData.depthAll ds
  | x :: xs, d, h => by
    have e : PyData.depthAll (x :: xs) = max x.depth (PyData.depthAll xs) := by simp only [PyData.depthAll]
    rw [e]
    rcases List.mem_cons.mp h with e | m
    · subst e
      omega
    · have := depth_mem m
      omega
inductive P where
  | num (i : Int)
  | nam (x : Str)
  | fn (x : Str)
  | op (k : Str) (as : List P)
  | lt (nm : List Str) (as : List P) (b : P)

def kinds : List (Str × Nat) := [("give", 2), ("plus", 2), ("less", 2), ("times", 2), ("below", 2), ("when", 3), ("pair", 2), ("left", 1), ("right", 1)]
def nmOk (x : Str) : Prop := 1 ≤ x.length ∧ x.length ≤ 8 ∧ ∀ c, c ∈ x.cps.toList → 97 ≤ c ∧ c ≤ 122
theorem nmOk.strOk {x : Str} (h : nmOk x) : PyData.strOk x = true := by
  unfold PyData.strOk
  rw [Array.all_eq_true_iff_forall_mem]
  intro c hc
  have := h.2.2 c (by simpa using hc)
  exact decide_eq_true (by omega)

def rowD (x : Str) (d : PyData) : PyData := .tuple [.str x, d]
mutual
def P.data : P → PyData
  | .num i => .tuple [.str "number", .int i]
  | .nam x => .tuple [.str "name", .str x]
  | .fn x => .tuple [.str "fun", .str x]
  | .op k as => .tuple (.str k :: P.datas as)
  | .lt nm as b => .tuple [.str "let", .tuple (List.zipWith rowD nm (P.datas as)), P.data b]
def P.datas : List P → List PyData
  | [] => []
  | a :: as => P.data a :: P.datas as
end
theorem datas_map : ∀ as : List P, P.datas as = as.map P.data
  | [] => rfl
  | a :: as => by
    show P.data a :: P.datas as = P.data a :: as.map P.data
    rw [datas_map as]
theorem datas_len (as : List P) : (P.datas as).length = as.length := by rw [datas_map, List.length_map]

mutual
def P.many : P → Nat
  | .op _ as => 1 + P.manys as
  | .lt _ as b => 1 + (P.manys as + P.many b)
  | _ => 1
def P.manys : List P → Nat
  | [] => 0
  | a :: as => P.many a + P.manys as
end
mutual
def P.deep : P → Nat
  | .op _ as => 1 + P.deeps as
  | .lt _ as b => 1 + max (P.deeps as) (P.deep b)
  | _ => 1
def P.deeps : List P → Nat
  | [] => 0
  | a :: as => max (P.deep a) (P.deeps as)
end
mutual
/-- it is a part: kinds, names -/
def P.ok : P → Prop
  | .num _ => True
  | .nam x => nmOk x
  | .fn x => nmOk x
  | .op k as => (k, as.length) ∈ kinds ∧ P.oks as
  | .lt nm as b => nm.length = as.length ∧ (∀ x, x ∈ nm → nmOk x) ∧ P.oks as ∧ P.ok b
def P.oks : List P → Prop
  | [] => True
  | a :: as => P.ok a ∧ P.oks as
end
def P.inn : P → List P
  | .op _ as => as
  | .lt _ as b => as ++ [b]
  | _ => []

theorem oks_iff : ∀ {as : List P}, P.oks as ↔ ∀ a, a ∈ as → a.ok
  | [] => ⟨fun _ _ h => (nomatch h), fun _ => True.intro⟩
  | x :: xs => by
    show (P.ok x ∧ P.oks xs) ↔ _
    rw [oks_iff]
    refine ⟨fun h d m => ?_, fun h => ⟨h x List.mem_cons_self, fun d m => h d (List.mem_cons_of_mem _ m)⟩⟩
    rcases List.mem_cons.mp m with e | m
    · rw [e]; exact h.1
    · exact h.2 d m
theorem manys_append : ∀ as bs : List P, P.manys (as ++ bs) = P.manys as + P.manys bs
  | [], bs => by
    show P.manys bs = 0 + P.manys bs
    omega
  | a :: as, bs => by
    show P.many a + P.manys (as ++ bs) = P.many a + P.manys as + P.manys bs
    rw [manys_append as bs]
    omega
theorem deeps_append : ∀ as bs : List P, P.deeps (as ++ bs) = max (P.deeps as) (P.deeps bs)
  | [], bs => by
    show P.deeps bs = max 0 (P.deeps bs)
    omega
  | a :: as, bs => by
    show max (P.deep a) (P.deeps (as ++ bs)) = max (max (P.deep a) (P.deeps as)) (P.deeps bs)
    rw [deeps_append as bs]
    omega
theorem deeps_mem : ∀ {as : List P} {a : P}, a ∈ as → a.deep ≤ P.deeps as
  | x :: xs, a, h => by
    show a.deep ≤ max x.deep (P.deeps xs)
    rcases List.mem_cons.mp h with e | m
    · subst e
      omega
    · have := deeps_mem m
      omega
theorem deeps_le : ∀ {as : List P} {n : Nat}, (∀ a, a ∈ as → a.deep ≤ n) → P.deeps as ≤ n
  | [], n, _ => Nat.zero_le _
  | x :: xs, n, h => by
    show max x.deep (P.deeps xs) ≤ n
    have h1 := h x List.mem_cons_self
    have h2 := deeps_le (as := xs) (n := n) fun d m => h d (List.mem_cons_of_mem _ m)
    omega
theorem manys_map : ∀ as : List P, P.manys as = (as.map P.many).sum
  | [] => rfl
  | a :: as => by
    show P.many a + P.manys as = _
    rw [manys_map as, List.map_cons, List.sum_cons]
theorem many_inn : ∀ t : P, t.many = 1 + P.manys t.inn
  | .num _ => rfl
  | .nam _ => rfl
  | .fn _ => rfl
  | .op _ _ => rfl
  | .lt nm as b => by
    show 1 + (P.manys as + P.many b) = 1 + P.manys (as ++ [b])
    rw [manys_append]
    rfl
theorem deep_inn : ∀ t : P, t.deep = 1 + P.deeps t.inn
  | .num _ => rfl
  | .nam _ => rfl
  | .fn _ => rfl
  | .op _ _ => rfl
  | .lt nm as b => by
    show 1 + max (P.deeps as) (P.deep b) = 1 + P.deeps (as ++ [b])
    rw [deeps_append]
    show 1 + max (P.deeps as) (P.deep b) = 1 + max (P.deeps as) (max (P.deep b) 0)
    omega
theorem inn_ok : ∀ {t : P}, t.ok → ∀ a, a ∈ t.inn → a.ok
  | .num _, _, _, m => nomatch m
  | .nam _, _, _, m => nomatch m
  | .fn _, _, _, m => nomatch m
  | .op _ as, h, a, m => oks_iff.mp h.2 a m
  | .lt nm as b, h, a, m => by
    rcases List.mem_append.mp (show a ∈ as ++ [b] from m) with m | m
    · exact oks_iff.mp h.2.2.1 a m
    · rw [List.mem_singleton.mp m]
      exact h.2.2.2
theorem many_pos (t : P) : 1 ≤ t.many := by
  rw [many_inn]
  omega
theorem deep_pos (t : P) : 1 ≤ t.deep := by
  rw [deep_inn]
  omega
theorem inn_deep {t a : P} (m : a ∈ t.inn) : a.deep + 1 ≤ t.deep := by
  have := deeps_mem m
  rw [deep_inn t]
  omega
theorem len_manys : ∀ as : List P, as.length ≤ P.manys as
  | [] => Nat.le_refl _
  | a :: as => by
    show as.length + 1 ≤ P.many a + P.manys as
    have h1 := len_manys as
    have h2 := many_pos a
    omega

/-! ### as data: no list, no strange sign, not too deep -/
theorem zip_mem : ∀ {nm : List Str} {ds : List PyData} {d : PyData}, d ∈ List.zipWith rowD nm ds → ∃ x e, x ∈ nm ∧ e ∈ ds ∧ d = rowD x e
  | [], _, _, h => by simp at h
  | _ :: _, [], _, h => by simp at h
  | x :: nm, e :: ds, d, h => by
    rw [List.zipWith_cons_cons] at h
    rcases List.mem_cons.mp h with q | m
    · exact ⟨x, e, List.mem_cons_self, List.mem_cons_self, q⟩
    · obtain ⟨y, f, h1, h2, h3⟩ := zip_mem m
      exact ⟨y, f, List.mem_cons_of_mem _ h1, List.mem_cons_of_mem _ h2, h3⟩
theorem kind_str {k : Str} {n : Nat} (h : (k, n) ∈ kinds) : PyData.strOk k = true := by
  have h0 : kinds.all (fun p => PyData.strOk p.1) = true := by decide +kernel
  exact List.all_eq_true.mp h0 _ h
mutual
theorem data_fz : ∀ t : P, fz t.data = true
  | .num _ => rfl
  | .nam _ => rfl
  | .fn _ => rfl
  | .op k as => datas_fz as
  | .lt nm as b => by
    show (fz (.tuple (List.zipWith rowD nm (P.datas as))) && (fz b.data && true)) = true
    rw [data_fz b, Bool.and_true, Bool.and_true]
    refine fzAll_iff.mpr fun d m => ?_
    obtain ⟨x, e, _, he, rfl⟩ := zip_mem m
    have := fzAll_iff.mp (datas_fz as) e he
    show (fz e && true) = true
    rw [this]
    rfl
theorem datas_fz : ∀ as : List P, fzAll (P.datas as) = true
  | [] => rfl
  | a :: as => by
    show (fz a.data && fzAll (P.datas as)) = true
    rw [data_fz a, datas_fz as]
    rfl
end
theorem lay_tup (xs : List PyData) : (PyData.tuple xs).canLay0 = PyData.canLayAll0 xs := by rw [PyData.canLay0]
theorem lay_str (x : Str) : (PyData.str x).canLay0 = PyData.strOk x := by rw [PyData.canLay0]
theorem lay_cons (x : PyData) (xs : List PyData) : PyData.canLayAll0 (x :: xs) = (x.canLay0 && PyData.canLayAll0 xs) := by rw [PyData.canLayAll0]
theorem lay_nil : PyData.canLayAll0 [] = true := by rw [PyData.canLayAll0]
mutual
theorem data_lay : ∀ t : P, t.ok → t.data.canLay0 = true
  | .num _, _ => by
    show (PyData.tuple [.str "number", .int _]).canLay0 = true
    rw [lay_tup, lay_cons, lay_cons, lay_nil, lay_str]
    simp only [PyData.canLay0]
    decide +kernel
  | .nam x, h => by
    show (PyData.tuple [.str "name", .str x]).canLay0 = true
    rw [lay_tup, lay_cons, lay_cons, lay_nil, lay_str, lay_str, nmOk.strOk (show nmOk x from h)]
    decide +kernel
  | .fn x, h => by
    show (PyData.tuple [.str "fun", .str x]).canLay0 = true
    rw [lay_tup, lay_cons, lay_cons, lay_nil, lay_str, lay_str, nmOk.strOk (show nmOk x from h)]
    decide +kernel
  | .op k as, h => by
    show (PyData.tuple (.str k :: P.datas as)).canLay0 = true
    have h' : (k, as.length) ∈ kinds ∧ P.oks as := h
    rw [lay_tup, lay_cons, lay_str, kind_str h'.1, datas_lay as h'.2]
    rfl
  | .lt nm as b, h => by
    show (PyData.tuple [.str "let", .tuple (List.zipWith rowD nm (P.datas as)), b.data]).canLay0 = true
    have h' : nm.length = as.length ∧ (∀ x, x ∈ nm → nmOk x) ∧ P.oks as ∧ P.ok b := h
    have hr : PyData.canLayAll0 (List.zipWith rowD nm (P.datas as)) = true := layAll_iff.mpr fun d m => by
      obtain ⟨x, e, hx, he, rfl⟩ := zip_mem m
      have q := layAll_iff.mp (datas_lay as h'.2.2.1) e he
      show (PyData.tuple [.str x, e]).canLay0 = true
      rw [lay_tup, lay_cons, lay_cons, lay_nil, lay_str, nmOk.strOk (h'.2.1 x hx), q]
      rfl
    rw [lay_tup, lay_cons, lay_cons, lay_cons, lay_nil, lay_str, lay_tup, hr, data_lay b h'.2.2.2]
    decide +kernel
theorem datas_lay : ∀ as : List P, P.oks as → PyData.canLayAll0 (P.datas as) = true
  | [], _ => lay_nil
  | a :: as, h => by
    have h' : P.ok a ∧ P.oks as := h
    show PyData.canLayAll0 (a.data :: P.datas as) = true
    rw [lay_cons, data_lay a h'.1, datas_lay as h'.2]
    rfl
end
theorem depth_tup (xs : List PyData) : (PyData.tuple xs).depth = PyData.depthAll xs + 1 := by simp only [PyData.depth]; try omega
theorem depth_str (x : Str) : (PyData.str x).depth = 0 := by simp only [PyData.depth]
theorem depthAll_cons (x : PyData) (xs : List PyData) : PyData.depthAll (x :: xs) = max x.depth (PyData.depthAll xs) := by simp only [PyData.depthAll]
mutual
theorem data_depth : ∀ t : P, t.data.depth ≤ 3 * t.deep
  | .num i => by
    show (PyData.tuple [.str "number", .int i]).depth ≤ 3 * 1
    simp only [PyData.depth, PyData.depthAll]
    try omega
  | .nam x => by
    show (PyData.tuple [.str "name", .str x]).depth ≤ 3 * 1
    simp only [PyData.depth, PyData.depthAll]
    try omega
  | .fn x => by
    show (PyData.tuple [.str "fun", .str x]).depth ≤ 3 * 1
    simp only [PyData.depth, PyData.depthAll]
    try omega
  | .op k as => by
    show (PyData.tuple (.str k :: P.datas as)).depth ≤ 3 * (1 + P.deeps as)
    have h1 := datas_depth as
    have h2 := depth_str k
    rw [depth_tup, depthAll_cons]
    omega
  | .lt nm as b => by
    show (PyData.tuple [.str "let", .tuple (List.zipWith rowD nm (P.datas as)), b.data]).depth ≤ 3 * (1 + max (P.deeps as) b.deep)
    have h1 := datas_depth as
    have h2 := data_depth b
    have h3 := depth_str "let"
    have h4 : PyData.depthAll (List.zipWith rowD nm (P.datas as)) ≤ 3 * P.deeps as + 1 := depthAll_le fun d m => by
      obtain ⟨x, e, hx, he, rfl⟩ := zip_mem m
      have q : e.depth ≤ PyData.depthAll (P.datas as) := depth_mem he
      show (PyData.tuple [.str x, e]).depth ≤ _
      have h5 := depth_str x
      rw [depth_tup, depthAll_cons, depthAll_cons]
      simp only [PyData.depthAll]
      omega
    rw [depth_tup, depthAll_cons, depthAll_cons, depthAll_cons, depth_tup]
    simp only [PyData.depthAll]
    omega
theorem datas_depth : ∀ as : List P, PyData.depthAll (P.datas as) ≤ 3 * P.deeps as
  | [] => by
    show PyData.depthAll [] ≤ _
    simp only [PyData.depthAll]
    try omega
  | a :: as => by
    have h1 := data_depth a
    have h2 := datas_depth as
    show PyData.depthAll (a.data :: P.datas as) ≤ 3 * max a.deep (P.deeps as)
    rw [depthAll_cons]
    omega
end
theorem data_shaped {t : P} (h : t.ok) (hd : t.deep ≤ 20) : SeqAt.shaped t.data = true := by
  have h1 := data_depth t
  unfold SeqAt.shaped
  rw [data_lay t h, Bool.true_and]
  exact decide_eq_true (by omega)
theorem datas_shaped {as : List P} (h : P.oks as) (hd : P.deeps as ≤ 20) : SeqAt.shaped (.list (P.datas as)) = true := by
  have h1 := datas_depth as
  have e : (PyData.list (P.datas as)).depth = PyData.depthAll (P.datas as) + 1 := by simp only [PyData.depth]; try omega
  have e2 : (PyData.list (P.datas as)).canLay0 = PyData.canLayAll0 (P.datas as) := by rw [PyData.canLay0]
  unfold SeqAt.shaped
  rw [e2, datas_lay as h, Bool.true_and]
  exact decide_eq_true (by omega)

/-! ### what a drawing makes -/
def gives (f : P) (as : List P) : P := as.foldl (fun a d => .op "give" [a, d]) f
theorem gives_snoc (f : P) (as : List P) (d : P) : gives f (as ++ [d]) = .op "give" [gives f as, d] := by
  unfold gives
  rw [List.foldl_append]
  rfl
/-- parts drawn one behind the other: of the functions W, the scope, the depth, with n parts and the names ss left ahead, n' and ss' behind -/
inductive Dr (W : List (Str × Int)) : List Str → Int → Int → List Str → Int → List Str → List P → Prop
  | nil {sc : List Str} {dp n : Int} {ss : List Str} : Dr W sc dp n ss n ss []
  | num {sc ss ss' : List Str} {dp n n' i : Int} {ds : List P} : i.natAbs < 10 ^ 60 → Dr W sc dp n ss n' ss' ds → Dr W sc dp n ss n' ss' (.num i :: ds)
  | nam {sc ss ss' : List Str} {dp n n' : Int} {x : Str} {ds : List P} : x ∈ sc → Dr W sc dp n ss n' ss' ds → Dr W sc dp n ss n' ss' (.nam x :: ds)
  | fn {sc ss ss' : List Str} {dp n n' w : Int} {f : Str} {ds : List P} : (f, w) ∈ W → Dr W sc dp n ss n' ss' ds → Dr W sc dp n ss n' ss' (.fn f :: ds)
  | call {sc ss ss1 ss' : List Str} {dp n n1 n' w : Int} {f : Str} {as ds : List P} : (f, w) ∈ W → 6 ≤ dp → as.length ≤ 5 → 2 * (as.length : Int) ≤ n →
      Dr W sc (dp - 1 - as.length) (n - 2 * as.length) ss n1 ss1 as → Dr W sc dp n1 ss1 n' ss' ds → Dr W sc dp n ss n' ss' (gives (.fn f) as :: ds)
  | lt {sc nm ss ss1 ss' : List Str} {dp n n1 n' : Int} {as ds : List P} {b : P} {k : Nat} : 1 ≤ dp → 1 ≤ nm.length → nm.length ≤ 4 → ss.drop k = nm.reverse → k + nm.length = ss.length → nm.length = as.length → (nm.length : Int) + 1 ≤ n →
      Dr W (sc ++ nm) (dp - 1) (n - (nm.length + 1)) (ss.take k) n1 ss1 (as ++ [b]) → Dr W sc dp n1 ss1 n' ss' ds → Dr W sc dp n ss n' ss' (.lt nm as b :: ds)
  | op {sc ss ss1 ss' : List Str} {dp n n1 n' : Int} {k : Str} {as ds : List P} : (k, as.length) ∈ kinds → 1 ≤ dp → (as.length : Int) ≤ n →
      Dr W sc (dp - 1) (n - as.length) ss n1 ss1 as → Dr W sc dp n1 ss1 n' ss' ds → Dr W sc dp n ss n' ss' (.op k as :: ds)

theorem Dr.append {W : List (Str × Int)} {sc ss ss1 ss' : List Str} {dp n n1 n' : Int} {as bs : List P} (h : Dr W sc dp n ss n1 ss1 as) : Dr W sc dp n1 ss1 n' ss' bs → Dr W sc dp n ss n' ss' (as ++ bs) := by
  induction h with
  | nil => exact id
  | num a _ ih => exact fun k => .num a (ih k)
  | nam a _ ih => exact fun k => .nam a (ih k)
  | fn a _ ih => exact fun k => .fn a (ih k)
  | call a b c d e _ _ ih => exact fun k => .call a b c d e (ih k)
  | lt a b c d e f g h _ _ ih => exact fun k => .lt a b c d e f g h (ih k)
  | op a b c d _ _ ih => exact fun k => .op a b c d (ih k)
/-- the names left are those ahead, some at the end gone -/
theorem Dr.names {W : List (Str × Int)} {sc ss ss' : List Str} {dp n n' : Int} {ds : List P} (h : Dr W sc dp n ss n' ss' ds) : ∃ m, ss' = ss.take m := by
  induction h with
  | nil => exact ⟨_, List.take_length.symm⟩
  | num _ _ ih => exact ih
  | nam _ _ ih => exact ih
  | fn _ _ ih => exact ih
  | call _ _ _ _ _ _ i1 i2 =>
    obtain ⟨m1, rfl⟩ := i1
    obtain ⟨m2, rfl⟩ := i2
    exact ⟨_, List.take_take⟩
  | lt _ _ _ _ _ _ _ _ _ i1 i2 =>
    obtain ⟨m1, rfl⟩ := i1
    obtain ⟨m2, rfl⟩ := i2
    exact ⟨_, by rw [List.take_take, List.take_take]⟩
  | op _ _ _ _ _ i1 i2 =>
    obtain ⟨m1, rfl⟩ := i1
    obtain ⟨m2, rfl⟩ := i2
    exact ⟨_, List.take_take⟩
theorem Dr.sub {W : List (Str × Int)} {sc ss ss' : List Str} {dp n n' : Int} {ds : List P} (h : Dr W sc dp n ss n' ss' ds) : ∀ x, x ∈ ss' → x ∈ ss := fun x m => by
  obtain ⟨k, rfl⟩ := h.names
  exact List.mem_of_mem_take m
theorem Dr.len {W : List (Str × Int)} {sc ss ss' : List Str} {dp n n' : Int} {ds : List P} (h : Dr W sc dp n ss n' ss' ds) : ss'.length ≤ ss.length := by
  obtain ⟨k, rfl⟩ := h.names
  rw [List.length_take]
  omega
theorem gives_ok : ∀ {as : List P} {f : P}, f.ok → (∀ a, a ∈ as → a.ok) → (gives f as).ok
  | [], _, h, _ => h
  | a :: as, f, h, k => by
    show (gives (.op "give" [f, a]) as).ok
    refine gives_ok ⟨?_, h, k a List.mem_cons_self, True.intro⟩ fun b m => k b (List.mem_cons_of_mem _ m)
    show (("give" : Str), 2) ∈ kinds
    exact List.mem_cons_self
theorem gives_many : ∀ {as : List P} {f : P}, (gives f as).many = f.many + P.manys as + as.length
  | [], f => by
    show f.many = f.many + 0 + 0
    omega
  | a :: as, f => by
    show (gives (.op "give" [f, a]) as).many = f.many + (a.many + P.manys as) + (as.length + 1)
    rw [gives_many]
    show 1 + (f.many + (a.many + 0)) + _ + _ = _
    omega
theorem gives_deep : ∀ {as : List P} {f : P}, (gives f as).deep ≤ max f.deep (P.deeps as) + as.length
  | [], f => by
    show f.deep ≤ max f.deep 0 + 0
    omega
  | a :: as, f => by
    have h := gives_deep (as := as) (f := .op "give" [f, a])
    have e : (P.op "give" [f, a]).deep = 1 + max f.deep (max a.deep 0) := rfl
    show (gives (.op "give" [f, a]) as).deep ≤ max f.deep (max a.deep (P.deeps as)) + (as.length + 1)
    omega
/-- names of functions, of the scope and those left are names -/
structure Nms (W : List (Str × Int)) (sc ss : List Str) : Prop where
  w : ∀ f, f ∈ W → nmOk f.1
  c : ∀ x, x ∈ sc → nmOk x
  s : ∀ x, x ∈ ss → nmOk x
theorem Dr.ok {W : List (Str × Int)} {sc ss ss' : List Str} {dp n n' : Int} {ds : List P} (h : Dr W sc dp n ss n' ss' ds) : Nms W sc ss → ∀ d, d ∈ ds → d.ok := by
  induction h with
  | nil => exact fun _ _ m => nomatch m
  | num _ _ ih =>
    intro N d m
    rcases List.mem_cons.mp m with e | m
    · rw [e]; exact True.intro
    · exact ih N d m
  | nam hx _ ih =>
    intro N d m
    rcases List.mem_cons.mp m with e | m
    · rw [e]; exact N.c _ hx
    · exact ih N d m
  | fn hf _ ih =>
    intro N d m
    rcases List.mem_cons.mp m with e | m
    · rw [e]; exact N.w _ hf
    · exact ih N d m
  | call hf _ _ _ k1 k2 i1 i2 =>
    intro N d m
    rcases List.mem_cons.mp m with e | m
    · rw [e]
      exact gives_ok (N.w _ hf) (i1 N)
    · exact i2 ⟨N.w, N.c, fun x hx => N.s x (k1.sub x hx)⟩ d m
  | @lt sc nm ss ss1 ss' dp n n1 n' as ds b k _ _ _ e1 e2 e3 _ k1 k2 i1 i2 =>
    intro N d m
    have hnm : ∀ x, x ∈ nm → x ∈ ss := fun x hx => by
      have : x ∈ ss.drop k := by rw [e1]; exact List.mem_reverse.mpr hx
      exact List.mem_of_mem_drop this
    rcases List.mem_cons.mp m with e | m
    · have q := i1 ⟨N.w, fun x hx => (List.mem_append.mp hx).elim (N.c x) fun hx => N.s x (hnm x hx), fun x hx => N.s x (List.mem_of_mem_take hx)⟩
      rw [e]
      exact ⟨e3, fun x hx => N.s x (hnm x hx), oks_iff.mpr fun a ha => q a (List.mem_append_left _ ha), q b (List.mem_append_right _ List.mem_cons_self)⟩
    · exact i2 ⟨N.w, N.c, fun x hx => N.s x (List.mem_of_mem_take (k1.sub x hx))⟩ d m
  | op hk _ _ k1 k2 i1 i2 =>
    intro N d m
    rcases List.mem_cons.mp m with e | m
    · rw [e]
      exact ⟨hk, oks_iff.mpr (i1 N)⟩
    · exact i2 ⟨N.w, N.c, fun x hx => N.s x (k1.sub x hx)⟩ d m
theorem Dr.many {W : List (Str × Int)} {sc ss ss' : List Str} {dp n n' : Int} {ds : List P} (h : Dr W sc dp n ss n' ss' ds) : (P.manys ds : Int) = ds.length + (n - n') := by
  induction h with
  | nil =>
    show ((0 : Nat) : Int) = ((0 : Nat) : Int) + _
    omega
  | @num sc ss ss' dp n n' i ds _ _ ih =>
    show ((1 + P.manys ds : Nat) : Int) = ((ds.length + 1 : Nat) : Int) + (n - n')
    omega
  | @nam sc ss ss' dp n n' i ds _ _ ih =>
    show ((1 + P.manys ds : Nat) : Int) = ((ds.length + 1 : Nat) : Int) + (n - n')
    omega
  | @fn sc ss ss' dp n n' i f ds _ _ ih =>
    show ((1 + P.manys ds : Nat) : Int) = ((ds.length + 1 : Nat) : Int) + (n - n')
    omega
  | @call sc ss ss1 ss' dp n n1 n' w f as ds _ _ _ _ _ _ i1 i2 =>
    have e : (gives (.fn f) as).many = 1 + P.manys as + as.length := gives_many
    show (((gives (.fn f) as).many + P.manys ds : Nat) : Int) = ((ds.length + 1 : Nat) : Int) + (n - n')
    rw [e]
    omega
  | @lt sc nm ss ss1 ss' dp n n1 n' as ds b k _ _ _ e1 e2 e3 _ k1 k2 i1 i2 =>
    rw [manys_append] at i1
    have e : P.manys [b] = b.many + 0 := rfl
    rw [List.length_append] at i1
    show ((1 + (P.manys as + b.many) + P.manys ds : Nat) : Int) = ((ds.length + 1 : Nat) : Int) + (n - n')
    have e5 : [b].length = 1 := rfl
    omega
  | @op sc ss ss1 ss' dp n n1 n' kd as ds _ _ _ _ _ i1 i2 =>
    show ((1 + P.manys as + P.manys ds : Nat) : Int) = ((ds.length + 1 : Nat) : Int) + (n - n')
    omega
theorem Dr.less {W : List (Str × Int)} {sc ss ss' : List Str} {dp n n' : Int} {ds : List P} (h : Dr W sc dp n ss n' ss' ds) : n' ≤ n := by
  have := h.many
  have := len_manys ds
  omega
theorem Dr.nonneg {W : List (Str × Int)} {sc ss ss' : List Str} {dp n n' : Int} {ds : List P} (h : Dr W sc dp n ss n' ss' ds) : 0 ≤ n → 0 ≤ n' := by
  induction h with
  | nil => exact id
  | num _ _ ih => exact ih
  | nam _ _ ih => exact ih
  | fn _ _ ih => exact ih
  | call _ _ _ _ _ _ i1 i2 => exact fun h => i2 (i1 (by omega))
  | lt _ _ _ _ _ _ _ _ _ i1 i2 => exact fun h => i2 (i1 (by omega))
  | op _ _ _ _ _ i1 i2 => exact fun h => i2 (i1 (by omega))
theorem Dr.deep {W : List (Str × Int)} {sc ss ss' : List Str} {dp n n' : Int} {ds : List P} (h : Dr W sc dp n ss n' ss' ds) : P.deeps ds ≤ dp.toNat + 1 := by
  induction h with
  | nil => exact Nat.zero_le _
  | num _ _ ih =>
    show max 1 (P.deeps _) ≤ _
    omega
  | nam _ _ ih =>
    show max 1 (P.deeps _) ≤ _
    omega
  | fn _ _ ih =>
    show max 1 (P.deeps _) ≤ _
    omega
  | @call sc ss ss1 ss' dp n n1 n' w f as ds _ _ _ _ _ _ i1 i2 =>
    have e : (gives (.fn f) as).deep ≤ max 1 (P.deeps as) + as.length := gives_deep
    show max (gives (.fn f) as).deep (P.deeps ds) ≤ _
    omega
  | @lt sc nm ss ss1 ss' dp n n1 n' as ds b k _ _ _ e1 e2 e3 _ k1 k2 i1 i2 =>
    rw [deeps_append] at i1
    have e : P.deeps [b] = max b.deep 0 := rfl
    show max (1 + max (P.deeps as) b.deep) (P.deeps ds) ≤ _
    omega
  | @op sc ss ss1 ss' dp n n1 n' kd as ds _ _ _ _ _ i1 i2 =>
    show max (1 + P.deeps as) (P.deeps ds) ≤ _
    omega
theorem kind_plain {k : Str} {n : Nat} (h : (k, n) ∈ kinds) : k ≠ "let" ∧ k ≠ "number" ∧ k ≠ "name" ∧ k ≠ "fun" := by
  have h0 : kinds.all (fun p => decide (p.1 ≠ "let") && decide (p.1 ≠ "number") && decide (p.1 ≠ "name") && decide (p.1 ≠ "fun")) = true := by decide +kernel
  have q := List.all_eq_true.mp h0 _ h
  simp only [Bool.and_eq_true, decide_eq_true_eq] at q
  exact ⟨q.1.1.1, q.1.1.2, q.1.2, q.2⟩
/-- the greatest of the depths -/
theorem deeps_is : ∀ {as : List P} {m : Int}, m ∈ as.map (fun t => (t.deep : Int)) → (∀ y, y ∈ as.map (fun t => (t.deep : Int)) → y ≤ m) → m = (P.deeps as : Int)
  | as, m, h, k => by
    obtain ⟨t, ht, rfl⟩ := List.mem_map.mp h
    have h1 := deeps_mem ht
    have h2 : P.deeps as ≤ t.deep := deeps_le fun a ha => by
      have := k (a.deep : Int) (List.mem_map.mpr ⟨a, ha, rfl⟩)
      omega
    omega
theorem manys_sum : ∀ as : List P, (as.map (fun t => (t.many : Int))).sum = (P.manys as : Int)
  | [] => rfl
  | a :: as => by
    rw [List.map_cons, List.sum_cons, manys_sum as]
    show (a.many : Int) + (P.manys as : Int) = ((a.many + P.manys as : Nat) : Int)
    omega
theorem arity_le {k : Str} {n : Nat} (h : (k, n) ∈ kinds) : 1 ≤ n ∧ n ≤ 3 := by
  have h0 : kinds.all (fun p => decide (1 ≤ p.2) && decide (p.2 ≤ 3)) = true := by decide +kernel
  have q := List.all_eq_true.mp h0 _ h
  simp only [Bool.and_eq_true, decide_eq_true_eq] at q
  exact q
theorem rows_fz {nm : List Str} {as : List P} : fzAll (List.zipWith rowD nm (P.datas as)) = true := fzAll_iff.mpr fun d m => by
  obtain ⟨x, e, _, he, rfl⟩ := zip_mem m
  have := fzAll_iff.mp (datas_fz as) e he
  show (true && (fz e && true)) = true
  rw [this]
  rfl
end Lz

set_option Elab.async false
set_option linter.all false
set_option maxRecDepth 100000
set_option maxHeartbeats 4000000
/-! What is kept while lists of a few addresses change; parts as data; what a drawing may make. -/
namespace Lz
open PySem PySem.Spec PyProof.Rows L2

/-! ### heaps: all is kept but the lists at the addresses of S -/
def Kp (S : List Addr) (H H' : Hp) : Prop := ∀ b o, H b = some o → (b ∈ S → ∀ xs, o ≠ HO.lst xs) → H' b = some o
section
variable {S T : List Addr} {H H1 H2 H' : Hp} {K : PySem.W.Frag} {a b p : Addr} {xs ys : List V} {o : HO}
theorem Kp.refl (S : List Addr) (H : Hp) : Kp S H H := fun _ _ h _ => h
theorem Kp.trans (h : Kp S H H1) (k : Kp S H1 H2) : Kp S H H2 := fun c o e n => k c o (h c o e n) n
theorem Kp.mono (h : Kp S H H') (m : ∀ x, x ∈ S → x ∈ T) : Kp T H H' := fun c o e n => h c o e fun i => n (m c i)
theorem Kp.same (h : Same H H') : Kp S H H' := fun b o e _ => h b o e
theorem Kp.new (h : H p = none) : Kp S H (upd H p o) := fun b x e _ => by
  rw [upd_ne (ne_of_none e h)]
  exact e
theorem Kp.put (h : H p = some (.lst xs)) (m : p ∈ S) : Kp S H (upd H p o) := fun b x e n => by
  by_cases q : b = p
  · subst q
    exact absurd (Option.some.inj (e.symm.trans h)) (n m xs)
  · rw [upd_ne q]
    exact e
theorem Kp.lst (k : Kp S H H') (h : H a = some (.lst xs)) (n : ¬ a ∈ S) : H' a = some (.lst xs) := k a _ h fun m => absurd m n
theorem Kp.tup (k : Kp S H H') (h : H a = some (.tup xs)) : H' a = some (.tup xs) := k a _ h fun _ _ => fun e => nomatch e
theorem Kp.sqT (k : Kp S H H') (h : SqT K H a xs) : SqT K H' a xs := by
  rcases h with (h | ⟨o, h⟩) | h
  · exact .inl (.inl (k.tup h))
  · exact .inl (.inr ⟨o, k a _ h fun _ _ e => nomatch e⟩)
  · exact .inr h
theorem Kp.sqL (k : Kp S H H') (h : SqL K H a xs) (n : ¬ a ∈ S) : SqL K H' a xs := by
  rcases h with (h | ⟨o, h⟩) | h
  · exact .inl (.inl (k.lst h n))
  · exact .inl (.inr ⟨o, k a _ h fun _ _ e => nomatch e⟩)
  · exact .inr h
theorem Kp.free (k : Kp S H H1) (h : H1 p = none) (n : ¬ p ∈ S) : H p = none := by
  cases e : H p with
  | none => rfl
  | some o =>
    have := k p o e fun m => absurd m n
    rw [h] at this
    cases this
/-- an object that H does not know may change -/
theorem Kp.mut (k : Kp S H H') (h : H p = none) : Kp S H (upd H' p o) := fun b x e n => by
  rw [upd_ne (ne_of_none e h)]
  exact k b x e n
theorem same_new (h : H p = none) : Same H (upd H p o) := fun b u q => by
  rw [upd_ne (ne_of_none q h)]
  exact q
end

end Lz
namespace L2
open PySem PySem.Spec PyProof.Rows Lz
section
variable {S : List Addr} {H H' : Hp} {K : PySem.W.Frag}
mutual
theorem Dp.keep (k : Kp S H H') : ∀ (d : PyData) (v : V), fz d = true → Dp K H v d → Dp K H' v d
  | .none, _, _, h => by cases h; exact .non
  | .bool b, _, _, h => by cases h; exact .bl b
  | .int i, _, _, h => by cases h; exact .int i
  | .str x, _, _, h => by cases h; exact .str x
  | .list ds, _, f, _ => by
    have : false = true := f
    cases this
  | .tuple ds, _, f, h => by
    cases h with
    | tup hs ha => exact .tup (k.sqT hs) (Dp.keepAll k ds _ f ha)
  | .dict _, _, _, h => by cases h
theorem Dp.keepAll (k : Kp S H H') : ∀ (ds : List PyData) (vs : List V), fzAll ds = true → DpAll K H vs ds → DpAll K H' vs ds
  | [], _, _, h => by cases h; exact .nil
  | d :: ds, _, f, h => by
    have f' : fz d = true ∧ fzAll ds = true := by
      have : (fz d && fzAll ds) = true := f
      rwa [Bool.and_eq_true] at this
    cases h with
    | cons h1 h2 => exact .cons (Dp.keep k d _ f'.1 h1) (Dp.keepAll k ds _ f'.2 h2)
end
theorem DpAll.length : ∀ {vs : List V} {ds : List PyData}, DpAll K H vs ds → vs.length = ds.length
  | _, _, .nil => rfl
  | _, _, .cons _ t => by rw [List.length_cons, List.length_cons, DpAll.length t]
theorem DpAll.get : ∀ {vs : List V} {ds : List PyData} {i : Nat} {d : PyData}, DpAll K H vs ds → ds[i]? = some d → ∃ v, vs[i]? = some v ∧ Dp K H v d
  | _, _, _, _, .nil, e => by simp at e
  | _, _, 0, _, .cons h _, e => by
    have e' := Option.some.inj e
    subst e'
    exact ⟨_, rfl, h⟩
  | _, _, i + 1, d, .cons _ t, e => by
    obtain ⟨v, h1, h2⟩ := DpAll.get (i := i) (d := d) t e
    exact ⟨v, h1, h2⟩
theorem DpAll.at : ∀ {vs : List V} {ds : List PyData} {i : Nat} {v : V}, DpAll K H vs ds → vs[i]? = some v → ∃ d, ds[i]? = some d ∧ Dp K H v d
  | _, _, _, _, .nil, e => by simp at e
  | _, _, 0, _, .cons h _, e => by
    have e' := Option.some.inj e
    subst e'
    exact ⟨_, rfl, h⟩
  | _, _, i + 1, d, .cons _ t, e => by
    obtain ⟨v, h1, h2⟩ := DpAll.at (i := i) (v := d) t e
    exact ⟨v, h1, h2⟩
theorem DpAll.append : ∀ {vs ws : List V} {ds es : List PyData}, DpAll K H vs ds → DpAll K H ws es → DpAll K H (vs ++ ws) (ds ++ es)
  | _, _, _, _, .nil, t => t
  | _, _, _, _, .cons h s, t => .cons h (DpAll.append s t)
theorem DpAll.one {v : V} {d : PyData} (h : Dp K H v d) : DpAll K H [v] [d] := .cons h .nil
theorem DpAll.take : ∀ {vs : List V} {ds : List PyData} (n : Nat), DpAll K H vs ds → DpAll K H (vs.take n) (ds.take n)
  | _, _, 0, _ => .nil
  | _, _, _ + 1, .nil => .nil
  | _, _, n + 1, .cons h t => .cons h (DpAll.take n t)
theorem DpAll.drop : ∀ {vs : List V} {ds : List PyData} (n : Nat), DpAll K H vs ds → DpAll K H (vs.drop n) (ds.drop n)
  | _, _, 0, h => h
  | _, _, _ + 1, .nil => .nil
  | _, _, n + 1, .cons _ t => DpAll.drop n t
theorem DpAll.strs : ∀ (xs : List Str), DpAll K H (xs.map V.str) (xs.map PyData.str)
  | [] => .nil
  | x :: xs => .cons (.str x) (DpAll.strs xs)
theorem Dp.tup_of {v : V} {ds : List PyData} (h : Dp K H v (.tuple ds)) : ∃ a xs, v = .ref a ∧ SqT K H a xs ∧ DpAll K H xs ds := by
  cases h with
  | tup hs ha => exact ⟨_, _, rfl, hs, ha⟩
theorem Dp.lst_of {v : V} {ds : List PyData} (h : Dp K H v (.list ds)) : ∃ a xs, v = .ref a ∧ SqL K H a xs ∧ DpAll K H xs ds := by
  cases h with
  | lst hs ha => exact ⟨_, _, rfl, hs, ha⟩
theorem Dp.str_of {v : V} {x : Str} (h : Dp K H v (.str x)) : v = .str x := by cases h; rfl
theorem Dp.int_of {v : V} {i : Int} (h : Dp K H v (.int i)) : v = .int i := by cases h; rfl
/-- a new tuple of data -/
theorem Dp.newT {p : Addr} {xs : List V} {ds : List PyData} (hp : H p = none) (h : DpAll K H xs ds) (f : fzAll ds = true) : Dp K (upd H p (.tup xs)) (.ref p) (.tuple ds) :=
  .tup (.inl (.inl upd_same)) (Dp.keepAll (S := []) (Kp.new hp) ds xs f h)
end
end L2

set_option Elab.async false
set_option linter.all false
set_option maxRecDepth 100000
set_option maxHeartbeats 4000000
/-! Texts: letters, names; small facts of lists as data. -/
namespace Lz
open PySem PySem.Spec PyProof.Rows L2
abbrev letters : Str := "abcdefghijklmnopqrstuvwxyz"
theorem letters_at {r : Int} (h0 : 0 ≤ r) (h1 : r < 26) : atI letters.cps.toList r = some (97 + r.toNat) := by
  have h : ∀ j, j < 26 → letters.cps.toList[j]? = some (97 + j) := by decide +kernel
  have q := atI_nat (xs := letters.cps.toList) (h r.toNat (by omega))
  rwa [Int.toNat_of_nonneg h0] at q
theorem letters_len : letters.length ≤ sizeLine := by decide +kernel
theorem glue_list (sep : Str) (hs : sep.cps = #[]) : ∀ (rest : List Str) (acc : Array Nat), (rest.foldl (fun acc p => acc ++ sep.cps ++ p.cps) acc).toList = acc.toList ++ (rest.map (·.cps.toList)).flatten
  | [], acc => by simp
  | x :: r, acc => by
    rw [List.foldl_cons, glue_list sep hs r, hs]
    simp
theorem join_list (ys : List Str) : (Txt.join ("" : Str) ys).cps.toList = (ys.map (·.cps.toList)).flatten := by
  have hs : ("" : Str).cps = #[] := by decide +kernel
  show ((ys.drop 1).foldl (fun acc p => acc ++ ("" : Str).cps ++ p.cps) (ys.headD Str.empty).cps).toList = _
  rw [glue_list _ hs]
  cases ys with
  | nil => rfl
  | cons x r => simp
def one (c : Nat) : Str := ⟨#[c]⟩
theorem join_ones (cs : List Nat) : (Txt.join ("" : Str) (cs.map one)).cps.toList = cs := by
  rw [join_list, List.map_map]
  induction cs with
  | nil => rfl
  | cons c r ih =>
    rw [List.map_cons, List.flatten_cons, ih]
    rfl
theorem sum_ones : ∀ cs : List Nat, ((cs.map one).map (·.length)).sum = cs.length
  | [] => rfl
  | c :: r => by
    rw [List.map_cons, List.map_cons, List.sum_cons, sum_ones r, List.length_cons]
    show 1 + _ = _
    omega
theorem str_len (z : Str) : z.length = z.cps.toList.length := by
  show z.cps.size = _
  simp
theorem str_ext {a b : Str} (h : a.cps.toList = b.cps.toList) : a = b := by
  cases a
  cases b
  simp only [Str.mk.injEq]
  exact Array.toList_inj.mp h
theorem cat_list (a b : Str) : (a ++ b).cps.toList = a.cps.toList ++ b.cps.toList := by
  show (a.cps ++ b.cps).toList = _
  simp
theorem cut_to (z : Str) (k : Nat) : (cutS z none (some (k : Int))).cps.toList = z.cps.toList.take k := by
  unfold cutS
  rw [HT.sIx_none, HT.sIx_nat, str_len]
  simp
theorem cut_from (z : Str) (k : Nat) : (cutS z (some (k : Int)) none).cps.toList = z.cps.toList.drop k := by
  unfold cutS
  rw [HT.sIx_none, HT.sIx_nat, str_len]
  by_cases h : k ≤ z.cps.toList.length
  · rw [Nat.min_eq_left h]
    exact List.take_of_length_le (by rw [List.length_drop]; exact Nat.le_refl _)
  · rw [List.drop_eq_nil_of_le (by omega : z.cps.toList.length ≤ k), List.drop_eq_nil_of_le (by omega)]
    simp
def nameOf (wd : List Nat) (k : Nat) (c : Nat) : Str := ⟨(wd.take k ++ [c] ++ wd.drop (k + 1)).toArray⟩
theorem nameOf_eq {z : Str} {wd : List Nat} {k : Nat} {c : Nat} (hz : z.cps.toList = wd) : (cutS z none (some (k : Int)) ++ (⟨#[c]⟩ : Str)) ++ cutS z (some ((k : Int) + 1)) none = nameOf wd k c := by
  apply str_ext
  have e : ((k : Int) + 1) = ((k + 1 : Nat) : Int) := by omega
  rw [cat_list, cat_list, cut_to, e, cut_from, hz]
  unfold nameOf
  simp
theorem nameOf_ok {wd : List Nat} {k c : Nat} (h1 : 1 ≤ wd.length) (h8 : wd.length ≤ 8) (hk : k < wd.length) (hw : ∀ c, c ∈ wd → 97 ≤ c ∧ c ≤ 122) (hc : 97 ≤ c ∧ c ≤ 122) : nmOk (nameOf wd k c) := by
  have e : (nameOf wd k c).cps.toList = wd.take k ++ [c] ++ wd.drop (k + 1) := by unfold nameOf; simp
  have el : (nameOf wd k c).length = wd.length := by
    rw [str_len, e, List.length_append, List.length_append, List.length_take, List.length_drop, List.length_singleton]
    omega
  refine ⟨by omega, by omega, fun d hd => ?_⟩
  rw [e] at hd
  rcases List.mem_append.mp hd with hd | hd
  · rcases List.mem_append.mp hd with hd | hd
    · exact hw d (List.mem_of_mem_take hd)
    · rw [List.mem_singleton.mp hd]
      exact hc
  · exact hw d (List.mem_of_mem_drop hd)
theorem nameOf_inj {wd : List Nat} {k c d : Nat} (h : nameOf wd k c = nameOf wd k d) : c = d := by
  unfold nameOf at h
  have h' := congrArg (fun z : Str => z.cps.toList) h
  simp at h'
  exact h'
theorem nodup_map_of {α β : Type} {f : α → β} : ∀ {l : List α}, l.Nodup → (∀ a, a ∈ l → ∀ b, b ∈ l → f a = f b → a = b) → (l.map f).Nodup
  | [], _, _ => List.nodup_nil
  | x :: r, h, k => by
    rw [List.nodup_cons] at h
    rw [List.map_cons, List.nodup_cons]
    refine ⟨fun m => ?_, nodup_map_of h.2 fun a ha b hb => k a (List.mem_cons_of_mem _ ha) b (List.mem_cons_of_mem _ hb)⟩
    obtain ⟨y, hy, e⟩ := List.mem_map.mp m
    have := k y (List.mem_cons_of_mem _ hy) x List.mem_cons_self e
    exact h.1 (this ▸ hy)
/-- the names drawn from a word -/
def namesOf (wd : List Nat) (k fi b m : Nat) : List Str := (List.range m).map fun j => nameOf wd k (97 + (fi + b * j) % 26)
theorem namesOf_len (wd : List Nat) (k fi b m : Nat) : (namesOf wd k fi b m).length = m := by
  unfold namesOf
  rw [List.length_map, List.length_range]
theorem namesOf_ok {wd : List Nat} {k fi b m : Nat} (h1 : 1 ≤ wd.length) (h8 : wd.length ≤ 8) (hk : k < wd.length) (hw : ∀ c, c ∈ wd → 97 ≤ c ∧ c ≤ 122) : ∀ x, x ∈ namesOf wd k fi b m → nmOk x := fun x hx => by
  obtain ⟨j, _, rfl⟩ := List.mem_map.mp hx
  exact nameOf_ok h1 h8 hk hw ⟨by omega, by omega⟩
theorem namesOf_nodup {wd : List Nat} {k fi b m : Nat} (hm : m ≤ 26) (hb : b = 1 ∨ b = 3 ∨ b = 5 ∨ b = 7 ∨ b = 9 ∨ b = 11) : (namesOf wd k fi b m).Nodup := by
  refine nodup_map_of List.nodup_range fun i hi j hj e => ?_
  have e' := nameOf_inj e
  have hi' := List.mem_range.mp hi
  have hj' := List.mem_range.mp hj
  rcases hb with rfl | rfl | rfl | rfl | rfl | rfl <;> omega
/-! ### lists as data -/
theorem eqv_nil (xs : List PyData) : PyData.eqv (.list xs) (.list []) = xs.isEmpty := by
  rw [PyData.eqv]
  cases xs with
  | nil => rfl
  | cons x r => rfl
theorem nil_shaped : SeqAt.shaped (.list []) = true := by decide +kernel
theorem strs_shaped {xs : List Str} (h : ∀ x, x ∈ xs → nmOk x) : SeqAt.shaped (.list (xs.map .str)) = true := by
  have e : (PyData.list (xs.map .str)).depth = PyData.depthAll (xs.map .str) + 1 := by simp only [PyData.depth]
  have e2 : (PyData.list (xs.map .str)).canLay0 = PyData.canLayAll0 (xs.map .str) := by rw [PyData.canLay0]
  have h1 : PyData.depthAll (xs.map .str) ≤ 0 := depthAll_le fun d m => by
    obtain ⟨x, _, rfl⟩ := List.mem_map.mp m
    rw [depth_str]
    exact Nat.le_refl _
  have h2 : PyData.canLayAll0 (xs.map .str) = true := layAll_iff.mpr fun d m => by
    obtain ⟨x, hx, rfl⟩ := List.mem_map.mp m
    rw [lay_str]
    exact (h x hx).strOk
  unfold SeqAt.shaped
  rw [e2, h2, Bool.true_and]
  exact decide_eq_true (by omega)
def wD (f : Str × Int) : PyData := .tuple [.str f.1, .int f.2]
theorem wds_shaped {W : List (Str × Int)} (h : ∀ f, f ∈ W → nmOk f.1) : SeqAt.shaped (.list (W.map wD)) = true := by
  have e : (PyData.list (W.map wD)).depth = PyData.depthAll (W.map wD) + 1 := by simp only [PyData.depth]
  have e2 : (PyData.list (W.map wD)).canLay0 = PyData.canLayAll0 (W.map wD) := by rw [PyData.canLay0]
  have h1 : PyData.depthAll (W.map wD) ≤ 1 := depthAll_le fun d m => by
    obtain ⟨x, _, rfl⟩ := List.mem_map.mp m
    show (PyData.tuple [.str x.1, .int x.2]).depth ≤ 1
    simp only [PyData.depth, PyData.depthAll]
    omega
  have h2 : PyData.canLayAll0 (W.map wD) = true := layAll_iff.mpr fun d m => by
    obtain ⟨x, hx, rfl⟩ := List.mem_map.mp m
    show (PyData.tuple [.str x.1, .int x.2]).canLay0 = true
    rw [lay_tup, lay_cons, lay_cons, lay_nil, lay_str, (h x hx).strOk]
    simp only [PyData.canLay0]
    rfl
  unfold SeqAt.shaped
  rw [e2, h2, Bool.true_and]
  exact decide_eq_true (by omega)
theorem wds_fz : ∀ W : List (Str × Int), fzAll (W.map wD) = true
  | [] => rfl
  | _ :: r => by
    show (true && fzAll (r.map wD)) = true
    rw [wds_fz r]
    rfl
theorem strs_fz : ∀ xs : List Str, fzAll (xs.map .str) = true
  | [] => rfl
  | _ :: r => by
    show (true && fzAll (r.map .str)) = true
    rw [strs_fz r]
    rfl
end Lz

set_option Elab.async false
set_option linter.all false
set_option maxRecDepth 100000
set_option maxHeartbeats 4000000
/-! The rules by a written part that is named: so they serve within a comprehension too. -/
namespace Lz
open PySem PySem.Spec PyProof.Rows L2
section
variable {X : Cx} {K : PySem.W.Frag}
theorem ix_listK (h : X.K = K) : IxR X (rIxL K) := by subst h; exact ix_list
theorem ix_tupK (h : X.K = K) : IxR X (rIxT K) := by subst h; exact ix_tup
theorem sl_listK (h : X.K = K) : SlR X (rSlL K) := by subst h; exact sl_list
theorem sl_tupAK (h : X.K = K) : SlR X (rSlA K) := by subst h; exact sl_tupA
theorem op_eqDK (h : X.K = K) (hu : X.A.units + 64 < cLine) : OpR X (compareOp .Eq) (rEqD K) := by subst h; exact op_eqD hu
theorem op_neDK (h : X.K = K) (hu : X.A.units + 64 < cLine) : OpR X (compareOp .NotEq) (rNeD K) := by subst h; exact op_neD hu
theorem op_catAK (h : X.K = K) : OpR X (binaryOp .Add) (rCatA K) := by subst h; exact op_catA
theorem op_inK (h : X.K = K) : OpR X (compareOp .In) (rIn K false) := by subst h; exact op_in_seq
theorem op_notInK (h : X.K = K) : OpR X (compareOp .NotIn) (rIn K true) := by subst h; exact op_notIn_seq
def rLenS (K : PySem.W.Frag) : List V → Hp → VK → Prop := fun xs H Q => ∃ p ys, xs = [.ref p] ∧ (SqL K H p ys ∨ SqT K H p ys) ∧ Q (.int ys.length) H
theorem call_lenK (h : X.K = K) : CallR X (.builtin "len") (rLenS K) := by subst h; exact call_len_seq
def rListOf (K : PySem.W.Frag) : List V → Hp → VK → Prop := fun xs H Q => ∃ p ys, xs = [.ref p] ∧ (SqL K H p ys ∨ SqT K H p ys) ∧ ∀ l, H l = none → Q (.ref l) (upd H l (.lst ys))
theorem call_listK (h : X.K = K) : CallR X (.type "list") (rListOf K) := by subst h; exact call_list_of
def rTupOf (K : PySem.W.Frag) : List V → Hp → VK → Prop := fun xs H Q => ∃ p ys, xs = [.ref p] ∧ ((SqL K H p ys ∧ ∀ l, H l = none → Q (.ref l) (upd H l (.tup ys))) ∨ (SqT K H p ys ∧ Q (.ref p) H))
theorem call_tupleK (h : X.K = K) : CallR X (.type "tuple") (rTupOf K) := by subst h; exact call_tuple_of
theorem call_isK (h : X.K = K) : CallR X (.builtin "isinstance") (rIsi K) := by subst h; exact call_isi
theorem call_sumK (h : X.K = K) (hc : X.calm = true) : CallR X (.builtin "sum") (rSum K) := by subst h; exact cr_sum hc
theorem call_maxK (h : X.K = K) (hc : X.calm = true) : CallR X (.builtin "max") (rMax K) := by subst h; exact cr_max hc
theorem call_allK (h : X.K = K) (hc : X.calm = true) : CallR X (.builtin "all") (rAll K) := by subst h; exact cr_all hc
def tTruK (K : PySem.W.Frag) (ta : TE) : TT := fun σ H Q => ta σ H fun x H' => ∃ k, TruV K x H' k ∧ Q k H'
theorem pt_truthK {a : Expr} {ta : TE} (h : X.K = K) (ha : PE X a ta) (he : ∀ whole, isTrue a X.env whole = (do let v ← whole; standAt a.pos; holding [v] (truthy v))) : PT X a (tTruK K ta) := by subst h; exact pt_truth ha he
theorem pe_bm0K {T id : String} {name : Str} {r : V → List V → Hp → VK → Prop} {o : Expr} {to : TE} {apos cpos : Pos} (h : X.K = K) (pa : PlainAttrs T) (slot : Slot T name id) (hty : typeOf (.builtin id) = pure (.type "method_descriptor")) (hm : MtR X id r) (ho : PE X o to)
    (hbase : attributeBase o name X.env (eval o X.env) = eval o X.env := by rfl) (hline : (apos.endLine == cpos.line) = true := by rfl) : PE X (.Call (.Attribute o name apos) [] [] cpos) (tBM0 K T r to) := by
  subst h
  exact pe_bm0 pa slot hty hm ho hbase hline
theorem pe_bmK {T id : String} {name : Str} {r : V → List V → Hp → VK → Prop} {o e : Expr} {es : List Expr} {to : TE} {t : TA} {apos cpos : Pos} (h : X.K = K) (pa : PlainAttrs T) (slot : Slot T name id) (hty : typeOf (.builtin id) = pure (.type "method_descriptor")) (hm : MtR X id r) (ho : PE X o to) (ha : PA X (e :: es) t)
    (hbase : attributeBase o name X.env (eval o X.env) = eval o X.env := by rfl)
    (hfew : ((backTo cpos (starEach (e :: es) X.env)).all (fun x => !x.1) && (backToKw cpos (keywordEach [] X.env)).all (fun x => x.1.isSome)
      && decide ((e :: es).length + ([] : List Keyword).length + (if ([] : List Keyword).isEmpty then 0 else 1) < 30)) = true := by rfl)
    (hline : (apos.endLine == cpos.line) = true := by rfl) (hs : starEach (e :: es) X.env = (false, eval e X.env) :: starEach es X.env := by rfl) (hplain : (backTo cpos (starEach es X.env)).any (·.1) = false := by rfl) :
    PE X (.Call (.Attribute o name apos) (e :: es) [] cpos) (tBM K T r to t) := by
  subst h
  exact pe_bm pa slot hty hm ho ha hbase hfew hline hs hplain
theorem pi_listK {tg l : Expr} {tl : TE} (h : X.K = K) (hl : PE X l tl) : PI X tg l (iList K tl) := by subst h; exact pi_list hl
theorem pi_tupK {tg l : Expr} {tl : TE} (h : X.K = K) (hl : PE X l tl) : PI X tg l (iTup K tl) := by subst h; exact pi_tup hl
theorem pg_tupK {es : List Expr} {k : Nat} {t : TGs} {n : Nat} {pos : Pos} (h : X.K = K) (hc : X.calm = true) (hs : PGs X es t)
    (hn : (assignEach es X.env).length = n := by rfl) (hst : (assignEach es X.env).findIdx? (·.1) = none := by rfl) : PG X (.Tuple es k pos) (gTup K n t) := by subst h; exact pg_tup hc hs hn hst
/-- max(l, default=d) of whole numbers -/
def rMaxDef (K : PySem.W.Frag) : List V → List V → Hp → VK → Prop := fun xs zs H Q => ∃ (a : Addr) (ns : List Int) (d : Int), xs = [.ref a] ∧ zs = [.int d] ∧ SqL K H a (ns.map V.int) ∧ (ns = [] → Q (.int d) H) ∧ ∀ m, m ∈ ns → (∀ y, y ∈ ns → y ≤ m) → Q (.int m) H
theorem maxOf_facts : ∀ (ys : List Int) (y : Int), PySem.W.maxOf y ys ∈ y :: ys ∧ ∀ z, z ∈ y :: ys → z ≤ PySem.W.maxOf y ys
  | [], y => ⟨List.mem_cons_self, fun z m => by rw [List.mem_singleton.mp m]; exact Int.le_refl _⟩
  | x :: r, y => by
    have e : PySem.W.maxOf y (x :: r) = PySem.W.maxOf (if y < x then x else y) r := by
      show List.foldl _ (if decide (y < x) = true then x else y) r = _
      by_cases h : y < x
      · rw [if_pos (decide_eq_true h), if_pos h]
        rfl
      · rw [if_neg (fun q => h (of_decide_eq_true q)), if_neg h]
        rfl
    obtain ⟨h1, h2⟩ := maxOf_facts r (if y < x then x else y)
    rw [e]
    have h3 := h2 _ List.mem_cons_self
    generalize PySem.W.maxOf (if y < x then x else y) r = M at h1 h2 h3 ⊢
    refine ⟨?_, fun z m => ?_⟩
    · rcases List.mem_cons.mp h1 with q | q
      · rw [q]
        split
        · exact List.mem_cons_of_mem _ List.mem_cons_self
        · exact List.mem_cons_self
      · exact List.mem_cons_of_mem _ (List.mem_cons_of_mem _ q)
    · rcases List.mem_cons.mp m with q | m
      · rw [q]
        split at h3 <;> omega
      · rcases List.mem_cons.mp m with q | m
        · rw [q]
          split at h3 <;> omega
        · exact h2 z (List.mem_cons_of_mem _ m)
theorem reads_ints {h : Heap} : ∀ {ns : List Int} {us : List Value}, Vals (ns.map V.int) us → ∃ as, ReadsAll h us (ns.map PyData.int) as
  | [], _, r => by cases r; exact ⟨_, .nil⟩
  | n :: ns, _, r => by
    cases r with
    | cons r1 r2 =>
      obtain ⟨t, rfl⟩ := r1
      obtain ⟨as, q⟩ := reads_ints r2
      exact ⟨_, .cons (.int n t) q⟩
theorem cr_maxDef (hc : X.calm = true) (hu : X.A.units + 64 < cLine) : CallRK X (.builtin "max") [Str.ofString "default"] (rMaxDef X.K) := by
  intro pins s σ H xs zs us ws Q I rx rz h
  obtain ⟨a, ns, d, rfl, rfl, hs, h0, h1⟩ := h
  obtain ⟨its, rv, hl, _⟩ := I.list hs
  rw [Vals.ref1 rx]
  cases rz with
  | cons r1 r2 =>
    cases r2
    obtain ⟨t, rfl⟩ := r1
    refine PySem.W.max_list_datum_default (α := Int) (xs := ns) (I.ok.hd hc) hl.isList (reads_ints rv) (by show X.A.units + 1 + 0 < cLine; omega) (fun e h' tk hk => ⟨.int d, H, I.kept hk, ⟨_, rfl⟩, h0 e⟩) fun y ys i v h' tk e hi hh hk => ?_
    obtain ⟨as, hr⟩ := hh
    obtain ⟨f1, f2⟩ := maxOf_facts ys y
    have hv : ∃ t, v = Value.int (PySem.W.maxOf y ys) t := by
      generalize PySem.W.maxOf y ys = m at hr
      have hr' : Reads h' v (.int m) as := hr
      cases hr'
      exact ⟨_, rfl⟩
    obtain ⟨t', rfl⟩ := hv
    exact ⟨.int _, H, I.kept hk, ⟨_, rfl⟩, h1 _ (by rw [e]; exact f1) (by rw [e]; exact f2)⟩
theorem call_maxDefK (h : X.K = K) (hc : X.calm = true) (hu : X.A.units + 64 < cLine) : CallRK X (.builtin "max") [Str.ofString "default"] (rMaxDef K) := by subst h; exact cr_maxDef hc hu
theorem op_in_kdK {d : Addr} {es : Array DictEntry} {n : Nat} (h : X.K = K) (D : KDict X.K X.w d es n) : OpR X (compareOp .In) (fun x y H Q => ∃ (z : Str) (r : Option Value), x = .str z ∧ y = .ref d ∧ PySem.W.nsIn K d z = some r ∧ Q (.bl r.isSome) H) := by subst h; exact op_in_kd D
theorem pi_enumK {e : Expr} {ta : TA} {p pos tpos : Pos} {elts : List Expr} {kk : Nat} (h : X.K = K) (hg : Gl X "enumerate") (hm : X.mg "enumerate" = none) (ha : PA X [e] ta) (hs : starEach [e] X.env = [(false, eval e X.env)] := by rfl) :
    PI X (.Tuple elts kk tpos) (.Call (.Name "enumerate" p) [e] [] pos) (iEnum K ta) := by subst h; exact pi_enum hg hm ha hs
theorem mt_indexK (h : X.K = K) : MtR X "list.index" (rIndex K) := by subst h; exact mt_index
end
end Lz
namespace StX
open PySem L2
theorem pa_starK {X : Cx} {K : PySem.W.Frag} {e : Expr} {es : List Expr} {p : Pos} {te : TE} {t : TA} (h : X.K = K) (he : PE X e te) (hr : PA X es t) (hs : starEach (.Starred e p :: es) X.env = (true, eval e X.env) :: starEach es X.env := by rfl) : PA X (.Starred e p :: es) (tStar K te t) := by subst h; exact pa_star he hr hs
end StX

set_option Elab.async false
set_option linter.all false
set_option maxRecDepth 100000
set_option maxHeartbeats 4000000
namespace Lz
open PySem PySem.Spec PyProof.Rows L2
def topS (i : Nat) : Stmt := PySem.Challenge.pw_lazywebs_k10_steps_one_by_one.main.body.getD i (.Pass ⟨0, 0, 0, 0⟩)
/-- the built-ins are still there -/
structure Bt (mg : Str → Option Value) : Prop where
  len : mg "len" = none
  max : mg "max" = none
  min : mg "min" = none
  abs : mg "abs" = none
  range : mg "range" = none
  int : mg "int" = none
  list : mg "list" = none
  tuple : mg "tuple" = none
  sum : mg "sum" = none
  isinstance : mg "isinstance" = none

/-- a pen at p, its cells at a -/
def PenAt (H : Hp) (p a : Addr) : Prop := ∃ (ns : List Int) (t q : Int), H p = some (.lst [.ref a, .int t, .int q]) ∧ H a = some (.lst (ns.map V.int)) ∧ ns.length ≤ 63 ∧ 0 ≤ t ∧ 0 ≤ q
theorem PenAt.ne {H : Hp} {p a : Addr} (h : PenAt H p a) : a ≠ p := by
  obtain ⟨ns, t, q, h1, h2, _⟩ := h
  refine ne_of h2 h1 fun e => ?_
  have e' := HO.lst.inj e
  cases ns with
  | nil => cases e'
  | cons x r => cases e'
theorem PenAt.keep {S : List Addr} {H H' : Hp} {p a : Addr} (h : PenAt H p a) (k : Kp S H H') (hp : ¬ p ∈ S) (ha : ¬ a ∈ S) : PenAt H' p a := by
  obtain ⟨ns, t, q, h1, h2, h3⟩ := h
  exact ⟨ns, t, q, k.lst h1 hp, k.lst h2 ha, h3⟩
theorem PenAt.mut {H : Hp} {p a D : Addr} {o : HO} (h : PenAt H p a) (hp : D ≠ p) (ha : D ≠ a) : PenAt (upd H D o) p a := by
  obtain ⟨ns, t, q, h1, h2, h3⟩ := h
  exact ⟨ns, t, q, by rw [upd_ne hp.symm]; exact h1, by rw [upd_ne ha.symm]; exact h2, h3⟩
theorem PenAt.new {H : Hp} {p a D : Addr} {o : HO} (h : PenAt H p a) (hD : H D = none) : PenAt (upd H D o) p a := h.keep (S := []) (Kp.new hD) (fun h => nomatch h) (fun h => nomatch h)
theorem PenAt.apart {H : Hp} {p a D : Addr} (h : PenAt H p a) (hD : H D = none) : D ≠ p ∧ D ≠ a := by
  obtain ⟨ns, t, q, h1, h2, h3⟩ := h
  exact ⟨(ne_of_none h1 hD).symm, (ne_of_none h2 hD).symm⟩
theorem not1 {p D : Addr} (h : D ≠ p) : ¬ D ∈ [p] := fun m => h (List.mem_singleton.mp m)
theorem cal_mk {P : Program} {w : World} {K : PySem.W.Frag} {mg : Str → Option Value} {base : Heap} {k : Nat} {x : Str} {st : Stmt} {f : Addr} {fd : FuncData} {ps : List Str} {sp : Sp} (F : Fun K x x st f fd) (G : FnOk P w K mg base CX0 k f fd ps sp) (m : mg x = some (.ref f)) (b : Binds K fd ps []) : C8.Cal P w K mg base k x sp [] :=
  ⟨⟨f, fd, ps, [], G, m, F.kp, b, .nil⟩⟩
def spDraw (K : PySem.W.Frag) : Sp := fun vs H Q _ => ∃ (p a : Addr) (m : Int), vs = [.ref p, .int m] ∧ PenAt H p a ∧ 1 ≤ m ∧ m.natAbs < 2 ^ 250 ∧
  ∀ r H', Kp [p] H H' → PenAt H' p a → 0 ≤ r → r < m → Q (.int r) H'
section
variable {P : Program} {w : World} {K : PySem.W.Frag} {mg : Str → Option Value} {base : Heap} {f : Addr} {fd : FuncData}
abbrev sLDraw : Stmt := topS 33
theorem scLDraw : FnScope ["_law_pen_here", "_law_many", "_law_digit", "_law_at", "_law_cell", "_law_prime", "_law_number_here"] ["_law_pen_here", "_law_many"] (defScope sLDraw) := ⟨rfl, rfl, rfl, by decide +kernel, rfl, by decide +kernel, by decide +kernel⟩
theorem pen_put {H : Hp} {p a : Addr} {ns : List Int} {t q t' q' : Int} (h1 : H p = some (.lst [.ref a, .int t, .int q])) (h2 : H a = some (.lst (ns.map V.int))) (h3 : ns.length ≤ 63) (ht : 0 ≤ t') (hq : 0 ≤ q') : PenAt (upd H p (.lst [.ref a, .int t', .int q'])) p a := by
  have na : a ≠ p := ne_of h2 h1 fun e => by
    have e' := HO.lst.inj e
    cases ns with
    | nil => cases e'
    | cons x r => cases e'
  exact ⟨ns, t', q', upd_same, by rw [upd_ne na]; exact h2, h3, ht, hq⟩
theorem ok_draw (F : Fun K "_law_draw" "_law_draw" sLDraw f fd) (B : Bt mg) : FnOk P w K mg base CX0 1 f fd ["_law_pen_here", "_law_many"] (spDraw K) := by
  have ml := B.len
  have mmax := B.max
  have mabs := B.abs
  refine F.ok scLDraw (fun vs H Q E h => ?_) (fun cdv A outer s H vs Q E hr h => ?_)
  · obtain ⟨p, a, m, rfl, _⟩ := h
    rfl
  obtain ⟨p, a, m, rfl, hpen, hm1, hm2, k⟩ := h
  obtain ⟨ns, t, q, h1, h2, h3, ht, hq⟩ := id hpen
  have hpos : (0 : Int) < m := by omega
  have hw : CDivW q m := wide_div hpos hm2 (by decide) (by decide)
  refine ⟨_, (pss_cons (ps_if (pt_cmpR op_gt (pe_ix (ix_listK (K := K) rfl) (pv 0) pe_int (fun _ _ => rfl)) pe_int (nomark _)) (pss_cons (ps_set (i := 2) scLDraw.nd rfl (.inl rfl) (pe_op op_mod (pe_ix (ix_listK (K := K) rfl) (pv 0) pe_int (fun _ _ => rfl)) (pv 1)))
    (pss_cons (ps_asg (pe_op op_fdivW (pe_ix (ix_listK (K := K) rfl) (pv 0) pe_int (fun _ _ => rfl)) (pv 1)) (pg_sub (pv 0) pe_int set_list))
    (pss_one (ps_ret (pv 2))))) pss_nil)
    (pss_cons (ps_set (i := 3) scLDraw.nd rfl (.inl rfl) (pe_ix (ix_listK (K := K) rfl) (pv 0) pe_int (fun _ _ => rfl)))
    (pss_cons (ps_asg (pe_op op_add (pv 3) pe_int) (pg_sub (pv 0) pe_int set_list))
    (pss_cons (ps_set (i := 4) scLDraw.nd rfl (.inl rfl) (pe_ix (ix_listK (K := K) rfl) (pe_op op_cat (pe_ix (ix_listK (K := K) rfl) (pv 0) pe_int (fun _ _ => rfl)) (pe_lst (pa_cons pe_int pa_nil))) (pe_op op_mod (pv 3) (pe_callB (call_max2 rfl) (by rfl) mmax (by decide +kernel) (pa_cons pe_int (pa_cons (pe_callB (call_lenK (K := K) rfl) (by rfl) ml PySem.boot_len (pa_cons (pe_ix (ix_listK (K := K) rfl) (pv 0) pe_int (fun _ _ => rfl)) pa_nil)) pa_nil)))) (fun _ _ => rfl)))
    (C8.pss_cut (ps_if (PW.pt (pw_and (pt_cmpR op_lt (pv 3) (pe_callB (call_lenK (K := K) rfl) (by rfl) ml PySem.boot_len (pa_cons (pe_ix (ix_listK (K := K) rfl) (pv 0) pe_int (fun _ _ => rfl)) pa_nil)) (nomark _)) (pw_and1 (pt_cmpR op_ge (pe_callB call_abs (by rfl) mabs (by decide +kernel) (pa_cons (pv 4) pa_nil)) (pe_op op_pow pe_int pe_int) (nomark _))))) (pss_cons (ps_asg (pe_op op_fdivW (pe_callB call_abs (by rfl) mabs (by decide +kernel) (pa_cons (pv 4) pa_nil)) (pv 1)) (pg_sub (pv 0) pe_int set_list))
    (pss_one (ps_ret (pe_op op_mod (pe_callB call_abs (by rfl) mabs (by decide +kernel) (pa_cons (pv 4) pa_nil)) (pv 1))))) pss_nil)
    (pss_cons (ps_set (i := 5) scLDraw.nd rfl (.inl rfl) (pe_ix (ix_listK (K := K) rfl) (pe_lst (pa_cons pe_int (pa_cons pe_int (pa_cons pe_int (pa_cons pe_int (pa_cons pe_int (pa_cons pe_int (pa_cons pe_int pa_nil)))))))) (pe_op op_mod (pv 3) pe_int) (fun _ _ => rfl)))
    (pss_cons (ps_set (i := 6) scLDraw.nd rfl (.inl rfl) (pe_op op_mod (pe_op op_mul (pe_op op_add (pe_op op_add (pe_op op_mod (pv 4) pe_int) (pe_op op_mul pe_int (pv 3))) pe_int) pe_int) (pv 5)))
    (pss_cons (ps_set (i := 6) scLDraw.nd rfl (.inl rfl) (pe_op op_mod (pe_op op_add (pe_op op_add (pe_op op_mul (pv 6) (pv 6)) (pe_op op_mul pe_int (pv 6))) (pv 3)) pe_int))
    (pss_cons (ps_set (i := 6) scLDraw.nd rfl (.inl rfl) (pe_op op_mod (pe_op op_mul (pv 6) pe_int) pe_int))
    (C8.pss_cut (ps_if (pt_cmpR op_gt (pv 1) (pe_op op_pow pe_int pe_int) (nomark _)) (pss_one (ps_set (i := 6) scLDraw.nd rfl (.inl rfl) (pe_op op_pow (pv 6) pe_int))) pss_nil)
    (pss_one (ps_ret (pe_op op_mod (pe_op op_fdiv (pv 6) pe_int) (pv 1)))))))))))))), ?_⟩
  refine ⟨_, rfl, p, _, _, _, rfl, rfl, SqL.of h1, at_of (j := 2) rfl rfl, _, _, rfl, rfl, _, rfl, ?_⟩
  refine ite2 (fun c => ?_) (fun c => ?_)
  · refine ⟨_, rfl, p, _, _, _, rfl, rfl, SqL.of h1, at_of (j := 2) rfl rfl, _, rfl, _, _, rfl, rfl, hpos, ?_⟩
    refine ⟨_, rfl, p, _, _, _, rfl, rfl, SqL.of h1, at_of (j := 2) rfl rfl, _, rfl, _, _, rfl, rfl, hw, ?_⟩
    refine ⟨_, rfl, p, _, _, 2, rfl, rfl, h1, rfl, _, rfl, ?_⟩
    exact k _ _ (Kp.put h1 List.mem_cons_self) (pen_put h1 h2 h3 ht (Int.ediv_nonneg hq (by omega))) (Int.emod_nonneg _ (by omega)) (Int.emod_lt_of_pos _ hpos)
  · have na : a ≠ p := hpen.ne
    -- at = pen[1]; pen[1] = at + 1
    refine ⟨_, rfl, p, _, _, _, rfl, rfl, SqL.of h1, at_of (j := 1) rfl rfl, ?_⟩
    refine ⟨_, rfl, _, _, rfl, rfl, _, rfl, p, _, _, 1, rfl, rfl, h1, rfl, ?_⟩
    have hp1 : (upd H p (.lst [.ref a, .int (t + 1), .int q])) p = some (.lst [.ref a, .int (t + 1), .int q]) := upd_same
    have ha1 : (upd H p (.lst [.ref a, .int (t + 1), .int q])) a = some (.lst (ns.map V.int)) := by rw [upd_ne na]; exact h2
    have k1 : Kp [p] H (upd H p (.lst [.ref a, .int (t + 1), .int q])) := Kp.put h1 List.mem_cons_self
    show tSeq _ _ _ _ (upd H p (.lst [.ref a, .int (t + 1), .int q]))
    generalize upd H p (.lst [.ref a, .int (t + 1), .int q]) = H1 at hp1 ha1 k1
    -- cell
    refine ⟨_, rfl, p, _, _, _, rfl, rfl, SqL.of hp1, at_of (j := 0) rfl rfl, (by show 1 ≤ sizeLine; decide), fun l hl => ?_⟩
    have nla : a ≠ l := ne_of_none ha1 hl
    refine ⟨a, l, _, _, rfl, rfl, by rw [upd_ne nla]; exact ha1, upd_same, (by rw [List.length_map, List.length_singleton]; exact Nat.le_of_lt (small1000 (by omega))), fun l2 hl2 => ?_⟩
    have k2 : Kp [p] H1 (upd (upd H1 l (.lst [.int 7])) l2 (.lst (ns.map V.int ++ [.int 7]))) := (Kp.new hl).trans (Kp.new hl2)
    have hp2 : (upd (upd H1 l (.lst [.int 7])) l2 (.lst (ns.map V.int ++ [.int 7]))) p = some (.lst [.ref a, .int (t + 1), .int q]) := by
      have e1 : p ≠ l := ne_of_none hp1 hl
      have e2 : (upd H1 l (.lst [.int 7])) p = some (.lst [.ref a, .int (t + 1), .int q]) := by rw [upd_ne e1]; exact hp1
      rw [upd_ne (ne_of_none e2 hl2)]
      exact e2
    have ha2 : (upd (upd H1 l (.lst [.int 7])) l2 (.lst (ns.map V.int ++ [.int 7]))) a = some (.lst (ns.map V.int)) := by
      have e2 : (upd H1 l (.lst [.int 7])) a = some (.lst (ns.map V.int)) := by rw [upd_ne nla]; exact ha1
      rw [upd_ne (ne_of_none e2 hl2)]
      exact e2
    have hl3 : (upd (upd H1 l (.lst [.int 7])) l2 (.lst (ns.map V.int ++ [.int 7]))) l2 = some (.lst (ns.map V.int ++ [.int 7])) := upd_same
    show tOp _ _ _ _ (upd (upd H1 l (.lst [.int 7])) l2 (.lst (ns.map V.int ++ [.int 7]))) _
    generalize upd (upd H1 l (.lst [.int 7])) l2 (.lst (ns.map V.int ++ [.int 7])) = H2 at hp2 ha2 hl3 k2
    have hmx : (if (((ns.map V.int).length : Nat) : Int) > 1 then (((ns.map V.int).length : Nat) : Int) else 1) = max 1 (ns.length : Int) := by
      rw [List.length_map]
      omega
    refine ⟨_, rfl, _, rfl, p, _, _, _, rfl, rfl, SqL.of hp2, at_of (j := 0) rfl rfl, a, _, rfl, .inl (SqL.of ha2), _, _, rfl, ?_⟩
    refine ⟨_, _, rfl, rfl, (by show (0 : Int) < (if (((ns.map V.int).length : Nat) : Int) > 1 then _ else 1); rw [hmx]; omega), ?_⟩
    show rIxL _ _ (V.int (t % (if (((ns.map V.int).length : Nat) : Int) > 1 then _ else 1))) _ _
    rw [hmx]
    have hj0 : 0 ≤ t % max 1 (ns.length : Int) := Int.emod_nonneg _ (by omega)
    have hj1 : t % max 1 (ns.length : Int) < max 1 (ns.length : Int) := Int.emod_lt_of_pos _ (by omega)
    obtain ⟨cell, hcell⟩ : ∃ z : Int, (ns ++ [7])[(t % max 1 (ns.length : Int)).toNat]? = some z := by
      have : (t % max 1 (ns.length : Int)).toNat < (ns ++ [7]).length := by
        rw [List.length_append, List.length_singleton]
        omega
      exact ⟨_, List.getElem?_eq_getElem this⟩
    have hcell' : (ns.map V.int ++ [V.int 7])[(t % max 1 (ns.length : Int)).toNat]? = some (.int cell) := by
      have e : ns.map V.int ++ [V.int 7] = (ns ++ [7]).map V.int := by rw [List.map_append]; rfl
      rw [e, List.getElem?_map, hcell]
      rfl
    refine ⟨l2, _, _, _, rfl, rfl, SqL.of hl3, at_of (j := (t % max 1 (ns.length : Int)).toNat) (by omega) hcell', ?_⟩
    have pen2 : PenAt H2 p a := ⟨ns, t + 1, q, hp2, ha2, h3, by omega, hq⟩
    have kk : Kp [p] H H2 := k1.trans k2
    -- the great cells
    refine ⟨fun σ' H' => σ' = [some (.ref p), some (.int m), none, some (.int t), some (.int cell), none, none] ∧ H' = H2, ?_, ?_⟩
    · refine ⟨_, rfl, _, rfl, p, _, _, _, rfl, rfl, SqL.of hp2, at_of (j := 0) rfl rfl, a, _, rfl, .inl (SqL.of ha2), _, _, rfl, rfl, _, rfl, ?_⟩
      refine ite2 (fun c1 => ?_) (fun c1 => ⟨rfl, rfl⟩)
      refine ⟨_, rfl, _, rfl, _, _, rfl, rfl, ⟨by decide, by decide, by decide⟩, _, _, rfl, rfl, _, rfl, ?_⟩
      refine ite2 (fun c2 => ?_) (fun c2 => ⟨rfl, rfl⟩)
      have hab : 0 ≤ (if cell < 0 then -cell else cell) := by split <;> omega
      refine ⟨_, rfl, _, rfl, _, rfl, _, _, rfl, rfl, wide_div hpos hm2 (by decide) (by decide), ?_⟩
      refine ⟨_, rfl, p, _, _, 2, rfl, rfl, hp2, rfl, _, rfl, _, rfl, _, rfl, _, _, rfl, rfl, hpos, ?_⟩
      exact k _ _ (kk.trans (Kp.put hp2 List.mem_cons_self)) (pen_put hp2 ha2 h3 (by omega) (Int.ediv_nonneg hab (by omega))) (Int.emod_nonneg _ (by omega)) (Int.emod_lt_of_pos _ hpos)
    · rintro _ H2 ⟨rfl, rfl⟩
      -- a prime
      refine ⟨by show 7 ≤ sizeLine; decide, fun l3 hl3' => ?_⟩
      have k3 : Kp [p] H2 (upd H2 l3 (.lst [.int 2147483647, .int 2147483629, .int 2147483587, .int 2147483579, .int 2147483563, .int 2147483549, .int 2147483543])) := Kp.new hl3'
      have pen3 : PenAt (upd H2 l3 (.lst [.int 2147483647, .int 2147483629, .int 2147483587, .int 2147483579, .int 2147483563, .int 2147483549, .int 2147483543])) p a := ⟨ns, t + 1, q, by rw [upd_ne (ne_of_none hp2 hl3')]; exact hp2, by rw [upd_ne (ne_of_none ha2 hl3')]; exact ha2, h3, by omega, hq⟩
      obtain ⟨pr, hpr, hpr0, hpr1⟩ : ∃ z : Int, ([.int 2147483647, .int 2147483629, .int 2147483587, .int 2147483579, .int 2147483563, .int 2147483549, .int 2147483543] : List V)[(t % 7).toNat]? = some (.int z) ∧ 0 < z ∧ z < 2 ^ 32 := by
        have h0 : (t % 7).toNat < 7 := by omega
        generalize (t % 7).toNat = j at h0
        match j, h0 with
        | 0, _ => exact ⟨_, rfl, by decide, by decide⟩
        | 1, _ => exact ⟨_, rfl, by decide, by decide⟩
        | 2, _ => exact ⟨_, rfl, by decide, by decide⟩
        | 3, _ => exact ⟨_, rfl, by decide, by decide⟩
        | 4, _ => exact ⟨_, rfl, by decide, by decide⟩
        | 5, _ => exact ⟨_, rfl, by decide, by decide⟩
        | 6, _ => exact ⟨_, rfl, by decide, by decide⟩
      refine ⟨_, rfl, _, _, rfl, rfl, (by show (0 : Int) < 7; decide), l3, _, _, _, rfl, rfl, SqL.of upd_same, at_of (j := (t % 7).toNat) (by show t % 7 = _; omega) hpr, ?_⟩
      -- the number
      refine ⟨_, rfl, _, _, rfl, rfl, (by show (0 : Int) < 2147483497; decide), _, rfl, _, _, rfl, rfl, .inl ⟨by decide, by decide⟩, _, _, rfl, rfl, _, _, rfl, rfl, _, _, rfl, rfl, .inr ⟨by decide, by decide⟩, _, rfl, _, _, rfl, rfl, hpr0, ?_⟩
      show tSeq _ _ _ [some (.ref p), some (.int m), none, some (.int t), some (.int cell), some (.int pr), some (.int ((cell % 2147483497 + 69621 * t + 13) * 48271 % pr))] _
      have n0 : 0 ≤ (cell % 2147483497 + 69621 * t + 13) * 48271 % pr := Int.emod_nonneg _ (by omega)
      have n1 : (cell % 2147483497 + 69621 * t + 13) * 48271 % pr < pr := Int.emod_lt_of_pos _ hpr0
      generalize (cell % 2147483497 + 69621 * t + 13) * 48271 % pr = nu at n0 n1
      refine ⟨_, rfl, _, rfl, _, _, rfl, rfl, .inl ⟨by omega, by omega⟩, _, rfl, _, _, rfl, rfl, .inl ⟨by decide, by decide⟩, _, _, rfl, rfl, _, rfl, _, _, rfl, rfl, _, _, rfl, rfl, (by show (0 : Int) < 2147483489; decide), ?_⟩
      show tSeq _ _ _ [some (.ref p), some (.int m), none, some (.int t), some (.int cell), some (.int pr), some (.int ((nu * nu + 40692 * nu + t) % 2147483489))] _
      generalize (nu * nu + 40692 * nu + t) % 2147483489 = nv
      refine ⟨_, rfl, _, _, rfl, rfl, .inr ⟨by decide, by decide⟩, _, _, rfl, rfl, (by show (0 : Int) < 2147483477; decide), ?_⟩
      show C8.tCut _ _ _ [some (.ref p), some (.int m), none, some (.int t), some (.int cell), some (.int pr), some (.int (nv * 16807 % 2147483477))] _
      have v0 : 0 ≤ nv * 16807 % 2147483477 := Int.emod_nonneg _ (by omega)
      have v1 : nv * 16807 % 2147483477 < 2147483477 := Int.emod_lt_of_pos _ (by omega)
      generalize nv * 16807 % 2147483477 = nw at v0 v1
      have kl := kk.trans k3
      generalize upd H2 l3 _ = H3 at pen3 kl ⊢
      refine ⟨fun σ' H' => (∃ z : Int, σ' = [some (.ref p), some (.int m), none, some (.int t), some (.int cell), some (.int pr), some (.int z)]) ∧ H' = H3, ?_, ?_⟩
      · refine ⟨_, rfl, _, _, rfl, rfl, ⟨by decide, by decide, by decide⟩, _, _, rfl, rfl, _, rfl, ?_⟩
        refine ite2 (fun c1 => ?_) (fun c1 => ⟨⟨_, rfl⟩, rfl⟩)
        exact ⟨_, rfl, _, _, rfl, rfl, ⟨by decide, by decide, (by omega)⟩, ⟨_, rfl⟩, rfl⟩
      · rintro _ H3 ⟨⟨z, rfl⟩, rfl⟩
        refine ⟨_, rfl, _, _, rfl, rfl, ⟨by decide, by decide⟩, _, rfl, _, _, rfl, rfl, hpos, ?_⟩
        exact k _ _ kl pen3 (Int.emod_nonneg _ (by omega)) (Int.emod_lt_of_pos _ hpos)
end
end Lz

set_option Elab.async false
set_option linter.all false
set_option maxRecDepth 100000
set_option maxHeartbeats 8000000
namespace Lz
open PySem PySem.Spec PyProof.Rows L2
/-- the kinds that PARTS_OF has -/
structure PO (K : PySem.W.Frag) (pd : Addr) : Prop where
  op : ∀ k n, (k, n) ∈ kinds → ∃ u, PySem.W.nsIn K pd k = some (some u)
  num : PySem.W.nsIn K pd "number" = some none
  nam : PySem.W.nsIn K pd "name" = some none
  fn : PySem.W.nsIn K pd "fun" = some none
def leafKind (k : Str) : Prop := k = "number" ∨ k = "name" ∨ k = "fun"
/-- a part as a tuple -/
theorem shape_of {K : PySem.W.Frag} {H : Hp} {v : V} {t : Lz.P} (h : Dp K H v t.data) (ok : t.ok) : ∃ a, v = .ref a ∧
    ((∃ k x, t.inn = [] ∧ leafKind k ∧ SqT K H a [.str k, x]) ∨ (∃ k vs as, t = .op k as ∧ SqT K H a (.str k :: vs) ∧ DpAll K H vs (P.datas as) ∧ (k, as.length) ∈ kinds) ∨
      ∃ nm as b r rs vb, t = .lt nm as b ∧ SqT K H a [.str "let", .ref r, vb] ∧ SqT K H r rs ∧ DpAll K H rs (List.zipWith rowD nm (P.datas as)) ∧ Dp K H vb b.data ∧ nm.length = as.length) := by
  cases t with
  | num i =>
    obtain ⟨a, xs, rfl, ht, hx⟩ := Dp.tup_of (ds := [.str "number", .int i]) h
    refine ⟨a, rfl, .inl ⟨"number", .int i, rfl, .inl rfl, ?_⟩⟩
    cases hx with
    | cons h1 h2 =>
      cases h1
      cases h2 with
      | cons h3 h4 =>
        cases h3
        cases h4
        exact ht
  | nam x =>
    obtain ⟨a, xs, rfl, ht, hx⟩ := Dp.tup_of (ds := [.str "name", .str x]) h
    refine ⟨a, rfl, .inl ⟨"name", .str x, rfl, .inr (.inl rfl), ?_⟩⟩
    cases hx with
    | cons h1 h2 =>
      cases h1
      cases h2 with
      | cons h3 h4 =>
        cases h3
        cases h4
        exact ht
  | fn x =>
    obtain ⟨a, xs, rfl, ht, hx⟩ := Dp.tup_of (ds := [.str "fun", .str x]) h
    refine ⟨a, rfl, .inl ⟨"fun", .str x, rfl, .inr (.inr rfl), ?_⟩⟩
    cases hx with
    | cons h1 h2 =>
      cases h1
      cases h2 with
      | cons h3 h4 =>
        cases h3
        cases h4
        exact ht
  | op k as =>
    obtain ⟨a, xs, rfl, ht, hx⟩ := Dp.tup_of (ds := .str k :: P.datas as) h
    cases hx with
    | cons h1 h2 =>
      cases h1
      exact ⟨a, rfl, .inr (.inl ⟨k, _, as, rfl, ht, h2, (show (k, as.length) ∈ kinds ∧ P.oks as from ok).1⟩)⟩
  | lt nm as b =>
    obtain ⟨a, xs, rfl, ht, hx⟩ := Dp.tup_of (ds := [.str "let", .tuple (List.zipWith rowD nm (P.datas as)), b.data]) h
    cases hx with
    | cons h1 h2 =>
      cases h1
      cases h2 with
      | cons h3 h4 =>
        obtain ⟨r, rs, rfl, hr, hrs⟩ := h3.tup_of
        cases h4 with
        | cons h5 h6 =>
          cases h6
          exact ⟨a, rfl, .inr (.inr ⟨nm, as, b, r, rs, _, rfl, ht, hr, hrs, h5, ok.1⟩)⟩
def spInn (K : PySem.W.Frag) : Sp := fun vs H Q _ => ∃ (v : V) (t : Lz.P), vs = [v] ∧ Dp K H v t.data ∧ t.ok ∧ t.many ≤ 1000 ∧ ∀ (l : Addr) (xs : List V) (H' : Hp), Kp [] H H' → H l = none → H' l = some (.lst xs) → DpAll K H' xs (P.datas t.inn) → Q (.ref l) H'
theorem flat_str (x : Str) : flatV (.str x) = true := rfl
theorem cut_tl (x : V) (xs : List V) : cutV (x :: xs) (some 1) none = xs := by
  unfold cutV
  rw [HT.sIx_none, show HT.sIx (x :: xs).length 0 (some 1) = min 1 (x :: xs).length from HT.sIx_nat _ _ 1]
  have e : min 1 (x :: xs).length = 1 := by rw [List.length_cons]; omega
  rw [e]
  exact List.take_of_length_le (by show xs.length ≤ (x :: xs).length - 1; rw [List.length_cons]; omega)
theorem not_whole (x : V) (xs : List V) : ¬ (HT.sIx (x :: xs).length 0 (some 1) = 0 ∧ HT.sIx (x :: xs).length (x :: xs).length none = (x :: xs).length) := fun h => by
  have e := h.1
  rw [show HT.sIx (x :: xs).length 0 (some 1) = min 1 (x :: xs).length from HT.sIx_nat _ _ 1, List.length_cons] at e
  omega
/-- the second things of rows are the parts -/
theorem row_at {K : PySem.W.Frag} {H : Hp} {rs : List V} {nm : List Str} {as : List Lz.P} {i : Nat} {v : V} (h : DpAll K H rs (List.zipWith rowD nm (P.datas as))) (hi : rs[i]? = some v) : ∃ (t : Addr) (x : Str) (u : V) (d : Lz.P), v = .ref t ∧ SqT K H t [.str x, u] ∧ as[i]? = some d ∧ Dp K H u d.data := by
  obtain ⟨e, he, hd⟩ := h.at hi
  rw [List.getElem?_zipWith] at he
  cases hx : nm[i]? with
  | none => rw [hx] at he; cases he
  | some x =>
    rw [hx, datas_map, List.getElem?_map] at he
    cases ha : as[i]? with
    | none => rw [ha] at he; cases he
    | some d =>
      rw [ha] at he
      obtain rfl : rowD x d.data = e := Option.some.inj he
      obtain ⟨t, xs, rfl, ht, hxs⟩ := Dp.tup_of (ds := [.str x, d.data]) hd
      cases hxs with
      | cons h1 h2 =>
        cases h1
        cases h2 with
        | cons h3 h4 =>
          cases h4
          exact ⟨t, x, _, d, rfl, ht, rfl, h3⟩
section
variable {P : Program} {w : World} {K : PySem.W.Frag} {mg : Str → Option Value} {base : Heap} {f : Addr} {fd : FuncData}
abbrev sWithin : Stmt := topS 6
theorem scWithin : FnScope ["part", "kind", "row"] ["part"] (defScope sWithin) := ⟨rfl, rfl, rfl, by decide +kernel, rfl, by decide +kernel, by decide +kernel⟩
theorem ok_within {pd : Addr} {es : Array DictEntry} {n : Nat} (F : Fun K "within" "within" sWithin f fd) (B : Bt mg) (mPO : mg "PARTS_OF" = some (.ref pd)) (DK : KDict K w pd es n) (O : PO K pd) : FnOk P w K mg base CX0 1 f fd ["part"] (spInn K) := by
  have mlist := B.list
  refine F.ok scWithin (fun vs H Q E h => ?_) (fun cdv A outer s H vs Q E hr h => ?_)
  · obtain ⟨v, t, rfl, _⟩ := h
    rfl
  obtain ⟨v, t, rfl, hd, hok, hmany, q⟩ := h
  refine ⟨_, (pss_cons (ps_set (i := 1) scWithin.nd rfl (.inl rfl) (pe_ix (ix_tupK (K := K) rfl) (pv 0) pe_int (fun _ _ => rfl)))
    (pss_cons (ps_if (pt_cmpR op_eq (pv 1) pe_str (nomark _)) (pss_one (ps_ret (pe_op op_cat (pe_lc (own := [("row", 2)]) rfl scWithin.nd (pi_tupK (K := K) rfl (pe_ix (ix_tupK (K := K) rfl) (pv 0) pe_int (fun _ _ => rfl))) (blkOk_by (N := ["part", "kind", "row"]) (sc := defScope sWithin) (by decide +kernel)) (fun _ _ _ _ _ => (pg_name (i := 2) scWithin.nd rfl (.inl rfl))) (fun _ _ _ _ _ => pts_nil) (fun _ _ _ _ _ => (pe_ix (ix_tupK (K := K) rfl) (pv 2) pe_int (fun _ _ => rfl)))) (pe_lst (pa_cons (pe_ix (ix_tupK (K := K) rfl) (pv 0) pe_int (fun _ _ => rfl)) pa_nil))))) pss_nil)
    (pss_cons (ps_if (pt_cmpR (op_in_kdK (K := K) rfl DK) (pv 1) (pe_glob (v := .ref pd) (by rfl) mPO rfl) rfl) (pss_one (ps_ret (pe_callTy (call_listK (K := K) rfl) (by rfl) mlist (by decide +kernel) (pa_cons (pe_slice (sl_tupAK (K := K) rfl) (pv 0) (po_some pe_int) po_none) pa_nil)))) pss_nil)
    (pss_one (ps_ret (pe_lst pa_nil)))))), ?_⟩
  obtain ⟨a, rfl, h | h | h⟩ := shape_of hd hok
  · obtain ⟨k, x, hi, hk, ht⟩ := h
    refine ⟨_, rfl, a, _, _, _, rfl, rfl, ht, at_of (j := 0) rfl rfl, ?_⟩
    refine ⟨_, rfl, rfl, _, rfl, ?_⟩
    refine ite2 (fun c => ?_) (fun _ => ?_)
    · have e : k = "let" := V.str.inj (of_decide_eq_true c)
      rcases hk with rfl | rfl | rfl <;> exact absurd e (by decide +kernel)
    have hn : PySem.W.nsIn K pd k = some none := by
      rcases hk with rfl | rfl | rfl
      · exact O.num
      · exact O.nam
      · exact O.fn
    refine ⟨_, rfl, k, _, rfl, rfl, hn, _, rfl, ?_⟩
    refine ⟨Nat.zero_le _, fun l hl => ?_⟩
    exact q l [] _ (Kp.new hl) hl upd_same (by rw [hi]; exact .nil)
  · obtain ⟨k, xs, as, rfl, ht, hx, hk⟩ := h
    have hp := kind_plain hk
    refine ⟨_, rfl, a, _, _, _, rfl, rfl, ht, at_of (j := 0) rfl rfl, ?_⟩
    refine ⟨_, rfl, rfl, _, rfl, ?_⟩
    refine ite2 (fun c => absurd (V.str.inj (of_decide_eq_true c)) hp.1) (fun _ => ?_)
    obtain ⟨u, hu⟩ := O.op k _ hk
    refine ⟨_, rfl, k, _, rfl, rfl, hu, _, rfl, ?_⟩
    refine ⟨_, rfl, _, rfl, a, _, rfl, ht, fun z => absurd z (not_whole _ _), fun _ t2 ht2 => ?_⟩
    refine ⟨t2, _, rfl, .inr (.inl (.inl upd_same)), fun l hl => ?_⟩
    rw [cut_tl]
    have k1 : Kp [] H (upd H t2 (.tup xs)) := Kp.new ht2
    have k2 : Kp [] (upd H t2 (.tup xs)) (upd (upd H t2 (.tup xs)) l (.lst xs)) := Kp.new (by rw [cut_tl] at hl; exact hl)
    exact q l xs _ (k1.trans k2) (k1.free (by rw [cut_tl] at hl; exact hl) (fun m => nomatch m)) upd_same (Dp.keepAll (k1.trans k2) _ _ (datas_fz _) hx)
  · obtain ⟨nm, as, b, r, rs, vb, rfl, ht, hrt, hrs, hb, hl⟩ := h
    refine ⟨_, rfl, a, _, _, _, rfl, rfl, ht, at_of (j := 0) rfl rfl, ?_⟩
    refine ⟨_, rfl, rfl, _, rfl, ?_⟩
    refine ite2 (fun _ => ?_) (fun c => absurd (decide_eq_true rfl) c)
    refine ⟨_, rfl, a, _, _, _, rfl, rfl, ht, at_of (j := 1) rfl rfl, r, rfl, ⟨_, hrt⟩, fun D hD => ?_⟩
    have hrl : rs.length = as.length := by rw [hrs.length, List.length_zipWith, datas_len]; omega
    have hlen : as.length ≤ 999 := by
      have h1 := len_manys as
      have h2 : 1 + (Lz.P.manys as + b.many) ≤ 1000 := hmany
      omega
    refine lc_tup (K := K) (a := r) (xs := rs) (fun i H' => Kp [] H H' ∧ ∃ xs, H' D = some (.lst xs) ∧ DpAll K H' xs (Lz.P.datas (as.take i)))
      ⟨Kp.new hD, [], upd_same, .nil⟩ (fun i H' _ ⟨k, _⟩ => k.sqT hrt) ?_ ?_
    · rintro i x H1 hi ⟨k1, xs, hxs, hdx⟩
      obtain ⟨t, nx, u, d, rfl, htt, had, hud⟩ := row_at (Dp.keepAll k1 _ _ rows_fz hrs) hi
      refine ⟨rfl, ?_⟩
      refine ⟨_, rfl, t, _, _, _, rfl, rfl, htt, at_of (j := 1) rfl rfl, xs, hxs, ?_, k1.mut hD, xs ++ [u], upd_same, ?_⟩
      · rw [hdx.length, datas_len, List.length_take]
        exact small1000 (by omega)
      · have kput : Kp [D] H1 (upd H1 D (.lst (xs ++ [u]))) := Kp.put hxs List.mem_cons_self
        rw [datas_map, List.take_add_one, had, List.map_append, ← datas_map]
        exact (Dp.keepAll kput _ _ (datas_fz _) hdx).append (.one (Dp.keep kput _ _ (data_fz _) hud))
    · rintro H1 ⟨k1, xs, hxs, hdx⟩
      rw [hrl, List.take_length] at hdx
      refine ⟨_, rfl, a, _, _, _, rfl, rfl, k1.sqT ht, at_of (j := 2) rfl rfl, (by show 1 ≤ sizeLine; decide), fun l2 hl2 => ?_⟩
      have k2 : Kp [] H1 (upd H1 l2 (.lst [vb])) := Kp.new hl2
      have hx2 : (upd H1 l2 (.lst [vb])) D = some (.lst xs) := by rw [upd_ne (ne_of_none hxs hl2)]; exact hxs
      refine ⟨D, l2, _, _, rfl, rfl, hx2, upd_same, ?_, fun l hl => ?_⟩
      · rw [hdx.length, datas_len, List.length_singleton]
        exact Nat.le_of_lt (small1000 (by omega))
      · have k3 := k2.trans (Kp.new (S := []) (o := .lst (xs ++ [vb])) hl)
        have e : Lz.P.datas (Lz.P.lt nm as b).inn = Lz.P.datas as ++ [b.data] := by
          show Lz.P.datas (as ++ [b]) = _
          rw [datas_map, datas_map, List.map_append]
          rfl
        refine q l _ _ (k1.trans k3) ((k1.trans k2).free hl (fun m => nomatch m)) upd_same ?_
        rw [e]
        exact (Dp.keepAll k3 _ _ (datas_fz _) hdx).append (.one (Dp.keep (k1.trans k3) _ _ (data_fz _) hb))
end
end Lz

set_option Elab.async false
set_option linter.all false
set_option maxRecDepth 100000
set_option maxHeartbeats 4000000
/-! Bodies and programs as they are drawn: plain Lean. -/
namespace Lz
open PySem
/-- one thing handed on: the name itself, or what was drawn for it -/
def argOf (t : Str) (o a : P) : Prop := a = .nam t ∨ a = o
inductive Args : List Str → List P → List P → Prop
  | nil : Args [] [] []
  | snoc {ts : List Str} {os as : List P} {t : Str} {o a : P} : Args ts os as → argOf t o a → Args (ts ++ [t]) (os ++ [o]) (as ++ [a])
theorem Args.len {ts : List Str} {os as : List P} (h : Args ts os as) : as.length = ts.length ∧ os.length = ts.length := by
  induction h with
  | nil => exact ⟨rfl, rfl⟩
  | snoc _ _ ih =>
    rw [List.length_append, List.length_append, List.length_append, ih.1, ih.2]
    exact ⟨rfl, rfl⟩
theorem Args.many {ts : List Str} {os as : List P} (h : Args ts os as) : P.manys as ≤ P.manys os := by
  induction h with
  | nil => exact Nat.le_refl _
  | @snoc ts os as t o a _ ha ih =>
    rw [manys_append, manys_append]
    have h1 := many_pos o
    have e1 : P.manys [a] = a.many + 0 := rfl
    have e2 : P.manys [o] = o.many + 0 := rfl
    rcases ha with rfl | rfl
    · have : (P.nam t).many = 1 := rfl
      omega
    · omega
theorem Args.deep {ts : List Str} {os as : List P} (h : Args ts os as) : P.deeps as ≤ max 1 (P.deeps os) := by
  induction h with
  | nil => exact Nat.zero_le _
  | @snoc ts os as t o a _ ha ih =>
    rw [deeps_append, deeps_append]
    have e1 : P.deeps [a] = max a.deep 0 := rfl
    have e2 : P.deeps [o] = max o.deep 0 := rfl
    rcases ha with rfl | rfl
    · have : (P.nam t).deep = 1 := rfl
      omega
    · omega
theorem Args.ok {ts : List Str} {os as : List P} (h : Args ts os as) : (∀ x, x ∈ ts → nmOk x) → (∀ o, o ∈ os → o.ok) → ∀ a, a ∈ as → a.ok := by
  induction h with
  | nil => exact fun _ _ _ m => nomatch m
  | snoc _ ha ih =>
    intro h1 h2 b m
    rcases List.mem_append.mp m with m | m
    · exact ih (fun x hx => h1 x (List.mem_append_left _ hx)) (fun o ho => h2 o (List.mem_append_left _ ho)) b m
    · rw [List.mem_singleton.mp m]
      rcases ha with rfl | rfl
      · exact h1 _ (List.mem_append_right _ List.mem_cons_self)
      · exact h2 _ (List.mem_append_right _ List.mem_cons_self)
/-- the call of a loop's own function -/
def again (me t0 : Str) (as : List P) : P := gives (.fn me) (.op "less" [.nam t0, .num 1] :: as)
/-- what stands where the count is not nought -/
inductive More (one call : P) : P → Prop
  | call : More one call call
  | plus : More one call (.op "plus" [one, call])
  | pair : More one call (.op "pair" [one, call])
  | turn : More one call (.op "plus" [call, one])
/-- a body that calls itself -/
structure Lp (W : List (Str × Int)) (me t0 : Str) (ts : List Str) (n : Int) (ss : List Str) (d : P) : Prop where
  ex : ∃ (os as : List P) (one more last : P) (n1 n2 n3 : Int) (s1 s2 s3 : List Str), Dr W (t0 :: ts) 2 n ss n1 s1 os ∧ Args ts os as ∧ Dr W (t0 :: ts) 3 n1 s1 n2 s2 [one] ∧ More one (again me t0 as) more ∧ Dr W (t0 :: ts) 3 n2 s2 n3 s3 [last] ∧ d = .op "when" [.nam t0, more, last]
/-- a body -/
inductive Bd (W : List (Str × Int)) (me : Str) (things ss : List Str) : P → Prop
  | part {dp n n' : Int} {ss' : List Str} {d : P} : 0 ≤ dp → dp ≤ 11 → 0 ≤ n → n ≤ 59 → Dr W things dp n ss n' ss' [d] → Bd W me things ss d
  | loop {t0 : Str} {ts : List Str} {n : Int} {d : P} : me ≠ "" → things = t0 :: ts → 0 ≤ n → n ≤ 40 → Lp W me t0 ts n ss d → Bd W me things ss d
  | first {f : Str} {w : Int} {r : List (Str × Int)} {ks : List Int} : me = "" → W = (f, w) :: r → (ks.length : Int) = w → (∀ k, k ∈ ks → 0 ≤ k ∧ k < 8) → Bd W me things ss (gives (.fn f) (ks.map .num))
theorem kind_when : (("when" : Str), 3) ∈ kinds := by decide +kernel
theorem kind_less : (("less" : Str), 2) ∈ kinds := by decide +kernel
theorem kind_plus : (("plus" : Str), 2) ∈ kinds := by decide +kernel
theorem kind_pair : (("pair" : Str), 2) ∈ kinds := by decide +kernel
theorem kind_give : (("give" : Str), 2) ∈ kinds := by decide +kernel
theorem Dr.one_many {W : List (Str × Int)} {sc ss ss' : List Str} {dp n n' : Int} {d : P} (h : Dr W sc dp n ss n' ss' [d]) : (d.many : Int) = 1 + (n - n') := by
  have := h.many
  have e : P.manys [d] = d.many + 0 := rfl
  have e2 : [d].length = 1 := rfl
  omega
theorem Dr.one_deep {W : List (Str × Int)} {sc ss ss' : List Str} {dp n n' : Int} {d : P} (h : Dr W sc dp n ss n' ss' [d]) : d.deep ≤ dp.toNat + 1 := by
  have := h.deep
  have e : P.deeps [d] = max d.deep 0 := rfl
  omega
theorem two_ok {k : Str} {a b : P} (hk : (k, 2) ∈ kinds) (ha : a.ok) (hb : b.ok) : (P.op k [a, b]).ok := ⟨hk, ha, hb, True.intro⟩
theorem Bd.facts {W : List (Str × Int)} {me : Str} {things ss : List Str} {d : P} (h : Bd W me things ss d) (N : Nms W things ss) (hme : me ≠ "" → nmOk me) (hW : ∀ f, f ∈ W → 0 ≤ f.2 ∧ f.2 ≤ 4) (hl : things.length ≤ 4) : d.ok ∧ d.many ≤ 60 ∧ d.deep ≤ 12 := by
  cases h with
  | @part dp n n' ss' _ h0 h1 h2 h3 hd =>
    have e1 := hd.one_many
    have e2 := hd.one_deep
    have e3 := hd.nonneg h2
    exact ⟨hd.ok N d List.mem_cons_self, by omega, by omega⟩
  | @loop t0 ts n _ hm ht h0 h1 hL =>
    obtain ⟨os, as, one, more, last, n1, n2, n3, s1, s2, s3, d1, ha, d2, hmo, d3, rfl⟩ := hL.ex
    subst ht
    have N1 : Nms W (t0 :: ts) s1 := ⟨N.w, N.c, fun x hx => N.s x (d1.sub x hx)⟩
    have N2 : Nms W (t0 :: ts) s2 := ⟨N.w, N.c, fun x hx => N1.s x (d2.sub x hx)⟩
    have o1 := d1.ok N
    have o2 := d2.ok N1 one List.mem_cons_self
    have o3 := d3.ok N2 last List.mem_cons_self
    have oa := ha.ok (fun x hx => N.c x (List.mem_cons_of_mem _ hx)) o1
    have ht0 : (P.nam t0).ok := N.c t0 List.mem_cons_self
    have oc : (again me t0 as).ok := gives_ok (hme hm) fun b m => by
      rcases List.mem_cons.mp m with e | m
      · rw [e]
        exact two_ok kind_less ht0 True.intro
      · exact oa b m
    have l1 := ha.len
    have m1 := d1.many
    have m2 := d2.one_many
    have m3 := d3.one_many
    have ma := ha.many
    have p1 := d1.deep
    have p2 := d2.one_deep
    have p3 := d3.one_deep
    have pa := ha.deep
    have nn := d3.nonneg (d2.nonneg (d1.nonneg h0))
    have mc : (again me t0 as).many = 1 + (1 + (1 + (1 + 0)) + P.manys as) + (as.length + 1) := gives_many
    have pc : (again me t0 as).deep ≤ max 1 (max (1 + max 1 (max 1 0)) (P.deeps as)) + (as.length + 1) := gives_deep
    rw [List.length_cons] at hl
    have two : ∀ (k : Str) (x y : P), (P.op k [x, y]).many = 1 + (x.many + (y.many + 0)) := fun _ _ _ => rfl
    have twd : ∀ (k : Str) (x y : P), (P.op k [x, y]).deep = 1 + max x.deep (max y.deep 0) := fun _ _ _ => rfl
    have hmore : more.ok ∧ more.many ≤ 1 + one.many + (again me t0 as).many ∧ more.deep ≤ 1 + max one.deep (again me t0 as).deep := by
      cases hmo with
      | call => exact ⟨oc, by omega, by omega⟩
      | plus => exact ⟨two_ok kind_plus o2 oc, by rw [two]; omega, by rw [twd]; omega⟩
      | pair => exact ⟨two_ok kind_pair o2 oc, by rw [two]; omega, by rw [twd]; omega⟩
      | turn => exact ⟨two_ok kind_plus oc o2, by rw [two]; omega, by rw [twd]; omega⟩
    refine ⟨⟨kind_when, ht0, hmore.1, o3, True.intro⟩, ?_, ?_⟩
    · show 1 + (1 + (more.many + (last.many + 0))) ≤ 60
      omega
    · show 1 + max 1 (max more.deep (max last.deep 0)) ≤ 12
      omega
  | @first f w r ks hm hw hk h8 =>
    have hf : (f, w) ∈ W := by rw [hw]; exact List.mem_cons_self
    have hw4 := hW _ hf
    have hn : ∀ a, a ∈ ks.map P.num → a.ok := fun a m => by
      obtain ⟨k, _, rfl⟩ := List.mem_map.mp m
      exact True.intro
    have e1 : ∀ ks : List Int, P.manys (ks.map P.num) = ks.length := fun ks => by
      induction ks with
      | nil => rfl
      | cons k r ih =>
        show 1 + P.manys (r.map P.num) = r.length + 1
        rw [ih]
        omega
    have e2 : P.deeps (ks.map P.num) ≤ 1 := deeps_le fun a m => by
      obtain ⟨k, _, rfl⟩ := List.mem_map.mp m
      exact Nat.le_refl _
    have em := gives_many (as := ks.map P.num) (f := .fn f)
    have ed := gives_deep (as := ks.map P.num) (f := .fn f)
    rw [List.length_map] at em ed
    rw [e1] at em
    have f1 : (P.fn f).many = 1 := rfl
    have f2 : (P.fn f).deep = 1 := rfl
    refine ⟨gives_ok (N.w _ hf) hn, ?_, ?_⟩ <;> omega

/-! ### programs -/
abbrev Fn := Str × List Str × P
def fD (f : Fn) : PyData := .tuple [.str f.1, .tuple (f.2.1.map .str), f.2.2.data]
def progD (fs : List Fn) (d : P) : PyData := .tuple [.tuple (fs.map fD), d.data]
/-- six and twenty names, unlike -/
structure Stock (stk : List Str) : Prop where
  len : stk.length = 26
  nd : stk.Nodup
  ok : ∀ x, x ∈ stk → nmOk x
structure FnDr (W : List (Str × Int)) (f : Fn) : Prop where
  ex : ∃ (w : Nat) (stk : List Str), (f.1, (w : Int)) ∈ W ∧ w ≤ 4 ∧ Stock stk ∧ f.2.1 = stk.take w ∧ Bd W f.1 f.2.1 (stk.drop w) f.2.2
structure Prog (fs : List Fn) (d : P) : Prop where
  ex : ∃ W : List (Str × Int), W.map (·.1) = fs.map (·.1) ∧ (W.map (·.1)).Nodup ∧ W.length ≤ 8 ∧ (∀ f, f ∈ W → nmOk f.1 ∧ 0 ≤ f.2 ∧ f.2 ≤ 4) ∧ (∀ f, f ∈ fs → FnDr W f) ∧ ∃ stk, Stock stk ∧ Bd W "" [] stk d
theorem Stock.take {stk : List Str} (h : Stock stk) (w : Nat) : ∀ x, x ∈ stk.take w → nmOk x := fun x m => h.ok x (List.mem_of_mem_take m)
theorem Stock.drop {stk : List Str} (h : Stock stk) (w : Nat) : ∀ x, x ∈ stk.drop w → nmOk x := fun x m => h.ok x (List.mem_of_mem_drop m)
structure BodyOk (d : P) : Prop where
  ok : d.ok
  many : d.many ≤ 60
  deep : d.deep ≤ 12
theorem Prog.bodies {fs : List Fn} {d : P} (h : Prog fs d) : (∀ f, f ∈ fs → nmOk f.1 ∧ f.2.1.length ≤ 4 ∧ (∀ x, x ∈ f.2.1 → nmOk x) ∧ BodyOk f.2.2) ∧ BodyOk d ∧ fs.length ≤ 8 := by
  obtain ⟨W, e, nd, l8, hW, hf, stk, hs, hb⟩ := h.ex
  have hl : fs.length = W.length := by
    have := congrArg List.length e
    rw [List.length_map, List.length_map] at this
    exact this.symm
  refine ⟨fun f m => ?_, ?_, by omega⟩
  · obtain ⟨w, stk, hm, hw, hs, e, hb⟩ := (hf f m).ex
    have hl4 : f.2.1.length ≤ 4 := by rw [e, List.length_take]; omega
    have hn : ∀ x, x ∈ f.2.1 → nmOk x := by rw [e]; exact hs.take w
    have q := hb.facts ⟨fun g hg => (hW g hg).1, hn, hs.drop w⟩ (fun _ => (hW _ hm).1) (fun g hg => (hW g hg).2) hl4
    exact ⟨(hW _ hm).1, hl4, hn, q.1, q.2.1, q.2.2⟩
  · have q := hb.facts ⟨fun g hg => (hW g hg).1, (fun _ m => nomatch m), hs.ok⟩ (fun h => absurd rfl h) (fun g hg => (hW g hg).2) (Nat.zero_le _)
    exact ⟨q.1, q.2.1, q.2.2⟩
end Lz

set_option Elab.async false
set_option linter.all false
set_option maxRecDepth 100000
set_option maxHeartbeats 4000000
/-! Places: plain Lean. -/
namespace Lz
open PySem
mutual
/-- the part and all within it, each ahead of those within it -/
def P.all : P → List P
  | .op k as => .op k as :: P.alls as
  | .lt nm as b => .lt nm as b :: (P.alls as ++ P.all b)
  | .num i => [.num i]
  | .nam x => [.nam x]
  | .fn x => [.fn x]
def P.alls : List P → List P
  | [] => []
  | a :: as => P.all a ++ P.alls as
end
theorem alls_append : ∀ as bs : List P, P.alls (as ++ bs) = P.alls as ++ P.alls bs
  | [], bs => rfl
  | a :: as, bs => by
    show P.all a ++ P.alls (as ++ bs) = P.all a ++ P.alls as ++ P.alls bs
    rw [alls_append as bs, List.append_assoc]
theorem all_inn : ∀ t : P, t.all = t :: P.alls t.inn
  | .num _ => rfl
  | .nam _ => rfl
  | .fn _ => rfl
  | .op _ _ => rfl
  | .lt nm as b => by
    show P.lt nm as b :: (P.alls as ++ P.all b) = P.lt nm as b :: P.alls (as ++ [b])
    rw [alls_append]
    show _ = P.lt nm as b :: (P.alls as ++ (P.all b ++ []))
    rw [List.append_nil]
mutual
theorem all_len : ∀ t : P, t.all.length = t.many
  | .num _ => rfl
  | .nam _ => rfl
  | .fn _ => rfl
  | .op k as => by
    show (P.alls as).length + 1 = 1 + P.manys as
    rw [alls_len as]
    omega
  | .lt nm as b => by
    show (P.alls as ++ P.all b).length + 1 = 1 + (P.manys as + P.many b)
    rw [List.length_append, alls_len as, all_len b]
    omega
theorem alls_len : ∀ as : List P, (P.alls as).length = P.manys as
  | [] => rfl
  | a :: as => by
    show (P.all a ++ P.alls as).length = P.many a + P.manys as
    rw [List.length_append, all_len a, alls_len as]
end
mutual
theorem all_ok : ∀ t : P, t.ok → ∀ d, d ∈ t.all → d.ok ∧ d.deep ≤ t.deep
  | .num i, h, d, m => by
    rw [List.mem_singleton.mp (show d ∈ [P.num i] from m)]
    exact ⟨h, Nat.le_refl _⟩
  | .nam x, h, d, m => by
    rw [List.mem_singleton.mp (show d ∈ [P.nam x] from m)]
    exact ⟨h, Nat.le_refl _⟩
  | .fn x, h, d, m => by
    rw [List.mem_singleton.mp (show d ∈ [P.fn x] from m)]
    exact ⟨h, Nat.le_refl _⟩
  | .op k as, h, d, m => by
    rcases List.mem_cons.mp (show d ∈ P.op k as :: P.alls as from m) with e | m
    · rw [e]; exact ⟨h, Nat.le_refl _⟩
    · have q := alls_ok as h.2 d m
      refine ⟨q.1, ?_⟩
      show d.deep ≤ 1 + P.deeps as
      have := q.2
      omega
  | .lt nm as b, h, d, m => by
    rcases List.mem_cons.mp (show d ∈ P.lt nm as b :: (P.alls as ++ P.all b) from m) with e | m
    · rw [e]; exact ⟨h, Nat.le_refl _⟩
    · have e : (P.lt nm as b).deep = 1 + max (P.deeps as) b.deep := rfl
      rcases List.mem_append.mp m with m | m
      · have q := alls_ok as h.2.2.1 d m
        exact ⟨q.1, by have := q.2; omega⟩
      · have q := all_ok b h.2.2.2 d m
        exact ⟨q.1, by have := q.2; omega⟩
theorem alls_ok : ∀ as : List P, P.oks as → ∀ d, d ∈ P.alls as → d.ok ∧ d.deep ≤ P.deeps as
  | [], _, _, m => nomatch m
  | a :: as, h, d, m => by
    have e : P.deeps (a :: as) = max a.deep (P.deeps as) := rfl
    rcases List.mem_append.mp (show d ∈ P.all a ++ P.alls as from m) with m | m
    · have q := all_ok a h.1 d m
      exact ⟨q.1, by have := q.2; omega⟩
    · have q := alls_ok as h.2 d m
      exact ⟨q.1, by have := q.2; omega⟩
end
/-- a place -/
def plD (n : Nat) (t : P) : PyData := .tuple [t.data, .int (n : Nat)]
/-- the places of bodies from number n on -/
def plcs (n : Nat) : List P → List PyData
  | [] => []
  | b :: r => b.all.map (plD n) ++ plcs (n + 1) r
theorem plcs_append : ∀ (n : Nat) (as : List P) (b : P), plcs n (as ++ [b]) = plcs n as ++ b.all.map (plD (n + as.length))
  | n, [], b => by
    show b.all.map (plD n) ++ [] = b.all.map (plD n)
    rw [List.append_nil]
  | n, a :: as, b => by
    show a.all.map (plD n) ++ plcs (n + 1) (as ++ [b]) = a.all.map (plD n) ++ plcs (n + 1) as ++ b.all.map (plD (n + (as.length + 1)))
    rw [plcs_append (n + 1) as b, List.append_assoc]
    have e : n + 1 + as.length = n + (as.length + 1) := by omega
    rw [e]
theorem plcs_len : ∀ (n : Nat) (as : List P), (plcs n as).length = P.manys as
  | n, [] => rfl
  | n, a :: as => by
    show (a.all.map (plD n) ++ plcs (n + 1) as).length = a.many + P.manys as
    rw [List.length_append, List.length_map, all_len, plcs_len (n + 1) as]
theorem plD_fz (n : Nat) (t : P) : fz (plD n t) = true := by
  show (fz t.data && (true && true)) = true
  rw [data_fz]
  rfl
theorem plcs_mem : ∀ (n : Nat) (as : List P) (d : PyData), d ∈ plcs n as → ∃ a t m, a ∈ as ∧ t ∈ a.all ∧ d = plD m t
  | n, [], d, h => nomatch h
  | n, a :: as, d, h => by
    rcases List.mem_append.mp (show d ∈ a.all.map (plD n) ++ plcs (n + 1) as from h) with m | m
    · obtain ⟨t, ht, rfl⟩ := List.mem_map.mp m
      exact ⟨a, t, n, List.mem_cons_self, ht, rfl⟩
    · obtain ⟨b, t, k, hb, ht, e⟩ := plcs_mem (n + 1) as d m
      exact ⟨b, t, k, List.mem_cons_of_mem _ hb, ht, e⟩
theorem plcs_fz (n : Nat) (as : List P) : fzAll (plcs n as) = true := fzAll_iff.mpr fun d m => by
  obtain ⟨a, t, k, _, _, rfl⟩ := plcs_mem n as d m
  exact plD_fz _ _
theorem plcs_shaped {n : Nat} {as : List P} (h : ∀ a, a ∈ as → a.ok ∧ a.deep ≤ 12) : SeqAt.shaped (.list (plcs n as)) = true ∧ PyData.canLayAll0 (plcs n as) = true := by
  have h1 : PyData.canLayAll0 (plcs n as) = true := layAll_iff.mpr fun d m => by
    obtain ⟨a, t, k, ha, ht, rfl⟩ := plcs_mem n as d m
    have q := all_ok a (h a ha).1 t ht
    show (PyData.tuple [t.data, .int (k : Nat)]).canLay0 = true
    rw [lay_tup, lay_cons, lay_cons, lay_nil, data_lay t q.1]
    simp only [PyData.canLay0]
    rfl
  have h2 : PyData.depthAll (plcs n as) ≤ 40 := depthAll_le fun d m => by
    obtain ⟨a, t, k, ha, ht, rfl⟩ := plcs_mem n as d m
    have q := (all_ok a (h a ha).1 t ht).2
    have q2 := (h a ha).2
    have q3 := data_depth t
    show (PyData.tuple [t.data, .int (k : Nat)]).depth ≤ 40
    rw [depth_tup, depthAll_cons, depthAll_cons]
    simp only [PyData.depth, PyData.depthAll]
    omega
  have e : (PyData.list (plcs n as)).depth = PyData.depthAll (plcs n as) + 1 := by simp only [PyData.depth]
  have e2 : (PyData.list (plcs n as)).canLay0 = PyData.canLayAll0 (plcs n as) := by rw [PyData.canLay0]
  refine ⟨?_, h1⟩
  unfold SeqAt.shaped
  rw [e2, h1, Bool.true_and]
  exact decide_eq_true (by omega)
theorem plcs_same {n : Nat} {as : List P} (h : ∀ a, a ∈ as → a.ok ∧ a.deep ≤ 12) : PyData.eqv (.list (plcs n as)) (.list (plcs n as)) = true := by
  rw [PyData.eqv]
  exact SeqAt.eqvAll_refl _ (plcs_shaped h).2
/-! ### a program as its functions and what is asked -/
def askedFn (d : P) : Fn := (("" : Str), [], d)
def fnsOf (fs : List Fn) (d : P) : List Fn := fs ++ [askedFn d]
def bodies (fs : List Fn) : List P := fs.map (·.2.2)
structure PrOk (fs : List Fn) (d : P) : Prop where
  len : fs.length ≤ 8
  nd : ((fnsOf fs d).map (·.1)).Nodup
  bd : ∀ f, f ∈ fnsOf fs d → BodyOk f.2.2 ∧ f.2.1.length ≤ 4
theorem Prog.prOk {fs : List Fn} {d : P} (h : Prog fs d) : PrOk fs d := by
  obtain ⟨h1, h2, h3⟩ := h.bodies
  obtain ⟨W, e, nd, _⟩ := h.ex
  refine ⟨h3, ?_, fun f m => ?_⟩
  · unfold fnsOf
    rw [List.map_append, List.nodup_append]
    refine ⟨by rw [← e]; exact nd, by simp, fun a ha b hb => ?_⟩
    obtain ⟨f, hf, rfl⟩ := List.mem_map.mp ha
    have hb' : b = "" := by
      have := List.mem_singleton.mp (show b ∈ [(askedFn d).1] from hb)
      exact this
    intro q
    have := (h1 f hf).1.1
    rw [q, hb'] at this
    exact absurd this (by decide +kernel)
  · rcases List.mem_append.mp m with m | m
    · exact ⟨(h1 f m).2.2.2, (h1 f m).2.1⟩
    · rw [List.mem_singleton.mp m]
      exact ⟨h2, Nat.zero_le _⟩
theorem bodies_append (fs gs : List Fn) : bodies (fs ++ gs) = bodies fs ++ bodies gs := List.map_append
end Lz

set_option Elab.async false
set_option linter.all false
set_option maxRecDepth 100000
set_option maxHeartbeats 4000000
/-! What fits: plain Lean. -/
namespace Lz
open PySem
mutual
/-- numbers small enough, names known, one to four rows -/
def P.fit (F : List Str) : P → List Str → Prop
  | .num i, _ => i.natAbs < 10 ^ 60
  | .nam x, sc => x ∈ sc
  | .fn x, _ => x ∈ F
  | .op _ as, sc => P.fits F as sc
  | .lt nm as b, sc => 1 ≤ nm.length ∧ nm.length ≤ 4 ∧ P.fits F as (sc ++ nm) ∧ P.fit F b (sc ++ nm)
def P.fits (F : List Str) : List P → List Str → Prop
  | [], _ => True
  | a :: as, sc => P.fit F a sc ∧ P.fits F as sc
end
mutual
/-- the names of all rows within -/
def P.rown : P → List Str
  | .op _ as => P.rowns as
  | .lt nm as b => nm ++ (P.rowns as ++ P.rown b)
  | .num _ => []
  | .nam _ => []
  | .fn _ => []
def P.rowns : List P → List Str
  | [] => []
  | a :: as => P.rown a ++ P.rowns as
end
def P.own : P → List Str
  | .lt nm _ _ => nm
  | _ => []
theorem fits_iff {F : List Str} {sc : List Str} : ∀ {as : List P}, P.fits F as sc ↔ ∀ a, a ∈ as → a.fit F sc
  | [] => ⟨fun _ _ h => (nomatch h), fun _ => True.intro⟩
  | x :: xs => by
    show (P.fit F x sc ∧ P.fits F xs sc) ↔ _
    rw [fits_iff]
    refine ⟨fun h d m => ?_, fun h => ⟨h x List.mem_cons_self, fun d m => h d (List.mem_cons_of_mem _ m)⟩⟩
    rcases List.mem_cons.mp m with e | m
    · rw [e]; exact h.1
    · exact h.2 d m
theorem fits_append {F : List Str} {sc : List Str} {as bs : List P} : P.fits F (as ++ bs) sc ↔ P.fits F as sc ∧ P.fits F bs sc := by
  rw [fits_iff, fits_iff, fits_iff]
  exact ⟨fun h => ⟨fun a m => h a (List.mem_append_left _ m), fun a m => h a (List.mem_append_right _ m)⟩, fun h a m => (List.mem_append.mp m).elim (h.1 a) (h.2 a)⟩
theorem rowns_append : ∀ as bs : List P, P.rowns (as ++ bs) = P.rowns as ++ P.rowns bs
  | [], bs => rfl
  | a :: as, bs => by
    show P.rown a ++ P.rowns (as ++ bs) = P.rown a ++ P.rowns as ++ P.rowns bs
    rw [rowns_append as bs, List.append_assoc]
theorem rown_one (b : P) : P.rowns [b] = b.rown := List.append_nil _
/-- what is within a part that fits -/
theorem fit_inn {F : List Str} {t : P} {sc : List Str} (h : t.fit F sc) : ∀ a, a ∈ t.inn → a.fit F (sc ++ t.own) := fun a m => by
  cases t with
  | num i => exact nomatch m
  | nam i => exact nomatch m
  | fn i => exact nomatch m
  | op k as =>
    show a.fit F (sc ++ [])
    rw [List.append_nil]
    exact fits_iff.mp h a m
  | lt nm as b =>
    rcases List.mem_append.mp (show a ∈ as ++ [b] from m) with m | m
    · exact fits_iff.mp h.2.2.1 a m
    · rw [List.mem_singleton.mp m]
      exact h.2.2.2
theorem own_len {F : List Str} {t : P} {sc : List Str} (h : t.fit F sc) : t.own.length ≤ 4 := by
  cases t with
  | lt nm as b => exact h.2.1
  | _ => exact Nat.zero_le _
mutual
theorem all_own : ∀ t : P, t.all.flatMap P.own = t.rown
  | .num _ => rfl
  | .nam _ => rfl
  | .fn _ => rfl
  | .op k as => by
    show P.own (.op k as) ++ (P.alls as).flatMap P.own = P.rowns as
    rw [alls_own as]
    rfl
  | .lt nm as b => by
    show nm ++ (P.alls as ++ P.all b).flatMap P.own = nm ++ (P.rowns as ++ P.rown b)
    rw [List.flatMap_append, alls_own as, all_own b]
theorem alls_own : ∀ as : List P, (P.alls as).flatMap P.own = P.rowns as
  | [] => rfl
  | a :: as => by
    show (P.all a ++ P.alls as).flatMap P.own = P.rown a ++ P.rowns as
    rw [List.flatMap_append, all_own a, alls_own as]
end
theorem gives_rown : ∀ {as : List P} {f : P}, (gives f as).rown = f.rown ++ P.rowns as
  | [], f => (List.append_nil _).symm
  | a :: as, f => by
    show (gives (.op "give" [f, a]) as).rown = f.rown ++ (a.rown ++ P.rowns as)
    rw [gives_rown (as := as)]
    show (f.rown ++ (a.rown ++ [])) ++ P.rowns as = _
    rw [List.append_nil, List.append_assoc]
theorem gives_fit {F sc : List Str} : ∀ {as : List P} {f : P}, f.fit F sc → P.fits F as sc → (gives f as).fit F sc
  | [], f, h, _ => h
  | a :: as, f, h, k => gives_fit (as := as) (f := .op "give" [f, a]) (show P.fit F f sc ∧ P.fit F a sc ∧ True from ⟨h, k.1, True.intro⟩) k.2
theorem Dr.fits {W : List (Str × Int)} {sc ss ss' : List Str} {dp n n' : Int} {ds : List P} (h : Dr W sc dp n ss n' ss' ds) : P.fits (W.map (·.1)) ds sc := by
  induction h with
  | nil => exact True.intro
  | num a _ ih => exact ⟨a, ih⟩
  | nam a _ ih => exact ⟨a, ih⟩
  | fn a _ ih => exact ⟨List.mem_map.mpr ⟨_, a, rfl⟩, ih⟩
  | call a b c d _ _ i1 i2 => exact ⟨gives_fit (show _ ∈ _ from List.mem_map.mpr ⟨_, a, rfl⟩) i1, i2⟩
  | lt _ a b _ _ _ _ _ _ i1 i2 =>
    have q := fits_append.mp i1
    exact ⟨⟨a, b, q.1, q.2.1⟩, i2⟩
  | op _ _ _ _ _ i1 i2 => exact ⟨i1, i2⟩
theorem Dr.rows {W : List (Str × Int)} {sc ss ss' : List Str} {dp n n' : Int} {ds : List P} (h : Dr W sc dp n ss n' ss' ds) : (P.rowns ds ++ ss').Perm ss := by
  induction h with
  | nil => exact List.Perm.refl _
  | num a _ ih => exact ih
  | nam a _ ih => exact ih
  | fn a _ ih => exact ih
  | @call sc ss ss1 ss' dp n n1 n' w f as ds a b c d _ _ i1 i2 =>
    show ((gives (.fn f) as).rown ++ P.rowns ds ++ ss').Perm ss
    rw [gives_rown, List.append_assoc]
    exact (i2.append_left _).trans i1
  | @lt sc nm ss ss1 ss' dp n n1 n' as ds b k _ _ _ e1 _ _ _ _ _ i1 i2 =>
    show (nm ++ (P.rowns as ++ b.rown) ++ P.rowns ds ++ ss').Perm ss
    rw [rowns_append, rown_one] at i1
    rw [List.append_assoc, List.append_assoc]
    refine (((i2.append_left _).trans i1).append_left nm).trans ?_
    refine (List.perm_append_comm).trans ?_
    have e := List.take_append_drop k ss
    rw [e1] at e
    have : (ss.take k ++ nm).Perm (ss.take k ++ nm.reverse) := (List.reverse_perm nm).symm.append_left _
    rw [e] at this
    exact this
  | @op sc ss ss1 ss' dp n n1 n' k as ds _ _ _ _ _ i1 i2 =>
    show (P.rowns as ++ P.rowns ds ++ ss').Perm ss
    rw [List.append_assoc]
    exact (i2.append_left _).trans i1
theorem Dr.nodup {W : List (Str × Int)} {sc ss ss' : List Str} {dp n n' : Int} {ds : List P} (h : Dr W sc dp n ss n' ss' ds) (nd : ss.Nodup) : (P.rowns ds ++ ss').Nodup := (h.rows.nodup_iff).mpr nd
theorem Dr.mem {W : List (Str × Int)} {sc ss ss' : List Str} {dp n n' : Int} {ds : List P} (h : Dr W sc dp n ss n' ss' ds) : ∀ x, x ∈ P.rowns ds → x ∈ ss := fun x m => h.rows.mem_iff.mp (List.mem_append_left _ m)
theorem Args.rows {ts : List Str} {os as : List P} (h : Args ts os as) : (P.rowns as).Sublist (P.rowns os) := by
  induction h with
  | nil => exact List.Sublist.refl _
  | @snoc ts os as t o a _ ha ih =>
    rw [rowns_append, rowns_append, rown_one, rown_one]
    refine ih.append ?_
    rcases ha with rfl | rfl
    · exact List.nil_sublist _
    · exact List.Sublist.refl _
theorem Args.fits {ts : List Str} {os as : List P} {F sc : List Str} (h : Args ts os as) : (∀ x, x ∈ ts → x ∈ sc) → P.fits F os sc → P.fits F as sc := by
  induction h with
  | nil => exact fun _ _ => True.intro
  | @snoc ts os as t o a _ ha ih =>
    intro h1 h2
    rw [fits_append] at h2 ⊢
    refine ⟨ih (fun x m => h1 x (List.mem_append_left _ m)) h2.1, ?_, True.intro⟩
    rcases ha with rfl | rfl
    · exact h1 _ (List.mem_append_right _ List.mem_cons_self)
    · exact h2.2.1
theorem again_rown (me t0 : Str) (as : List P) : (again me t0 as).rown = P.rowns as := by
  unfold again
  rw [gives_rown]
  rfl
theorem Bd.more {W : List (Str × Int)} {me : Str} {things ss : List Str} {d : P} (h : Bd W me things ss d) (hme : me ≠ "" → me ∈ W.map (·.1)) (nd : ss.Nodup) : d.fit (W.map (·.1)) things ∧ d.rown.Nodup ∧ ∀ x, x ∈ d.rown → x ∈ ss := by
  cases h with
  | @part dp n n' ss' _ h0 h1 h2 h3 hd =>
    have e1 := hd.fits
    have e2 := hd.nodup nd
    have e3 := hd.mem
    rw [rown_one] at e2 e3
    exact ⟨e1.1, (List.nodup_append.mp e2).1, e3⟩
  | @loop t0 ts n _ hm ht h0 h1 hL =>
    obtain ⟨os, as, one, more, last, n1, n2, n3, s1, s2, s3, d1, ha, d2, hmo, d3, rfl⟩ := hL.ex
    subst ht
    have f1 := d1.fits
    have f2 := d2.fits.1
    have f3 := d3.fits.1
    have fa := ha.fits (fun x m => List.mem_cons_of_mem _ m) f1
    have ft : (P.nam t0).fit (W.map (·.1)) (t0 :: ts) := (List.mem_cons_self : t0 ∈ t0 :: ts)
    have fl : (P.op "less" [.nam t0, .num 1]).fit (W.map (·.1)) (t0 :: ts) := ⟨ft, (by show (1 : Int).natAbs < 10 ^ 60; decide +kernel), True.intro⟩
    have fc : (again me t0 as).fit (W.map (·.1)) (t0 :: ts) := gives_fit (show me ∈ _ from hme hm) ⟨fl, fa⟩
    have r1 := d1.rows
    have r2 := d2.rows
    have r3 := d3.rows
    rw [rown_one] at r2 r3
    have rr : (P.rowns os ++ (one.rown ++ (last.rown ++ s3))).Perm ss := (((r3.append_left _).trans r2).append_left _).trans r1
    have nn := rr.nodup_iff.mpr nd
    have hs := ha.rows
    have hr : (P.op "when" [.nam t0, more, last]).rown = more.rown ++ last.rown := by
      show [] ++ (more.rown ++ (last.rown ++ [])) = _
      rw [List.append_nil]
      rfl
    have key : ∀ L : List Str, L.Sublist (P.rowns os ++ (one.rown ++ (last.rown ++ s3))) ∨ L.Sublist (one.rown ++ (P.rowns os ++ (last.rown ++ s3))) → L.Nodup ∧ ∀ x, x ∈ L → x ∈ ss := fun L h => by
      rcases h with h | h
      · exact ⟨h.nodup nn, fun x m => rr.mem_iff.mp (h.subset m)⟩
      · have sw : (one.rown ++ (P.rowns os ++ (last.rown ++ s3))).Perm (P.rowns os ++ (one.rown ++ (last.rown ++ s3))) := by
          rw [← List.append_assoc, ← List.append_assoc (P.rowns os)]
          exact List.perm_append_comm.append_right _
        have nn2 := sw.nodup_iff.mpr nn
        exact ⟨h.nodup nn2, fun x m => rr.mem_iff.mp (sw.mem_iff.mp (h.subset m))⟩
    have sl : last.rown.Sublist (last.rown ++ s3) := List.sublist_append_left _ _
    have ac := again_rown me t0 as
    cases hmo with
    | call =>
      refine ⟨⟨ft, fc, f3, True.intro⟩, ?_⟩
      rw [hr, ac]
      exact key _ (.inl (hs.append (sl.trans (List.sublist_append_right _ _))))
    | plus =>
      refine ⟨⟨ft, ⟨f2, fc, True.intro⟩, f3, True.intro⟩, ?_⟩
      rw [hr]
      have e : (P.op "plus" [one, again me t0 as]).rown = one.rown ++ P.rowns as := by
        show one.rown ++ ((again me t0 as).rown ++ []) = _
        rw [List.append_nil, ac]
      rw [e, List.append_assoc]
      exact key _ (.inr ((List.Sublist.refl _).append (hs.append sl)))
    | pair =>
      refine ⟨⟨ft, ⟨f2, fc, True.intro⟩, f3, True.intro⟩, ?_⟩
      rw [hr]
      have e : (P.op "pair" [one, again me t0 as]).rown = one.rown ++ P.rowns as := by
        show one.rown ++ ((again me t0 as).rown ++ []) = _
        rw [List.append_nil, ac]
      rw [e, List.append_assoc]
      exact key _ (.inr ((List.Sublist.refl _).append (hs.append sl)))
    | turn =>
      refine ⟨⟨ft, ⟨fc, f2, True.intro⟩, f3, True.intro⟩, ?_⟩
      rw [hr]
      have e : (P.op "plus" [again me t0 as, one]).rown = P.rowns as ++ one.rown := by
        show (again me t0 as).rown ++ (one.rown ++ []) = _
        rw [List.append_nil, ac]
      rw [e, List.append_assoc]
      exact key _ (.inl (hs.append ((List.Sublist.refl _).append sl)))
  | @first f w r ks hm hw hk h8 =>
    have hf : f ∈ W.map (·.1) := by rw [hw]; exact List.mem_cons_self
    have e : (gives (.fn f) (ks.map P.num)).rown = [] := by
      rw [gives_rown]
      show [] ++ P.rowns (ks.map P.num) = []
      rw [List.nil_append]
      clear hk h8
      induction ks with
      | nil => rfl
      | cons k r ih => exact ih
    refine ⟨gives_fit hf (fits_iff.mpr fun a m => ?_), ?_⟩
    · obtain ⟨k, hk, rfl⟩ := List.mem_map.mp m
      have := h8 k hk
      show k.natAbs < 10 ^ 60
      have h60 : (8 : Nat) ≤ 10 ^ 60 := by decide +kernel
      generalize (10 : Nat) ^ 60 = z at h60 ⊢
      omega
    · rw [e]
      exact ⟨List.nodup_nil, fun x m => nomatch m⟩
/-- a program that fits -/
structure Fits (fs : List Fn) (d : P) : Prop where
  len : fs.length ≤ 8
  nm : ∀ g, g ∈ fs → nmOk g.1 ∧ ∀ x, x ∈ g.2.1 → nmOk x
  nd : (fs.map (·.1)).Nodup
  few : ∀ g, g ∈ fnsOf fs d → g.2.1.length ≤ 4
  bd : ∀ g, g ∈ fnsOf fs d → BodyOk g.2.2
  ft : ∀ g, g ∈ fnsOf fs d → g.2.2.fit (fs.map (·.1)) g.2.1
  hid : ∀ g, g ∈ fnsOf fs d → (g.2.1 ++ g.2.2.rown).Nodup
theorem Prog.fits {fs : List Fn} {d : P} (h : Prog fs d) : Fits fs d := by
  obtain ⟨h1, h2, h3⟩ := h.bodies
  obtain ⟨W, e, nd, l8, hW, hf, stk, hs, hb⟩ := h.ex
  have q2 := hb.more (fun q => absurd rfl q) hs.nd
  rw [e] at q2
  have key : ∀ g, g ∈ fnsOf fs d → g.2.1.length ≤ 4 ∧ BodyOk g.2.2 ∧ g.2.2.fit (fs.map (·.1)) g.2.1 ∧ (g.2.1 ++ g.2.2.rown).Nodup := fun g m => by
    rcases List.mem_append.mp m with m | m
    · obtain ⟨w, stk, hm, hw, hs, e2, hb⟩ := (hf g m).ex
      have hme : g.1 ∈ W.map (·.1) := List.mem_map.mpr ⟨_, hm, rfl⟩
      have q := hb.more (fun _ => hme) (hs.nd.sublist (List.drop_sublist _ _))
      rw [e] at q
      refine ⟨(h1 g m).2.1, (h1 g m).2.2.2, q.1, ?_⟩
      have hn := hs.nd
      rw [← List.take_append_drop w stk] at hn
      have hn := List.nodup_append.mp hn
      rw [e2, List.nodup_append]
      rw [e2] at q
      exact ⟨hn.1, q.2.1, fun a ha b hb => hn.2.2 a ha b (q.2.2 b hb)⟩
    · rw [List.mem_singleton.mp m]
      exact ⟨Nat.zero_le _, h2, q2.1, q2.2.1⟩
  exact ⟨h3, fun g m => ⟨(h1 g m).1, (h1 g m).2.2.1⟩, by rw [← e]; exact nd, fun g m => (key g m).1, fun g m => (key g m).2.1, fun g m => (key g m).2.2.1, fun g m => (key g m).2.2.2⟩
end Lz

set_option Elab.async false
set_option linter.all false
set_option maxRecDepth 100000
set_option maxHeartbeats 4000000
/-! Closed parts, shut ones among them: plain Lean. -/
namespace Lz
open PySem
theorem small9000 {n : Nat} (h : n ≤ 9000) : n < 2 ^ 24 := by
  have : (2 : Nat) ^ 24 = 16777216 := by decide
  omega
def kinds2 : List (Str × Nat) := ("shut", 1) :: kinds
mutual
/-- it is a closed part: kinds, shut ones too, names, functions that are there -/
def P.okS (F : List Str) : P → Prop
  | .num _ => True
  | .nam x => nmOk x
  | .fn x => nmOk x ∧ x ∈ F
  | .op k as => (k, as.length) ∈ kinds2 ∧ P.okSs F as
  | .lt nm as b => nm.length = as.length ∧ (∀ x, x ∈ nm → nmOk x) ∧ P.okSs F as ∧ P.okS F b
def P.okSs (F : List Str) : List P → Prop
  | [] => True
  | a :: as => P.okS F a ∧ P.okSs F as
end
theorem okSs_iff {F : List Str} : ∀ {as : List P}, P.okSs F as ↔ ∀ a, a ∈ as → a.okS F
  | [] => ⟨fun _ _ h => (nomatch h), fun _ => True.intro⟩
  | x :: xs => by
    show (P.okS F x ∧ P.okSs F xs) ↔ _
    rw [okSs_iff]
    refine ⟨fun h d m => ?_, fun h => ⟨h x List.mem_cons_self, fun d m => h d (List.mem_cons_of_mem _ m)⟩⟩
    rcases List.mem_cons.mp m with e | m
    · rw [e]; exact h.1
    · exact h.2 d m
theorem kinds_sub {k : Str} {n : Nat} (h : (k, n) ∈ kinds) : (k, n) ∈ kinds2 := List.mem_cons_of_mem _ h
mutual
theorem okS_of {F : List Str} : ∀ (t : P) (sc : List Str), t.ok → t.fit F sc → t.okS F
  | .num _, _, _, _ => True.intro
  | .nam _, _, h, _ => h
  | .fn _, _, h, k => ⟨h, k⟩
  | .op k as, sc, h, f => ⟨kinds_sub h.1, okSs_of as sc h.2 f⟩
  | .lt nm as b, sc, h, f => ⟨h.1, h.2.1, okSs_of as _ h.2.2.1 f.2.2.1, okS_of b _ h.2.2.2 f.2.2.2⟩
theorem okSs_of {F : List Str} : ∀ (as : List P) (sc : List Str), P.oks as → P.fits F as sc → P.okSs F as
  | [], _, _, _ => True.intro
  | a :: as, sc, h, f => ⟨okS_of a sc h.1 f.1, okSs_of as sc h.2 f.2⟩
end
theorem kind2_str {k : Str} {n : Nat} (h : (k, n) ∈ kinds2) : PyData.strOk k = true := by
  have h0 : kinds2.all (fun p => PyData.strOk p.1) = true := by decide +kernel
  exact List.all_eq_true.mp h0 _ h
theorem kind2_len {k : Str} {n : Nat} (h : (k, n) ∈ kinds2) : 1 ≤ n ∧ n ≤ 3 := by
  have h0 : kinds2.all (fun p => decide (1 ≤ p.2) && decide (p.2 ≤ 3)) = true := by decide +kernel
  have q := List.all_eq_true.mp h0 _ h
  simp only [Bool.and_eq_true, decide_eq_true_eq] at q
  exact q
theorem kind2_plain {k : Str} {n : Nat} (h : (k, n) ∈ kinds2) : k ≠ "let" ∧ k ≠ "number" ∧ k ≠ "name" ∧ k ≠ "fun" := by
  have h0 : kinds2.all (fun p => decide (p.1 ≠ "let") && decide (p.1 ≠ "number") && decide (p.1 ≠ "name") && decide (p.1 ≠ "fun")) = true := by decide +kernel
  have q := List.all_eq_true.mp h0 _ h
  simp only [Bool.and_eq_true, decide_eq_true_eq] at q
  exact ⟨q.1.1.1, q.1.1.2, q.1.2, q.2⟩
theorem give_two {n : Nat} (h : (("give" : Str), n) ∈ kinds2) : n = 2 := by
  have h0 : kinds2.all (fun p => !decide (p.1 = "give") || decide (p.2 = 2)) = true := by decide +kernel
  have q := List.all_eq_true.mp h0 _ h
  simpa using q
mutual
theorem data_layS {F : List Str} : ∀ t : P, t.okS F → t.data.canLay0 = true
  | .num _, _ => by
    show (PyData.tuple [.str "number", .int _]).canLay0 = true
    rw [lay_tup, lay_cons, lay_cons, lay_nil, lay_str]
    simp only [PyData.canLay0]
    decide +kernel
  | .nam x, h => by
    show (PyData.tuple [.str "name", .str x]).canLay0 = true
    rw [lay_tup, lay_cons, lay_cons, lay_nil, lay_str, lay_str, nmOk.strOk (show nmOk x from h)]
    decide +kernel
  | .fn x, h => by
    show (PyData.tuple [.str "fun", .str x]).canLay0 = true
    have h' : nmOk x ∧ x ∈ F := h
    rw [lay_tup, lay_cons, lay_cons, lay_nil, lay_str, lay_str, nmOk.strOk h'.1]
    decide +kernel
  | .op k as, h => by
    show (PyData.tuple (.str k :: P.datas as)).canLay0 = true
    have h' : (k, as.length) ∈ kinds2 ∧ P.okSs F as := h
    rw [lay_tup, lay_cons, lay_str, kind2_str h'.1, datas_layS as h'.2]
    rfl
  | .lt nm as b, h => by
    show (PyData.tuple [.str "let", .tuple (List.zipWith rowD nm (P.datas as)), b.data]).canLay0 = true
    have h' : nm.length = as.length ∧ (∀ x, x ∈ nm → nmOk x) ∧ P.okSs F as ∧ P.okS F b := h
    have hr : PyData.canLayAll0 (List.zipWith rowD nm (P.datas as)) = true := layAll_iff.mpr fun d m => by
      obtain ⟨x, e, hx, he, rfl⟩ := zip_mem m
      have q := layAll_iff.mp (datas_layS as h'.2.2.1) e he
      show (PyData.tuple [.str x, e]).canLay0 = true
      rw [lay_tup, lay_cons, lay_cons, lay_nil, lay_str, nmOk.strOk (h'.2.1 x hx), q]
      rfl
    rw [lay_tup, lay_cons, lay_cons, lay_cons, lay_nil, lay_str, lay_tup, hr, data_layS b h'.2.2.2]
    decide +kernel
theorem datas_layS {F : List Str} : ∀ as : List P, P.okSs F as → PyData.canLayAll0 (P.datas as) = true
  | [], _ => lay_nil
  | a :: as, h => by
    have h' : P.okS F a ∧ P.okSs F as := h
    show PyData.canLayAll0 (a.data :: P.datas as) = true
    rw [lay_cons, data_layS a h'.1, datas_layS as h'.2]
    rfl
end
theorem datas_shapedS {F : List Str} {as : List P} (h : P.okSs F as) (hd : P.deeps as ≤ 20) : SeqAt.shaped (.list (P.datas as)) = true := by
  have h1 := datas_depth as
  have e : (PyData.list (P.datas as)).depth = PyData.depthAll (P.datas as) + 1 := by simp only [PyData.depth]; try omega
  have e2 : (PyData.list (P.datas as)).canLay0 = PyData.canLayAll0 (P.datas as) := by rw [PyData.canLay0]
  unfold SeqAt.shaped
  rw [e2, datas_layS as h, Bool.true_and]
  exact decide_eq_true (by omega)
/-- the kind of a part -/
def P.hd : P → Str
  | .num _ => "number"
  | .nam _ => "name"
  | .fn _ => "fun"
  | .op k _ => k
  | .lt _ _ _ => "let"
def P.tl : P → List PyData
  | .num i => [.int i]
  | .nam x => [.str x]
  | .fn x => [.str x]
  | .op _ as => P.datas as
  | .lt nm as b => [.tuple (List.zipWith rowD nm (P.datas as)), b.data]
theorem data_hd : ∀ t : P, t.data = .tuple (.str t.hd :: t.tl)
  | .num _ => rfl
  | .nam _ => rfl
  | .fn _ => rfl
  | .op _ _ => rfl
  | .lt _ _ _ => rfl
theorem hd_give {F : List Str} {t : P} (h : t.okS F) (e : t.hd = "give") : ∃ a b, t = .op "give" [a, b] := by
  cases t with
  | num i => exact absurd (show ("number" : Str) = "give" from e) (by decide +kernel)
  | nam i => exact absurd (show ("name" : Str) = "give" from e) (by decide +kernel)
  | fn i => exact absurd (show ("fun" : Str) = "give" from e) (by decide +kernel)
  | lt nm as b => exact absurd (show ("let" : Str) = "give" from e) (by decide +kernel)
  | op k as =>
    obtain rfl : k = "give" := e
    have h2 := give_two (show (("give" : Str), as.length) ∈ kinds2 ∧ P.okSs F as from h).1
    match as, h2 with
    | [a, b], _ => exact ⟨a, b, rfl⟩
theorem hd_fun {F : List Str} {t : P} (h : t.okS F) (e : t.hd = "fun") : ∃ f, t = .fn f ∧ f ∈ F := by
  cases t with
  | num i => exact absurd (show ("number" : Str) = "fun" from e) (by decide +kernel)
  | nam i => exact absurd (show ("name" : Str) = "fun" from e) (by decide +kernel)
  | fn i => exact ⟨i, rfl, (show nmOk i ∧ i ∈ F from h).2⟩
  | lt nm as b => exact absurd (show ("let" : Str) = "fun" from e) (by decide +kernel)
  | op k as => exact absurd e (kind2_plain (show (k, as.length) ∈ kinds2 ∧ P.okSs F as from h).1).2.2.2
/-- so many gives, and what stands at their head -/
inductive Spine : P → Nat → P → Prop
  | stop {t : P} : t.hd ≠ "give" → Spine t 0 t
  | give {a b h : P} {n : Nat} : Spine a n h → Spine (.op "give" [a, b]) (n + 1) h
theorem spine_ex {F : List Str} : ∀ (n : Nat) (t : P), t.many ≤ n → t.okS F → ∃ k h, Spine t k h ∧ h.okS F ∧ h.hd ≠ "give"
  | 0, t, h, _ => by
    have := many_pos t
    omega
  | n + 1, t, h, ok => by
    by_cases e : t.hd = "give"
    · obtain ⟨a, b, rfl⟩ := hd_give ok e
      have hm : 1 + (a.many + (b.many + 0)) ≤ n + 1 := h
      have oa : a.okS F := (show _ ∧ (P.okS F a ∧ _) from ok).2.1
      obtain ⟨k, hh, h1, h2, h3⟩ := spine_ex n a (by omega) oa
      exact ⟨k + 1, hh, .give h1, h2, h3⟩
    · exact ⟨0, t, .stop e, ok, e⟩
/-- how many things the function of this name wants -/
def wantsOf (fs : List Fn) (f : Str) : Nat := match fs.find? (fun g => g.1 == f) with
  | some g => g.2.1.length
  | none => 0
theorem wants_at : ∀ {fs : List Fn} {i : Nat} {g : Fn}, (fs.map (·.1)).Nodup → fs[i]? = some g → wantsOf fs g.1 = g.2.1.length
  | [], i, g, _, h => by simp at h
  | f :: fs, 0, g, _, h => by
    obtain rfl : f = g := Option.some.inj h
    unfold wantsOf
    rw [List.find?_cons_of_pos (by simp)]
  | f :: fs, i + 1, g, nd, h => by
    have h' : fs[i]? = some g := h
    rw [List.map_cons, List.nodup_cons] at nd
    have hne : f.1 ≠ g.1 := fun e => nd.1 (List.mem_map.mpr ⟨g, List.mem_of_getElem? h', e.symm⟩)
    have q := wants_at nd.2 h'
    unfold wantsOf at q ⊢
    rw [List.find?_cons_of_neg (by simpa using hne)]
    exact q
def worthB (fs : List Fn) (n : Nat) (h : P) : Bool := match h with
  | .fn f => decide (n < wantsOf fs f)
  | h => decide (n = 0) && (decide (h.hd = "number") || decide (h.hd = "pair"))
theorem worth_fn (fs : List Fn) (n : Nat) (f : Str) : worthB fs n (.fn f) = decide (n < wantsOf fs f) := rfl
theorem worth_not {fs : List Fn} {n : Nat} {h : P} (e : h.hd ≠ "fun") : worthB fs n h = (decide (n = 0) && (decide (h.hd = "number") || decide (h.hd = "pair"))) := by
  cases h with
  | fn f => exact absurd rfl e
  | num _ => rfl
  | nam _ => rfl
  | op _ _ => rfl
  | lt _ _ _ => rfl
theorem wants_le {fs : List Fn} {f : Str} {m : Nat} (h : ∀ g, g ∈ fs → g.2.1.length ≤ m) : wantsOf fs f ≤ m := by
  unfold wantsOf
  cases e : fs.find? (fun g => g.1 == f) with
  | none => exact Nat.zero_le _
  | some g => exact h g (List.mem_of_find?_eq_some e)
/-- of what is within a part there are fewer -/
theorem inn_room {t a : P} (m : a ∈ t.inn) : a.many + t.inn.length ≤ t.many := by
  have h : ∀ as : List P, a ∈ as → a.many + as.length ≤ P.manys as + 1 := fun as => by
    induction as with
    | nil => exact fun m => nomatch m
    | cons x r ih =>
      intro m
      show a.many + (r.length + 1) ≤ x.many + P.manys r + 1
      have h1 := many_pos x
      have h2 := len_manys r
      rcases List.mem_cons.mp m with e | m
      · subst e; omega
      · have := ih m
        omega
  have h1 := h _ m
  rw [many_inn t]
  omega
theorem manys_le {c : Nat} : ∀ {as : List P}, (∀ a, a ∈ as → a.many ≤ c) → P.manys as ≤ c * as.length
  | [], _ => Nat.zero_le _
  | x :: r, h => by
    show x.many + P.manys r ≤ c * (r.length + 1)
    have h1 := h x List.mem_cons_self
    have h2 := manys_le (as := r) fun a m => h a (List.mem_cons_of_mem _ m)
    rw [Nat.mul_add]
    omega
end Lz

set_option Elab.async false
set_option linter.all false
set_option maxRecDepth 100000
set_option maxHeartbeats 4000000
/-! What is put in for names; the stack of what is made, from the last part to the first: plain Lean. -/
namespace Lz
open PySem
/-- what one goes on into: nothing of a shut part -/
def P.win : P → List P
  | .op k as => if k = "shut" then [] else as
  | .lt _ as b => as ++ [b]
  | _ => []
mutual
/-- all that is gone through, ahead of what is within -/
def P.alw : P → List P
  | .op k as => .op k as :: (if k = "shut" then [] else P.alws as)
  | .lt nm as b => .lt nm as b :: (P.alws as ++ P.alw b)
  | .num i => [.num i]
  | .nam x => [.nam x]
  | .fn x => [.fn x]
def P.alws : List P → List P
  | [] => []
  | a :: as => P.alw a ++ P.alws as
end
theorem alws_append : ∀ as bs : List P, P.alws (as ++ bs) = P.alws as ++ P.alws bs
  | [], bs => rfl
  | a :: as, bs => by
    show P.alw a ++ P.alws (as ++ bs) = P.alw a ++ P.alws as ++ P.alws bs
    rw [alws_append as bs, List.append_assoc]
theorem alw_win : ∀ t : P, t.alw = t :: P.alws t.win
  | .num _ => rfl
  | .nam _ => rfl
  | .fn _ => rfl
  | .op k as => by
    show P.op k as :: (if k = "shut" then [] else P.alws as) = P.op k as :: P.alws (if k = "shut" then [] else as)
    by_cases h : k = "shut"
    · rw [if_pos h, if_pos h]
      rfl
    · rw [if_neg h, if_neg h]
  | .lt nm as b => by
    show P.lt nm as b :: (P.alws as ++ P.alw b) = P.lt nm as b :: P.alws (as ++ [b])
    rw [alws_append]
    show _ = P.lt nm as b :: (P.alws as ++ (P.alw b ++ []))
    rw [List.append_nil]
theorem alws_cons (p : P) (r : List P) : P.alws (p :: r) = p :: P.alws (p.win ++ r) := by
  show p.alw ++ P.alws r = _
  rw [alw_win, alws_append]
  rfl
/-- how many are gone through, how deep -/
def P.mw (t : P) : Nat := t.alw.length
def P.mws (ts : List P) : Nat := (P.alws ts).length
theorem mws_append (as bs : List P) : P.mws (as ++ bs) = P.mws as + P.mws bs := by unfold P.mws; rw [alws_append, List.length_append]
theorem mw_win (t : P) : t.mw = P.mws t.win + 1 := by unfold P.mw P.mws; rw [alw_win, List.length_cons]
theorem mws_one (t : P) : P.mws [t] = t.mw := by
  show (t.alw ++ []).length = t.alw.length
  rw [List.append_nil]
theorem mws_rev (ts : List P) : P.mws ts.reverse = P.mws ts := by
  induction ts with
  | nil => rfl
  | cons a r ih =>
    rw [List.reverse_cons, mws_append, ih, mws_one]
    show _ = (a.alw ++ P.alws r).length
    rw [List.length_append]
    exact Nat.add_comm _ _
theorem mws_len : ∀ ts : List P, ts.length ≤ P.mws ts
  | [] => Nat.le_refl _
  | a :: r => by
    have h1 := mws_len r
    have h2 : P.mws (a :: r) = a.mw + P.mws r := by
      show (a.alw ++ P.alws r).length = _
      rw [List.length_append]
      rfl
    have h3 := mw_win a
    rw [List.length_cons]
    omega
theorem mws_mem {ts : List P} {a : P} (h : a ∈ ts) : a.mw ≤ P.mws ts := by
  induction ts with
  | nil => exact nomatch h
  | cons b r ih =>
    have h2 : P.mws (b :: r) = b.mw + P.mws r := by
      show (b.alw ++ P.alws r).length = _
      rw [List.length_append]
      rfl
    rcases List.mem_cons.mp h with e | m
    · rw [e]; omega
    · have := ih m
      omega
mutual
theorem mw_many : ∀ t : P, t.mw ≤ t.many
  | .num _ => Nat.le_refl _
  | .nam _ => Nat.le_refl _
  | .fn _ => Nat.le_refl _
  | .op k as => by
    have h := mws_manys as
    rw [mw_win]
    show P.mws (if k = "shut" then [] else as) + 1 ≤ 1 + P.manys as
    by_cases e : k = "shut"
    · rw [if_pos e]
      show 0 + 1 ≤ _
      omega
    · rw [if_neg e]
      omega
  | .lt nm as b => by
    have h := mws_manys as
    have h2 := mw_many b
    rw [mw_win]
    show P.mws (as ++ [b]) + 1 ≤ 1 + (P.manys as + b.many)
    rw [mws_append, mws_one]
    omega
theorem mws_manys : ∀ ts : List P, P.mws ts ≤ P.manys ts
  | [] => Nat.le_refl _
  | a :: r => by
    have h1 := mw_many a
    have h2 := mws_manys r
    show (a.alw ++ P.alws r).length ≤ a.many + P.manys r
    rw [List.length_append]
    exact Nat.add_le_add h1 h2
end
/-! ### what is put in -/
def getT (th : List (Str × P)) (x : Str) : Option P := (th.find? fun p => decide (p.1 = x)).map (·.2)
mutual
def P.put (th : List (Str × P)) : P → P
  | .nam x => match getT th x with
    | some p => .op "shut" [p]
    | none => .nam x
  | .op k as => .op k (if k = "shut" then as else P.puts th as)
  | .lt nm as b => .lt nm (P.puts th as) (P.put th b)
  | .num i => .num i
  | .fn x => .fn x
def P.puts (th : List (Str × P)) : List P → List P
  | [] => []
  | a :: as => P.put th a :: P.puts th as
end
section
variable {th : List (Str × P)}
theorem puts_map : ∀ as : List P, P.puts th as = as.map (P.put th)
  | [] => rfl
  | a :: as => by
    show P.put th a :: P.puts th as = _
    rw [puts_map as]
    rfl
theorem puts_len (as : List P) : (P.puts th as).length = as.length := by rw [puts_map, List.length_map]
theorem puts_append (as bs : List P) : P.puts th (as ++ bs) = P.puts th as ++ P.puts th bs := by rw [puts_map, puts_map, puts_map, List.map_append]
mutual
theorem put_nil : ∀ t : P, P.put [] t = t
  | .num _ => rfl
  | .nam _ => rfl
  | .fn _ => rfl
  | .op k as => by
    show P.op k (if k = "shut" then as else P.puts [] as) = P.op k as
    rw [puts_nil as, ite_self]
  | .lt nm as b => by
    show P.lt nm (P.puts [] as) (P.put [] b) = P.lt nm as b
    rw [puts_nil as, put_nil b]
theorem puts_nil : ∀ as : List P, P.puts [] as = as
  | [] => rfl
  | a :: as => by
    show P.put [] a :: P.puts [] as = a :: as
    rw [put_nil a, puts_nil as]
end
theorem put_name {x : Str} {p : P} (h : getT th x = some p) : P.put th (.nam x) = .op "shut" [p] := by
  show (match getT th x with | some p => P.op "shut" [p] | none => P.nam x) = _
  rw [h]
theorem put_name0 {x : Str} (h : getT th x = none) : P.put th (.nam x) = .nam x := by
  show (match getT th x with | some p => P.op "shut" [p] | none => P.nam x) = _
  rw [h]
theorem getT_mem {x : Str} {p : P} (h : getT th x = some p) : ∃ y, (y, p) ∈ th := by
  unfold getT at h
  cases e : th.find? (fun p => decide (p.1 = x)) with
  | none => rw [e] at h; cases h
  | some q =>
    rw [e] at h
    obtain rfl : q.2 = p := Option.some.inj h
    exact ⟨q.1, List.mem_of_find?_eq_some e⟩
/-! how many, how deep -/
mutual
theorem mw_put : ∀ t : P, (P.put th t).mw = t.mw
  | .num _ => rfl
  | .nam x => by
    cases h : getT th x with
    | none => rw [put_name0 h]
    | some p => rw [put_name h, mw_win, mw_win]; rfl
  | .fn _ => rfl
  | .op k as => by
    rw [mw_win, mw_win]
    show P.mws (if k = "shut" then [] else (if k = "shut" then as else P.puts th as)) + 1 = P.mws (if k = "shut" then [] else as) + 1
    by_cases e : k = "shut"
    · rw [if_pos e, if_pos e]
    · rw [if_neg e, if_neg e, if_neg e, mws_puts as]
  | .lt nm as b => by
    rw [mw_win, mw_win]
    show P.mws (P.puts th as ++ [P.put th b]) + 1 = P.mws (as ++ [b]) + 1
    rw [mws_append, mws_append, mws_puts as, mws_one, mws_one, mw_put b]
theorem mws_puts : ∀ as : List P, P.mws (P.puts th as) = P.mws as
  | [] => rfl
  | a :: as => by
    have h1 := mw_put a
    have h2 := mws_puts as
    show (P.alw (P.put th a) ++ P.alws (P.puts th as)).length = (P.alw a ++ P.alws as).length
    rw [List.length_append, List.length_append]
    exact congr (congrArg _ h1) h2
end
end
mutual
/-- how deep, shut parts not gone into -/
def P.dw : P → Nat
  | .op k as => 1 + (if k = "shut" then 0 else P.dws as)
  | .lt _ as b => 1 + max (P.dws as) (P.dw b)
  | .num _ => 1
  | .nam _ => 1
  | .fn _ => 1
def P.dws : List P → Nat
  | [] => 0
  | a :: as => max (P.dw a) (P.dws as)
end
mutual
theorem dw_deep : ∀ t : P, t.dw ≤ t.deep
  | .num _ => Nat.le_refl _
  | .nam _ => Nat.le_refl _
  | .fn _ => Nat.le_refl _
  | .op k as => by
    have h := dws_deeps as
    show 1 + (if k = "shut" then 0 else P.dws as) ≤ 1 + P.deeps as
    by_cases e : k = "shut"
    · rw [if_pos e]; omega
    · rw [if_neg e]; omega
  | .lt nm as b => by
    have h := dws_deeps as
    have h2 := dw_deep b
    show 1 + max (P.dws as) b.dw ≤ 1 + max (P.deeps as) b.deep
    omega
theorem dws_deeps : ∀ as : List P, P.dws as ≤ P.deeps as
  | [] => Nat.le_refl _
  | a :: as => by
    have h := dws_deeps as
    have h2 := dw_deep a
    show max a.dw (P.dws as) ≤ max a.deep (P.deeps as)
    omega
end
section
variable {th : List (Str × P)}
mutual
theorem dw_put : ∀ t : P, (P.put th t).dw = t.dw
  | .num _ => rfl
  | .nam x => by
    cases h : getT th x with
    | none => rw [put_name0 h]
    | some p => rw [put_name h]; rfl
  | .fn _ => rfl
  | .op k as => by
    show 1 + (if k = "shut" then 0 else P.dws (if k = "shut" then as else P.puts th as)) = 1 + (if k = "shut" then 0 else P.dws as)
    by_cases e : k = "shut"
    · rw [if_pos e, if_pos e]
    · rw [if_neg e, if_neg e, if_neg e, dws_puts as]
  | .lt nm as b => by
    show 1 + max (P.dws (P.puts th as)) (P.put th b).dw = 1 + max (P.dws as) b.dw
    rw [dws_puts as, dw_put b]
theorem dws_puts : ∀ as : List P, P.dws (P.puts th as) = P.dws as
  | [] => rfl
  | a :: as => by
    show max (P.put th a).dw (P.dws (P.puts th as)) = max a.dw (P.dws as)
    rw [dws_puts as, dw_put a]
end
mutual
theorem deep_put {D : Nat} (hD : ∀ x p, (x, p) ∈ th → p.deep ≤ D) : ∀ t : P, (P.put th t).deep ≤ max t.deep (t.dw + D)
  | .num _ => Nat.le_max_left _ _
  | .nam x => by
    cases h : getT th x with
    | none => rw [put_name0 h]; exact Nat.le_max_left _ _
    | some p =>
      obtain ⟨y, m⟩ := getT_mem h
      have := hD y p m
      rw [put_name h]
      show 1 + max p.deep 0 ≤ max 1 (1 + D)
      omega
  | .fn _ => Nat.le_max_left _ _
  | .op k as => by
    have h := deeps_put hD as
    show 1 + P.deeps (if k = "shut" then as else P.puts th as) ≤ max (1 + P.deeps as) (1 + (if k = "shut" then 0 else P.dws as) + D)
    by_cases e : k = "shut"
    · rw [if_pos e]; omega
    · rw [if_neg e, if_neg e]; omega
  | .lt nm as b => by
    have h := deeps_put hD as
    have h2 := deep_put hD b
    show 1 + max (P.deeps (P.puts th as)) (P.put th b).deep ≤ max (1 + max (P.deeps as) b.deep) (1 + max (P.dws as) b.dw + D)
    omega
theorem deeps_put {D : Nat} (hD : ∀ x p, (x, p) ∈ th → p.deep ≤ D) : ∀ as : List P, P.deeps (P.puts th as) ≤ max (P.deeps as) (P.dws as + D)
  | [] => Nat.zero_le _
  | a :: as => by
    have h := deeps_put hD as
    have h2 := deep_put hD a
    show max (P.put th a).deep (P.deeps (P.puts th as)) ≤ max (max a.deep (P.deeps as)) (max a.dw (P.dws as) + D)
    omega
end
mutual
theorem okS_put {F : List Str} (hF : ∀ x p, (x, p) ∈ th → p.okS F) : ∀ t : P, t.okS F → (P.put th t).okS F
  | .num _, _ => True.intro
  | .nam x, h => by
    cases e : getT th x with
    | none => rw [put_name0 e]; exact h
    | some p =>
      obtain ⟨y, m⟩ := getT_mem e
      rw [put_name e]
      exact ⟨List.mem_cons_self, hF y p m, True.intro⟩
  | .fn _, h => h
  | .op k as, h => by
    have h' : (k, as.length) ∈ kinds2 ∧ P.okSs F as := h
    show (k, (if k = "shut" then as else P.puts th as).length) ∈ kinds2 ∧ P.okSs F (if k = "shut" then as else P.puts th as)
    by_cases e : k = "shut"
    · rw [if_pos e]; exact h'
    · rw [if_neg e, puts_len]; exact ⟨h'.1, okSs_put hF as h'.2⟩
  | .lt nm as b, h => by
    have h' : nm.length = as.length ∧ (∀ x, x ∈ nm → nmOk x) ∧ P.okSs F as ∧ P.okS F b := h
    show nm.length = (P.puts th as).length ∧ (∀ x, x ∈ nm → nmOk x) ∧ P.okSs F (P.puts th as) ∧ P.okS F (P.put th b)
    rw [puts_len]
    exact ⟨h'.1, h'.2.1, okSs_put hF as h'.2.2.1, okS_put hF b h'.2.2.2⟩
theorem okSs_put {F : List Str} (hF : ∀ x p, (x, p) ∈ th → p.okS F) : ∀ as : List P, P.okSs F as → P.okSs F (P.puts th as)
  | [], _ => True.intro
  | a :: as, h => ⟨okS_put hF a h.1, okSs_put hF as h.2⟩
end
/-! ### the stack -/
/-- what has been made of these, the last one first: top ahead -/
def stk (th : List (Str × P)) : List P → List P
  | [] => []
  | p :: r => P.put th p :: (stk th r).drop p.win.length
theorem stk_alws : ∀ (n : Nat) (ps R : List P), (P.alws ps).length ≤ n → stk th (P.alws ps ++ R) = P.puts th ps ++ stk th R
  | n, [], R, _ => rfl
  | 0, p :: r, R, h => by
    rw [alws_cons] at h
    exact absurd h (by rw [List.length_cons]; omega)
  | n + 1, p :: r, R, h => by
    rw [alws_cons, List.length_cons] at h
    have h1 : stk th (P.alws (p.win ++ r) ++ R) = P.puts th (p.win ++ r) ++ stk th R := stk_alws n _ R (by omega)
    rw [alws_cons]
    show P.put th p :: (stk th (P.alws (p.win ++ r) ++ R)).drop p.win.length = P.put th p :: (P.puts th r ++ stk th R)
    rw [h1, puts_append, List.append_assoc]
    have e : p.win.length = (P.puts th p.win).length := (puts_len _).symm
    rw [e, List.drop_left]
theorem stk_all (t : P) : stk th t.alw = [P.put th t] := by
  have h := stk_alws (th := th) _ [t] [] (Nat.le_refl _)
  have e : P.alws [t] = t.alw := List.append_nil _
  rw [e, List.append_nil] at h
  exact h
/-- behind each part stands what is within it -/
theorem alws_suffix : ∀ (n : Nat) (ps : List P), (P.alws ps).length ≤ n → ∀ (j : Nat) (o : P), (P.alws ps)[j]? = some o → ∃ R, (P.alws ps).drop (j + 1) = P.alws o.win ++ R
  | n, [], _, j, o, h => by cases h
  | 0, p :: r, hn, _, _, _ => by
    rw [alws_cons] at hn
    exact absurd hn (by rw [List.length_cons]; omega)
  | n + 1, p :: r, hn, j, o, h => by
    rw [alws_cons, List.length_cons] at hn
    rw [alws_cons] at h ⊢
    cases j with
    | zero =>
      obtain rfl : p = o := Option.some.inj h
      exact ⟨P.alws r, by rw [List.drop_succ_cons, List.drop_zero, alws_append]⟩
    | succ j =>
      rw [List.getElem?_cons_succ] at h
      obtain ⟨R, e⟩ := alws_suffix n _ (by omega) j o h
      exact ⟨R, by rw [List.drop_succ_cons]; exact e⟩
/-- ahead of the turn of a part the stack's top is what has been made of what is within it -/
theorem stk_turn {t o : P} {j : Nat} (h : t.alw[j]? = some o) : ∃ S, stk th (t.alw.drop (j + 1)) = P.puts th o.win ++ S ∧ stk th (t.alw.drop j) = P.put th o :: S := by
  have e : P.alws [t] = t.alw := List.append_nil _
  rw [← e] at h ⊢
  obtain ⟨R, hR⟩ := alws_suffix _ [t] (Nat.le_refl _) j o h
  refine ⟨stk th R, ?_, ?_⟩
  · rw [hR]
    exact stk_alws _ _ R (Nat.le_refl _)
  · obtain ⟨hl, hg⟩ := List.getElem?_eq_some_iff.mp h
    have e1 : (P.alws [t]).drop j = o :: (P.alws [t]).drop (j + 1) := by
      rw [List.drop_eq_getElem_cons hl, hg]
    rw [e1]
    show P.put th o :: (stk th ((P.alws [t]).drop (j + 1))).drop o.win.length = _
    rw [hR, stk_alws _ _ R (Nat.le_refl _)]
    have e2 : o.win.length = (P.puts th o.win).length := (puts_len _).symm
    rw [e2, List.drop_left]
theorem stk_len : ∀ L : List P, (stk th L).length ≤ L.length
  | [] => Nat.le_refl _
  | p :: r => by
    have h := stk_len r
    show ((stk th r).drop p.win.length).length + 1 ≤ r.length + 1
    rw [List.length_drop]
    omega
end
theorem win_okS {F : List Str} {t a : P} (h : t.okS F) (m : a ∈ t.win) : a.okS F := by
  cases t with
  | num i => exact nomatch m
  | nam i => exact nomatch m
  | fn i => exact nomatch m
  | op k as =>
    have m' : a ∈ (if k = "shut" then [] else as) := m
    by_cases e : k = "shut"
    · rw [if_pos e] at m'
      exact nomatch m'
    · rw [if_neg e] at m'
      exact okSs_iff.mp (show (k, as.length) ∈ kinds2 ∧ P.okSs F as from h).2 a m'
  | lt nm as b =>
    have h' : nm.length = as.length ∧ (∀ x, x ∈ nm → nmOk x) ∧ P.okSs F as ∧ P.okS F b := h
    rcases List.mem_append.mp (show a ∈ as ++ [b] from m) with m | m
    · exact okSs_iff.mp h'.2.2.1 a m
    · rw [List.mem_singleton.mp m]
      exact h'.2.2.2
theorem win_dw {t a : P} (m : a ∈ t.win) : a.dw + 1 ≤ t.dw := by
  have hm : ∀ as : List P, a ∈ as → a.dw ≤ P.dws as := fun as => by
    induction as with
    | nil => exact fun m => nomatch m
    | cons b r ih =>
      intro m
      show a.dw ≤ max b.dw (P.dws r)
      rcases List.mem_cons.mp m with e | m
      · rw [e]; omega
      · have := ih m
        omega
  cases t with
  | num i => exact nomatch m
  | nam i => exact nomatch m
  | fn i => exact nomatch m
  | op k as =>
    have m' : a ∈ (if k = "shut" then [] else as) := m
    show _ ≤ 1 + (if k = "shut" then 0 else P.dws as)
    by_cases e : k = "shut"
    · rw [if_pos e] at m'
      exact nomatch m'
    · rw [if_neg e] at m' ⊢
      have := hm as m'
      omega
  | lt nm as b =>
    show _ ≤ 1 + max (P.dws as) b.dw
    rcases List.mem_append.mp (show a ∈ as ++ [b] from m) with m | m
    · have := hm as m
      omega
    · rw [List.mem_singleton.mp m]
      omega
theorem alw_okS {F : List Str} {t : P} (h : t.okS F) : ∀ o, o ∈ t.alw → o.okS F := by
  have key : ∀ (n : Nat) (ps : List P), (P.alws ps).length ≤ n → (∀ p, p ∈ ps → p.okS F) → ∀ o, o ∈ P.alws ps → o.okS F := fun n => by
    induction n with
    | zero =>
      intro ps hn _ o m
      have e : P.alws ps = [] := List.eq_nil_of_length_eq_zero (by omega)
      rw [e] at m
      exact nomatch m
    | succ n ih =>
      intro ps hn hp o m
      cases ps with
      | nil => exact nomatch m
      | cons p r =>
        rw [alws_cons] at hn m
        rw [List.length_cons] at hn
        rcases List.mem_cons.mp m with e | m
        · rw [e]; exact hp p List.mem_cons_self
        · refine ih (p.win ++ r) (by omega) (fun q mq => ?_) o m
          rcases List.mem_append.mp mq with mq | mq
          · exact win_okS (hp p List.mem_cons_self) mq
          · exact hp q (List.mem_cons_of_mem _ mq)
  intro o m
  refine key _ [t] (Nat.le_refl _) (fun p mp => by rw [List.mem_singleton.mp mp]; exact h) o ?_
  show o ∈ t.alw ++ []
  rw [List.append_nil]
  exact m
theorem alw_mw {t : P} : ∀ o, o ∈ t.alw → o.mw ≤ t.mw := by
  have key : ∀ (n : Nat) (ps : List P), (P.alws ps).length ≤ n → ∀ o, o ∈ P.alws ps → o.mw ≤ P.mws ps := fun n => by
    induction n with
    | zero =>
      intro ps hn o m
      have e : P.alws ps = [] := List.eq_nil_of_length_eq_zero (by omega)
      rw [e] at m
      exact nomatch m
    | succ n ih =>
      intro ps hn o m
      cases ps with
      | nil => exact nomatch m
      | cons p r =>
        have hm := mws_mem (ts := p :: r) (a := p) List.mem_cons_self
        have e1 : P.mws (p :: r) = P.mws (p.win ++ r) + 1 := by unfold P.mws; rw [alws_cons, List.length_cons]
        rw [alws_cons] at hn m
        rw [List.length_cons] at hn
        rcases List.mem_cons.mp m with e | m
        · rw [e]; exact hm
        · have := ih (p.win ++ r) (by omega) o m
          omega
  intro o m
  have h := key _ [t] (Nat.le_refl _) o (by show o ∈ t.alw ++ []; rw [List.append_nil]; exact m)
  rw [mws_one] at h
  exact h
end Lz

set_option Elab.async false
set_option linter.all false
set_option maxRecDepth 100000
set_option maxHeartbeats 4000000
/-! Parts and programs as they lie in the heap, of whatever kinds. -/
namespace Lz
open PySem PySem.Spec PyProof.Rows L2
section
variable {K : PySem.W.Frag} {H : Hp}
theorem hd_at {v : V} {t : Lz.P} (h : Dp K H v t.data) : ∃ a xs, v = .ref a ∧ SqT K H a (.str t.hd :: xs) ∧ DpAll K H xs t.tl := by
  rw [data_hd] at h
  obtain ⟨a, xs, rfl, ht, hx⟩ := h.tup_of
  cases hx with
  | cons h1 h2 =>
    cases h1
    exact ⟨a, _, rfl, ht, h2⟩
theorem op_atU {v : V} {k : Str} {as : List Lz.P} (h : Dp K H v (Lz.P.op k as).data) : ∃ a xs, v = .ref a ∧ SqT K H a (.str k :: xs) ∧ DpAll K H xs (Lz.P.datas as) := hd_at (t := .op k as) h
theorem str_at {v : V} {t : Lz.P} {x : Str} (h : Dp K H v t.data) (e : t.tl = [.str x]) : ∃ a, v = .ref a ∧ SqT K H a [.str t.hd, .str x] := by
  obtain ⟨a, xs, rfl, ht, hx⟩ := hd_at h
  rw [e] at hx
  cases hx with
  | cons h1 h2 =>
    cases h1
    cases h2
    exact ⟨a, rfl, ht⟩
theorem give_at {v : V} {a b : Lz.P} (h : Dp K H v (Lz.P.op "give" [a, b]).data) : ∃ p va vb, v = .ref p ∧ SqT K H p [.str "give", va, vb] ∧ Dp K H va a.data ∧ Dp K H vb b.data := by
  obtain ⟨p, xs, rfl, ht, hx⟩ := op_atU h
  cases hx with
  | cons h1 h2 =>
    cases h2 with
    | cons h3 h4 =>
      cases h4
      exact ⟨p, _, _, rfl, ht, h1, h3⟩
theorem let_atU {v : V} {nm : List Str} {as : List Lz.P} {b : Lz.P} (h : Dp K H v (Lz.P.lt nm as b).data) : ∃ a r rs vb, v = .ref a ∧ SqT K H a [.str "let", .ref r, vb] ∧ SqT K H r rs ∧ DpAll K H rs (List.zipWith rowD nm (Lz.P.datas as)) ∧ Dp K H vb b.data := by
  obtain ⟨a, xs, rfl, ht, hx⟩ := hd_at h
  cases hx with
  | cons h3 h4 =>
    obtain ⟨r, rs, rfl, hr, hrs⟩ := h3.tup_of
    cases h4 with
    | cons h5 h6 =>
      cases h6
      exact ⟨a, r, rs, _, rfl, ht, hr, hrs, h5⟩
theorem prog_at {v : V} {fs : List Fn} {d : Lz.P} (h : Dp K H v (progD fs d)) : ∃ pr ft rs vd, v = .ref pr ∧ SqT K H pr [.ref ft, vd] ∧ SqT K H ft rs ∧ DpAll K H rs (fs.map fD) ∧ Dp K H vd d.data := by
  obtain ⟨pr, xs, rfl, hpr, hxs⟩ := Dp.tup_of (ds := [.tuple (fs.map fD), d.data]) h
  cases hxs with
  | cons h1 h2 =>
    obtain ⟨ft, rs, rfl, hft, hrs⟩ := h1.tup_of
    cases h2 with
    | cons h3 h4 =>
      cases h4
      exact ⟨pr, ft, rs, _, rfl, hpr, hft, hrs, h3⟩
theorem strs_of : ∀ {ss : List Str} {rs : List V}, DpAll K H rs (ss.map .str) → rs = ss.map V.str
  | [], _, h => by cases h; rfl
  | s :: r, _, h => by
    cases h with
    | cons a b =>
      cases a
      rw [strs_of b]
      rfl
/-- a function's tuple -/
theorem fn_atU {xs : List V} {gs : List Fn} {i : Nat} {x : V} (h : DpAll K H xs (gs.map fD)) (hi : xs[i]? = some x) : ∃ g t r u, gs[i]? = some g ∧ x = .ref t ∧ SqT K H t [.str g.1, .ref r, u] ∧ SqT K H r (g.2.1.map V.str) ∧ Dp K H u g.2.2.data := by
  obtain ⟨e, he, hd⟩ := h.at hi
  rw [List.getElem?_map] at he
  obtain ⟨g, hg, rfl⟩ : ∃ g, gs[i]? = some g ∧ e = fD g := by
    cases e1 : gs[i]? with
    | none => rw [e1] at he; cases he
    | some y => rw [e1] at he; exact ⟨y, rfl, (Option.some.inj he).symm⟩
  obtain ⟨t, zs, rfl, ht, hzs⟩ := Dp.tup_of (ds := [.str g.1, .tuple (g.2.1.map .str), g.2.2.data]) hd
  cases hzs with
  | cons h1 h2 =>
    cases h1
    cases h2 with
    | cons h3 h4 =>
      obtain ⟨r, rs, rfl, hr, hrs⟩ := h3.tup_of
      rw [strs_of hrs] at hr
      cases h4 with
      | cons h5 h6 =>
        cases h6
        exact ⟨g, t, r, _, hg, rfl, ht, hr, h5⟩
theorem part_atU {xs : List V} {ts : List Lz.P} {i : Nat} {v : V} (h : DpAll K H xs (Lz.P.datas ts)) (hi : xs[i]? = some v) : ∃ d, ts[i]? = some d ∧ Dp K H v d.data := by
  obtain ⟨e, he, hd⟩ := h.at hi
  rw [datas_map, List.getElem?_map] at he
  cases ha : ts[i]? with
  | none => rw [ha] at he; cases he
  | some d =>
    rw [ha] at he
    obtain rfl : d.data = e := Option.some.inj he
    exact ⟨d, rfl, hd⟩
theorem row_atU {rs : List V} {nm : List Str} {as : List Lz.P} {i : Nat} {v : V} (h : DpAll K H rs (List.zipWith rowD nm (Lz.P.datas as))) (hi : rs[i]? = some v) : ∃ (t : Addr) (x : Str) (u : V) (d : Lz.P), v = .ref t ∧ SqT K H t [.str x, u] ∧ nm[i]? = some x ∧ as[i]? = some d ∧ Dp K H u d.data := by
  obtain ⟨e, he, hd⟩ := h.at hi
  rw [List.getElem?_zipWith] at he
  cases hx : nm[i]? with
  | none => rw [hx] at he; cases he
  | some x =>
    rw [hx, datas_map, List.getElem?_map] at he
    cases ha : as[i]? with
    | none => rw [ha] at he; cases he
    | some d =>
      rw [ha] at he
      obtain rfl : rowD x d.data = e := Option.some.inj he
      obtain ⟨t, xs, rfl, ht, hxs⟩ := Dp.tup_of (ds := [.str x, d.data]) hd
      cases hxs with
      | cons h1 h2 =>
        cases h1
        cases h2 with
        | cons h3 h4 =>
          cases h4
          exact ⟨t, x, _, d, rfl, ht, rfl, rfl, h3⟩
end
theorem cut_tlU (x : V) (xs : List V) : cutV (x :: xs) (some 1) none = xs := by
  unfold cutV
  rw [HT.sIx_none, show HT.sIx (x :: xs).length 0 (some 1) = min 1 (x :: xs).length from HT.sIx_nat _ _ 1]
  have e : min 1 (x :: xs).length = 1 := by rw [List.length_cons]; omega
  rw [e]
  exact List.take_of_length_le (by show xs.length ≤ (x :: xs).length - 1; rw [List.length_cons]; omega)
theorem not_wholeU (x : V) (xs : List V) : ¬ (HT.sIx (x :: xs).length 0 (some 1) = 0 ∧ HT.sIx (x :: xs).length (x :: xs).length none = (x :: xs).length) := fun h => by
  have e := h.1
  rw [show HT.sIx (x :: xs).length 0 (some 1) = min 1 (x :: xs).length from HT.sIx_nat _ _ 1, List.length_cons] at e
  omega
theorem inU (x : Str) : ∀ xs : List Str, inV (.str x) (xs.map V.str) = decide (x ∈ xs)
  | [] => by
    show false = _
    rw [decide_eq_false (fun m => nomatch m)]
  | y :: r => by
    have e : inV (.str x) ((y :: r).map V.str) = ((y == x) || inV (.str x) (r.map V.str)) := rfl
    rw [e, inU x r, Bool.eq_iff_iff, Bool.or_eq_true, beq_iff_eq, decide_eq_true_iff, decide_eq_true_iff, List.mem_cons]
    exact ⟨fun h => h.elim (fun h => .inl h.symm) .inr, fun h => h.elim (fun h => .inl h.symm) .inr⟩
theorem flatU (xs : List Str) : (xs.map V.str).all flatV = true := by
  rw [List.all_eq_true]
  intro z hz
  obtain ⟨s, _, rfl⟩ := List.mem_map.mp hz
  rfl
theorem progU_fz (fs : List Fn) (d : Lz.P) : fz (progD fs d) = true := by
  show (fzAll (fs.map fD) && (fz d.data && true)) = true
  rw [show fzAll (fs.map fD) = true from fzAll_iff.mpr fun e m => by
    obtain ⟨f, _, rfl⟩ := List.mem_map.mp m
    show (true && (fzAll (f.2.1.map .str) && (fz f.2.2.data && true))) = true
    rw [strs_fz, data_fz]
    rfl, data_fz]
  rfl
theorem fdU_fz (fs : List Fn) : fzAll (fs.map fD) = true := fzAll_iff.mpr fun e m => by
  obtain ⟨f, _, rfl⟩ := List.mem_map.mp m
  show (true && (fzAll (f.2.1.map .str) && (fz f.2.2.data && true))) = true
  rw [strs_fz, data_fz]
  rfl
theorem flenU {fs : List Fn} {d : Lz.P} (h : PrOk fs d) : (fnsOf fs d).length ≤ 9 := by
  have := h.len
  show (fs ++ [askedFn d]).length ≤ 9
  rw [List.length_append, List.length_singleton]
  omega
theorem PrOk.ndf {fs : List Fn} {d : Lz.P} (h : PrOk fs d) : (fs.map (·.1)).Nodup := by
  have q := h.nd
  unfold fnsOf at q
  rw [List.map_append, List.nodup_append] at q
  exact q.1
theorem fns_get {fs : List Fn} {d : Lz.P} {i : Nat} {g : Fn} (h : fs[i]? = some g) : (fnsOf fs d)[i]? = some g := by
  unfold fnsOf
  rw [List.getElem?_append_left (List.getElem?_eq_some_iff.mp h).1]
  exact h
theorem fn_get {fs : List Fn} {f : Str} (h : f ∈ fs.map (·.1)) : ∃ (i : Nat) (g : Fn), fs[i]? = some g ∧ g.1 = f := by
  obtain ⟨g, hg, rfl⟩ := List.mem_map.mp h
  obtain ⟨i, hi⟩ := List.mem_iff_getElem?.mp hg
  exact ⟨i, g, hi, rfl⟩
end Lz

set_option Elab.async false
set_option linter.all false
set_option maxRecDepth 100000
set_option maxHeartbeats 4000000
/-! zip of a tuple and a list. -/
namespace StZ
open PySem PySem.Spec PyProof.Rows L2 RZ
section
variable {P : Program} {w : World} {A : Around} {E : Value → Shared → Prop} {t : Shared}
/-- a tuple's and a list's turn of a zip at q, of the iterators at u and v -/
structure At (h : Heap) (q I O u v a b : Addr) (i j : Nat) (xs ys : Array Value) : Prop where
  u1 : h.IsTupleIter u a i
  v1 : h.IsListIter v b j
  a1 : h.IsTuple a xs
  b1 : h.IsList b ys
/-- what the turn leaves -/
def Kept (h g : Heap) (q O u v : Addr) : Prop := ∀ c o, c ≠ q → c ≠ O → c ≠ u → c ≠ v → h.get? c = some o → g.get? c = some o
theorem one_turn {q I O u v a b : Addr} {i j : Nat} {xs ys : Array Value} {x y m n : Value} {Q : Value → Shared → Prop} (Ap : ZipApart q I O u v a b) (zq : IsZip t.heap q I O .none) (zi : IsPair t.heap I (.ref u) (.ref v)) (zo : IsPair t.heap O m n) (S : At t.heap q I O u v a b i j xs ys) (ex : xs[i]? = some x) (ey : ys[j]? = some y)
    (k : ∀ g, IsZip g q I O (rawInt t.heap.objs.size) → IsPair g O x y → g.IsTupleIter u a (i + 1) → g.IsListIter v b (j + 1) → IsPair g t.heap.objs.size x y → g.objs.size = t.heap.objs.size + 1 → Kept t.heap g q O u v → Q (.ref t.heap.objs.size) { t with heap := g }) :
    wpAny (model P w) A (Builtin.«zip.__next__» ⟨[.ref q], []⟩) (fun f t' => ∃ r, f = .done (.ret r) ∧ Q r t') E t := by
  show wpAny _ _ (field (.ref q) 2 >>= _) _ _ _
  refine wpAny_bind (wpAny_field zq rfl (x := .bool false) rfl ?_); show wpAny _ _ (field (.ref q) 3 >>= _) _ _ _
  refine wpAny_bind (wpAny_field zq rfl (x := .ref I) rfl (wpAny_bind (wpAny_seqItems zi rfl ?_)))
  show wpAny _ _ (Builtin.SmallTypes.ownedTupleIsFree (.ref q) >>= _) _ _ _
  refine wpAny_bind ?_; unfold Builtin.SmallTypes.ownedTupleIsFree
  refine wpAny_bind (wpAny_field zq rfl (x := .none) rfl (wpAny_pure ?_)); simp only [if_true]
  refine wpAny_bind (wpAny_rule (wpAny_bind (wpAny_field zq rfl (x := .ref O) rfl ?_)))
  refine wpAny_bind (wpAny_setField_rec zq (by simp) fun g1 zq1 s1 => ?_)
  have zq1 : IsZip g1 q I O .ellipsis := zq1
  refine wpAny_bind ?_; simp only [List.zipIdx_cons, List.zipIdx_nil, List.forIn_cons, List.forIn_nil]
  -- the tuple's
  refine wpAny_bind (wpAny_bind (wpAny_onRaise ?_)); show wpAny _ _ (Builtin.SmallTypes.nextOf (.ref u) >>= _) _ _ _
  refine wpAny_bind (nextOf_tuple_item (S.u1.extBut s1.extBut Ap.i1z) (S.a1.extBut s1.extBut Ap.l1z) ex fun g2 u2 s2 => wpAny_pure ?_)
  have zo2 : IsPair g2 O m n := s2.extBut _ _ Ap.TOi1 (s1.extBut _ _ Ap.TOz zo)
  refine wpAny_bind (wpAny_seqItems zo2 rfl (wpAny_bind (wpAny_updateSeq_pair zo2 fun g3 zo3 s3 => ?_)))
  have zo3 : IsPair g3 O x n := zo3
  refine wpAny_bind (wpAny_letGo (wpAny_pure ?_))
  -- the list's
  refine wpAny_bind (wpAny_bind (wpAny_onRaise ?_)); show wpAny _ _ (Builtin.SmallTypes.nextOf (.ref v) >>= _) _ _ _
  have v3 := ((S.v1.extBut s1.extBut Ap.i2z).extBut s2.extBut Ap.i12.symm).extBut s3.extBut Ap.TOi2.symm
  have b3 := ((S.b1.extBut s1.extBut Ap.l2z).extBut s2.extBut Ap.l2i1).extBut s3.extBut Ap.l2TO
  refine wpAny_bind (wpAny_nextOf_list_item v3 b3 ey fun g4 v4 s4 => wpAny_pure ?_)
  have zo4 : IsPair g4 O x n := s4.extBut _ _ Ap.TOi2 zo3
  refine wpAny_bind (wpAny_seqItems zo4 rfl (wpAny_bind (wpAny_updateSeq_pair zo4 fun g5 zo5 s5 => ?_)))
  have zo5 : IsPair g5 O x y := zo5
  refine wpAny_bind (wpAny_letGo (wpAny_pure (wpAny_pure (wpAny_bind (wpAny_seqItems zo5 rfl (wpAny_bind (wpAny_newTuple ?_)))))))
  have big : g5.objs.size = t.heap.objs.size := by rw [s5.1, s4.1, s3.1, s2.1, s1.1]
  have zq5 : IsZip g5 q I O .ellipsis := s5.extBut _ _ Ap.TOz.symm (s4.extBut _ _ Ap.i2z.symm (s3.extBut _ _ Ap.TOz.symm (s2.extBut _ _ Ap.i1z.symm zq1)))
  have all5 : Kept t.heap g5 q O u v := fun c o n1 n2 n3 n4 e => s5.extBut _ _ n2 (s4.extBut _ _ n4 (s3.extBut _ _ n2 (s2.extBut _ _ n3 (s1.extBut _ _ n1 e))))
  have u5 := ((u2.extBut s3.extBut Ap.TOi1.symm).extBut s4.extBut Ap.i12).extBut s5.extBut Ap.TOi1.symm
  have v5 := v4.extBut s5.extBut Ap.TOi2.symm
  have ql : q < g5.objs.size := Heap.lt_size zq5
  show wpAny _ _ (Builtin.SmallTypes.ownedTupleHandOut (.ref q) (.ref g5.objs.size) >>= _) _ _ _
  refine wpAny_bind ?_; unfold Builtin.SmallTypes.ownedTupleHandOut
  have zq6 : IsZip (g5.push { cls := .type "tuple", data := .seq #[x, y] }) q I O .ellipsis := Heap.get?_push_of_some _ zq5
  refine wpAny_bind (wpAny_setField_rec zq6 (by simp) fun g7 zq7 s7 => ?_)
  have zq7 : IsZip g7 q I O (rawInt g5.objs.size) := zq7
  refine wpAny_setField_rec zq7 (by simp) fun g8 zq8 s8 => ?_
  have zq8 : IsZip g8 q I O (rawInt g5.objs.size) := zq8
  have up : ∀ c o, c ≠ q → g5.get? c = some o → g8.get? c = some o := fun c o n1 e => s8.extBut _ _ n1 (s7.extBut _ _ n1 (Heap.get?_push_of_some _ e))
  have two8 : IsPair g8 g5.objs.size x y := s8.extBut _ _ (Nat.ne_of_gt ql) (s7.extBut _ _ (Nat.ne_of_gt ql) (Heap.get?_push_size _ rfl))
  have big8 : g8.objs.size = g5.objs.size + 1 := by rw [s8.1, s7.1, Heap.size_push]
  rw [big] at zq8 two8 big8
  refine wpAny_pure ⟨_, rfl, ?_⟩
  show Q (.ref g5.objs.size) _
  rw [big]
  exact k g8 zq8 (up _ _ Ap.TOz zo5) (u5.at fun o e => up _ o Ap.i1z e) (v5.at fun o e => up _ o Ap.i2z e) two8 big8 fun c o n1 n2 n3 n4 e => up c o n1 (all5 c o n1 n2 n3 n4 e)
theorem at_end {q I O u v a b : Addr} {i j : Nat} {xs ys : Array Value} {m n : Value} {Q : Fin → Shared → Prop} (hh : A.handled = none) (Ap : ZipApart q I O u v a b) (zq : IsZip t.heap q I O .none) (zi : IsPair t.heap I (.ref u) (.ref v)) (zo : IsPair t.heap O m n) (S : At t.heap q I O u v a b i j xs ys) (over : xs[i]? = none ∨ ys[j]? = none)
    (k : ∀ g e, Kept t.heap g q O u v → (∃ o, g.get? e = some o ∧ o.cls = .type "StopIteration") → E (.ref e) { t with heap := g }) : wpAny (model P w) A (Builtin.«zip.__next__» ⟨[.ref q], []⟩) Q E t := by
  show wpAny _ _ (field (.ref q) 2 >>= _) _ _ _
  refine wpAny_bind (wpAny_field zq rfl (x := .bool false) rfl ?_); show wpAny _ _ (field (.ref q) 3 >>= _) _ _ _
  refine wpAny_bind (wpAny_field zq rfl (x := .ref I) rfl (wpAny_bind (wpAny_seqItems zi rfl ?_)))
  show wpAny _ _ (Builtin.SmallTypes.ownedTupleIsFree (.ref q) >>= _) _ _ _
  refine wpAny_bind ?_; unfold Builtin.SmallTypes.ownedTupleIsFree
  refine wpAny_bind (wpAny_field zq rfl (x := .none) rfl (wpAny_pure ?_)); simp only [if_true]
  refine wpAny_bind (wpAny_rule (wpAny_bind (wpAny_field zq rfl (x := .ref O) rfl ?_)))
  refine wpAny_bind (wpAny_setField_rec zq (by simp) fun g1 zq1 s1 => ?_)
  have zq1 : IsZip g1 q I O .ellipsis := zq1
  refine wpAny_bind ?_; simp only [List.zipIdx_cons, List.zipIdx_nil, List.forIn_cons, List.forIn_nil]
  refine wpAny_bind (wpAny_bind (wpAny_onRaise ?_)); show wpAny _ _ (Builtin.SmallTypes.nextOf (.ref u) >>= _) _ _ _
  cases ex : xs[i]? with
  | none =>
    refine wpAny_bind (nextOf_tuple_end hh (S.u1.extBut s1.extBut Ap.i1z) (S.a1.extBut s1.extBut Ap.l1z) ex fun g2 e s2 ⟨oe, oe1, oe2⟩ => ?_)
    have zq2 : IsZip g2 q I O .ellipsis := s2 _ _ Ap.i1z.symm zq1
    have ne : e ≠ q := by
      rintro rfl
      rw [zq2] at oe1
      cases oe1
      simp at oe2
    exact wpAny_setField_rec zq2 (by simp) fun g3 _ s3 => k g3 e (fun c o n1 _ n3 _ z => s3.extBut _ _ n1 (s2 _ _ n3 (s1.extBut _ _ n1 z))) ⟨oe, s3.extBut _ _ ne oe1, oe2⟩
  | some x =>
    have ey : ys[j]? = none := over.elim (fun z => by rw [ex] at z; cases z) id
    refine wpAny_bind (nextOf_tuple_item (S.u1.extBut s1.extBut Ap.i1z) (S.a1.extBut s1.extBut Ap.l1z) ex fun g2 u2 s2 => wpAny_pure ?_)
    have zo2 : IsPair g2 O m n := s2.extBut _ _ Ap.TOi1 (s1.extBut _ _ Ap.TOz zo)
    refine wpAny_bind (wpAny_seqItems zo2 rfl (wpAny_bind (wpAny_updateSeq_pair zo2 fun g3 zo3 s3 => ?_)))
    refine wpAny_bind (wpAny_letGo (wpAny_pure ?_))
    refine wpAny_bind (wpAny_bind (wpAny_onRaise ?_)); show wpAny _ _ (Builtin.SmallTypes.nextOf (.ref v) >>= _) _ _ _
    have v3 := ((S.v1.extBut s1.extBut Ap.i2z).extBut s2.extBut Ap.i12.symm).extBut s3.extBut Ap.TOi2.symm
    have b3 := ((S.b1.extBut s1.extBut Ap.l2z).extBut s2.extBut Ap.l2i1).extBut s3.extBut Ap.l2TO
    refine wpAny_bind (wpAny_nextOf_list_end hh v3 b3 ey fun g4 e s4 ⟨oe, oe1, oe2⟩ => ?_)
    have zq4 : IsZip g4 q I O .ellipsis := s4 _ _ Ap.i2z.symm (s3.extBut _ _ Ap.TOz.symm (s2.extBut _ _ Ap.i1z.symm zq1))
    have ne : e ≠ q := by
      rintro rfl
      rw [zq4] at oe1
      cases oe1
      simp at oe2
    exact wpAny_setField_rec zq4 (by simp) fun g5 _ s5 => k g5 e (fun c o n1 n2 n3 n4 z => s5.extBut _ _ n1 (s4 _ _ n4 (s3.extBut _ _ n2 (s2.extBut _ _ n3 (s1.extBut _ _ n1 z))))) ⟨oe, s5.extBut _ _ ne oe1, oe2⟩
theorem next_turn {q I O u v a b : Addr} {i j : Nat} {xs ys : Array Value} {x y m n : Value} {Q : Option Value → Shared → Prop} (Ap : ZipApart q I O u v a b) (zq : IsZip t.heap q I O .none) (zi : IsPair t.heap I (.ref u) (.ref v)) (zo : IsPair t.heap O m n) (S : At t.heap q I O u v a b i j xs ys) (ex : xs[i]? = some x) (ey : ys[j]? = some y)
    (k : ∀ g, IsZip g q I O (rawInt t.heap.objs.size) → IsPair g O x y → g.IsTupleIter u a (i + 1) → g.IsListIter v b (j + 1) → IsPair g t.heap.objs.size x y → g.objs.size = t.heap.objs.size + 1 → Kept t.heap g q O u v → Q (some (.ref t.heap.objs.size)) { t with heap := g }) : wpAny (model P w) A (pyNext (.ref q)) Q E t := by
  have ty : t.TypeIs (.ref q) "zip" := ⟨_, zq, rfl⟩
  unfold pyNext
  refine wpAny_bind (wpAny_attempt (wpAny_callSpecial?_slot (name := Str.ofString "__next__") ty F.slot_zip_next (wpAny_call_entry F.slot_zip_next ty F.entry_zip_next ?_ (F.args_zip_next_1 _))))
  exact one_turn Ap zq zi zo S ex ey fun g k1 k2 k3 k4 k5 k6 k7 => wpAny_pure (k g k1 k2 k3 k4 k5 k6 k7)
theorem next_end {q I O u v a b : Addr} {i j : Nat} {xs ys : Array Value} {m n : Value} {Q : Option Value → Shared → Prop} (hh : A.handled = none) (Ap : ZipApart q I O u v a b) (zq : IsZip t.heap q I O .none) (zi : IsPair t.heap I (.ref u) (.ref v)) (zo : IsPair t.heap O m n) (S : At t.heap q I O u v a b i j xs ys) (over : xs[i]? = none ∨ ys[j]? = none)
    (k : ∀ g, Kept t.heap g q O u v → Q none { t with heap := g }) : wpAny (model P w) A (pyNext (.ref q)) Q E t := by
  have ty : t.TypeIs (.ref q) "zip" := ⟨_, zq, rfl⟩
  unfold pyNext
  refine wpAny_bind (wpAny_attempt (wpAny_callSpecial?_slot (name := Str.ofString "__next__") ty F.slot_zip_next (wpAny_call_entry F.slot_zip_next ty F.entry_zip_next ?_ (F.args_zip_next_1 _))))
  refine at_end hh Ap zq zi zo S over fun g e kk ⟨o, o1, o2⟩ => ?_
  exact wpAny_bind (wpAny_isInstance (T := "StopIteration") (b := true) ⟨o, o1, o2⟩ isSubtype_stop (wpAny_pure (k g kk)))
end
/-! ### its making -/
abbrev m1 (h : Heap) (a : Addr) : Heap := h.push { cls := .type "tuple_iterator", data := .fields #[.ref a, .int 0 0] }
abbrev m2 (h : Heap) (a b : Addr) : Heap := (m1 h a).push { cls := .type "list_iterator", data := .fields #[.ref b, .int 0 0] }
abbrev m3 (h : Heap) (a b : Addr) : Heap := (m2 h a b).push { cls := .type "tuple", data := .seq #[.ref h.objs.size, .ref (m1 h a).objs.size] }
abbrev m4 (h : Heap) (a b : Addr) : Heap := (m3 h a b).push { cls := .type "tuple", data := .seq #[.none, .none] }
abbrev m5 (h : Heap) (a b : Addr) : Heap := (m4 h a b).push { cls := .type "zip", data := .fields #[.none, .bool false, .bool false, .ref (m2 h a b).objs.size, .ref (m3 h a b).objs.size] }
theorem made (a b : Addr) (xs ys : Array Value) : Meets (Builtin.«zip.__new__» ⟨[.type "zip", .ref a, .ref b], []⟩) (fun _ R s => s.heap.IsTuple a xs ∧ s.heap.IsList b ys ∧ R (.ok (.ret (.ref (m4 s.heap a b).objs.size))) { s with heap := m5 s.heap a b }) :=
  .of_wp fun prog w A R s h => by
    obtain ⟨hp, g, d, tk, os⟩ := s
    obtain ⟨ta, tb, r⟩ := h
    have sub := sub_zip
    have La : Heap.IsTuple (Shared.heap ⟨hp, g, d, tk, os⟩) a xs := ta
    have Lb : Heap.IsList (Shared.heap ⟨m1 hp a, g, d, tk, os⟩) b ys := Heap.IsList.push tb _
    wp_walk using wpAny_pyIter_tuple La, wpAny_pyIter_list Lb
    exact ⟨_, rfl, r⟩
theorem call_made {P : Program} {w : World} {A : Around} {E : Value → Shared → Prop} {t : Shared} {a b : Addr} {xs ys : Array Value} {Q : Value → Shared → Prop} (ta : t.heap.IsTuple a xs) (tb : t.heap.IsList b ys)
    (k : ∀ g, IsZip g (t.heap.objs.size + 4) (t.heap.objs.size + 2) (t.heap.objs.size + 3) .none → IsPair g (t.heap.objs.size + 2) (.ref t.heap.objs.size) (.ref (t.heap.objs.size + 1)) → IsPair g (t.heap.objs.size + 3) .none .none → g.IsTupleIter t.heap.objs.size a 0 → g.IsListIter (t.heap.objs.size + 1) b 0 →
      (∀ c o, t.heap.get? c = some o → g.get? c = some o) → Q (.ref (t.heap.objs.size + 4)) { t with heap := g }) : wpAny (model P w) A (call (.type "zip") [.ref a, .ref b]) Q E t := by
  refine callType_new F.called_zip (by decide) (F.typeCall_zip_2 _ _) (F.newCall_zip_2 _ _) (fun obj => F.args_object_init_3 obj _ _) F.entry_zip_new (made a b xs ys) ⟨ta, tb, ?_⟩
  have n1 : (m1 t.heap a).objs.size = t.heap.objs.size + 1 := Heap.size_push ..
  have n2 : (m2 t.heap a b).objs.size = t.heap.objs.size + 2 := by rw [Heap.size_push, n1]
  have n3 : (m3 t.heap a b).objs.size = t.heap.objs.size + 3 := by rw [Heap.size_push, n2]
  have n4 : (m4 t.heap a b).objs.size = t.heap.objs.size + 4 := by rw [Heap.size_push, n3]
  have up : ∀ {h : Heap} {c : Addr} {o o' : Obj}, h.get? c = some o → (h.push o').get? c = some o := fun e => Heap.get?_push_of_some _ e
  have e5 : (m5 t.heap a b).get? (m4 t.heap a b).objs.size = some _ := Heap.get?_push_size _ rfl
  have e4 : (m5 t.heap a b).get? (m3 t.heap a b).objs.size = some _ := up (Heap.get?_push_size _ rfl)
  have e3 : (m5 t.heap a b).get? (m2 t.heap a b).objs.size = some _ := up (up (Heap.get?_push_size _ rfl))
  have e2 : (m5 t.heap a b).get? (m1 t.heap a).objs.size = some _ := up (up (up (Heap.get?_push_size _ rfl)))
  have e1 : (m5 t.heap a b).get? t.heap.objs.size = some _ := up (up (up (up (Heap.get?_push_size _ rfl))))
  show _ ∧ _
  rw [n2, n3, n4] at e5
  rw [n1, n2] at e3
  rw [n3] at e4
  rw [n1] at e2
  rw [n4]
  exact ⟨⟨_, e5, rfl⟩, k _ e5 e3 e4 ⟨_, e1, rfl, rfl⟩ ⟨_, e2, rfl, rfl⟩ fun c o z => up (up (up (up (up z))))⟩
end StZ

set_option Elab.async false
set_option linter.all false
set_option maxRecDepth 100000
set_option maxHeartbeats 4000000
/-! The layer's rule for zip of a tuple and a list. -/
namespace StZ
open PySem PySem.Spec PyProof.Rows L2 RZ
/-- the tuple at a and the list at b, as they stand at each turn -/
def Itm (K : PySem.W.Frag) (a b : Addr) : It where
  go i H := ∃ (xs ys : List V) (x y : V), SqT K H a xs ∧ SqL K H b ys ∧ xs[i]? = some x ∧ ys[i]? = some y
  yld i H v H' := ∃ T x y, v = .ref T ∧ H T = none ∧ H' = upd H T (.tup [x, y]) ∧ (∀ xs, SqT K H a xs → xs[i]? = some x) ∧ ∀ ys, SqL K H b ys → ys[i]? = some y
  stop i H := ∃ xs ys : List V, SqT K H a xs ∧ SqL K H b ys ∧ (xs.length ≤ i ∨ ys.length ≤ i)
/-- how the five objects of a zip stand ahead of turn i -/
def Stand (a b z TI TO u v : Addr) (i : Nat) (h : Heap) : Prop := IsZip h z TI TO .none ∧ IsPair h TI (.ref u) (.ref v) ∧ (∃ x y, IsPair h TO x y) ∧ h.IsTupleIter u a i ∧ h.IsListIter v b i
theorem five {c z TI TO u v : Addr} (h : c ∈ [z, TI, TO, u, v]) : c = z ∨ c = TI ∨ c = TO ∨ c = u ∨ c = v := by simpa using h
theorem stand_some {a b z TI TO u v c : Addr} {i : Nat} {h : Heap} (s : Stand a b z TI TO u v i h) (hc : c ∈ [z, TI, TO, u, v]) : ∃ o, h.get? c = some o ∧ ∀ w, o.data ≠ .cell w := by
  obtain ⟨hz, hi, ⟨x, y, ho⟩, ⟨o1, e1, _, d1⟩, ⟨o2, e2, _, d2⟩⟩ := s
  rcases five hc with q | q | q | q | q <;> subst q
  · exact ⟨_, hz, fun w q => nomatch q⟩
  · exact ⟨_, hi, fun w q => nomatch q⟩
  · exact ⟨_, ho, fun w q => nomatch q⟩
  · exact ⟨o1, e1, fun w q => by rw [d1] at q; cases q⟩
  · exact ⟨o2, e2, fun w q => by rw [d2] at q; cases q⟩
theorem kept_but {h g : Heap} {q TI O u v : Addr} (k : Kept h g q O u v) : ∀ c o, c ∉ [q, TI, O, u, v] → h.get? c = some o → g.get? c = some o :=
  fun c o n e => k c o (fun z => n (by simp [z])) (fun z => n (by simp [z])) (fun z => n (by simp [z])) (fun z => n (by simp [z])) e
theorem turn_mix {P : Program} {w : World} {K : PySem.W.Frag} {elts : List Expr} {kk : Nat} {tpos : Pos} {a b z TI TO u v : Addr} (D : ZipApart z TI TO u v a b) :
    Turn P w K (.Tuple elts kk tpos) (Itm K a b) [z, TI, TO, u, v] z (Stand a b z TI TO u v) where
  mem := by simp
  obj := fun i h st c hc => stand_some st hc
  keep := fun i h h' ⟨h1, h2, ⟨x, y, h3⟩, h4, h5⟩ k => ⟨k z (by simp) _ h1, k TI (by simp) _ h2, ⟨x, y, k TO (by simp) _ h3⟩, h4.at fun o q => k u (by simp) o q, h5.at fun o q => k v (by simp) o q⟩
  item := by
    rintro X rfl rfl rfl hc i pins s σ H E I hf st ⟨xs, ys, x, y, qx, qy, ex, ey⟩
    have all := fun c hc => stand_some st (c := c) hc
    obtain ⟨hz, hi, ⟨x0, y0, ho⟩, h1, h2⟩ := st
    obtain ⟨us, rv, p, _⟩ := I.tuple qx
    obtain ⟨vs, rv2, p2, _⟩ := I.list qy
    obtain ⟨m, hm, rm⟩ := rv.get ex
    obtain ⟨n, hn, rn⟩ := rv2.get ey
    have S : At s.heap z TI TO u v a b i i us.toArray vs.toArray := ⟨h1, h2, p, p2.isList⟩
    refine next_turn D hz hi ho S (x := m) (y := n) (by simpa using hm) (by simpa using hn) fun g z' o' u' v' nw sz k => ⟨_, rfl, ?_⟩
    refine wpAny_letOwnedTupleGo_zip (s := { s with heap := g }) z' fun g2 z2 sb => ?_
    have lz : z < s.heap.objs.size := Heap.lt_size hz
    have nw2 : g2.get? s.heap.objs.size = some { cls := .type "tuple", data := .seq #[m, n] } := (sb.2 _ (Nat.ne_of_gt lz)).trans nw
    have ok : ObjOk X.prog X.w (upd H s.heap.objs.size (.tup [x, y])) g2 s.heap.objs.size (.tup [x, y]) := ⟨by show 2 ≤ sizeLine; decide, [m, n], .cons rm (.cons rn .nil), ⟨_, nw2, rfl, _, rfl⟩⟩
    have I2 : Inv X pins σ (upd H s.heap.objs.size (.tup [x, y])) { s with heap := g2 } :=
      I.turnedNew (t' := s.toks) (ch := [z, TI, TO, u, v]) (fun c o hb q => (sb.2 c fun e => hb (by simp [e])).trans (kept_but k c o hb q)) hf (Nat.le_refl _) ok
    refine ⟨.ref s.heap.objs.size, _, I2, rfl, ⟨_, x, y, rfl, I.hok.fresh (Nat.le_refl _), rfl, fun l hl => (I.tuple_inj hl qx).symm ▸ ex, fun l hl => (I.list_inj hl qy).symm ▸ ey⟩, ⟨z2, ?_, ⟨m, n, (sb.2 _ D.TOz).trans o'⟩, ?_, ?_⟩, fun c hc => ?_⟩
    · exact (sb.2 _ D.TIz).trans (k _ _ D.TIz D.TITO D.TIi1 D.TIi2 hi)
    · exact u'.at fun o q => (sb.2 _ D.i1z).trans q
    · exact v'.at fun o q => (sb.2 _ D.i2z).trans q
    · obtain ⟨o, eo, _⟩ := all c hc
      rw [upd_ne (Nat.ne_of_lt (Heap.lt_size eo))]
      exact (hf c hc).1
  done := by
    rintro X rfl rfl rfl hc i pins s σ H E I hf ⟨hz, hi, ⟨x0, y0, ho⟩, h1, h2⟩ ⟨xs, ys, qx, qy, over⟩
    obtain ⟨us, rv, p, _⟩ := I.tuple qx
    obtain ⟨vs, rv2, p2, _⟩ := I.list qy
    have l1 := rv.length
    have l2 := rv2.length
    have S : At s.heap z TI TO u v a b i i us.toArray vs.toArray := ⟨h1, h2, p, p2.isList⟩
    have ov : us.toArray[i]? = none ∨ vs.toArray[i]? = none := over.imp (fun q => by simp; omega) (fun q => by simp; omega)
    exact next_end (I.ok.hd hc) D hz hi ho S ov fun g k => ⟨rfl, I.turnedL (t' := s.toks) (ch := [z, TI, TO, u, v]) (kept_but k) hf⟩
  self := fun A i s Q E st h => wpAny_pyIter_zip st.1 h
def iMix (K : PySem.W.Frag) (ta : TA) : TI := fun σ H R => ta σ H fun vs H1 => ∃ a b xs ys, vs = [.ref a, .ref b] ∧ SqT K H1 a xs ∧ SqL K H1 b ys ∧ R (Itm K a b) H1
theorem pi_mix {X : Cx} {e e2 : Expr} {ta : TA} {p pos tpos : Pos} {elts : List Expr} {kk : Nat} (hg : Gl X "zip") (hm : X.mg "zip" = none) (ha : PA X [e, e2] ta)
    (hs : starEach [e, e2] X.env = (false, eval e X.env) :: starEach [e2] X.env := by rfl) (hpl : (backTo pos (starEach [e2] X.env)).any (·.1) = false := by rfl) :
    PI X (.Tuple elts kk tpos) (.Call (.Name "zip" p) [e, e2] [] pos) (iMix X.K ta) := by
  refine ⟨fun pins s σ H R I h => Call_ (ld_blt I hg hm PyProof.Rows.boot_zip (PyProof.Rows.callWith_type1 (thn (ha.run pos pins s σ H _ I h) fun us s1 ⟨vs, H1, I1, r1, q1⟩ => ?_) hs hpl))⟩
  obtain ⟨a, b, xs, ys, rfl, qx, qy, q⟩ := q1
  cases r1 with
  | cons r rr =>
    cases rr with
    | cons r' rr =>
      cases rr
      cases r
      cases r'
      obtain ⟨m1, rv, p1, _⟩ := I1.tuple qx
      obtain ⟨m2, rv2, p2, _⟩ := I1.list qy
      obtain ⟨o1, ho1, _⟩ := id p1
      refine call_made (show s1.heap.IsTuple a m1.toArray from p1) p2.isList fun g hz hi ho h1 h2 k => wpAny_pyIter_zip hz ?_
      have I2 : Inv X pins σ H1 { s1 with heap := g } := I1.kept (t' := s1.toks) k
      refine ⟨s1.heap.objs.size + 4, [s1.heap.objs.size + 4, s1.heap.objs.size + 2, s1.heap.objs.size + 3, s1.heap.objs.size, s1.heap.objs.size + 1], _, _, H1, rfl, I2, turn_mix (PySem.W.ktu_apart s1.heap.objs.size a b (Heap.lt_size ho1) p2.lt), ⟨hz, hi, ⟨_, _, ho⟩, h1, h2⟩, fun c hc => ?_, q⟩
      have le : s1.heap.objs.size ≤ c := by
        rcases five hc with e | e | e | e | e <;> rw [e] <;> first | exact Nat.le_refl _ | exact Nat.le_add_right _ _
      exact I1.fpOk le (I1.hok.fresh le)
theorem walk_mix {K : PySem.W.Frag} {a b : Addr} {xs ys : List V} {n : Nat} (hn : n = min xs.length ys.length) : Walk (Itm K a b) n (fun H => SqT K H a xs ∧ SqL K H b ys) (YPair (fun i => xs[i]?) (fun i => ys[i]?)) where
  goes i H hi q := ⟨xs, ys, xs[i]'(by omega), ys[i]'(by omega), q.1, q.2, by simp [show i < xs.length by omega], by simp [show i < ys.length by omega]⟩
  stops H q := ⟨xs, ys, q.1, q.2, by omega⟩
  yields i H v H' hi q y := by
    obtain ⟨T, x, z, h1, h2, h3, h4, h5⟩ := y
    exact ⟨T, x, z, h1, h2, h3, h4 xs q.1, h5 ys q.2⟩
end StZ

set_option Elab.async false
set_option linter.all false
set_option maxRecDepth 100000
set_option maxHeartbeats 4000000
/-! Dicts of closed parts; data compared as deep as putting in makes them. -/
namespace L2
open PySem PySem.Spec PyProof.Rows Lz
/-! ### tuples are kept, whatever becomes of lists and dicts -/
def Tk (K : PySem.W.Frag) (H H' : Hp) : Prop := ∀ a xs, SqT K H a xs → SqT K H' a xs
section
variable {K : PySem.W.Frag} {H H1 H' : Hp} {S : List Addr}
theorem Tk.of (k : Kp S H H') : Tk K H H' := fun _ _ h => k.sqT h
theorem Tk.trans (h : Tk K H H1) (k : Tk K H1 H') : Tk K H H' := fun a xs q => k a xs (h a xs q)
theorem Tk.put {a : Addr} {kvs : List (Key × V)} {o : HO} (h : H a = some (.dK kvs)) : Tk K H (upd H a o) := fun b xs q => by
  have ne : ∀ u, H b = some u → (∀ l, u ≠ HO.dK l) → b ≠ a := fun u e n z => n kvs (Option.some.inj ((by rw [← z]; exact e.symm : some u = H a).trans h))
  rcases q with (q | ⟨o', q⟩) | q
  · exact .inl (.inl ((upd_ne (ne _ q fun _ e => nomatch e)).trans q))
  · exact .inl (.inr ⟨o', (upd_ne (ne _ q fun _ e => nomatch e)).trans q⟩)
  · exact .inr q
mutual
theorem Dp.keepT (k : Tk K H H') : ∀ (d : PyData) (v : V), fz d = true → Dp K H v d → Dp K H' v d
  | .none, _, _, h => by cases h; exact .non
  | .bool b, _, _, h => by cases h; exact .bl b
  | .int i, _, _, h => by cases h; exact .int i
  | .str x, _, _, h => by cases h; exact .str x
  | .list ds, _, f, _ => by
    have : false = true := f
    cases this
  | .tuple ds, _, f, h => by
    cases h with
    | tup hs ha => exact .tup (k _ _ hs) (Dp.keepTAll k ds _ f ha)
  | .dict _, _, _, h => by cases h
theorem Dp.keepTAll (k : Tk K H H') : ∀ (ds : List PyData) (vs : List V), fzAll ds = true → DpAll K H vs ds → DpAll K H' vs ds
  | [], _, _, h => by cases h; exact .nil
  | d :: ds, _, f, h => by
    have f' : fz d = true ∧ fzAll ds = true := by
      have : (fz d && fzAll ds) = true := f
      rwa [Bool.and_eq_true] at this
    cases h with
    | cons h1 h2 => exact .cons (Dp.keepT k d _ f'.1 h1) (Dp.keepTAll k ds _ f'.2 h2)
end
end
end L2
namespace Lz
open PySem PySem.Spec PyProof.Rows L2
/-! ### closed parts by names -/
inductive TdAll (K : PySem.W.Frag) (H : Hp) : List (Key × V) → List (Str × P) → Prop
  | nil : TdAll K H [] []
  | cons {x : Str} {v : V} {p : P} {kvs : List (Key × V)} {th : List (Str × P)} : Dp K H v p.data → TdAll K H kvs th → TdAll K H ((.inr x, v) :: kvs) ((x, p) :: th)
section
variable {K : PySem.W.Frag} {H H' : Hp} {kvs : List (Key × V)} {th : List (Str × P)}
theorem TdAll.keepT (k : Tk K H H') (h : TdAll K H kvs th) : TdAll K H' kvs th := by
  induction h with
  | nil => exact .nil
  | cons a _ ih => exact .cons (Dp.keepT k _ _ (data_fz _) a) ih
theorem TdAll.length (h : TdAll K H kvs th) : kvs.length = th.length := by
  induction h with
  | nil => rfl
  | cons _ _ ih => rw [List.length_cons, List.length_cons, ih]
theorem TdAll.get (h : TdAll K H kvs th) (x : Str) : (∃ v p, valV kvs (.inr x) = some v ∧ getT th x = some p ∧ Dp K H v p.data) ∨ (valV kvs (.inr x) = none ∧ getT th x = none) := by
  induction h with
  | nil => exact .inr ⟨rfl, rfl⟩
  | @cons y v p kvs th a _ ih =>
    by_cases e : y = x
    · subst e
      refine .inl ⟨v, p, valV_pos rfl, ?_, a⟩
      unfold getT
      rw [List.find?_cons, decide_eq_true (show (y, p).1 = y from rfl)]
      rfl
    · have e1 : valV ((.inr y, v) :: kvs) (Sum.inr x : Key) = valV kvs (.inr x) := valV_neg fun q => e (Sum.inr.inj q)
      have e2 : getT ((y, p) :: th) x = getT th x := by
        unfold getT
        rw [List.find?_cons, decide_eq_false (show ¬ (y, p).1 = x from e)]
      rw [e1, e2]
      exact ih
theorem TdAll.ref (h : TdAll K H kvs th) : ∀ q ∈ kvs, ∃ a, q.2 = .ref a := by
  induction h with
  | nil => exact fun _ m => nomatch m
  | @cons x v p kvs th a _ ih =>
    intro q m
    rcases List.mem_cons.mp m with e | m
    · rw [e]
      obtain ⟨b, _, rfl, _⟩ := hd_at a
      exact ⟨b, rfl⟩
    · exact ih q m
/-- one more, or another one in its place -/
theorem TdAll.put (h : TdAll K H kvs th) {x : Str} {v : V} {p : P} (hv : Dp K H v p.data) : ∃ th', TdAll K H (putK kvs (.inr x) v) th' ∧ ∀ y q, (y, q) ∈ th' → q = p ∨ (y, q) ∈ th := by
  unfold putK
  by_cases c : (kvs.any fun kv => decide (kv.1 = (Sum.inr x : Key))) = true
  · rw [if_pos c]
    clear c
    induction h with
    | nil => exact ⟨[], .nil, fun _ _ m => nomatch m⟩
    | @cons y u r kvs th a _ ih =>
      obtain ⟨t', h1, h2⟩ := ih
      by_cases e : (Sum.inr y : Key) = .inr x
      · refine ⟨(y, p) :: t', ?_, fun z q m => ?_⟩
        · rw [List.map_cons, if_pos e]
          exact .cons hv h1
        · rcases List.mem_cons.mp m with e | m
          · exact .inl (Prod.mk.inj e).2
          · exact (h2 z q m).imp id (List.mem_cons_of_mem _)
      · refine ⟨(y, r) :: t', ?_, fun z q m => ?_⟩
        · rw [List.map_cons, if_neg e]
          exact .cons a h1
        · rcases List.mem_cons.mp m with e | m
          · exact .inr (e ▸ List.mem_cons_self)
          · exact (h2 z q m).imp id (List.mem_cons_of_mem _)
  · rw [if_neg c]
    clear c
    induction h with
    | nil => exact ⟨[(x, p)], .cons hv .nil, fun y q m => .inl (Prod.mk.inj (List.mem_singleton.mp m)).2⟩
    | @cons y u r kvs th a _ ih =>
      obtain ⟨t', h1, h2⟩ := ih
      refine ⟨(y, r) :: t', .cons a h1, fun z q m => ?_⟩
      rcases List.mem_cons.mp m with e | m
      · exact .inr (e ▸ List.mem_cons_self)
      · exact (h2 z q m).imp id (List.mem_cons_of_mem _)
theorem nodup_put {κ : Type} [DecidableEq κ] {kvs : List (κ × V)} {k : κ} {v : V} (h : (kvs.map (·.1)).Nodup) : ((putK kvs k v).map (·.1)).Nodup := by
  unfold putK
  by_cases c : (kvs.any fun kv => decide (kv.1 = k)) = true
  · rw [if_pos c, List.map_map]
    have e : (kvs.map ((·.1) ∘ fun kv => if kv.1 = k then (kv.1, v) else kv)) = kvs.map (·.1) := List.map_congr_left fun kv _ => by
      show (if kv.1 = k then (kv.1, v) else kv).1 = kv.1
      by_cases e : kv.1 = k
      · rw [if_pos e]
      · rw [if_neg e]
    rw [e]
    exact h
  · rw [if_neg c, List.map_append, List.nodup_append]
    refine ⟨h, List.pairwise_singleton _ _, fun a ha b hb e => c ?_⟩
    obtain ⟨kv, hk, rfl⟩ := List.mem_map.mp ha
    have hb' : b = k := List.mem_singleton.mp hb
    exact List.any_eq_true.mpr ⟨kv, hk, decide_eq_true (e.trans hb')⟩
/-- a dict of closed parts -/
structure TD (K : PySem.W.Frag) (H : Hp) (a : Addr) (kvs : List (Key × V)) (th : List (Str × P)) : Prop where
  at' : H a = some (.dK kvs)
  all : TdAll K H kvs th
theorem TD.keep {S : List Addr} {a : Addr} (k : Kp S H H') (h : TD K H a kvs th) : TD K H' a kvs th := ⟨k a _ h.at' fun _ _ e => (nomatch e), h.all.keepT (.of k)⟩
theorem TD.new {a : Addr} (h : H a = none) : TD K (upd H a (.dK [])) a [] [] := ⟨upd_same, .nil⟩
theorem TD.get {a : Addr} (h : TD K H a kvs th) (x : Str) : (∃ v p, DGet H a (.str x) (some v) ∧ getT th x = some p ∧ Dp K H v p.data) ∨ (DGet H a (.str x) none ∧ getT th x = none) := by
  rcases h.all.get x with ⟨v, p, e1, e2, e3⟩ | ⟨e1, e2⟩
  · exact .inl ⟨v, p, .inl ⟨kvs, .inr x, .inl h.at', rfl, e1.symm⟩, e2, e3⟩
  · exact .inr ⟨.inl ⟨kvs, .inr x, .inl h.at', rfl, e1.symm⟩, e2⟩
end
/-! ### rules -/
section
variable {X : Cx} {K : PySem.W.Frag}
/-- two dicts with the same objects -/
def rNeSame : R2 := fun x y H Q => ∃ a b ks, x = .ref a ∧ y = .ref b ∧ H a = some (.dK ks) ∧ H b = some (.dK ks) ∧ (ks.map (·.1)).Nodup ∧ (∀ p ∈ ks, ∃ c, p.2 = .ref c) ∧ Q (.bl false) H
theorem hits_ref {κ : Type} [DecidableEq κ] {A : Around} {s : Shared} {kvs : List (κ × V)} {vb : List (κ × Value)} (rb : KV kvs vb) {ks : List (κ × V)} {va : List (κ × Value)} (ra : KV ks va) :
    (∀ p ∈ ks, valV kvs p.1 = some p.2 ∧ ∃ c, p.2 = .ref c) → PySem.W.KeqHits A s vb va true := by
  unfold KV at ra
  induction ra with
  | nil => exact fun _ => .nil
  | @cons p q ps qs h t ih =>
    intro hp
    obtain ⟨h1, h2⟩ := h
    obtain ⟨e, c, f⟩ := hp p List.mem_cons_self
    have rr : RelO (some p.2) (valueAt vb p.1) := by rw [← e]; exact rb.val p.1
    obtain ⟨y, hy, ry⟩ := rr.some_of
    obtain ⟨k, v⟩ := q
    have h1' : p.1 = k := h1
    rw [h1'] at hy
    rw [f] at ry h2
    have same : SeqAt.EqAt A s v y true := by
      cases (show v = Value.ref c from h2)
      cases (show y = Value.ref c from ry)
      exact SeqAt.EqAt.same _
    show PySem.W.KeqHits A s vb ((k, v) :: qs) (true && true)
    exact .hit hy same (ih fun p' hm => hp p' (List.mem_cons_of_mem _ hm))
theorem op_neSame (hu : X.A.units < cLine) : OpR X (compareOp .NotEq) rNeSame := by
  intro pins s σ H x y v u Q I rx ry h
  obtain ⟨a, b, ks, rfl, rfl, ea, eb, nd, fl, q⟩ := h
  obtain rfl : v = Value.ref a := rx
  obtain rfl : u = Value.ref b := ry
  obtain ⟨_, ya, va, ra, da⟩ := (show ObjOk X.prog X.w H s.heap a (.dK ks) from I.hok a _ ea)
  obtain ⟨_, yb, vb, rb, db⟩ := (show ObjOk X.prog X.w H s.heap b (.dK ks) from I.hok b _ eb)
  have hl : va.length = vb.length := ra.length.symm.trans rb.length
  exact PySem.W.keq_ne (knd := mixKind X.prog X.w) (r := true) ya yb da db hu (fun _ => hits_ref rb ra fun p hp => ⟨val_nodup nd p hp, fl p hp⟩) (fin_bl I q (by simp [hl]))
/-- as deep as a hundred and fifty -/
def big (d : PyData) : Bool := d.canLay0 && decide (d.depth ≤ 150)
theorem big_room {A : Around} {d e : PyData} (h : big d = true) (hu : A.units + 150 < cLine) : A.units + min d.depth e.depth < cLine := by
  have h1 : d.depth ≤ 150 := of_decide_eq_true (Bool.and_eq_true_iff.mp h).2
  have h2 : min d.depth e.depth ≤ d.depth := Nat.min_le_left _ _
  omega
def rEqBig (K : PySem.W.Frag) : R2 := fun x y H Q => ∃ d e, Dp K H x d ∧ Dp K H y e ∧ big d = true ∧ big e = true ∧ Q (.bl (PyData.eqv d e)) H
def rNeBig (K : PySem.W.Frag) : R2 := fun x y H Q => ∃ d e, Dp K H x d ∧ Dp K H y e ∧ big d = true ∧ big e = true ∧ Q (.bl (!PyData.eqv d e)) H
theorem op_eqBig (h : X.K = K) (hu : X.A.units + 150 < cLine) : OpR X (compareOp .Eq) (rEqBig K) := by
  subst h
  intro pins s σ H x y v u Q I rx ry h
  obtain ⟨d, e, hd, he, sd, se, q⟩ := h
  obtain ⟨as, r1⟩ := Dp.reads I d x v hd rx
  obtain ⟨bs, r2⟩ := Dp.reads I e y u he ry
  exact SeqAt.compareEq_reads r1 r2 (Bool.and_eq_true_iff.mp sd).1 (Bool.and_eq_true_iff.mp se).1 (big_room sd hu) ⟨.bl _, H, I, rfl, q⟩
theorem op_neBig (h : X.K = K) (hu : X.A.units + 150 < cLine) : OpR X (compareOp .NotEq) (rNeBig K) := by
  subst h
  intro pins s σ H x y v u Q I rx ry h
  obtain ⟨d, e, hd, he, sd, se, q⟩ := h
  obtain ⟨as, r1⟩ := Dp.reads I d x v hd rx
  obtain ⟨bs, r2⟩ := Dp.reads I e y u he ry
  exact SeqAt.compareNe_reads r1 r2 (Bool.and_eq_true_iff.mp sd).1 (Bool.and_eq_true_iff.mp se).1 (big_room sd hu) ⟨.bl _, H, I, rfl, q⟩
theorem big_part {F : List Str} {t : P} (h : t.okS F) (hd : t.deep ≤ 50) : big t.data = true := by
  unfold big
  have h1 := data_depth t
  rw [data_layS t h, Bool.true_and]
  exact decide_eq_true (by omega)
theorem units150 {k : Nat} {A : Around} (r : Room k A) : A.units + 150 < cLine := by have := r.un; omega
theorem units1 {k : Nat} {A : Around} (r : Room k A) : A.units + 1 < cLine := by have := r.un; omega
theorem pi_mixK {e e2 : Expr} {ta : TA} {p pos tpos : Pos} {elts : List Expr} {kk : Nat} (h : X.K = K) (hg : Gl X "zip") (hm : X.mg "zip" = none) (ha : PA X [e, e2] ta)
    (hs : starEach [e, e2] X.env = (false, eval e X.env) :: starEach [e2] X.env := by rfl) (hpl : (backTo pos (starEach [e2] X.env)).any (·.1) = false := by rfl) :
    PI X (.Tuple elts kk tpos) (.Call (.Name "zip" p) [e, e2] [] pos) (StZ.iMix K ta) := by subst h; exact StZ.pi_mix hg hm ha hs hpl
theorem pi_revK {tg e : Expr} {ta : TA} {p pos : Pos} (h : X.K = K) (hg : Gl X "reversed") (hm : X.mg "reversed" = none) (ha : PA X [e] ta) (hs : starEach [e] X.env = [(false, eval e X.env)] := by rfl) : PI X tg (.Call (.Name "reversed" p) [e] [] pos) (iRev K ta) := by subst h; exact pi_reversed hg hm ha hs
theorem pe_dclearK {o : Expr} {to : TE} {apos cpos : Pos} (h : X.K = K) (ho : PE X o to) (hbase : attributeBase o "clear" X.env (eval o X.env) = eval o X.env := by rfl) (hline : (apos.endLine == cpos.line) = true := by rfl) : PE X (.Call (.Attribute o "clear" apos) [] [] cpos) (tBM0 K "dict" rDClear to) := by subst h; exact pe_dclear ho hbase hline
def rCopy : List V → Hp → VK → Prop := fun xs H Q => ∃ (a : Addr) (kvs : List (Key × V)), xs = [.ref a] ∧ Rd H a (.dK kvs) ∧ ∀ p, H p = none → Q (.ref p) (upd H p (.dK kvs))
theorem call_copy : CallR X (.type "dict") rCopy := call_dictD
end
end Lz

set_option Elab.async false
set_option linter.all false
set_option maxRecDepth 100000
set_option maxHeartbeats 8000000
namespace Lz
open PySem PySem.Spec PyProof.Rows L2
/-- the kinds that PARTS_OF has, shut is none of them -/
structure PO2 (K : PySem.W.Frag) (pd : Addr) : Prop where
  po : PO K pd
  shut : PySem.W.nsIn K pd "shut" = some none
theorem kinds_of2 {k : Str} {n : Nat} (h : (k, n) ∈ kinds2) (hn : k ≠ "shut") : (k, n) ∈ kinds := by
  rcases List.mem_cons.mp h with e | m
  · exact absurd (Prod.mk.inj e).1 hn
  · exact m
theorem win_cases {F : List Str} {t : Lz.P} (h : t.okS F) : (t.win = [] ∧ (t.hd = "number" ∨ t.hd = "name" ∨ t.hd = "fun" ∨ t.hd = "shut")) ∨ (∃ k as, t = .op k as ∧ k ≠ "shut" ∧ (k, as.length) ∈ kinds) ∨ ∃ nm as b, t = .lt nm as b ∧ nm.length = as.length := by
  cases t with
  | num i => exact .inl ⟨rfl, .inl rfl⟩
  | nam x => exact .inl ⟨rfl, .inr (.inl rfl)⟩
  | fn x => exact .inl ⟨rfl, .inr (.inr (.inl rfl))⟩
  | op k as =>
    by_cases e : k = "shut"
    · exact .inl ⟨if_pos e, .inr (.inr (.inr e))⟩
    · exact .inr (.inl ⟨k, as, rfl, e, kinds_of2 (show (k, as.length) ∈ kinds2 ∧ Lz.P.okSs F as from h).1 e⟩)
  | lt nm as b => exact .inr (.inr ⟨nm, as, b, rfl, (show nm.length = as.length ∧ _ from h).1⟩)
theorem win_op {k : Str} {as : List Lz.P} (h : k ≠ "shut") : (Lz.P.op k as).win = as := if_neg h
theorem win_len {t : Lz.P} (h : t.mw ≤ 9000) : t.win.length ≤ 8999 := by
  have h1 := mws_len t.win
  have h2 := mw_win t
  omega
def spWin (K : PySem.W.Frag) : Sp := fun vs H Q _ => ∃ (v : V) (t : Lz.P) (F : List Str), vs = [v] ∧ Dp K H v t.data ∧ t.okS F ∧ t.mw ≤ 9000 ∧ ∀ (l : Addr) (xs : List V) (H' : Hp), Kp [] H H' → H l = none → H' l = some (.lst xs) → DpAll K H' xs (Lz.P.datas t.win) → Q (.ref l) H'
def spAlw (K : PySem.W.Frag) : Sp := fun vs H Q _ => ∃ (v : V) (t : Lz.P) (F : List Str), vs = [v] ∧ Dp K H v t.data ∧ t.okS F ∧ t.mw ≤ 9000 ∧ ∀ (l : Addr) (xs : List V) (H' : Hp), Kp [] H H' → H l = none → H' l = some (.lst xs) → DpAll K H' xs (Lz.P.datas t.alw) → Q (.ref l) H'
theorem alws_rev (ti : List Lz.P) (o : Lz.P) : Lz.P.alws (ti ++ [o]).reverse = o :: Lz.P.alws (ti ++ o.win.reverse).reverse := by
  rw [List.reverse_append, List.reverse_append, List.reverse_reverse]
  show Lz.P.alws (o :: ti.reverse) = _
  exact alws_cons o ti.reverse
theorem DpAll.reverse {K : PySem.W.Frag} {H : Hp} : ∀ {vs : List V} {ds : List PyData}, DpAll K H vs ds → DpAll K H vs.reverse ds.reverse
  | _, _, .nil => .nil
  | _, _, .cons h t => by
    rw [List.reverse_cons, List.reverse_cons]
    exact (DpAll.reverse t).append (.one h)
theorem DpAll.snoc {K : PySem.W.Frag} {H : Hp} {ys : List V} {ds : List PyData} {d : PyData} (h : DpAll K H ys (ds ++ [d])) : ∃ yi v, ys = yi ++ [v] ∧ DpAll K H yi ds ∧ Dp K H v d := by
  have h1 := h.take ds.length
  have h2 := h.drop ds.length
  rw [List.take_left] at h1
  rw [List.drop_left] at h2
  have e := (List.take_append_drop ds.length ys).symm
  generalize ys.drop ds.length = zs at h2 e
  cases h2 with
  | cons h3 h4 =>
    cases h4
    exact ⟨_, _, e, h1, h3⟩
theorem revLK {X : Cx} {K : PySem.W.Frag} {e : Expr} {te : TE} {k : Nat} {p1 p2 p3 pos : Pos} (h : X.K = K) (he : PE X e te) : PE X (.Subscript e (.Slice none none (some (.UnaryOp .USub (.Constant (.int 1) k p1) p2)) p3) pos) (tRevL K te) := by subst h; exact pe_revL he
section
variable {P : Program} {w : World} {K : PySem.W.Frag} {mg : Str → Option Value} {base : Heap} {f : Addr} {fd : FuncData}
theorem ok_win {pd : Addr} {es : Array DictEntry} {n : Nat} (F : Fun K "within" "within" sWithin f fd) (B : Bt mg) (mPO : mg "PARTS_OF" = some (.ref pd)) (DK : KDict K w pd es n) (O : PO2 K pd) : FnOk P w K mg base CX0 1 f fd ["part"] (spWin K) := by
  have mlist := B.list
  refine F.ok scWithin (fun vs H Q E h => ?_) (fun cdv A outer s H vs Q E hr h => ?_)
  · obtain ⟨v, t, G, rfl, _⟩ := h
    rfl
  obtain ⟨v, t, G, rfl, hd, hok, hmany, q⟩ := h
  refine ⟨_, (pss_cons (ps_set (i := 1) scWithin.nd rfl (.inl rfl) (pe_ix (ix_tupK (K := K) rfl) (pv 0) pe_int (fun _ _ => rfl)))
    (pss_cons (ps_if (pt_cmpR op_eq (pv 1) pe_str (nomark _)) (pss_one (ps_ret (pe_op op_cat (pe_lc (own := [("row", 2)]) rfl scWithin.nd (pi_tupK (K := K) rfl (pe_ix (ix_tupK (K := K) rfl) (pv 0) pe_int (fun _ _ => rfl))) (blkOk_by (N := ["part", "kind", "row"]) (sc := defScope sWithin) (by decide +kernel)) (fun _ _ _ _ _ => (pg_name (i := 2) scWithin.nd rfl (.inl rfl))) (fun _ _ _ _ _ => pts_nil) (fun _ _ _ _ _ => (pe_ix (ix_tupK (K := K) rfl) (pv 2) pe_int (fun _ _ => rfl)))) (pe_lst (pa_cons (pe_ix (ix_tupK (K := K) rfl) (pv 0) pe_int (fun _ _ => rfl)) pa_nil))))) pss_nil)
    (pss_cons (ps_if (pt_cmpR (op_in_kdK (K := K) rfl DK) (pv 1) (pe_glob (v := .ref pd) (by rfl) mPO rfl) rfl) (pss_one (ps_ret (pe_callTy (call_listK (K := K) rfl) (by rfl) mlist (by decide +kernel) (pa_cons (pe_slice (sl_tupAK (K := K) rfl) (pv 0) (po_some pe_int) po_none) pa_nil)))) pss_nil)
    (pss_one (ps_ret (pe_lst pa_nil)))))), ?_⟩
  rcases win_cases hok with ⟨hi, hk⟩ | ⟨k, as, rfl, hns, hk⟩ | ⟨nm, as, b, rfl, hl⟩
  · obtain ⟨a, xs, rfl, ht, hx⟩ := hd_at hd
    refine ⟨_, rfl, a, _, _, _, rfl, rfl, ht, at_of (j := 0) rfl rfl, ?_⟩
    refine ⟨_, rfl, rfl, _, rfl, ?_⟩
    refine ite2 (fun c => ?_) (fun _ => ?_)
    · have e : t.hd = "let" := V.str.inj (of_decide_eq_true c)
      rcases hk with h | h | h | h <;> exact absurd (h.symm.trans e) (by decide +kernel)
    have hn : PySem.W.nsIn K pd t.hd = some none := by
      rcases hk with h | h | h | h <;> rw [h]
      · exact O.po.num
      · exact O.po.nam
      · exact O.po.fn
      · exact O.shut
    refine ⟨_, rfl, t.hd, _, rfl, rfl, hn, _, rfl, ?_⟩
    refine ⟨Nat.zero_le _, fun l hl => ?_⟩
    exact q l [] _ (Kp.new hl) hl upd_same (by rw [hi]; exact .nil)
  · obtain ⟨a, xs, rfl, ht, hx⟩ := op_atU hd
    have hp := kind_plain hk
    refine ⟨_, rfl, a, _, _, _, rfl, rfl, ht, at_of (j := 0) rfl rfl, ?_⟩
    refine ⟨_, rfl, rfl, _, rfl, ?_⟩
    refine ite2 (fun c => absurd (V.str.inj (of_decide_eq_true c)) hp.1) (fun _ => ?_)
    obtain ⟨u, hu⟩ := O.po.op k _ hk
    refine ⟨_, rfl, k, _, rfl, rfl, hu, _, rfl, ?_⟩
    refine ⟨_, rfl, _, rfl, a, _, rfl, ht, fun z => absurd z (not_whole _ _), fun _ t2 ht2 => ?_⟩
    refine ⟨t2, _, rfl, .inr (.inl (.inl upd_same)), fun l hl => ?_⟩
    rw [cut_tl]
    have k1 : Kp [] H (upd H t2 (.tup xs)) := Kp.new ht2
    have k2 : Kp [] (upd H t2 (.tup xs)) (upd (upd H t2 (.tup xs)) l (.lst xs)) := Kp.new (by rw [cut_tl] at hl; exact hl)
    exact q l xs _ (k1.trans k2) (k1.free (by rw [cut_tl] at hl; exact hl) (fun m => nomatch m)) upd_same (by rw [win_op hns]; exact Dp.keepAll (k1.trans k2) _ _ (datas_fz _) hx)
  · obtain ⟨a, r, rs, vb, rfl, ht, hrt, hrs, hb⟩ := let_atU hd
    refine ⟨_, rfl, a, _, _, _, rfl, rfl, ht, at_of (j := 0) rfl rfl, ?_⟩
    refine ⟨_, rfl, rfl, _, rfl, ?_⟩
    refine ite2 (fun _ => ?_) (fun c => absurd (decide_eq_true rfl) c)
    refine ⟨_, rfl, a, _, _, _, rfl, rfl, ht, at_of (j := 1) rfl rfl, r, rfl, ⟨_, hrt⟩, fun D hD => ?_⟩
    have hrl : rs.length = as.length := by rw [hrs.length, List.length_zipWith, datas_len]; omega
    have hlen : as.length ≤ 8999 := by
      have h1 := win_len hmany
      have h2 : (as ++ [b]).length ≤ 8999 := h1
      rw [List.length_append, List.length_singleton] at h2
      omega
    refine lc_tup (K := K) (a := r) (xs := rs) (fun i H' => Kp [] H H' ∧ ∃ xs, H' D = some (.lst xs) ∧ DpAll K H' xs (Lz.P.datas (as.take i)))
      ⟨Kp.new hD, [], upd_same, .nil⟩ (fun i H' _ ⟨k, _⟩ => k.sqT hrt) ?_ ?_
    · rintro i x H1 hi ⟨k1, xs, hxs, hdx⟩
      obtain ⟨t, nx, u, d, rfl, htt, had, hud⟩ := row_at (Dp.keepAll k1 _ _ rows_fz hrs) hi
      refine ⟨rfl, ?_⟩
      refine ⟨_, rfl, t, _, _, _, rfl, rfl, htt, at_of (j := 1) rfl rfl, xs, hxs, ?_, k1.mut hD, xs ++ [u], upd_same, ?_⟩
      · rw [hdx.length, datas_len, List.length_take]
        exact small9000 (by omega)
      · have kput : Kp [D] H1 (upd H1 D (.lst (xs ++ [u]))) := Kp.put hxs List.mem_cons_self
        rw [datas_map, List.take_add_one, had, List.map_append, ← datas_map]
        exact (Dp.keepAll kput _ _ (datas_fz _) hdx).append (.one (Dp.keep kput _ _ (data_fz _) hud))
    · rintro H1 ⟨k1, xs, hxs, hdx⟩
      rw [hrl, List.take_length] at hdx
      refine ⟨_, rfl, a, _, _, _, rfl, rfl, k1.sqT ht, at_of (j := 2) rfl rfl, (by show 1 ≤ sizeLine; decide), fun l2 hl2 => ?_⟩
      have k2 : Kp [] H1 (upd H1 l2 (.lst [vb])) := Kp.new hl2
      have hx2 : (upd H1 l2 (.lst [vb])) D = some (.lst xs) := by rw [upd_ne (ne_of_none hxs hl2)]; exact hxs
      refine ⟨D, l2, _, _, rfl, rfl, hx2, upd_same, ?_, fun l hl => ?_⟩
      · rw [hdx.length, datas_len, List.length_singleton]
        exact Nat.le_of_lt (small9000 (by omega))
      · have k3 := k2.trans (Kp.new (S := []) (o := .lst (xs ++ [vb])) hl)
        have e : Lz.P.datas (Lz.P.lt nm as b).win = Lz.P.datas as ++ [b.data] := by
          show Lz.P.datas (as ++ [b]) = _
          rw [datas_map, datas_map, List.map_append]
          rfl
        refine q l _ _ (k1.trans k3) ((k1.trans k2).free hl (fun m => nomatch m)) upd_same ?_
        rw [e]
        exact (Dp.keepAll k3 _ _ (datas_fz _) hdx).append (.one (Dp.keep (k1.trans k3) _ _ (data_fz _) hb))
abbrev sAllIn : Stmt := topS 7
theorem scAllIn : FnScope ["part", "found", "waiting", "one"] ["part"] (defScope sAllIn) := ⟨rfl, rfl, rfl, by decide +kernel, rfl, by decide +kernel, by decide +kernel⟩
theorem ok_alw (F : Fun K "all_in" "all_in" sAllIn f fd) (CWithin : C8.Cal P w K mg base 1 "within" (spWin K) []) : FnOk P w K mg base CX0 2 f fd ["part"] (spAlw K) := by
  refine F.ok scAllIn (fun vs H Q E h => ?_) (fun cdv A outer s H vs Q E hr h => ?_)
  · obtain ⟨v, t, G, rfl, _⟩ := h
    rfl
  obtain ⟨v, t, G, rfl, hd, hok, hmany, q⟩ := h
  refine ⟨_, (pss_cons (ps_set (i := 1) scAllIn.nd rfl (.inl rfl) (pe_lst pa_nil))
    (pss_cons (ps_set (i := 2) scAllIn.nd rfl (.inl rfl) (pe_lst (pa_cons (pv 0) pa_nil)))
    (pss_cons (ps_while PassesOwn.never (pt_truthK (K := K) rfl (pv 2) (fun _ => rfl)) (pss_cons (ps_set (i := 3) scAllIn.nd rfl (.inl rfl) (pe_bm0K (K := K) rfl PySem.F.plainAttrs_list PySem.F.slot_list_pop PySem.F.type_list_pop mt_pop (pv 2)))
    (pss_cons (ps_expr (pe_bmK (K := K) rfl PySem.F.plainAttrs_list PySem.F.slot_list_append PySem.F.type_list_append mt_append (pv 1) (pa_cons (pv 3) pa_nil)))
    (pss_one (ps_expr (pe_bmK (K := K) rfl PySem.F.plainAttrs_list PySem.F.slot_list_extend PySem.F.type_list_extend mt_extend (pv 2) (pa_cons (revLK (K := K) rfl (C8.pe_c CWithin hr (by first | decide | omega) (by rfl) (pa_cons (pv 3) pa_nil))) pa_nil)))))))
    (pss_one (ps_ret (pv 1)))))), ?_⟩
  refine ⟨Nat.zero_le _, fun lf hlf => ?_⟩
  have k1 : Kp [] H (upd H lf (.lst [])) := Kp.new hlf
  have hf1 : (upd H lf (.lst [])) lf = some (.lst []) := upd_same
  have hd1 := Dp.keep k1 _ _ (data_fz _) hd
  generalize upd H lf (.lst []) = H1 at k1 hf1 hd1 ⊢
  refine ⟨_, rfl, (by show 1 ≤ sizeLine; decide), fun lw hlw => ?_⟩
  have kx : Kp [] H1 (upd H1 lw (.lst [v])) := Kp.new hlw
  have hf2 := kx.lst hf1 (fun m => nomatch m)
  have hw2 : (upd H1 lw (.lst [v])) lw = some (.lst [v]) := upd_same
  have hd2 := Dp.keep kx _ _ (data_fz _) hd1
  have nwf : lf ≠ lw := ne_of_none hf1 hlw
  have hlwH : H lw = none := k1.free hlw (fun m => nomatch m)
  have k2 := k1.trans kx
  generalize upd H1 lw (.lst [v]) = H2 at k2 hf2 hw2 hd2 ⊢
  have hall : t.alw.length = t.mw := rfl
  refine ⟨fun m σ H' => ∃ (v3 : Option V) (ys ws : List V) (us ts : List Lz.P), σ = [some v, some (.ref lf), some (.ref lw), v3] ∧ Kp [] H H' ∧ H' lf = some (.lst ys) ∧ H' lw = some (.lst ws) ∧ DpAll K H' ys (Lz.P.datas us) ∧ DpAll K H' ws (Lz.P.datas ts) ∧ us ++ Lz.P.alws ts.reverse = t.alw ∧ (∀ a, a ∈ ts → a.okS G ∧ a.mw ≤ 9000) ∧ m = Lz.P.mws ts,
    ⟨_, none, [], [v], [], [t], rfl, k2, hf2, hw2, .nil, .one hd2, ?_, fun a m => ?_, rfl⟩, ?_⟩
  · show Lz.P.alws ([t] : List Lz.P) = t.alw
    exact List.append_nil _
  · rw [List.mem_singleton.mp m]
    exact ⟨hok, hmany⟩
  rintro m σ H3 ⟨v3, ys, ws, us, ts, rfl, k3, hf3, hw3, hdy, hdw, heq, hts, rfl⟩
  refine ⟨_, rfl, !ws.isEmpty, .inl ⟨ws, SqL.of hw3, rfl⟩, ?_⟩
  rcases List.eq_nil_or_concat ts with e1 | ⟨ti, o, e1⟩
  · subst e1
    cases hdw
    have e : us = t.alw := by
      rw [← heq]
      exact (List.append_nil us).symm
    rw [e] at hdy
    exact ⟨_, rfl, q lf ys H3 k3 hlf hf3 hdy⟩
  rw [List.concat_eq_append] at e1
  subst e1
  have eds : Lz.P.datas (ti ++ [o]) = Lz.P.datas ti ++ [o.data] := by rw [datas_map, datas_map, List.map_append]; rfl
  rw [eds] at hdw
  obtain ⟨wi, vo, rfl, hwi, hvo⟩ := DpAll.snoc hdw
  have hne : (!(wi ++ [vo]).isEmpty) = true := by cases wi <;> rfl
  rw [if_pos hne]
  obtain ⟨ook, om⟩ := hts o (List.mem_append_right _ List.mem_cons_self)
  have hmt : Lz.P.mws (ti ++ [o]) = Lz.P.mws ti + o.mw := by rw [mws_append, mws_one]
  have hmo := mw_win o
  rw [alws_rev] at heq
  have hlen : us.length + (Lz.P.alws (ti ++ o.win.reverse).reverse).length + 1 = t.mw := by
    rw [← hall, ← heq, List.length_append, List.length_cons]
    omega
  have hlen2 : (Lz.P.alws (ti ++ o.win.reverse).reverse).length = Lz.P.mws (ti ++ o.win.reverse).reverse := rfl
  have hlen3 := mws_len (ti ++ o.win.reverse).reverse
  rw [List.length_reverse, List.length_append, List.length_reverse] at hlen3
  refine ⟨fun σ' H' => ∃ m', m' < Lz.P.mws (ti ++ [o]) ∧ ∃ (v3 : Option V) (ys ws : List V) (us ts : List Lz.P), σ' = [some v, some (.ref lf), some (.ref lw), v3] ∧ Kp [] H H' ∧ H' lf = some (.lst ys) ∧ H' lw = some (.lst ws) ∧ DpAll K H' ys (Lz.P.datas us) ∧ DpAll K H' ws (Lz.P.datas ts) ∧ us ++ Lz.P.alws ts.reverse = t.alw ∧ (∀ a, a ∈ ts → a.okS G ∧ a.mw ≤ 9000) ∧ m' = Lz.P.mws ts, fun σ' H' h => h, ?_⟩
  refine ⟨_, rfl, .inl ⟨rfl, _, SqL.of hw3⟩, lw, _, vo, rfl, rfl, hw3, ?_, ?_⟩
  · rw [List.length_append]
    show (wi ++ [vo])[wi.length + 1 - 1]? = some vo
    rw [Nat.add_sub_cancel, List.getElem?_append_right (Nat.le_refl _), Nat.sub_self]
    rfl
  rw [List.dropLast_concat]
  have kw : Kp [lw] H3 (upd H3 lw (.lst wi)) := Kp.put hw3 List.mem_cons_self
  have k4 : Kp [] H (upd H3 lw (.lst wi)) := k3.mut hlwH
  have hf4 : (upd H3 lw (.lst wi)) lf = some (.lst ys) := kw.lst hf3 (not1 nwf)
  have hw4 : (upd H3 lw (.lst wi)) lw = some (.lst wi) := upd_same
  have hdy4 := Dp.keepAll kw _ _ (datas_fz _) hdy
  have hwi4 := Dp.keepAll kw _ _ (datas_fz _) hwi
  have hvo4 := Dp.keep kw _ _ (data_fz _) hvo
  generalize upd H3 lw (.lst wi) = H4 at k4 hf4 hw4 hdy4 hwi4 hvo4 ⊢
  have hyl : ys.length = us.length := by rw [hdy.length, datas_len]
  refine ⟨_, rfl, .inl ⟨rfl, _, SqL.of hf4⟩, _, rfl, lf, _, _, rfl, rfl, hf4, small9000 (by omega), ?_⟩
  have kf : Kp [lf] H4 (upd H4 lf (.lst (ys ++ [vo]))) := Kp.put hf4 List.mem_cons_self
  have k5 : Kp [] H (upd H4 lf (.lst (ys ++ [vo]))) := k4.mut hlf
  have hf5 : (upd H4 lf (.lst (ys ++ [vo]))) lf = some (.lst (ys ++ [vo])) := upd_same
  have hw5 : (upd H4 lf (.lst (ys ++ [vo]))) lw = some (.lst wi) := kf.lst hw4 (not1 nwf.symm)
  have hdy5 : DpAll K (upd H4 lf (.lst (ys ++ [vo]))) (ys ++ [vo]) (Lz.P.datas (us ++ [o])) := by
    have e : Lz.P.datas (us ++ [o]) = Lz.P.datas us ++ [o.data] := by rw [datas_map, datas_map, List.map_append]; rfl
    rw [e]
    exact (Dp.keepAll kf _ _ (datas_fz _) hdy4).append (.one (Dp.keep kf _ _ (data_fz _) hvo4))
  have hwi5 := Dp.keepAll kf _ _ (datas_fz _) hwi4
  have hvo5 := Dp.keep kf _ _ (data_fz _) hvo4
  generalize upd H4 lf (.lst (ys ++ [vo])) = H5 at k5 hf5 hw5 hdy5 hwi5 hvo5 ⊢
  refine ⟨_, rfl, .inl ⟨rfl, _, SqL.of hw5⟩, _, rfl, vo, o, G, rfl, hvo5, ook, om, fun l xs H6 k6 hl0 hl1 hdx => ?_⟩
  have hf6 := k6.lst hf5 (fun m => nomatch m)
  have hw6 := k6.lst hw5 (fun m => nomatch m)
  have hxl : xs.length = o.win.length := by rw [hdx.length, datas_len]
  have hinl := win_len om
  refine ⟨l, xs, rfl, SqL.of hl1, fun lr hlr => ?_⟩
  have kr : Kp [] H6 (upd H6 lr (.lst xs.reverse)) := Kp.new hlr
  have hf7 := kr.lst hf6 (fun m => nomatch m)
  have hw7 := kr.lst hw6 (fun m => nomatch m)
  have hr7 : (upd H6 lr (.lst xs.reverse)) lr = some (.lst xs.reverse) := upd_same
  have hdx7 := DpAll.reverse (Dp.keepAll kr _ _ (datas_fz _) hdx)
  have k57 := k6.trans kr
  generalize upd H6 lr (.lst xs.reverse) = H7 at hf7 hw7 hr7 hdx7 k57 ⊢
  have hwl : wi.length = ti.length := by rw [hwi.length, datas_len]
  refine ⟨lw, lr, _, _, rfl, rfl, hw7, hr7, ?_, ?_⟩
  · rw [List.length_reverse]
    exact Nat.le_of_lt (small9000 (by omega))
  have kw7 : Kp [lw] H7 (upd H7 lw (.lst (wi ++ xs.reverse))) := Kp.put hw7 List.mem_cons_self
  have er : (Lz.P.datas o.win).reverse = Lz.P.datas o.win.reverse := by rw [datas_map, datas_map, List.map_reverse]
  rw [er] at hdx7
  have ea : Lz.P.datas (ti ++ o.win.reverse) = Lz.P.datas ti ++ Lz.P.datas o.win.reverse := by rw [datas_map, datas_map, datas_map, List.map_append]
  refine ⟨Lz.P.mws (ti ++ o.win.reverse), ?_, _, ys ++ [vo], wi ++ xs.reverse, us ++ [o], ti ++ o.win.reverse, rfl, (k5.trans k57).mut hlwH, kw7.lst hf7 (not1 nwf), upd_same, Dp.keepAll ((k57.mono fun _ m => nomatch m).trans kw7) _ _ (datas_fz _) hdy5, ?_, ?_, fun a m => ?_, rfl⟩
  · have e : Lz.P.mws o.win.reverse = Lz.P.mws o.win := mws_rev _
    rw [mws_append, hmt, e]
    omega
  · rw [ea]
    exact (Dp.keepAll ((k57.mono fun _ m => nomatch m).trans kw7) _ _ (datas_fz _) hwi5).append (Dp.keepAll kw7 _ _ (datas_fz _) hdx7)
  · rw [List.append_assoc]
    exact heq
  · rcases List.mem_append.mp m with m | m
    · exact hts a (List.mem_append_left _ m)
    · have m := List.mem_reverse.mp m
      have := mws_mem m
      exact ⟨win_okS ook m, by omega⟩
end
end Lz

set_option Elab.async false
set_option linter.all false
set_option maxRecDepth 100000
set_option maxHeartbeats 8000000
namespace Lz
open PySem PySem.Spec PyProof.Rows L2
def spMade (K : PySem.W.Frag) : Sp := fun vs H Q _ => ∃ (v : V) (li a : Addr) (t : Lz.P) (F : List Str) (xs : List V) (kvs : List (Key × V)) (th : List (Str × Lz.P)), vs = [v, .ref li, .ref a] ∧ Dp K H v t.data ∧ t.okS F ∧ t.mw ≤ 9000 ∧ H li = some (.lst xs) ∧ DpAll K H xs (Lz.P.datas (Lz.P.puts th t.win)) ∧ TD K H a kvs th ∧ ∀ (v' : V) (H' : Hp), Kp [] H H' → Dp K H' v' (Lz.P.put th t).data → Q v' H'
theorem hd_name {F : List Str} {t : Lz.P} (h : t.okS F) (e : t.hd = "name") : ∃ x, t = .nam x := by
  cases t with
  | num i => exact absurd (show ("number" : Str) = "name" from e) (by decide +kernel)
  | nam x => exact ⟨x, rfl⟩
  | fn x => exact absurd (show ("fun" : Str) = "name" from e) (by decide +kernel)
  | op k as => exact absurd (show k = "name" from e) (kind2_plain (show (k, as.length) ∈ kinds2 ∧ _ from h).1).2.2.1
  | lt nm as b => exact absurd (show ("let" : Str) = "name" from e) (by decide +kernel)
theorem hd_let {F : List Str} {t : Lz.P} (h : t.okS F) (e : t.hd = "let") : ∃ nm as b, t = .lt nm as b := by
  cases t with
  | num i => exact absurd (show ("number" : Str) = "let" from e) (by decide +kernel)
  | nam x => exact absurd (show ("name" : Str) = "let" from e) (by decide +kernel)
  | fn x => exact absurd (show ("fun" : Str) = "let" from e) (by decide +kernel)
  | op k as => exact absurd (show k = "let" from e) (kind2_plain (show (k, as.length) ∈ kinds2 ∧ _ from h).1).1
  | lt nm as b => exact ⟨nm, as, b, rfl⟩
section
variable {P : Program} {w : World} {K : PySem.W.Frag} {mg : Str → Option Value} {base : Heap} {f : Addr} {fd : FuncData}
abbrev sMadeOf : Stmt := topS 15
theorem scMadeOf : FnScope ["part", "inner", "things", "kind", "rows", "row", "one"] ["part", "inner", "things"] (defScope sMadeOf) := ⟨rfl, rfl, rfl, by decide +kernel, rfl, by decide +kernel, by decide +kernel⟩
theorem ok_made (F : Fun K "made_of" "made_of" sMadeOf f fd) (B : Bt mg) (mzip : mg "zip" = none) : FnOk P w K mg base CX0 1 f fd ["part", "inner", "things"] (spMade K) := by
  have mtup := B.tuple
  refine F.ok scMadeOf (fun vs H Q E h => ?_) (fun cdv A outer s H vs Q E hr h => ?_)
  · obtain ⟨v, li, a, t, G, xs, kvs, th, rfl, _⟩ := h
    rfl
  have hu := units1 hr
  obtain ⟨v, li, ad, t, G, xs, kvs, th, rfl, hd, hok, hmw, hli, hxs, hT, q⟩ := h
  refine ⟨_, (pss_cons (ps_set (i := 3) scMadeOf.nd rfl (.inl rfl) (pe_ix (ix_tupK (K := K) rfl) (pv 0) pe_int (fun _ _ => rfl)))
    (pss_cons (ps_if (PW.pt (pw_and (pt_cmpR op_eq (pv 3) pe_str (nomark _)) (pw_and1 (pt_cmp (pc_din hu (pe_ix (ix_tupK (K := K) rfl) (pv 0) pe_int (fun _ _ => rfl)) (pv 2)))))) (pss_one (ps_ret (pe_tup (pa_cons pe_str (pa_cons (pe_dget hu (pv 2) (pe_ix (ix_tupK (K := K) rfl) (pv 0) pe_int (fun _ _ => rfl)) (fun _ _ => rfl)) pa_nil))))) pss_nil)
    (pss_cons (ps_if (pt_cmpR op_eq (pv 3) pe_str (nomark _)) (pss_cons (ps_set (i := 4) scMadeOf.nd rfl (.inl rfl) (pe_callTy (call_tupleK (K := K) rfl) (by rfl) mtup (by decide +kernel) (pa_cons (pe_lc (own := [("row", 5), ("one", 6)]) rfl scMadeOf.nd (pi_mixK (K := K) rfl (by rfl) mzip (pa_cons (pe_ix (ix_tupK (K := K) rfl) (pv 0) pe_int (fun _ _ => rfl)) (pa_cons (pv 1) pa_nil))) (blkOk_by (N := ["part", "inner", "things", "kind", "rows", "row", "one"]) (sc := defScope sMadeOf) (by decide +kernel)) (fun _ _ _ _ _ => (pg_tupK (K := K) (n := 2) rfl rfl (pgs_cons (pg_name (i := 5) scMadeOf.nd rfl (.inl rfl)) (pgs_cons (pg_name (i := 6) scMadeOf.nd rfl (.inl rfl)) pgs_nil)))) (fun _ _ _ _ _ => pts_nil) (fun _ _ _ _ _ => (pe_tup (pa_cons (pe_ix (ix_tupK (K := K) rfl) (pv 5) pe_int (fun _ _ => rfl)) (pa_cons (pv 6) pa_nil))))) pa_nil)))
    (pss_one (ps_ret (pe_tup (pa_cons pe_str (pa_cons (pv 4) (pa_cons (pe_ix (ix_listK (K := K) rfl) (pv 1) (pe_un un_neg pe_int) (fun _ _ => rfl)) pa_nil))))))) pss_nil)
    (pss_one (ps_ret (pe_ifExp (pt_truthK (K := K) rfl (pv 1) (fun _ => rfl)) (pe_tup (pa_cons (pv 3) (StX.pa_starK (K := K) rfl (pv 1) pa_nil))) (pv 0))))))), ?_⟩
  obtain ⟨a, ys, rfl, ht, hys⟩ := hd_at hd
  refine ⟨_, rfl, a, _, _, _, rfl, rfl, ht, at_of (j := 0) rfl rfl, ?_⟩
  refine ⟨_, rfl, rfl, _, rfl, ?_⟩
  by_cases hn : t.hd = "name"
  · refine ite2 (fun _ => ?_) (fun c => absurd (decide_eq_true (congrArg V.str hn)) c)
    obtain ⟨x, rfl⟩ := hd_name hok hn
    obtain ⟨a2, e, ht2⟩ := str_at hd rfl
    obtain rfl := V.ref.inj e
    rcases hT.get x with ⟨u, p, hg, hp, hu'⟩ | ⟨hg, hp⟩
    · refine ⟨_, rfl, a, _, _, _, rfl, rfl, ht2, at_of (j := 1) rfl rfl, _, rfl, ad, _, rfl, hg, _, rfl, ?_⟩
      refine ite2 (fun _ => ?_) (fun c => absurd rfl c)
      refine ⟨_, rfl, _, rfl, a, _, _, _, rfl, rfl, ht2, at_of (j := 1) rfl rfl, ad, _, rfl, hg, (by show 2 ≤ sizeLine; decide), fun T hT' => ?_⟩
      exact q (.ref T) _ (Kp.new hT') (by rw [put_name hp]; exact Dp.newT hT' (.cons (.str _) (.cons hu' .nil)) (datas_fz [p]))
    · refine ⟨_, rfl, a, _, _, _, rfl, rfl, ht2, at_of (j := 1) rfl rfl, _, rfl, ad, _, rfl, hg, _, rfl, ?_⟩
      refine ite2 (fun c => absurd c (by simp)) (fun _ => ?_)
      refine ⟨_, rfl, rfl, _, rfl, ?_⟩
      refine ite2 (fun c => absurd (show ("name" : Str) = "let" from V.str.inj (of_decide_eq_true c)) (by decide +kernel)) (fun _ => ?_)
      cases hxs
      refine ⟨_, rfl, false, .inl ⟨_, SqL.of hli, rfl⟩, ?_⟩
      exact ⟨_, rfl, q _ H (Kp.refl _ _) (by rw [put_name0 hp]; exact hd)⟩
  refine ite2 (fun c => absurd (V.str.inj (of_decide_eq_true c)) hn) (fun _ => ?_)
  refine ⟨_, rfl, rfl, _, rfl, ?_⟩
  by_cases hl : t.hd = "let"
  · refine ite2 (fun _ => ?_) (fun c => absurd (decide_eq_true (congrArg V.str hl)) c)
    obtain ⟨nm, as, b, rfl⟩ := hd_let hok hl
    obtain ⟨a2, r, rs, vb, e, ht2, hr2, hrs, hb⟩ := let_atU hd
    obtain rfl := V.ref.inj e
    have hnl : nm.length = as.length := (show nm.length = as.length ∧ _ from hok).1
    have e1 : Lz.P.datas (Lz.P.puts th (Lz.P.lt nm as b).win) = Lz.P.datas (Lz.P.puts th as) ++ [(Lz.P.put th b).data] := by
      show Lz.P.datas (Lz.P.puts th (as ++ [b])) = _
      rw [puts_append, datas_map, List.map_append, ← datas_map]
      rfl
    rw [e1] at hxs
    obtain ⟨xi, vl, rfl, hxi, hvl⟩ := DpAll.snoc hxs
    have hrl : rs.length = as.length := by rw [hrs.length, List.length_zipWith, datas_len]; omega
    have hxl : xi.length = as.length := by rw [hxi.length, datas_len, puts_len]
    have hal : as.length ≤ 8998 := by
      have h1 := win_len hmw
      have h2 : (as ++ [b]).length ≤ 8999 := h1
      rw [List.length_append, List.length_singleton] at h2
      omega
    refine ⟨_, rfl, a, _, _, _, rfl, rfl, ht2, at_of (j := 1) rfl rfl, _, rfl, r, li, rs, xi ++ [vl], rfl, hr2, SqL.of hli, fun D hD => ?_⟩
    refine lc_it (StZ.walk_mix (K := K) (a := r) (b := li) (xs := rs) (ys := xi ++ [vl]) (n := as.length) (by rw [List.length_append, hrl, hxl, List.length_singleton]; omega)) (fun i H' => Kp [] H H' ∧ ∃ ws, H' D = some (.lst ws) ∧ DpAll K H' ws ((List.zipWith rowD nm (Lz.P.datas (Lz.P.puts th as))).take i))
      ⟨Kp.new hD, [], upd_same, .nil⟩ (fun i H' _ ⟨k, _⟩ => ⟨k.sqT hr2, SqL.of (k.lst hli (fun m => nomatch m))⟩) ?_ ?_
    · rintro i x H1 H2 hi ⟨k1, ws, hws, hdw⟩ ⟨T, rv, ov, rfl, hT0, rfl, e3, e4⟩
      obtain ⟨tr, x, u, d, rfl, htr, hnx, hdx, hux⟩ := row_atU hrs e3
      have e4 : (xi ++ [vl])[i]? = some ov := e4
      rw [List.getElem?_append_left (by omega)] at e4
      have kT : Kp [] H1 (upd H1 T (.tup [.ref tr, ov])) := Kp.new hT0
      have k2 := k1.trans kT
      refine ⟨T, _, rfl, SqT.of upd_same, rfl, _, _, rfl, _, _, rfl, rfl, ?_⟩
      refine ⟨rfl, ?_⟩
      refine ⟨_, rfl, tr, _, _, _, rfl, rfl, k2.sqT htr, at_of (j := 0) rfl rfl, _, rfl, (by show 2 ≤ sizeLine; decide), fun T2 hT2 => ?_⟩
      obtain ⟨po, hpo, hdo⟩ := part_atU hxi e4
      have hws2 := kT.lst hws (fun m => nomatch m)
      have kT2 : Kp [] (upd H1 T (.tup [.ref tr, ov])) (upd (upd H1 T (.tup [.ref tr, ov])) T2 (.tup [.str x, ov])) := Kp.new hT2
      have hws3 := kT2.lst hws2 (fun m => nomatch m)
      have k3 := k2.trans kT2
      have hro : Dp K (upd (upd H1 T (.tup [.ref tr, ov])) T2 (.tup [.str x, ov])) (.ref T2) (rowD x po.data) := Dp.newT hT2 (.cons (.str _) (.cons (Dp.keep k2 _ _ (data_fz _) hdo) .nil)) (datas_fz [po])
      have hdw3 := Dp.keepAll (kT.trans kT2) _ _ (fzAll_iff.mpr fun d m => fzAll_iff.mp rows_fz d (List.mem_of_mem_take m)) hdw
      generalize upd (upd H1 T (.tup [.ref tr, ov])) T2 (.tup [.str x, ov]) = H3 at hws3 k3 hro hdw3 ⊢
      have hwl : ws.length ≤ 8998 := by
        rw [hdw.length, List.length_take, List.length_zipWith, datas_len, puts_len]
        omega
      have kput : Kp [D] H3 (upd H3 D (.lst (ws ++ [.ref T2]))) := Kp.put hws3 List.mem_cons_self
      refine ⟨ws, hws3, small9000 (by omega), k3.mut hD, ws ++ [.ref T2], upd_same, ?_⟩
      have hz : (List.zipWith rowD nm (Lz.P.datas (Lz.P.puts th as)))[i]? = some (rowD x po.data) := by
        rw [List.getElem?_zipWith, hnx, datas_map, List.getElem?_map, hpo]
        rfl
      rw [List.take_add_one, hz]
      exact (Dp.keepAll kput _ _ (fzAll_iff.mpr fun d m => fzAll_iff.mp rows_fz d (List.mem_of_mem_take m)) hdw3).append (.one (Dp.keep kput _ _ (datas_fz [po]) hro))
    · rintro H1 ⟨k1, ws, hws, hdw⟩
      have hzl : (List.zipWith rowD nm (Lz.P.datas (Lz.P.puts th as))).length = as.length := by rw [List.length_zipWith, datas_len, puts_len]; omega
      rw [List.take_of_length_le (by rw [hzl]; exact Nat.le_refl _)] at hdw
      refine ⟨D, ws, rfl, .inl ⟨SqL.of hws, fun R hR => ?_⟩⟩
      have kR : Kp [] H1 (upd H1 R (.tup ws)) := Kp.new hR
      have hdR := Dp.keepAll kR _ _ rows_fz hdw
      have hR2 : SqT K (upd H1 R (.tup ws)) R ws := SqT.of upd_same
      have k2 := k1.trans kR
      generalize upd H1 R (.tup ws) = H2 at hdR hR2 k2 ⊢
      have hli2 := k2.lst hli (fun m => nomatch m)
      have hvl2 := Dp.keep k2 _ _ (data_fz _) hvl
      refine ⟨_, rfl, _, rfl, 1, rfl, li, xi ++ [vl], -1, vl, rfl, rfl, SqL.of hli2, atI_last xi vl, (by show 3 ≤ sizeLine; decide), fun T hT' => ?_⟩
      have kT : Kp [] H2 (upd H2 T (.tup [.str "let", .ref R, vl])) := Kp.new hT'
      have er : fzAll [PyData.str "let", .tuple (List.zipWith rowD nm (Lz.P.datas (Lz.P.puts th as))), (Lz.P.put th b).data] = true := by
        show (fzAll (List.zipWith rowD nm (Lz.P.datas (Lz.P.puts th as))) && (fz (Lz.P.put th b).data && true)) = true
        rw [rows_fz, data_fz]
        rfl
      exact q (.ref T) _ (k2.trans kT) (Dp.newT hT' (.cons (.str _) (.cons (.tup hR2 hdR) (.cons hvl2 .nil))) er)
  refine ite2 (fun c => absurd (V.str.inj (of_decide_eq_true c)) hl) (fun _ => ?_)
  refine ⟨_, rfl, !xs.isEmpty, .inl ⟨xs, SqL.of hli, rfl⟩, ?_⟩
  rcases win_cases hok with ⟨hw, hk⟩ | ⟨k, as, rfl, hns, hk⟩ | ⟨nm, as, b, rfl, _⟩
  · rw [hw] at hxs
    cases hxs
    refine ⟨_, rfl, q _ H (Kp.refl _ _) ?_⟩
    have e : Lz.P.put th t = t := by
      cases t with
      | num i => rfl
      | nam x => exact absurd rfl hn
      | fn x => rfl
      | op k as =>
        by_cases e : k = "shut"
        · show Lz.P.op k (if k = "shut" then as else Lz.P.puts th as) = _
          rw [if_pos e]
        · rw [win_op e] at hw
          have h1 := kind2_len (show (k, as.length) ∈ kinds2 ∧ _ from hok).1
          rw [hw] at h1
          exact absurd h1.1 (by decide)
      | lt nm as b => exact absurd rfl hl
    rw [e]
    exact hd
  · rw [win_op hns] at hxs
    have h1 := kind2_len (show (k, as.length) ∈ kinds2 ∧ _ from hok).1
    have hxl : xs.length = as.length := by rw [hxs.length, datas_len, puts_len]
    have hne : (!xs.isEmpty) = true := by
      cases xs with
      | nil => rw [← hxl] at h1; exact absurd h1.1 (by decide)
      | cons _ _ => rfl
    rw [if_pos hne]
    refine ⟨_, rfl, _, rfl, li, xs, rfl, .inr (SqL.of hli), ?_⟩
    refine ⟨by show (xs ++ []).length + 1 ≤ sizeLine; rw [List.append_nil, hxl]; exact Nat.le_trans (Nat.succ_le_succ h1.2) (by decide), fun T hT' => ?_⟩
    have kT : Kp [] H (upd H T (.tup (.str k :: (xs ++ [])))) := Kp.new hT'
    have e : (Lz.P.put th (Lz.P.op k as)).data = .tuple (.str k :: Lz.P.datas (Lz.P.puts th as)) := by
      show (Lz.P.op k (if k = "shut" then as else Lz.P.puts th as)).data = _
      rw [if_neg hns]
      rfl
    refine q (.ref T) _ kT ?_
    rw [e]
    rw [List.append_nil]
    exact Dp.newT hT' (.cons (.str _) hxs) (datas_fz _)
  · exact absurd rfl hl
end
end Lz

set_option Elab.async false
set_option linter.all false
set_option maxRecDepth 100000
set_option maxHeartbeats 8000000
namespace Lz
open PySem PySem.Spec PyProof.Rows L2
def spPutIn (K : PySem.W.Frag) : Sp := fun vs H Q _ => ∃ (v : V) (a : Addr) (t : Lz.P) (F : List Str) (kvs : List (Key × V)) (th : List (Str × Lz.P)), vs = [v, .ref a] ∧ Dp K H v t.data ∧ t.okS F ∧ t.mw ≤ 9000 ∧ TD K H a kvs th ∧ ∀ (v' : V) (H' : Hp), Kp [] H H' → Dp K H' v' (Lz.P.put th t).data → Q v' H'
theorem DpAll.uncons {K : PySem.W.Frag} {H : Hp} {vs : List V} {d : Lz.P} {ds : List Lz.P} (h : DpAll K H vs (Lz.P.datas (d :: ds))) : ∃ v r, vs = v :: r ∧ Dp K H v d.data ∧ DpAll K H r (Lz.P.datas ds) := by
  have h' : DpAll K H vs (d.data :: Lz.P.datas ds) := h
  cases h' with
  | cons a b => exact ⟨_, _, rfl, a, b⟩
section
variable {P : Program} {w : World} {K : PySem.W.Frag} {mg : Str → Option Value} {base : Heap} {f : Addr} {fd : FuncData}
abbrev sPutIn : Stmt := topS 16
theorem scPutIn : FnScope ["part", "things", "made", "one", "inner", "_"] ["part", "things"] (defScope sPutIn) := ⟨rfl, rfl, rfl, by decide +kernel, rfl, by decide +kernel, by decide +kernel⟩
theorem ok_putIn (F : Fun K "put_in" "put_in" sPutIn f fd) (mreversed : mg "reversed" = none) (CWithin : C8.Cal P w K mg base 1 "within" (spWin K) []) (CAllIn : C8.Cal P w K mg base 2 "all_in" (spAlw K) []) (CMadeOf : C8.Cal P w K mg base 1 "made_of" (spMade K) []) : FnOk P w K mg base CX0 3 f fd ["part", "things"] (spPutIn K) := by
  refine F.ok scPutIn (fun vs H Q E h => ?_) (fun cdv A outer s H vs Q E hr h => ?_)
  · obtain ⟨v, a, t, G, kvs, th, rfl, _⟩ := h
    rfl
  obtain ⟨v, ad, t, G, kvs, th, rfl, hd, hok, hmw, hT, q⟩ := h
  refine ⟨_, (pss_cons (ps_set (i := 2) scPutIn.nd rfl (.inr rfl) (pe_lst pa_nil))
    (pss_cons (ps_for PassesOwn.never rfl (pi_revK (K := K) rfl (by rfl) mreversed (pa_cons (C8.pe_c CAllIn hr (by first | decide | omega) (by rfl) (pa_cons (pv 0) pa_nil)) pa_nil)) (pg_name (i := 3) scPutIn.nd rfl (.inl rfl)) (pss_cons (ps_setLc (i := 4) (own := [("_", 5)]) rfl scPutIn.nd rfl rfl (sw_true rfl rfl rfl (by decide +kernel)) (pi_listK (K := K) rfl (C8.pe_c CWithin hr (by first | decide | omega) (by rfl) (pa_cons (pv 3) pa_nil))) (blkOk_by (N := ["part", "things", "made", "one", "inner", "_"]) (sc := defScope sPutIn) (by decide +kernel)) (fun _ _ _ _ _ => (pg_name (i := 5) scPutIn.nd rfl (.inl rfl))) (fun _ _ _ _ _ => pts_nil) (fun _ _ _ _ _ => (pe_bm0K (K := K) rfl PySem.F.plainAttrs_list PySem.F.slot_list_pop PySem.F.type_list_pop mt_pop (pv 2))))
    (pss_one (ps_expr (pe_bmK (K := K) rfl PySem.F.plainAttrs_list PySem.F.slot_list_append PySem.F.type_list_append mt_append (pv 2) (pa_cons (C8.pe_c CMadeOf hr (by first | decide | omega) (by rfl) (pa_cons (pv 3) (pa_cons (pv 4) (pa_cons (pv 1) pa_nil)))) pa_nil))))))
    (pss_one (ps_ret (pe_bm0K (K := K) rfl PySem.F.plainAttrs_list PySem.F.slot_list_pop PySem.F.type_list_pop mt_pop (pv 2)))))), ?_⟩
  refine ⟨Nat.zero_le _, fun lm hlm => ?_⟩
  have k1 : Kp [] H (upd H lm (.lst [])) := Kp.new hlm
  have hm1 : (upd H lm (.lst [])) lm = some (.lst []) := upd_same
  generalize upd H lm (.lst []) = H1 at k1 hm1 ⊢
  refine ⟨_, rfl, v, t, G, rfl, Dp.keep k1 _ _ (data_fz _) hd, hok, hmw, fun l xs H2 k2 hl0 hl1 hdx => ?_⟩
  have hm2 := k2.lst hm1 (fun m => nomatch m)
  have nlm : lm ≠ l := ne_of_none hm1 hl0
  have hlH : H l = none := k1.free hl0 (fun m => nomatch m)
  have hxl : xs.length = t.mw := by rw [hdx.length, datas_len]; rfl
  have k2 := k1.trans k2
  refine ⟨l, xs, rfl, SqL.of hl1, for_it (walk_rev (K := K) (a := l) (xs := xs)) (fun i σ H' => ∃ (v3 v4 : Option V) (ys : List V), σ = [some v, some (.ref ad), some (.ref lm), v3, v4, none] ∧ Kp [] H H' ∧ Kp [lm] H2 H' ∧ H' lm = some (.lst ys) ∧ DpAll K H' ys.reverse (Lz.P.datas (stk th (t.alw.drop (t.mw - i)))))
    ⟨none, none, [], rfl, k2, Kp.refl _ _, hm2, ?_⟩ (fun i σ H' _ ⟨_, _, _, _, _, k, _⟩ => SqL.of (k.lst hl1 (not1 nlm.symm))) ?_ ?_⟩
  · rw [Nat.sub_zero, List.drop_of_length_le (by show t.alw.length ≤ t.alw.length; exact Nat.le_refl _)]
    exact .nil
  · rintro i x σ H3 H4 hi ⟨v3, v4, ys, rfl, k3, k23, hm3, hdy⟩ ⟨rfl, hx⟩
    obtain ⟨o, ho, hdo⟩ := part_atU (Dp.keepAll k23 _ _ (datas_fz _) hdx) hx
    rw [hxl] at ho hi
    obtain ⟨S, e1, e2⟩ := stk_turn (th := th) ho
    rw [show t.mw - 1 - i + 1 = t.mw - i by omega] at e1
    rw [show t.mw - 1 - i = t.mw - (i + 1) by omega] at e2
    rw [e1] at hdy
    have hol := List.mem_of_getElem? ho
    have hoo := alw_okS hok o hol
    have hom : o.mw ≤ 9000 := Nat.le_trans (alw_mw o hol) hmw
    refine ⟨_, rfl, x, o, G, rfl, hdo, hoo, hom, fun lw ws H5 k5 hw0 hw1 hdw => ?_⟩
    have hm5 := k5.lst hm3 (fun m => nomatch m)
    have hdy5 := Dp.keepAll k5 _ _ (datas_fz _) hdy
    have hdo5 := Dp.keep k5 _ _ (data_fz _) hdo
    have k5' : Kp [] H H5 := k3.trans k5
    have k25 : Kp [lm] H2 H5 := k23.trans (k5.mono fun _ m => nomatch m)
    have hwl : ws.length = o.win.length := by rw [hdw.length, datas_len]
    have hw9 := win_len hom
    have nwm : lm ≠ lw := ne_of_none hm3 hw0
    refine ⟨lw, rfl, ⟨ws, SqL.of hw1⟩, fun D hD => ?_⟩
    have nDm : lm ≠ D := ne_of_none hm5 hD
    have hDH : H D = none := k5'.free hD (fun m => nomatch m)
    have hD2 : H2 D = none := by
      cases e : H2 D with
      | none => rfl
      | some oo =>
        by_cases c : D ∈ [lm]
        · exact absurd (List.mem_singleton.mp c).symm nDm
        · exact absurd (k25 D oo e fun m => absurd m c) (by rw [hD]; exact fun h => nomatch h)
    refine lc_it (walk_list (K := K) (a := lw) (xs := ws)) (fun k H' => Kp [] H H' ∧ Kp [lm] H2 H' ∧ H' lw = some (.lst ws) ∧ Dp K H' x o.data ∧ ∃ ys' zs, H' lm = some (.lst ys') ∧ H' D = some (.lst zs) ∧ DpAll K H' ys'.reverse (Lz.P.datas ((Lz.P.puts th o.win).drop k ++ S)) ∧ DpAll K H' zs (Lz.P.datas ((Lz.P.puts th o.win).take k)))
      ⟨k5'.trans (Kp.new hD), k25.trans (Kp.new hD), (Kp.new (S := []) hD).lst hw1 (fun m => nomatch m), Dp.keep (Kp.new (S := []) hD) _ _ (data_fz _) hdo5, ys, [], (Kp.new (S := []) hD).lst hm5 (fun m => nomatch m), upd_same, Dp.keepAll (Kp.new (S := []) hD) _ _ (datas_fz _) hdy5, .nil⟩ (fun k H' _ ⟨_, _, e, _⟩ => SqL.of e) ?_ ?_
    · rintro k u H6 H7 hk ⟨k6, k26, hw6, hdo6, ys', zs, hm6, hD6, hdy6, hdz6⟩ ⟨rfl, hu⟩
      have hpl : k < (Lz.P.puts th o.win).length := by rw [puts_len]; omega
      have ed : (Lz.P.puts th o.win).drop k = (Lz.P.puts th o.win)[k] :: (Lz.P.puts th o.win).drop (k + 1) := List.drop_eq_getElem_cons hpl
      rw [ed] at hdy6
      obtain ⟨top, rest, hr, ht6, hr6⟩ := DpAll.uncons hdy6
      · have ey : ys' = rest.reverse ++ [top] := by rw [← List.reverse_reverse ys', hr, List.reverse_cons]
        subst ey
        refine ⟨rfl, ?_⟩
        refine ⟨_, rfl, .inl ⟨rfl, _, SqL.of hm6⟩, lm, _, top, rfl, rfl, hm6, ?_, ?_⟩
        · rw [List.length_append]
          show (rest.reverse ++ [top])[rest.reverse.length + 1 - 1]? = some top
          rw [Nat.add_sub_cancel, List.getElem?_append_right (Nat.le_refl _), Nat.sub_self]
          rfl
        rw [List.dropLast_concat]
        have kp : Kp [lm] H7 (upd H7 lm (.lst rest.reverse)) := Kp.put hm6 List.mem_cons_self
        have hD7 : (upd H7 lm (.lst rest.reverse)) D = some (.lst zs) := kp.lst hD6 (not1 nDm.symm)
        have hw7 := kp.lst hw6 (not1 nwm.symm)
        have hm7 : (upd H7 lm (.lst rest.reverse)) lm = some (.lst rest.reverse) := upd_same
        have k7 : Kp [] H (upd H7 lm (.lst rest.reverse)) := k6.mut hlm
        have k27 := k26.trans kp
        have hdo7 := Dp.keep kp _ _ (data_fz _) hdo6
        have hr7 := Dp.keepAll kp _ _ (datas_fz _) hr6
        have ht7 := Dp.keep kp _ _ (data_fz _) ht6
        have hz7 := Dp.keepAll kp _ _ (datas_fz _) hdz6
        generalize upd H7 lm (.lst rest.reverse) = H8 at hD7 hw7 hm7 k7 k27 hdo7 hr7 ht7 hz7 ⊢
        have hzl : zs.length ≤ 8999 := by
          rw [hdz6.length, datas_len, List.length_take, puts_len]
          omega
        have kD : Kp [D] H8 (upd H8 D (.lst (zs ++ [top]))) := Kp.put hD7 List.mem_cons_self
        have nDw : lw ≠ D := ne_of_none hw1 hD
        refine ⟨zs, hD7, small9000 (by omega), k7.mut hDH, k27.mut hD2, kD.lst hw7 (not1 nDw), Dp.keep kD _ _ (data_fz _) hdo7, rest.reverse, zs ++ [top], kD.lst hm7 (not1 nDm), upd_same, ?_, ?_⟩
        · rw [List.reverse_reverse]
          exact Dp.keepAll kD _ _ (datas_fz _) hr7
        · have et : (Lz.P.puts th o.win).take (k + 1) = (Lz.P.puts th o.win).take k ++ [(Lz.P.puts th o.win)[k]] := by
            rw [List.take_add_one, List.getElem?_eq_getElem hpl]
            rfl
          rw [et, datas_map, List.map_append, ← datas_map]
          exact (Dp.keepAll kD _ _ (datas_fz _) hz7).append (.one (Dp.keep kD _ _ (data_fz _) ht7))
    · rintro H6 ⟨k6, k26, hw6, hdo6, ys', zs, hm6, hD6, hdy6, hdz6⟩
      have el : ws.length = (Lz.P.puts th o.win).length := by rw [puts_len]; exact hwl
      rw [el, List.drop_length, List.nil_append] at hdy6
      rw [el, List.take_length] at hdz6
      have hsl : ys'.length ≤ 8999 := by
        have h1 := stk_len (th := th) (t.alw.drop (t.mw - (i + 1)))
        rw [e2, List.length_cons, List.length_drop] at h1
        have h2 : t.alw.length = t.mw := rfl
        have h3 := hdy6.length
        rw [List.length_reverse, datas_len] at h3
        omega
      refine ⟨_, rfl, .inl ⟨rfl, _, SqL.of hm6⟩, _, rfl, _, rfl, _, rfl, x, D, ad, o, G, zs, kvs, th, rfl, hdo6, hoo, hom, hD6, hdz6, hT.keep k6, fun v' H7 k7 hd7 => ?_⟩
      have hm7 := k7.lst hm6 (fun m => nomatch m)
      refine ⟨lm, _, _, rfl, rfl, hm7, small9000 (by omega), ?_⟩
      have kp : Kp [lm] H7 (upd H7 lm (.lst (ys' ++ [v']))) := Kp.put hm7 List.mem_cons_self
      refine ⟨some x, some (.ref D), ys' ++ [v'], rfl, (k6.trans k7).mut hlm, (k26.trans (k7.mono fun _ m => nomatch m)).trans kp, upd_same, ?_⟩
      rw [e2, List.reverse_append]
      exact .cons (Dp.keep kp _ _ (data_fz _) hd7) (Dp.keepAll ((k7.mono fun _ m => nomatch m).trans kp) _ _ (datas_fz _) hdy6)
  · rintro σ H3 ⟨v3, v4, ys, rfl, k3, k23, hm3, hdy⟩
    rw [hxl, Nat.sub_self, List.drop_zero, stk_all] at hdy
    obtain ⟨top, rest, hr, ht3, hr3⟩ := DpAll.uncons hdy
    cases hr3
    have ey : ys = [top] := by rw [← List.reverse_reverse ys, hr]; rfl
    subst ey
    refine ⟨_, rfl, .inl ⟨rfl, _, SqL.of hm3⟩, lm, _, top, rfl, rfl, hm3, rfl, ?_⟩
    exact q top _ (k3.mut hlm) (Dp.keep (Kp.put hm3 List.mem_cons_self : Kp [lm] H3 _) _ _ (data_fz _) ht3)
end
end Lz

set_option Elab.async false
set_option linter.all false
set_option maxRecDepth 100000
set_option maxHeartbeats 8000000
namespace Lz
open PySem PySem.Spec PyProof.Rows L2
def spFuns (K : PySem.W.Frag) : Sp := fun vs H Q _ => ∃ (v : V) (fs : List Fn) (d : Lz.P), vs = [v] ∧ Dp K H v (progD fs d) ∧ PrOk fs d ∧ ∀ (l : Addr) (xs : List V) (H' : Hp), Kp [] H H' → H l = none → H' l = some (.lst xs) → DpAll K H' xs ((fnsOf fs d).map fD) → Q (.ref l) H'
def spNumOf (K : PySem.W.Frag) : Sp := fun vs H Q _ => ∃ (v : V) (fs : List Fn) (d : Lz.P) (i : Nat) (g : Fn), vs = [v, .str g.1] ∧ Dp K H v (progD fs d) ∧ PrOk fs d ∧ (fnsOf fs d)[i]? = some g ∧ ∀ H', Kp [] H H' → Q (.int (i : Nat)) H'
def spFunOf (K : PySem.W.Frag) : Sp := fun vs H Q _ => ∃ (v : V) (fs : List Fn) (d : Lz.P) (i : Nat) (g : Fn), vs = [v, .str g.1] ∧ Dp K H v (progD fs d) ∧ PrOk fs d ∧ (fnsOf fs d)[i]? = some g ∧ ∀ (t : V) (H' : Hp), Kp [] H H' → Dp K H' t (fD g) → Q t H'
def spWants (K : PySem.W.Frag) : Sp := fun vs H Q _ => ∃ (v : V) (fs : List Fn) (d : Lz.P) (i : Nat) (g : Fn), vs = [v, .str g.1] ∧ Dp K H v (progD fs d) ∧ PrOk fs d ∧ (fnsOf fs d)[i]? = some g ∧ ∀ H', Kp [] H H' → Q (.int (g.2.1.length : Nat)) H'
def spMost (K : PySem.W.Frag) : Sp := fun vs H Q _ => ∃ (v : V) (fs : List Fn) (d : Lz.P), vs = [v] ∧ Dp K H v (progD fs d) ∧ PrOk fs d ∧ ∀ (m : Nat) (H' : Hp), Kp [] H H' → (∀ g, g ∈ fs → g.2.1.length ≤ m) → Q (.int (m : Nat)) H'
section
variable {P : Program} {w : World} {K : PySem.W.Frag} {mg : Str → Option Value} {base : Heap} {f : Addr} {fd : FuncData}
abbrev sAllFunctions : Stmt := topS 9
theorem scAllFunctions : FnScope ["program", "functions", "asked"] ["program"] (defScope sAllFunctions) := ⟨rfl, rfl, rfl, by decide +kernel, rfl, by decide +kernel, by decide +kernel⟩
theorem ok_funs (F : Fun K "all_functions" "all_functions" sAllFunctions f fd) : FnOk P w K mg base CX0 1 f fd ["program"] (spFuns K) := by
  refine F.ok scAllFunctions (fun vs H Q E h => ?_) (fun cdv A outer s H vs Q E hr h => ?_)
  · obtain ⟨v, fs, d, rfl, _⟩ := h
    rfl
  obtain ⟨v, fs, d, rfl, hd, hok, q⟩ := h
  refine ⟨_, (pss_cons (ps_asg (pv 0) (pg_tupK (K := K) (n := 2) rfl rfl (pgs_cons (pg_name (i := 1) scAllFunctions.nd rfl (.inl rfl)) (pgs_cons (pg_name (i := 2) scAllFunctions.nd rfl (.inl rfl)) pgs_nil))))
    (pss_one (ps_ret (pe_lst (StX.pa_starK (K := K) rfl (pv 1) (pa_cons (pe_tup (pa_cons pe_str (pa_cons (pe_tup pa_nil) (pa_cons (pv 2) pa_nil)))) pa_nil)))))), ?_⟩
  obtain ⟨pr, xs, rfl, hpr, hxs⟩ := Dp.tup_of (ds := [.tuple (fs.map fD), d.data]) hd
  obtain ⟨ft, rs, vd, rfl, hft, hrs, hvd⟩ : ∃ ft rs vd, xs = [.ref ft, vd] ∧ SqT K H ft rs ∧ DpAll K H rs (fs.map fD) ∧ Dp K H vd d.data := by
    cases hxs with
    | cons h1 h2 =>
      obtain ⟨ft, rs, rfl, hft, hrs⟩ := h1.tup_of
      cases h2 with
      | cons h3 h4 =>
        cases h4
        exact ⟨ft, rs, _, rfl, hft, hrs, h3⟩
  have hrl : rs.length = fs.length := by rw [hrs.length, List.length_map]
  have h8 := hok.len
  refine ⟨_, rfl, pr, _, rfl, hpr, rfl, _, _, rfl, _, _, rfl, rfl, ?_⟩
  refine ⟨_, rfl, ft, _, rfl, .inl hft, (Nat.zero_le _), fun e he => ?_⟩
  refine ⟨_, rfl, (by show 3 ≤ sizeLine; decide), fun t ht => ?_⟩
  have k1 : Kp [] H (upd H e (.tup [])) := Kp.new he
  have k2 := k1.trans (Kp.new (S := []) (o := .tup [.str "", .ref e, vd]) ht)
  have hte : (upd (upd H e (.tup [])) t (.tup [.str "", .ref e, vd])) e = some (.tup []) := by rw [upd_ne (ne_of_none upd_same ht)]; exact upd_same
  have hlast : Dp K (upd (upd H e (.tup [])) t (.tup [.str "", .ref e, vd])) (.ref t) (fD (askedFn d)) := .tup (.inl (.inl upd_same)) (.cons (.str _) (.cons (.tup (.inl (.inl hte)) .nil) (.cons (Dp.keep k2 _ _ (data_fz _) hvd) .nil)))
  have hdx := (Dp.keepAll k2 _ _ (fdU_fz _) hrs).append (.one hlast)
  generalize upd (upd H e (.tup [])) t (.tup [.str "", .ref e, vd]) = H2 at k2 hdx ⊢
  refine ⟨by rw [List.length_append, hrl]; show fs.length + 1 ≤ sizeLine; exact Nat.le_of_lt (small1000 (by omega)), fun l hl => ?_⟩
  have k3 := Kp.new (S := []) (o := .lst (rs ++ [.ref t])) hl
  refine q l _ _ (k2.trans k3) (k2.free hl (fun m => nomatch m)) upd_same ?_
  have ee : (fnsOf fs d).map fD = fs.map fD ++ [fD (askedFn d)] := by
    show (fs ++ [askedFn d]).map fD = _
    rw [List.map_append]
    rfl
  rw [ee]
  refine Dp.keepAll k3 _ _ ?_ hdx
  have := fdU_fz (fnsOf fs d)
  rw [ee] at this
  exact this
abbrev sNumberOf : Stmt := topS 10
theorem scNumberOf : FnScope ["program", "f", "function"] ["program", "f"] (defScope sNumberOf) := ⟨rfl, rfl, rfl, by decide +kernel, rfl, by decide +kernel, by decide +kernel⟩
theorem ok_numOf (F : Fun K "number_of" "number_of" sNumberOf f fd) (CAllFunctions : C8.Cal P w K mg base 1 "all_functions" (spFuns K) []) : FnOk P w K mg base CX0 2 f fd ["program", "f"] (spNumOf K) := by
  refine F.ok scNumberOf (fun vs H Q E h => ?_) (fun cdv A outer s H vs Q E hr h => ?_)
  · obtain ⟨v, fs, d, i, g, rfl, _⟩ := h
    rfl
  obtain ⟨v, fs, d, i, g, rfl, hd, hok, hg, q⟩ := h
  refine ⟨_, (pss_one (ps_ret (pe_bmK (K := K) rfl PySem.F.plainAttrs_list PySem.F.slot_list_index PySem.F.type_list_index (mt_indexK (K := K) rfl) (pe_lc (own := [("function", 2)]) rfl scNumberOf.nd (pi_listK (K := K) rfl (C8.pe_c CAllFunctions hr (by first | decide | omega) (by rfl) (pa_cons (pv 0) pa_nil))) (blkOk_by (N := ["program", "f", "function"]) (sc := defScope sNumberOf) (by decide +kernel)) (fun _ _ _ _ _ => (pg_name (i := 2) scNumberOf.nd rfl (.inl rfl))) (fun _ _ _ _ _ => pts_nil) (fun _ _ _ _ _ => (pe_ix (ix_tupK (K := K) rfl) (pv 2) pe_int (fun _ _ => rfl)))) (pa_cons (pv 1) pa_nil)))), ?_⟩
  refine ⟨_, rfl, v, fs, d, rfl, hd, hok, fun l xs H1 k1 hl0 hl1 hdx => ?_⟩
  have h9 := flenU hok
  have hxl : xs.length = (fnsOf fs d).length := by rw [hdx.length, List.length_map]
  refine ⟨l, rfl, ⟨_, SqL.of hl1⟩, fun D hD => ?_⟩
  refine lc_list (K := K) (a := l) (xs := xs) (fun i H' => Kp [] H1 H' ∧ H' D = some (.lst ((((fnsOf fs d).take i).map (·.1)).map V.str)))
    ⟨Kp.new hD, upd_same⟩ (fun i H' _ ⟨k, _⟩ => SqL.of (k.lst hl1 (fun m => nomatch m))) ?_ ?_
  · rintro i x H2 hi ⟨k2, h2⟩
    obtain ⟨e, t, r, u, he, rfl, ht, _, _⟩ := fn_atU (Dp.keepAll k2 _ _ (fdU_fz _) hdx) hi
    refine ⟨rfl, ?_⟩
    refine ⟨_, rfl, t, _, _, _, rfl, rfl, ht, at_of (j := 0) rfl rfl, _, h2, ?_, k2.mut hD, ?_⟩
    · rw [List.length_map, List.length_map, List.length_take]
      exact small1000 (by omega)
    · rw [upd_same, List.take_add_one, he, List.map_append, List.map_append]
      rfl
  · rintro H2 ⟨k2, h2⟩
    rw [hxl, List.take_length] at h2
    have hat : ∀ m : Nat, (((fnsOf fs d).map (·.1)).map V.str)[m]? = (fnsOf fs d)[m]?.map (fun g => V.str g.1) := fun m => by
      rw [List.getElem?_map, List.getElem?_map]
      cases (fnsOf fs d)[m]? <;> rfl
    refine ⟨.inl ⟨rfl, _, SqL.of h2⟩, _, rfl, D, _, _, i, .str g.1, rfl, rfl, SqL.of h2, rfl, ?_, ?_, ?_, ?_, q H2 (k1.trans k2)⟩
    · rw [List.all_eq_true]
      intro z hz
      obtain ⟨s, _, rfl⟩ := List.mem_map.mp hz
      rfl
    · rw [hat, hg]
      rfl
    · show (g.1 == g.1) = true
      exact beq_self_eq_true _
    · intro m z hm hz
      rw [hat] at hz
      cases e : (fnsOf fs d)[m]? with
      | none => rw [e] at hz; cases hz
      | some g' =>
        rw [e] at hz
        obtain rfl : V.str g'.1 = z := Option.some.inj hz
        show (g'.1 == g.1) = false
        refine beq_eq_false_iff_ne.mpr fun hq => ?_
        have h1 : ((fnsOf fs d).map (·.1))[m]? = some g.1 := by rw [List.getElem?_map, e, ← hq]; rfl
        have h2 : ((fnsOf fs d).map (·.1))[i]? = some g.1 := by rw [List.getElem?_map, hg]; rfl
        have := nd_ix hok.nd h1 h2
        omega
abbrev sFunctionOf : Stmt := topS 11
theorem scFunctionOf : FnScope ["program", "f"] ["program", "f"] (defScope sFunctionOf) := ⟨rfl, rfl, rfl, by decide +kernel, rfl, by decide +kernel, by decide +kernel⟩
theorem ok_funOf (F : Fun K "function_of" "function_of" sFunctionOf f fd) (CAllFunctions : C8.Cal P w K mg base 1 "all_functions" (spFuns K) []) (CNumberOf : C8.Cal P w K mg base 2 "number_of" (spNumOf K) []) : FnOk P w K mg base CX0 3 f fd ["program", "f"] (spFunOf K) := by
  refine F.ok scFunctionOf (fun vs H Q E h => ?_) (fun cdv A outer s H vs Q E hr h => ?_)
  · obtain ⟨v, fs, d, i, g, rfl, _⟩ := h
    rfl
  obtain ⟨v, fs, d, i, g, rfl, hd, hok, hg, q⟩ := h
  refine ⟨_, (pss_one (ps_ret (pe_ix (ix_listK (K := K) rfl) (C8.pe_c CAllFunctions hr (by first | decide | omega) (by rfl) (pa_cons (pv 0) pa_nil)) (C8.pe_c CNumberOf hr (by first | decide | omega) (by rfl) (pa_cons (pv 0) (pa_cons (pv 1) pa_nil))) (fun _ _ => rfl)))), ?_⟩
  refine ⟨_, rfl, v, fs, d, rfl, hd, hok, fun l xs H2 k2 hl0 hl hdx => ?_⟩
  refine ⟨_, rfl, _, rfl, v, fs, d, i, g, rfl, Dp.keep k2 _ _ (progU_fz _ _) hd, hok, hg, fun H3 k3 => ?_⟩
  obtain ⟨x, hx, hxd⟩ := hdx.get (i := i) (d := fD g) (by rw [List.getElem?_map, hg]; rfl)
  have hf : fz (fD g) = true := fzAll_iff.mp (fdU_fz [g]) _ List.mem_cons_self
  refine ⟨l, _, _, _, rfl, rfl, SqL.of (k3.lst hl (fun m => nomatch m)), at_of (j := i) rfl hx, ?_⟩
  exact q x H3 (k2.trans k3) (Dp.keep k3 _ _ hf hxd)
abbrev sWants : Stmt := topS 12
theorem scWants : FnScope ["program", "f"] ["program", "f"] (defScope sWants) := ⟨rfl, rfl, rfl, by decide +kernel, rfl, by decide +kernel, by decide +kernel⟩
theorem ok_wants (F : Fun K "wants" "wants" sWants f fd) (B : Bt mg) (CFunctionOf : C8.Cal P w K mg base 3 "function_of" (spFunOf K) []) : FnOk P w K mg base CX0 4 f fd ["program", "f"] (spWants K) := by
  have ml := B.len
  refine F.ok scWants (fun vs H Q E h => ?_) (fun cdv A outer s H vs Q E hr h => ?_)
  · obtain ⟨v, fs, d, i, g, rfl, _⟩ := h
    rfl
  obtain ⟨v, fs, d, i, g, rfl, hd, hok, hg, q⟩ := h
  refine ⟨_, (pss_one (ps_ret (pe_callB (call_lenK (K := K) rfl) (by rfl) ml PySem.boot_len (pa_cons (pe_ix (ix_tupK (K := K) rfl) (C8.pe_c CFunctionOf hr (by first | decide | omega) (by rfl) (pa_cons (pv 0) (pa_cons (pv 1) pa_nil))) pe_int (fun _ _ => rfl)) pa_nil)))), ?_⟩
  refine ⟨_, rfl, _, rfl, v, fs, d, i, g, rfl, hd, hok, hg, fun tv H2 k2 ht => ?_⟩
  obtain ⟨g', t, r, u, hg', rfl, ht1, hr2, _⟩ := fn_atU (gs := [g]) (i := 0) (.one ht) rfl
  obtain rfl := Option.some.inj hg'
  refine ⟨t, _, _, _, rfl, rfl, ht1, at_of (j := 1) rfl rfl, r, _, rfl, .inr hr2, ?_⟩
  show Q (V.int ((g.2.1.map V.str).length : Nat)) H2
  rw [List.length_map]
  exact q H2 k2
abbrev sMostWanted : Stmt := topS 13
theorem scMostWanted : FnScope ["program", "function"] ["program"] (defScope sMostWanted) := ⟨rfl, rfl, rfl, by decide +kernel, rfl, by decide +kernel, by decide +kernel⟩
theorem ok_most (F : Fun K "most_wanted" "most_wanted" sMostWanted f fd) (B : Bt mg) : FnOk P w K mg base CX0 1 f fd ["program"] (spMost K) := by
  have ml := B.len
  have mmax := B.max
  refine F.ok scMostWanted (fun vs H Q E h => ?_) (fun cdv A outer s H vs Q E hr h => ?_)
  · obtain ⟨v, fs, d, rfl, _⟩ := h
    rfl
  have hu64 := hr.units
  obtain ⟨v, fs, d, rfl, hd, hok, q⟩ := h
  refine ⟨_, (pss_one (ps_ret (pe_callBK (call_maxDefK (K := K) rfl rfl hu64) (by rfl) mmax (by decide +kernel) (pa_cons (pe_lc (own := [("function", 1)]) rfl scMostWanted.nd (pi_tupK (K := K) rfl (pe_ix (ix_tupK (K := K) rfl) (pv 0) pe_int (fun _ _ => rfl))) (blkOk_by (N := ["program", "function"]) (sc := defScope sMostWanted) (by decide +kernel)) (fun _ _ _ _ _ => (pg_name (i := 1) scMostWanted.nd rfl (.inl rfl))) (fun _ _ _ _ _ => pts_nil) (fun _ _ _ _ _ => (pe_callB (call_lenK (K := K) rfl) (by rfl) ml PySem.boot_len (pa_cons (pe_ix (ix_tupK (K := K) rfl) (pv 1) pe_int (fun _ _ => rfl)) pa_nil)))) pa_nil) (pk_cons pe_int pk_nil)))), ?_⟩
  obtain ⟨pr, ft, rs, vd, rfl, hpr, hft, hrs, hvd⟩ := prog_at hd
  have hrl : rs.length = fs.length := by rw [hrs.length, List.length_map]
  have h8 := hok.len
  refine ⟨_, rfl, pr, _, _, _, rfl, rfl, hpr, at_of (j := 0) rfl rfl, ft, rfl, ⟨_, hft⟩, fun D hD => ?_⟩
  refine lc_tup (K := K) (a := ft) (xs := rs) (fun i H' => Kp [] H H' ∧ H' D = some (.lst (((fs.take i).map (fun g => (g.2.1.length : Int))).map V.int)))
    ⟨Kp.new hD, upd_same⟩ (fun i H' _ ⟨k, _⟩ => k.sqT hft) ?_ ?_
  · rintro i x H1 hi ⟨k1, h1⟩
    obtain ⟨g, t, r, u, hg, rfl, ht, hr3, hu⟩ := fn_atU (Dp.keepAll k1 _ _ (fdU_fz _) hrs) hi
    refine ⟨rfl, ?_⟩
    refine ⟨_, rfl, t, _, _, _, rfl, rfl, ht, at_of (j := 1) rfl rfl, r, _, rfl, .inr hr3, ?_⟩
    refine ⟨_, h1, ?_, k1.mut hD, ?_⟩
    · rw [List.length_map, List.length_map, List.length_take]
      exact small1000 (by omega)
    · rw [upd_same, List.take_add_one, hg, List.map_append, List.map_append, List.length_map]
      rfl
  · rintro H1 ⟨k1, h1⟩
    rw [hrl, List.take_length] at h1
    refine ⟨D, _, 0, rfl, rfl, SqL.of h1, fun e => ?_, fun m hm hle => ?_⟩
    · have e' : fs = [] := List.map_eq_nil_iff.mp e
      exact q 0 H1 k1 fun g m => by rw [e'] at m; exact nomatch m
    · obtain ⟨g0, hg0, rfl⟩ := List.mem_map.mp hm
      refine q g0.2.1.length H1 k1 fun g m => ?_
      have := hle (g.2.1.length : Int) (List.mem_map.mpr ⟨g, m, rfl⟩)
      omega
end
end Lz

set_option Elab.async false
set_option linter.all false
set_option maxRecDepth 100000
set_option maxHeartbeats 8000000
namespace Lz
open PySem PySem.Spec PyProof.Rows L2
def spWorth (K : PySem.W.Frag) : Sp := fun vs H Q _ => ∃ (pv v : V) (fs : List Fn) (d t h : Lz.P) (n : Nat), vs = [pv, v] ∧ Dp K H pv (progD fs d) ∧ PrOk fs d ∧ Dp K H v t.data ∧ t.okS (fs.map (·.1)) ∧ Spine t n h ∧ h.okS (fs.map (·.1)) ∧ h.hd ≠ "give" ∧ ∀ H', Kp [] H H' → Q (.bl (worthB fs n h)) H'
theorem in2U (a b k : Str) : inV (.str k) [.str a, .str b] = (decide (k = a) || decide (k = b)) := by
  refine (inU k [a, b]).trans ?_
  rw [Bool.eq_iff_iff, Bool.or_eq_true, decide_eq_true_iff, decide_eq_true_iff, decide_eq_true_iff]
  simp
theorem spine_hd {t h : Lz.P} {n : Nat} (s : Spine t n h) : (t.hd ≠ "give" → n = 0 ∧ h = t) ∧ (1 ≤ n → ∃ a b, t = .op "give" [a, b] ∧ Spine a (n - 1) h) := by
  cases s with
  | stop e => exact ⟨fun _ => ⟨rfl, rfl⟩, fun h => absurd h (by decide)⟩
  | @give a b h n s => exact ⟨fun e => absurd rfl e, fun _ => ⟨a, b, rfl, s⟩⟩
section
variable {P : Program} {w : World} {K : PySem.W.Frag} {mg : Str → Option Value} {base : Heap} {f : Addr} {fd : FuncData}
abbrev sIsWorth : Stmt := topS 18
theorem scIsWorth : FnScope ["program", "part", "many", "most"] ["program", "part"] (defScope sIsWorth) := ⟨rfl, rfl, rfl, by decide +kernel, rfl, by decide +kernel, by decide +kernel⟩
theorem ok_worth (F : Fun K "is_worth" "is_worth" sIsWorth f fd) (CMostWanted : C8.Cal P w K mg base 1 "most_wanted" (spMost K) []) (CWants : C8.Cal P w K mg base 4 "wants" (spWants K) []) : FnOk P w K mg base CX0 5 f fd ["program", "part"] (spWorth K) := by
  refine F.ok scIsWorth (fun vs H Q E h => ?_) (fun cdv A outer s H vs Q E hr h => ?_)
  · obtain ⟨gp, v, fs, d, t, h, n, rfl, _⟩ := h
    rfl
  obtain ⟨gp, v, fs, d, t, h, n, rfl, hp, hok, hd, htk, hsp, hhk, hhg, q⟩ := h
  refine ⟨_, (pss_cons (ps_if (pt_cmpR (op_notInK (K := K) rfl) (pe_ix (ix_tupK (K := K) rfl) (pv 1) pe_int (fun _ _ => rfl)) (pe_tup (pa_cons pe_str (pa_cons pe_str pa_nil))) rfl) (pss_one (ps_ret (pe_cmpR (op_inK (K := K) rfl) (pe_ix (ix_tupK (K := K) rfl) (pv 1) pe_int (fun _ _ => rfl)) (pe_tup (pa_cons pe_str (pa_cons pe_str pa_nil))) rfl))) pss_nil)
    (pss_cons (ps_set (i := 2) scIsWorth.nd rfl (.inl rfl) pe_int)
    (pss_cons (ps_set (i := 3) scIsWorth.nd rfl (.inl rfl) (C8.pe_c CMostWanted hr (by first | decide | omega) (by rfl) (pa_cons (pv 0) pa_nil)))
    (pss_cons (ps_while PassesOwn.never (PW.pt (pw_and (pt_cmpR op_eq (pe_ix (ix_tupK (K := K) rfl) (pv 1) pe_int (fun _ _ => rfl)) pe_str (nomark _)) (pw_and1 (pt_cmpR op_lt (pv 2) (pv 3) (nomark _))))) (pss_cons (ps_set (i := 1) scIsWorth.nd rfl (.inl rfl) (pe_ix (ix_tupK (K := K) rfl) (pv 1) pe_int (fun _ _ => rfl)))
    (pss_one (ps_aug (i := 2) scIsWorth.nd rfl (.inl rfl) pe_int ip_add))))
    (pss_one (ps_ret (pe_and (pe_cmpR op_eq (pe_ix (ix_tupK (K := K) rfl) (pv 1) pe_int (fun _ _ => rfl)) pe_str (nomark _)) (pe_one (pe_cmpR op_lt (pv 2) (C8.pe_c CWants hr (by first | decide | omega) (by rfl) (pa_cons (pv 0) (pa_cons (pe_ix (ix_tupK (K := K) rfl) (pv 1) pe_int (fun _ _ => rfl)) pa_nil))) (nomark _)))))))))), ?_⟩
  obtain ⟨a, xs, rfl, ht, hxs⟩ := hd_at hd
  refine ⟨_, rfl, a, _, _, _, rfl, rfl, ht, at_of (j := 0) rfl rfl, (by show 2 ≤ sizeLine; decide), fun t1 ht1 => ?_⟩
  have k1 : Kp [] H (upd H t1 (.tup [.str "give", .str "fun"])) := Kp.new ht1
  have h1t : (upd H t1 (.tup [.str "give", .str "fun"])) t1 = some (.tup [.str "give", .str "fun"]) := upd_same
  generalize upd H t1 (.tup [.str "give", .str "fun"]) = H1 at k1 h1t ⊢
  refine ⟨t1, _, rfl, .inr (SqT.of h1t), rfl, rfl, _, rfl, ?_⟩
  rw [in2U]
  refine ite2 (fun c => ?_) (fun c => ?_)
  · have c1 : t.hd ≠ "give" ∧ t.hd ≠ "fun" := by simpa using c
    obtain ⟨rfl, rfl⟩ := (spine_hd hsp).1 c1.1
    refine ⟨_, rfl, a, _, _, _, rfl, rfl, k1.sqT ht, at_of (j := 0) rfl rfl, (by show 2 ≤ sizeLine; decide), fun t2 ht2 => ?_⟩
    refine ⟨t2, _, rfl, .inr (SqT.of upd_same), rfl, rfl, ?_⟩
    have q2 := q _ (k1.trans (Kp.new (S := []) (o := .tup [.str "number", .str "pair"]) ht2))
    rw [worth_not c1.2, decide_eq_true rfl, Bool.true_and] at q2
    rw [in2U]
    exact q2
  have c1 : t.hd = "give" ∨ t.hd = "fun" := by
    by_cases e : t.hd = "give"
    · exact .inl e
    · by_cases e2 : t.hd = "fun"
      · exact .inr e2
      · exact absurd (by simp [e, e2]) c
  refine ⟨_, rfl, gp, fs, d, rfl, Dp.keep k1 _ _ (progU_fz _ _) hp, hok, fun mo H2 k2 hmo => ?_⟩
  have k2 := k1.trans k2
  refine ⟨fun m σ H' => ∃ (i : Nat) (t' : Lz.P) (v' : V), σ = [some gp, some v', some (.int (i : Nat)), some (.int (mo : Nat))] ∧ Kp [] H H' ∧ Dp K H' v' t'.data ∧ t'.okS (fs.map (·.1)) ∧ Spine t' m h ∧ i + m = n,
    ⟨n, 0, t, _, rfl, k2, Dp.keep k2 _ _ (data_fz _) hd, htk, hsp, Nat.zero_add _⟩, ?_⟩
  rintro m σ H3 ⟨i, t', v', rfl, k3, hd3, hk3, hs3, him⟩
  obtain ⟨a', xs', rfl, ht', hxs'⟩ := hd_at hd3
  refine ⟨_, rfl, a', _, _, _, rfl, rfl, ht', at_of (j := 0) rfl rfl, rfl, _, rfl, ?_⟩
  by_cases hg : t'.hd = "give"
  · refine ite2 (fun _ => ?_) (fun c => absurd (decide_eq_true (congrArg V.str hg)) c)
    refine ⟨_, rfl, _, rfl, _, _, rfl, rfl, _, rfl, ?_⟩
    have hm1 : 1 ≤ m := by
      cases hs3 with
      | stop e => exact absurd hg e
      | give _ => omega
    by_cases hlt : i < mo
    · refine ite2 (fun _ => ?_) (fun c => absurd (decide_eq_true (show (i : Int) < (mo : Int) by omega)) c)
      obtain ⟨x, y, rfl, hs4⟩ := (spine_hd hs3).2 hm1
      obtain ⟨p, va, vb, e, hpt, hda, hdb⟩ := give_at hd3
      obtain rfl := V.ref.inj e
      refine ⟨fun σ' H' => ∃ m', m' < m ∧ ∃ (i : Nat) (t' : Lz.P) (v' : V), σ' = [some gp, some v', some (.int (i : Nat)), some (.int (mo : Nat))] ∧ Kp [] H H' ∧ Dp K H' v' t'.data ∧ t'.okS (fs.map (·.1)) ∧ Spine t' m' h ∧ i + m' = n, fun σ' H' h => h, ?_⟩
      refine ⟨_, rfl, a', _, _, _, rfl, rfl, hpt, at_of (j := 1) rfl rfl, ?_⟩
      refine ⟨_, rfl, _, _, rfl, rfl, ?_⟩
      have hx : x.okS (fs.map (·.1)) := (show _ ∧ (Lz.P.okS _ x ∧ _) from hk3).2.1
      exact ⟨m - 1, by omega, i + 1, x, va, rfl, k3, hda, hx, hs4, by omega⟩
    · refine ite2 (fun c => absurd (of_decide_eq_true c) (show ¬ (i : Int) < (mo : Int) by omega)) (fun _ => ?_)
      refine ⟨_, rfl, a', _, _, _, rfl, rfl, ht', at_of (j := 0) rfl rfl, rfl, false, congrArg V.bl (decide_eq_false (fun e => ?_)), ?_⟩
      · rw [hg] at e
        exact absurd (V.str.inj e) (by decide +kernel)
      · rw [if_neg (fun e => nomatch e)]
        have q3 := q H3 k3
        have e : worthB fs n h = false := by
          by_cases hf : h.hd = "fun"
          · obtain ⟨f', rfl, hf'⟩ := hd_fun hhk hf
            rw [worth_fn]
            have := wants_le (f := f') hmo
            exact decide_eq_false (by omega)
          · rw [worth_not hf, decide_eq_false (show ¬ n = 0 by omega), Bool.false_and]
        rw [e] at q3
        exact q3
  · refine ite2 (fun c => absurd (V.str.inj (of_decide_eq_true c)) hg) (fun _ => ?_)
    obtain ⟨rfl, rfl⟩ := (spine_hd hs3).1 hg
    obtain rfl : i = n := by omega
    by_cases hf : h.hd = "fun"
    · obtain ⟨f', rfl, hf'⟩ := hd_fun hhk hf
      obtain ⟨j, g, hj, rfl⟩ := fn_get hf'
      obtain ⟨a2, e, hft⟩ := str_at (x := g.1) hd3 rfl
      obtain rfl := V.ref.inj e
      refine ⟨_, rfl, a', _, _, _, rfl, rfl, hft, at_of (j := 0) rfl rfl, rfl, true, congrArg V.bl (decide_eq_true rfl), ?_⟩
      rw [if_pos rfl]
      refine ⟨_, rfl, _, rfl, _, rfl, a', _, _, _, rfl, rfl, hft, at_of (j := 1) rfl rfl, gp, fs, d, j, g, rfl, Dp.keep k3 _ _ (progU_fz _ _) hp, hok, fns_get hj, fun H4 k4 => ?_⟩
      refine ⟨_, _, rfl, rfl, ?_⟩
      have q3 := q H4 (k3.trans k4)
      rw [worth_fn, wants_at hok.ndf hj] at q3
      have e : decide ((i : Int) < (g.2.1.length : Int)) = decide (i < g.2.1.length) := by
        rw [Bool.eq_iff_iff, decide_eq_true_iff, decide_eq_true_iff]
        omega
      show Q (V.bl (decide ((i : Int) < (g.2.1.length : Int)))) H4
      rw [e]
      exact q3
    · refine ⟨_, rfl, a', _, _, _, rfl, rfl, ht', at_of (j := 0) rfl rfl, rfl, false, congrArg V.bl (decide_eq_false (fun e => hf (V.str.inj e))), ?_⟩
      rw [if_neg (fun e => nomatch e)]
      have q3 := q H3 k3
      have hi : i ≠ 0 := fun e => by
        subst e
        cases hsp with
        | stop e3 => exact c1.elim e3 hf
      rw [worth_not hf, decide_eq_false hi, Bool.false_and] at q3
      exact q3
end
end Lz

set_option Elab.async false
set_option linter.all false
set_option maxRecDepth 100000
set_option maxHeartbeats 4000000
/-! Closed parts, and what one step of putting in makes of them: plain Lean. -/
namespace Lz
open PySem
mutual
/-- no name but those of sc is free; a shut part has none -/
def P.cl (sc : List Str) : P → Prop
  | .num _ => True
  | .nam x => x ∈ sc
  | .fn _ => True
  | .op k as => P.cls (if k = "shut" then [] else sc) as
  | .lt nm as b => P.cls (sc ++ nm) as ∧ P.cl (sc ++ nm) b
def P.cls (sc : List Str) : List P → Prop
  | [] => True
  | a :: as => P.cl sc a ∧ P.cls sc as
end
theorem cls_iff {sc : List Str} : ∀ {as : List P}, P.cls sc as ↔ ∀ a, a ∈ as → a.cl sc
  | [] => ⟨fun _ _ h => (nomatch h), fun _ => True.intro⟩
  | x :: xs => by
    show (P.cl sc x ∧ P.cls sc xs) ↔ _
    rw [cls_iff]
    refine ⟨fun h d m => ?_, fun h => ⟨h x List.mem_cons_self, fun d m => h d (List.mem_cons_of_mem _ m)⟩⟩
    rcases List.mem_cons.mp m with e | m
    · rw [e]; exact h.1
    · exact h.2 d m
theorem cl_op {sc : List Str} {k : Str} {as : List P} (hk : k ≠ "shut") : (P.op k as).cl sc ↔ P.cls sc as := by
  show P.cls (if k = "shut" then [] else sc) as ↔ _
  rw [if_neg hk]
mutual
theorem cl_of_fit {F : List Str} : ∀ (t : P) (sc : List Str), t.ok → t.fit F sc → t.cl sc
  | .num _, _, _, _ => True.intro
  | .nam _, _, _, h => h
  | .fn _, _, _, _ => True.intro
  | .op k as, sc, h, f => by
    have h' : (k, as.length) ∈ kinds ∧ P.oks as := h
    have hk : k ≠ "shut" := fun e => by
      have h0 : kinds.all (fun p => decide (p.1 ≠ "shut")) = true := by decide +kernel
      exact (of_decide_eq_true (List.all_eq_true.mp h0 _ h'.1)) e
    exact (cl_op hk).mpr (cls_of_fit as sc h'.2 f)
  | .lt nm as b, sc, h, f => ⟨cls_of_fit as _ h.2.2.1 f.2.2.1, cl_of_fit b _ h.2.2.2 f.2.2.2⟩
theorem cls_of_fit {F : List Str} : ∀ (as : List P) (sc : List Str), P.oks as → P.fits F as sc → P.cls sc as
  | [], _, _, _ => True.intro
  | a :: as, sc, h, f => ⟨cl_of_fit a sc h.1 f.1, cls_of_fit as sc h.2 f.2⟩
end
mutual
theorem cl_mono : ∀ (t : P) {sc sd : List Str}, (∀ x, x ∈ sc → x ∈ sd) → t.cl sc → t.cl sd
  | .num _, _, _, _, _ => True.intro
  | .nam x, _, _, m, h => m x h
  | .fn _, _, _, _, _ => True.intro
  | .op k as, sc, sd, m, h => by
    have h' : P.cls (if k = "shut" then [] else sc) as := h
    show P.cls (if k = "shut" then [] else sd) as
    by_cases e : k = "shut"
    · rw [if_pos e] at h' ⊢
      exact h'
    · rw [if_neg e] at h' ⊢
      exact cls_mono as m h'
  | .lt nm as b, sc, sd, m, h => by
    have m' : ∀ x, x ∈ sc ++ nm → x ∈ sd ++ nm := fun x hx => (List.mem_append.mp hx).elim (fun h => List.mem_append_left _ (m x h)) (fun h => List.mem_append_right _ h)
    exact ⟨cls_mono as m' h.1, cl_mono b m' h.2⟩
theorem cls_mono : ∀ (as : List P) {sc sd : List Str}, (∀ x, x ∈ sc → x ∈ sd) → P.cls sc as → P.cls sd as
  | [], _, _, _, _ => True.intro
  | a :: as, _, _, m, h => ⟨cl_mono a m h.1, cls_mono as m h.2⟩
end
section
variable {th : List (Str × P)}
mutual
/-- what is put in closes -/
theorem cl_put (hc : ∀ x p, (x, p) ∈ th → p.cl []) : ∀ (t : P) {sc sd : List Str}, (∀ x, x ∈ sc → x ∈ sd ∨ getT th x ≠ none) → t.cl sc → (P.put th t).cl sd
  | .num _, _, _, _, _ => True.intro
  | .nam x, sc, sd, m, h => by
    cases e : getT th x with
    | some p =>
      obtain ⟨y, hy⟩ := getT_mem e
      rw [put_name e]
      show P.cls (if ("shut" : Str) = "shut" then [] else sd) [p]
      rw [if_pos rfl]
      exact ⟨hc y p hy, True.intro⟩
    | none =>
      rw [put_name0 e]
      exact (m x h).elim id fun q => absurd e q
  | .fn _, _, _, _, _ => True.intro
  | .op k as, sc, sd, m, h => by
    have h' : P.cls (if k = "shut" then [] else sc) as := h
    show P.cls (if k = "shut" then [] else sd) (if k = "shut" then as else P.puts th as)
    by_cases e : k = "shut"
    · rw [if_pos e] at h' ⊢
      rw [if_pos e]
      exact h'
    · rw [if_neg e] at h' ⊢
      rw [if_neg e]
      exact cls_put hc as m h'
  | .lt nm as b, sc, sd, m, h => by
    have m' : ∀ x, x ∈ sc ++ nm → x ∈ sd ++ nm ∨ getT th x ≠ none := fun x hx => (List.mem_append.mp hx).elim (fun h => (m x h).imp (List.mem_append_left _) id) (fun h => .inl (List.mem_append_right _ h))
    exact ⟨cls_put hc as m' h.1, cl_put hc b m' h.2⟩
theorem cls_put (hc : ∀ x p, (x, p) ∈ th → p.cl []) : ∀ (as : List P) {sc sd : List Str}, (∀ x, x ∈ sc → x ∈ sd ∨ getT th x ≠ none) → P.cls sc as → P.cls sd (P.puts th as)
  | [], _, _, _, _ => True.intro
  | a :: as, _, _, m, h => ⟨cl_put hc a m h.1, cls_put hc as m h.2⟩
end
end
/-! ### how deep a layer is, how many parts a let has within -/
mutual
/-- each shut part's layer at most W deep, each let's inner part of at most M -/
def P.lay (W M : Nat) : P → Prop
  | .num _ => True
  | .nam _ => True
  | .fn _ => True
  | .op k as => (k = "shut" → P.dws as ≤ W) ∧ P.lays W M as
  | .lt _ as b => b.mw ≤ M ∧ P.lays W M as ∧ P.lay W M b
def P.lays (W M : Nat) : List P → Prop
  | [] => True
  | a :: as => P.lay W M a ∧ P.lays W M as
end
theorem lays_iff {W M : Nat} : ∀ {as : List P}, P.lays W M as ↔ ∀ a, a ∈ as → a.lay W M
  | [] => ⟨fun _ _ h => (nomatch h), fun _ => True.intro⟩
  | x :: xs => by
    show (P.lay W M x ∧ P.lays W M xs) ↔ _
    rw [lays_iff]
    refine ⟨fun h d m => ?_, fun h => ⟨h x List.mem_cons_self, fun d m => h d (List.mem_cons_of_mem _ m)⟩⟩
    rcases List.mem_cons.mp m with e | m
    · rw [e]; exact h.1
    · exact h.2 d m
section
variable {th : List (Str × P)} {W M : Nat}
mutual
theorem lay_put (hl : ∀ x p, (x, p) ∈ th → p.lay W M ∧ p.dw ≤ W) : ∀ t : P, t.lay W M → (P.put th t).lay W M
  | .num _, _ => True.intro
  | .nam x, h => by
    cases e : getT th x with
    | some p =>
      obtain ⟨y, hy⟩ := getT_mem e
      have q := hl y p hy
      rw [put_name e]
      refine ⟨fun _ => ?_, q.1, True.intro⟩
      show max p.dw 0 ≤ W
      have := q.2
      omega
    | none => rw [put_name0 e]; exact h
  | .fn _, _ => True.intro
  | .op k as, h => by
    have h' : (k = "shut" → P.dws as ≤ W) ∧ P.lays W M as := h
    show (k = "shut" → P.dws (if k = "shut" then as else P.puts th as) ≤ W) ∧ P.lays W M (if k = "shut" then as else P.puts th as)
    by_cases e : k = "shut"
    · rw [if_pos e]; exact h'
    · rw [if_neg e]; exact ⟨fun q => absurd q e, lays_put hl as h'.2⟩
  | .lt nm as b, h => by
    have h' : b.mw ≤ M ∧ P.lays W M as ∧ P.lay W M b := h
    refine ⟨?_, lays_put hl as h'.2.1, lay_put hl b h'.2.2⟩
    rw [mw_put]
    exact h'.1
theorem lays_put (hl : ∀ x p, (x, p) ∈ th → p.lay W M ∧ p.dw ≤ W) : ∀ as : List P, P.lays W M as → P.lays W M (P.puts th as)
  | [], _ => True.intro
  | a :: as, h => ⟨lay_put hl a h.1, lays_put hl as h.2⟩
end
end
mutual
/-- a part without shut ones -/
theorem lay_ok {W M : Nat} : ∀ t : P, t.ok → t.mw ≤ M → t.lay W M
  | .num _, _, _ => True.intro
  | .nam _, _, _ => True.intro
  | .fn _, _, _ => True.intro
  | .op k as, h, hm => by
    have h' : (k, as.length) ∈ kinds ∧ P.oks as := h
    have hk : k ≠ "shut" := fun e => by
      have h0 : kinds.all (fun p => decide (p.1 ≠ "shut")) = true := by decide +kernel
      exact (of_decide_eq_true (List.all_eq_true.mp h0 _ h'.1)) e
    have h1 := mw_win (P.op k as)
    have h2 : (P.op k as).win = as := if_neg hk
    rw [h2] at h1
    exact ⟨fun e => absurd e hk, lays_ok as h'.2 (by omega)⟩
  | .lt nm as b, h, hm => by
    have h' : nm.length = as.length ∧ (∀ x, x ∈ nm → nmOk x) ∧ P.oks as ∧ P.ok b := h
    have h1 := mw_win (P.lt nm as b)
    have h2 : P.mws (P.lt nm as b).win = P.mws as + b.mw := by
      show P.mws (as ++ [b]) = _
      rw [mws_append, mws_one]
    exact ⟨by omega, lays_ok as h'.2.2.1 (by omega), lay_ok b h'.2.2.2 (by omega)⟩
theorem lays_ok {W M : Nat} : ∀ as : List P, P.oks as → P.mws as ≤ M → P.lays W M as
  | [], _, _ => True.intro
  | a :: as, h, hm => by
    have h2 : P.mws (a :: as) = a.mw + P.mws as := by
      show (a.alw ++ P.alws as).length = _
      rw [List.length_append]
      rfl
    exact ⟨lay_ok a h.1 (by omega), lays_ok as h.2 (by omega)⟩
end
end Lz

set_option Elab.async false
set_option linter.all false
set_option maxRecDepth 100000
set_option maxHeartbeats 4000000
/-! dict(zip(a tuple, a list)). -/
namespace StZ
open PySem PySem.Spec PyProof.Rows L2 RZ
section
variable {P : Program} {w : World} {A : Around} {E : Value → Shared → Prop} {t : Shared}
/-- what a turn leaves while the pair given out before is still there -/
def Kept3 (h g : Heap) (q u v : Addr) : Prop := ∀ c o, c ≠ q → c ≠ u → c ≠ v → h.get? c = some o → g.get? c = some o
theorem held_turn {q I O T u v a b : Addr} {f : Bool} {oT : Obj} {i j : Nat} {xs ys : Array Value} {x y : Value} {Q : Value → Shared → Prop} (Ap : ZipApart q I O u v a b) (zq : IsZipHeld t.heap q I O T f) (zT : t.heap.get? T = some oT) (zi : IsPair t.heap I (.ref u) (.ref v)) (S : At t.heap q I O u v a b i j xs ys) (ex : xs[i]? = some x) (ey : ys[j]? = some y)
    (k : ∀ g, IsZipHeld g q I O T true → g.IsTupleIter u a (i + 1) → g.IsListIter v b (j + 1) → IsPair g t.heap.objs.size x y → g.objs.size = t.heap.objs.size + 1 → Kept3 t.heap g q u v → Q (.ref t.heap.objs.size) { t with heap := g }) :
    wpAny (model P w) A (Builtin.«zip.__next__» ⟨[.ref q], []⟩) (fun fi t' => ∃ r, fi = .done (.ret r) ∧ Q r t') E t := by
  show wpAny _ _ (field (.ref q) 2 >>= _) _ _ _
  refine wpAny_bind (wpAny_field zq rfl (x := .bool false) rfl ?_); show wpAny _ _ (field (.ref q) 3 >>= _) _ _ _
  refine wpAny_bind (wpAny_field zq rfl (x := .ref I) rfl (wpAny_bind (wpAny_seqItems zi rfl ?_)))
  show wpAny _ _ (Builtin.SmallTypes.ownedTupleIsFree (.ref q) >>= _) _ _ _
  refine wpAny_bind (wpAny_tupleHeld_zip zq zT fun g1 zq1 s1 => ?_)
  simp only [Bool.false_eq_true, if_false]
  refine wpAny_bind ?_
  rw [← Array.forIn_toList]
  simp only [List.forIn_cons, List.forIn_nil]
  refine wpAny_bind (wpAny_bind (wpAny_holding ?_)); show wpAny _ _ (Builtin.SmallTypes.nextOf (.ref u) >>= _) _ _ _
  refine wpAny_bind (nextOf_tuple_item (S.u1.extBut s1.extBut Ap.i1z) (S.a1.extBut s1.extBut Ap.l1z) ex fun g2 u2 s2 => wpAny_pure (wpAny_pure ?_))
  refine wpAny_bind (wpAny_bind (wpAny_holding ?_)); show wpAny _ _ (Builtin.SmallTypes.nextOf (.ref v) >>= _) _ _ _
  refine wpAny_bind (wpAny_nextOf_list_item ((S.v1.extBut s1.extBut Ap.i2z).extBut s2.extBut Ap.i12.symm) ((S.b1.extBut s1.extBut Ap.l2z).extBut s2.extBut Ap.l2i1) ey fun g3 v3 s3 => wpAny_pure (wpAny_pure (wpAny_pure ?_)))
  show wpAny _ _ (newTuple [x, y] >>= _) _ _ _
  refine wpAny_bind (wpAny_newTuple ?_)
  have big : g3.objs.size = t.heap.objs.size := by rw [s3.1, s2.1, s1.1]
  have zq3 : IsZipHeld g3 q I O T true := s3.extBut _ _ Ap.i2z.symm (s2.extBut _ _ Ap.i1z.symm zq1)
  have all3 : Kept3 t.heap g3 q u v := fun c o n1 n2 n3 e => s3.extBut _ _ n3 (s2.extBut _ _ n2 (s1.extBut _ _ n1 e))
  have u3 := u2.extBut s3.extBut Ap.i12
  refine wpAny_pure ⟨_, rfl, ?_⟩
  show Q (.ref g3.objs.size) _
  have two : IsPair (g3.push { cls := .type "tuple", data := .seq #[x, y] }) g3.objs.size x y := Heap.get?_push_size _ rfl
  have sz : (g3.push { cls := .type "tuple", data := .seq #[x, y] }).objs.size = g3.objs.size + 1 := Heap.size_push ..
  rw [big] at two sz ⊢
  exact k _ (Heap.get?_push_of_some _ zq3) (u3.at fun o e => Heap.get?_push_of_some _ e) (v3.at fun o e => Heap.get?_push_of_some _ e) two sz fun c o n1 n2 n3 e => Heap.get?_push_of_some _ (all3 c o n1 n2 n3 e)
theorem held_end {q I O T u v a b : Addr} {f : Bool} {oT : Obj} {i j : Nat} {xs ys : Array Value} {Q : Fin → Shared → Prop} (hh : A.handled = none) (Ap : ZipApart q I O u v a b) (zq : IsZipHeld t.heap q I O T f) (zT : t.heap.get? T = some oT) (zi : IsPair t.heap I (.ref u) (.ref v)) (S : At t.heap q I O u v a b i j xs ys) (over : xs[i]? = none ∨ ys[j]? = none)
    (k : ∀ g e, Kept3 t.heap g q u v → (∃ o, g.get? e = some o ∧ o.cls = .type "StopIteration") → E (.ref e) { t with heap := g }) : wpAny (model P w) A (Builtin.«zip.__next__» ⟨[.ref q], []⟩) Q E t := by
  show wpAny _ _ (field (.ref q) 2 >>= _) _ _ _
  refine wpAny_bind (wpAny_field zq rfl (x := .bool false) rfl ?_); show wpAny _ _ (field (.ref q) 3 >>= _) _ _ _
  refine wpAny_bind (wpAny_field zq rfl (x := .ref I) rfl (wpAny_bind (wpAny_seqItems zi rfl ?_)))
  show wpAny _ _ (Builtin.SmallTypes.ownedTupleIsFree (.ref q) >>= _) _ _ _
  refine wpAny_bind (wpAny_tupleHeld_zip zq zT fun g1 zq1 s1 => ?_)
  simp only [Bool.false_eq_true, if_false]
  refine wpAny_bind ?_
  rw [← Array.forIn_toList]
  simp only [List.forIn_cons, List.forIn_nil]
  refine wpAny_bind (wpAny_bind (wpAny_holding ?_)); show wpAny _ _ (Builtin.SmallTypes.nextOf (.ref u) >>= _) _ _ _
  cases ex : xs[i]? with
  | none => exact wpAny_bind (nextOf_tuple_end hh (S.u1.extBut s1.extBut Ap.i1z) (S.a1.extBut s1.extBut Ap.l1z) ex fun g2 e s2 he => k g2 e (fun c o n1 n2 _ z => s2 _ _ n2 (s1.extBut _ _ n1 z)) he)
  | some x =>
    have ey : ys[j]? = none := over.elim (fun z => by rw [ex] at z; cases z) id
    refine wpAny_bind (nextOf_tuple_item (S.u1.extBut s1.extBut Ap.i1z) (S.a1.extBut s1.extBut Ap.l1z) ex fun g2 u2 s2 => wpAny_pure (wpAny_pure ?_))
    refine wpAny_bind (wpAny_bind (wpAny_holding ?_)); show wpAny _ _ (Builtin.SmallTypes.nextOf (.ref v) >>= _) _ _ _
    exact wpAny_bind (wpAny_nextOf_list_end hh ((S.v1.extBut s1.extBut Ap.i2z).extBut s2.extBut Ap.i12.symm) ((S.b1.extBut s1.extBut Ap.l2z).extBut s2.extBut Ap.l2i1) ey fun g3 e s3 he => k g3 e (fun c o n1 n2 n3 z => s3 _ _ n3 (s2.extBut _ _ n2 (s1.extBut _ _ n1 z))) he)
theorem next_held {q I O T u v a b : Addr} {f : Bool} {oT : Obj} {i j : Nat} {xs ys : Array Value} {x y : Value} {Q : Option Value → Shared → Prop} (Ap : ZipApart q I O u v a b) (zq : IsZipHeld t.heap q I O T f) (zT : t.heap.get? T = some oT) (zi : IsPair t.heap I (.ref u) (.ref v)) (S : At t.heap q I O u v a b i j xs ys) (ex : xs[i]? = some x) (ey : ys[j]? = some y)
    (k : ∀ g, IsZipHeld g q I O T true → g.IsTupleIter u a (i + 1) → g.IsListIter v b (j + 1) → IsPair g t.heap.objs.size x y → g.objs.size = t.heap.objs.size + 1 → Kept3 t.heap g q u v → Q (some (.ref t.heap.objs.size)) { t with heap := g }) : wpAny (model P w) A (pyNext (.ref q)) Q E t := by
  have ty : t.TypeIs (.ref q) "zip" := ⟨_, zq, rfl⟩
  unfold pyNext
  exact wpAny_bind (wpAny_attempt (wpAny_callSpecial?_slot (name := Str.ofString "__next__") ty F.slot_zip_next (wpAny_call_entry F.slot_zip_next ty F.entry_zip_next (held_turn Ap zq zT zi S ex ey fun g k1 k2 k3 k4 k5 k6 => wpAny_pure (k g k1 k2 k3 k4 k5 k6)) (F.args_zip_next_1 _))))
theorem next_over {q I O T u v a b : Addr} {f : Bool} {oT : Obj} {i j : Nat} {xs ys : Array Value} {Q : Option Value → Shared → Prop} (hh : A.handled = none) (Ap : ZipApart q I O u v a b) (zq : IsZipHeld t.heap q I O T f) (zT : t.heap.get? T = some oT) (zi : IsPair t.heap I (.ref u) (.ref v)) (S : At t.heap q I O u v a b i j xs ys) (over : xs[i]? = none ∨ ys[j]? = none)
    (k : ∀ g, Kept3 t.heap g q u v → Q none { t with heap := g }) : wpAny (model P w) A (pyNext (.ref q)) Q E t := by
  have ty : t.TypeIs (.ref q) "zip" := ⟨_, zq, rfl⟩
  unfold pyNext
  refine wpAny_bind (wpAny_attempt (wpAny_callSpecial?_slot (name := Str.ofString "__next__") ty F.slot_zip_next (wpAny_call_entry F.slot_zip_next ty F.entry_zip_next (held_end hh Ap zq zT zi S over fun g e kk ⟨o, o1, o2⟩ => ?_) (F.args_zip_next_1 _))))
  exact wpAny_bind (wpAny_isInstance (T := "StopIteration") (b := true) ⟨o, o1, o2⟩ isSubtype_stop (wpAny_pure (k g kk)))
theorem mixArg (q I O u v a b : Addr) (D : ZipApart q I O u v a b) (xs ys : Array Value) :
    PairArg P w "zip" q [q, I, O, u, v, a, b] [q, O, u, v] (min xs.size ys.size) (fun i k v => xs[i]? = some k ∧ ys[i]? = some v)
      (fun h => IsZip h q I O .none ∧ IsPair h I (.ref u) (.ref v) ∧ (∃ x y, IsPair h O x y) ∧ At h q I O u v a b 0 0 xs ys) where
  type := fun s ok => ⟨_, ok.1, rfl⟩
  notDict := by decide
  keep := fun h h' ⟨hz, hi, ⟨x, y, ho⟩, S⟩ k => ⟨k _ _ hz, k _ _ hi, ⟨x, y, k _ _ ho⟩, ⟨S.u1.at fun o e => k _ o e, S.v1.at fun o e => k _ o e, S.a1.at fun o e => k _ o e, S.b1.at fun o e => k _ o e⟩⟩
  there := fun h ⟨hz, hi, ⟨x, y, ho⟩, ⟨⟨o1, h1, _⟩, ⟨o2, h2, _⟩, ⟨o3, h3, _⟩, ⟨o4, h4, _⟩⟩⟩ c hc => by
    simp only [List.mem_cons, List.not_mem_nil, or_false] at hc
    rcases hc with rfl | rfl | rfl | rfl | rfl | rfl | rfl
    all_goals first | exact ⟨_, hz⟩ | exact ⟨_, hi⟩ | exact ⟨_, ho⟩ | exact ⟨_, h1⟩ | exact ⟨_, h2⟩ | exact ⟨_, h3⟩ | exact ⟨_, h4⟩
  sub := fun c hc => by simp at hc ⊢; rcases hc with rfl | rfl | rfl | rfl <;> simp
  noKeys := fun A s Q E hA ok h => getAttrOr_miss_zip ok.1 rfl rfl rfl zip_no_keys (by decide +kernel) hA h
  iter := fun A s d Q E hA ⟨hz, hi, ⟨x0, y0, ho⟩, S⟩ hd hdf h => by
    simp only [List.mem_cons, List.not_mem_nil, or_false, not_or] at hdf
    obtain ⟨dz, dI, dO, du, dv, da, db⟩ := hdf
    refine wpAny_pyIter_zip hz (h q [q, O, u, v] (fun i h => IsPair h I (.ref u) (.ref v) ∧ At h q I O u v a b i i xs ys ∧
      ((IsZip h q I O .none ∧ ∃ x y, IsPair h O x y) ∨ ∃ T f oT, IsZipHeld h q I O T f ∧ h.get? T = some oT ∧ T ≠ q ∧ T ≠ u ∧ T ≠ v ∧ T ≠ d)) s.heap s.toks ?_
      ⟨hi, S, .inl ⟨hz, x0, y0, ho⟩⟩ (fun _ _ e => e) fun c hc => .inl hc)
    exact {
      off := fun hm => by
        simp only [List.mem_cons, List.not_mem_nil, or_false] at hm
        rcases hm with e | e | e | e
        · exact dz e
        · exact dO e
        · exact du e
        · exact dv e
      frame := fun i h1 h2 ⟨hi, S, hz⟩ k => by
        refine ⟨k _ _ (Ne.symm dI) hi, ⟨S.u1.at fun o e => k _ o (Ne.symm du) e, S.v1.at fun o e => k _ o (Ne.symm dv) e, S.a1.at fun o e => k _ o (Ne.symm da) e, S.b1.at fun o e => k _ o (Ne.symm db) e⟩, ?_⟩
        rcases hz with ⟨hz, x, y, ho⟩ | ⟨T, f, oT, hz, hT, r1, r2, r3, r4⟩
        · exact .inl ⟨k _ _ (Ne.symm dz) hz, x, y, k _ _ (Ne.symm dO) ho⟩
        · exact .inr ⟨T, f, oT, k _ _ (Ne.symm dz) hz, k _ _ r4 hT, r1, r2, r3, r4⟩
      item := fun i s1 Q1 E1 hlt ⟨hi, S, hz⟩ hds hQ => by
        have ix : i < xs.size := Nat.lt_of_lt_of_le hlt (Nat.min_le_left ..)
        have iy : i < ys.size := Nat.lt_of_lt_of_le hlt (Nat.min_le_right ..)
        have ex := Array.getElem?_eq_getElem ix
        have ey := Array.getElem?_eq_getElem iy
        have lt : ∀ {c o}, s1.heap.get? c = some o → s1.heap.objs.size ≠ c := fun e => Nat.ne_of_gt (Heap.lt_size e)
        have n1 : s1.heap.objs.size ≠ u := let ⟨_, e, _⟩ := S.u1; lt e
        have n2 : s1.heap.objs.size ≠ v := let ⟨_, e, _⟩ := S.v1; lt e
        rcases hz with ⟨hz, x, y, ho⟩ | ⟨T, f, oT, hz, hT, r1, r2, r3, r4⟩
        · refine next_turn D hz hi ho S ex ey fun g k1 k2 k3 k4 k5 k6 k => ?_
          exact hQ s1.heap.objs.size _ _ g s1.toks ⟨ex, ey⟩ (.inl ⟨_, k5, rfl, _, rfl⟩)
            ⟨k _ _ D.TIz D.TITO D.TIi1 D.TIi2 hi, ⟨k3, k4, S.a1.at fun o e => k _ o D.l1z D.l1TO D.l1i1 D.l1i2 e, S.b1.at fun o e => k _ o D.l2z D.l2TO D.l2i1 D.l2i2 e⟩, .inr ⟨s1.heap.objs.size, false, _, k1, k5, lt hz, n1, n2, Nat.ne_of_gt hds⟩⟩
            fun c o hc e => k c o (fun x => hc (by simp [x])) (fun x => hc (by simp [x])) (fun x => hc (by simp [x])) (fun x => hc (by simp [x])) e
        · refine next_held D hz hT hi S ex ey fun g k1 k3 k4 k5 k6 k => ?_
          exact hQ s1.heap.objs.size _ _ g s1.toks ⟨ex, ey⟩ (.inl ⟨_, k5, rfl, _, rfl⟩)
            ⟨k _ _ D.TIz D.TIi1 D.TIi2 hi, ⟨k3, k4, S.a1.at fun o e => k _ o D.l1z D.l1i1 D.l1i2 e, S.b1.at fun o e => k _ o D.l2z D.l2i1 D.l2i2 e⟩, .inr ⟨T, true, oT, k1, k _ _ r1 r2 r3 hT, r1, r2, r3, r4⟩⟩
            fun c o hc e => k c o (fun x => hc (by simp [x])) (fun x => hc (by simp [x])) (fun x => hc (by simp [x])) e
      done := fun s1 Q1 E1 ⟨hi, S, hz⟩ hQ => by
        have over : xs[min xs.size ys.size]? = none ∨ ys[min xs.size ys.size]? = none := by
          rcases Nat.le_total xs.size ys.size with h | h
          · exact .inl (Array.getElem?_eq_none (by rw [Nat.min_eq_left h]; exact Nat.le_refl _))
          · exact .inr (Array.getElem?_eq_none (by rw [Nat.min_eq_right h]; exact Nat.le_refl _))
        rcases hz with ⟨hz, x, y, ho⟩ | ⟨T, f, oT, hz, hT, r1, r2, r3, r4⟩
        · exact next_end hA D hz hi ho S over fun g k => hQ g s1.toks fun c o hc e => k c o (fun x => hc (by simp [x])) (fun x => hc (by simp [x])) (fun x => hc (by simp [x])) (fun x => hc (by simp [x])) e
        · exact next_over hA D hz hT hi S over fun g k => hQ g s1.toks fun c o hc e => k c o (fun x => hc (by simp [x])) (fun x => hc (by simp [x])) (fun x => hc (by simp [x])) e }
end
end StZ

set_option Elab.async false
set_option linter.all false
set_option maxRecDepth 100000
set_option maxHeartbeats 4000000
namespace StZ
open PySem PySem.Spec PyProof.Rows L2 RZ
section
variable {X : Cx} {K : PySem.W.Frag}
/-- dict(zip(names, things)) -/
def tDictZip (K : PySem.W.Frag) (ta : TA) : TE := fun σ H Q => ta σ H fun vs H1 => ∃ (a b : Addr) (kvs : List (Key × V)), vs = [.ref a, .ref b] ∧ SqT K H1 a (kvs.map fun p => kV p.1) ∧ SqL K H1 b (kvs.map (·.2)) ∧ kvs.length ≤ 1000 ∧ ∀ p, H1 p = none → Q (.ref p) (upd H1 p (.dK (mergeK [] kvs)))
theorem pairs_of {P : Program} {w : World} {kvs : List (Key × V)} {us ws : List Value} (h1 : Vals (kvs.map fun p => kV p.1) us) (h2 : Vals (kvs.map (·.2)) ws) : ∃ rs : List (Key × Value), KV kvs rs ∧ rs.length = us.length ∧ ws.length = us.length ∧ ∀ (i : Nat) (u v : Value), us[i]? = some u → ws[i]? = some v → ∃ k, rs[i]? = some (k, v) ∧ (mixKind P w).is k u = true := by
  induction kvs generalizing us ws with
  | nil =>
    cases h1
    cases h2
    exact ⟨[], .nil, rfl, rfl, fun i u v e => by cases e⟩
  | cons p r ih =>
    cases h1 with
    | cons a1 b1 =>
      cases h2 with
      | cons a2 b2 =>
        rename_i u us v ws
        obtain ⟨rs, k1, k2, k3, k4⟩ := ih b1 b2
        refine ⟨(p.1, v) :: rs, .cons ⟨rfl, a2⟩ k1, by rw [List.length_cons, List.length_cons, k2], by rw [List.length_cons, List.length_cons, k3], fun i u' v' e1 e2 => ?_⟩
        cases i with
        | zero =>
          rw [List.getElem?_cons_zero] at e1 e2
          cases e1
          cases e2
          exact ⟨p.1, rfl, kV_is a1⟩
        | succ i =>
          rw [List.getElem?_cons_succ] at e1 e2
          exact k4 i u' v' e1 e2
theorem pe_dictZip {e e2 : Expr} {ta : TA} {p p2 pos pos2 : Pos} (hK : X.K = K) (hgd : Gl X "dict") (hmd : X.mg "dict" = none) (hg : Gl X "zip") (hm : X.mg "zip" = none) (ha : PA X [e, e2] ta) (hc : X.calm = true)
    (na : starEach [.Call (.Name "zip" p2) [e, e2] [] pos2] X.env = (false, eval (.Call (.Name "zip" p2) [e, e2] [] pos2) X.env) :: starEach [] X.env := by rfl)
    (hs : starEach [e, e2] X.env = (false, eval e X.env) :: starEach [e2] X.env := by rfl) (hpl : (backTo pos2 (starEach [e2] X.env)).any (·.1) = false := by rfl) :
    PE X (.Call (.Name "dict" p) [.Call (.Name "zip" p2) [e, e2] [] pos2] [] pos) (tDictZip K ta) := by
  subst hK
  refine ⟨fun pins s σ H Q I h => ?_⟩
  refine Call_ (ld_blt I hgd hmd PyProof.Rows.boot_dict ?_)
  refine PyProof.Rows.callWith_type1 (PyProof.Rows.args_cons ?_ na) na rfl
  refine Call_ (ld_blt I hg hm PyProof.Rows.boot_zip (PyProof.Rows.callWith_type1 (thn (ha.run pos2 pins s σ H _ I h) fun us s1 ⟨vs, H1, I1, r1, q1⟩ => ?_) hs hpl))
  obtain ⟨a, b, kvs, rfl, qx, qy, hl, q⟩ := q1
  cases r1 with
  | cons r rr =>
    cases rr with
    | cons r' rr =>
      cases rr
      cases r
      cases r'
      obtain ⟨m1, rv, p1, _⟩ := I1.tuple qx
      obtain ⟨m2, rv2, p2', _⟩ := I1.list qy
      obtain ⟨rs, kv, l1, l2, hv⟩ := pairs_of (P := X.prog) (w := X.w) rv rv2
      obtain ⟨o1, ho1, _⟩ := id p1
      have t1 : s1.heap.IsTuple a m1.toArray := p1
      refine call_made t1 p2'.isList fun g hz hi ho h1 h2 k => PyProof.Rows.args_nil ?_
      have S : At g (s1.heap.objs.size + 4) (s1.heap.objs.size + 2) (s1.heap.objs.size + 3) s1.heap.objs.size (s1.heap.objs.size + 1) a b 0 0 m1.toArray m2.toArray := ⟨h1, h2, t1.at fun o e => k _ o e, p2'.isList.at fun o e => k _ o e⟩
      have ml : min m1.toArray.size m2.toArray.size = rs.length := by
        rw [List.size_toArray, List.size_toArray, l2, l1]
        exact Nat.min_self _
      have rl : rs.length = kvs.length := (KV.length kv).symm
      refine call_dict_pairs (knd := mixKind X.prog X.w) (kvs := rs) (mixArg (P := X.prog) (w := X.w) _ _ _ _ _ a b (PySem.W.ktu_apart s1.heap.objs.size a b (Heap.lt_size ho1) p2'.lt) m1.toArray m2.toArray) (I1.ok.hd hc) ⟨hz, hi, ⟨_, _, ho⟩, S⟩ ⟨ml.symm, fun i u v e => ?_⟩ (by rw [ml, rl]; exact Nat.le_trans hl (by decide)) fun h' tk hd hk => ?_
      · exact hv i u v (by simpa using e.1) (by simpa using e.2)
      · have lz : s1.heap.objs.size + 4 < g.objs.size := Heap.lt_size hz
        have le : s1.heap.objs.size ≤ g.objs.size := Nat.le_of_lt (Nat.lt_of_le_of_lt (Nat.le_add_right _ 4) lz)
        have hs : (g.objs.size == sysModules) = false := beq_eq_false_iff_ne.mpr (Nat.ne_of_gt (Nat.lt_of_lt_of_le I1.big le))
        have keep : ∀ c o, s1.heap.get? c = some o → h'.get? c = some o := fun c o e => hk c o (fun m => by
          have lt := Heap.lt_size e
          simp only [List.mem_cons, List.not_mem_nil, or_false] at m
          rcases m with z | z | z | z
          · rw [z] at lt; exact Nat.not_lt.mpr (Nat.le_add_right _ _) lt
          · rw [z] at lt; exact Nat.not_lt.mpr (Nat.le_add_right _ _) lt
          · rw [z] at lt; exact Nat.lt_irrefl _ lt
          · rw [z] at lt; exact Nat.not_lt.mpr (Nat.le_add_right _ _) lt) (k c o e)
        have hml := length_mergeK kvs []
        rw [List.length_nil, Nat.zero_add] at hml
        exact ⟨.ref g.objs.size, upd H1 g.objs.size (.dK (mergeK [] kvs)), I1.laid (t' := tk) keep le
          (show ObjOk X.prog X.w _ _ _ (.dK (mergeK [] kvs)) from ⟨Nat.le_trans hml (Nat.le_trans hl (by decide)), hs, merged [] rs, KV.merge kv .nil, hd⟩), rfl, q _ (I1.hok.fresh le)⟩
end
end StZ

set_option Elab.async false
set_option linter.all false
set_option maxRecDepth 100000
set_option maxHeartbeats 4000000
/-! A row of gives; names with things; dicts that are filled one by one. -/
namespace Lz
open PySem PySem.Spec PyProof.Rows L2
/-- what stands at the head of gives, and the things, in their order -/
inductive Gv : P → P → List P → Prop
  | stop {t : P} (h : t.hd ≠ "give") : Gv t t []
  | give {a b h : P} {ts : List P} : Gv a h ts → Gv (.op "give" [a, b]) h (ts ++ [b])
theorem Gv.spine {t h : P} {ts : List P} (g : Gv t h ts) : Spine t ts.length h := by
  induction g with
  | stop e => exact .stop e
  | give _ ih => rw [List.length_append]; exact .give ih
theorem Gv.hd {t h : P} {ts : List P} (g : Gv t h ts) : h.hd ≠ "give" := by
  induction g with
  | stop e => exact e
  | give _ ih => exact ih
theorem gv_ex {F : List Str} : ∀ (n : Nat) (t : P), t.many ≤ n → t.okS F → ∃ h ts, Gv t h ts ∧ h.okS F ∧ ∀ x, x ∈ ts → x.okS F := fun n => by
  induction n with
  | zero =>
    intro t hn _
    have := many_pos t
    omega
  | succ n ih =>
    intro t hn ho
    by_cases e : t.hd = "give"
    · cases t with
      | num i => exact absurd (show ("number" : Str) = "give" from e) (by decide +kernel)
      | nam i => exact absurd (show ("name" : Str) = "give" from e) (by decide +kernel)
      | fn i => exact absurd (show ("fun" : Str) = "give" from e) (by decide +kernel)
      | lt nm as b => exact absurd (show ("let" : Str) = "give" from e) (by decide +kernel)
      | op k as =>
        obtain rfl : k = "give" := e
        have ho' : (("give" : Str), as.length) ∈ kinds2 ∧ P.okSs F as := ho
        have h2 := give_two ho'.1
        match as, h2, ho' with
        | [a, b], _, ho' =>
          have hm : 1 + (a.many + (b.many + 0)) ≤ n + 1 := hn
          obtain ⟨h, ts, g, h1, h3⟩ := ih a (by omega) ho'.2.1
          refine ⟨h, ts ++ [b], .give g, h1, fun x m => ?_⟩
          rcases List.mem_append.mp m with m | m
          · exact h3 x m
          · rw [List.mem_singleton.mp m]
            exact ho'.2.2.1
    · exact ⟨t, [], .stop e, ho, fun _ m => nomatch m⟩
/-! ### names with things -/
def putT (th : List (Str × P)) (x : Str) (p : P) : List (Str × P) :=
  if (th.any fun q => decide (q.1 = x)) = true then th.map (fun q => if q.1 = x then (q.1, p) else q) else th ++ [(x, p)]
def mergeT (th : List (Str × P)) : List (Str × P) → List (Str × P)
  | [] => th
  | q :: r => mergeT (putT th q.1 q.2) r
theorem putT_mem {th : List (Str × P)} {x y : Str} {p q : P} (h : (y, q) ∈ putT th x p) : q = p ∨ (y, q) ∈ th := by
  unfold putT at h
  split at h
  · obtain ⟨z, hz, e⟩ := List.mem_map.mp h
    by_cases c : z.1 = x
    · rw [if_pos c] at e
      exact .inl (Prod.mk.inj e).2.symm
    · rw [if_neg c] at e
      rw [← e]
      exact .inr hz
  · rcases List.mem_append.mp h with m | m
    · exact .inr m
    · exact .inl (Prod.mk.inj (List.mem_singleton.mp m)).2
theorem getT_pos {q : Str × P} {r : List (Str × P)} {y : Str} (e : q.1 = y) : getT (q :: r) y = some q.2 := by
  unfold getT
  rw [List.find?_cons, decide_eq_true e]
  rfl
theorem getT_neg {q : Str × P} {r : List (Str × P)} {y : Str} (e : ¬ q.1 = y) : getT (q :: r) y = getT r y := by
  unfold getT
  rw [List.find?_cons, decide_eq_false e]
theorem getT_map (x y : Str) (p : P) : ∀ th : List (Str × P), getT (th.map fun q => if q.1 = x then (q.1, p) else q) y = if y = x then (if (th.any fun q => decide (q.1 = x)) = true then some p else none) else getT th y
  | [] => by
    by_cases e : y = x
    · rw [if_pos e]; rfl
    · rw [if_neg e]; rfl
  | q :: r => by
    have ih := getT_map x y p r
    rw [List.map_cons, List.any_cons]
    by_cases c : q.1 = x
    · rw [if_pos c, decide_eq_true c, Bool.true_or, if_pos rfl]
      by_cases e : y = x
      · rw [if_pos e, getT_pos (show (q.1, p).1 = y from c.trans e.symm)]
      · rw [if_neg e, getT_neg (show ¬ (q.1, p).1 = y from fun z => e (z.symm.trans c)), getT_neg (show ¬ q.1 = y from fun z => e (z.symm.trans c)), ih, if_neg e]
    · rw [if_neg c, decide_eq_false c, Bool.false_or]
      by_cases d : q.1 = y
      · have e : ¬ y = x := fun z => c (d.trans z)
        rw [if_neg e, getT_pos d, getT_pos d]
      · rw [getT_neg d, getT_neg d]
        exact ih
theorem getT_append (x y : Str) (p : P) : ∀ th : List (Str × P), getT (th ++ [(x, p)]) y = match getT th y with | some q => some q | none => if y = x then some p else none
  | [] => by
    show getT [(x, p)] y = if y = x then some p else none
    by_cases e : y = x
    · rw [if_pos e, getT_pos (show (x, p).1 = y from e.symm)]
    · rw [if_neg e, getT_neg (show ¬ (x, p).1 = y from fun z => e z.symm)]
      rfl
  | q :: r => by
    rw [List.cons_append]
    by_cases d : q.1 = y
    · rw [getT_pos d, getT_pos d]
    · rw [getT_neg d, getT_neg d]
      exact getT_append x y p r
theorem getT_none {x : Str} : ∀ {th : List (Str × P)}, ¬ (th.any fun q => decide (q.1 = x)) = true → getT th x = none
  | [], _ => rfl
  | q :: r, h => by
    rw [List.any_cons] at h
    have c : ¬ q.1 = x := fun e => h (by rw [decide_eq_true e]; rfl)
    rw [getT_neg c]
    exact getT_none fun e => h (by rw [e, Bool.or_true])
theorem getT_put (th : List (Str × P)) (x y : Str) (p : P) : getT (putT th x p) y = if y = x then some p else getT th y := by
  unfold putT
  by_cases c : (th.any fun q => decide (q.1 = x)) = true
  · rw [if_pos c, getT_map]
    by_cases e : y = x
    · rw [if_pos e, if_pos e, if_pos c]
    · rw [if_neg e, if_neg e]
  · rw [if_neg c, getT_append]
    by_cases e : y = x
    · subst e
      rw [getT_none c, if_pos rfl]
    · rw [if_neg e, if_neg e]
      cases getT th y <;> rfl
theorem mergeT_get (y : Str) : ∀ (r th : List (Str × P)), (getT th y ≠ none ∨ y ∈ r.map (·.1)) → getT (mergeT th r) y ≠ none
  | [], th, h => h.elim id fun m => nomatch m
  | q :: r, th, h => by
    refine mergeT_get y r (putT th q.1 q.2) ?_
    rw [getT_put]
    by_cases e : y = q.1
    · rw [if_pos e]
      exact .inl fun z => nomatch z
    · rw [if_neg e]
      refine h.imp id fun m => ?_
      rcases List.mem_cons.mp m with z | m
      · exact absurd z e
      · exact m
theorem mergeT_mem {y : Str} {p : P} : ∀ {r th : List (Str × P)}, (y, p) ∈ mergeT th r → (∃ z, (z, p) ∈ r) ∨ (y, p) ∈ th
  | [], _, h => .inr h
  | q :: r, th, h => by
    rcases mergeT_mem (r := r) h with ⟨z, m⟩ | m
    · exact .inl ⟨z, List.mem_cons_of_mem _ m⟩
    · rcases putT_mem m with e | m
      · exact .inl ⟨q.1, by rw [e]; exact List.mem_cons_self⟩
      · exact .inr m
section
variable {K : PySem.W.Frag} {H : Hp}
theorem TdAll.any {kvs : List (Key × V)} {th : List (Str × P)} (h : TdAll K H kvs th) (x : Str) : (kvs.any fun kv => decide (kv.1 = (Sum.inr x : Key))) = th.any fun q => decide (q.1 = x) := by
  induction h with
  | nil => rfl
  | @cons y v p kvs th a _ ih =>
    rw [List.any_cons, List.any_cons, ih]
    congr 1
    rw [Bool.eq_iff_iff, decide_eq_true_iff, decide_eq_true_iff]
    exact ⟨fun e => Sum.inr.inj e, fun e => congrArg Sum.inr e⟩
theorem TdAll.append {k1 k2 : List (Key × V)} {t1 t2 : List (Str × P)} (h : TdAll K H k1 t1) (g : TdAll K H k2 t2) : TdAll K H (k1 ++ k2) (t1 ++ t2) := by
  induction h with
  | nil => exact g
  | cons a _ ih => exact .cons a ih
theorem TdAll.putF {kvs : List (Key × V)} {th : List (Str × P)} (h : TdAll K H kvs th) {x : Str} {v : V} {p : P} (hv : Dp K H v p.data) : TdAll K H (putK kvs (.inr x) v) (putT th x p) := by
  unfold putK putT
  rw [h.any x]
  by_cases c : (th.any fun q => decide (q.1 = x)) = true
  · rw [if_pos c, if_pos c]
    clear c
    induction h with
    | nil => exact .nil
    | @cons y u r kvs th a _ ih =>
      rw [List.map_cons, List.map_cons]
      by_cases e : y = x
      · rw [if_pos (show (Sum.inr y : Key) = .inr x from congrArg Sum.inr e), if_pos e]
        exact .cons hv ih
      · rw [if_neg (show ¬ (Sum.inr y : Key) = .inr x from fun z => e (Sum.inr.inj z)), if_neg e]
        exact .cons a ih
  · rw [if_neg c, if_neg c]
    exact h.append (.cons hv .nil)
theorem TdAll.merge : ∀ {more : List (Key × V)} {rs : List (Str × P)} {kvs : List (Key × V)} {th : List (Str × P)}, TdAll K H more rs → TdAll K H kvs th → TdAll K H (mergeK kvs more) (mergeT th rs) := by
  intro more rs kvs th h
  induction h generalizing kvs th with
  | nil => exact fun g => g
  | cons a _ ih => exact fun g => ih (g.putF a)
/-- names and things, one by one -/
theorem TdAll.zip : ∀ {ns : List Str} {vs : List V} {ps : List P}, DpAll K H vs (P.datas ps) → ns.length = ps.length → ∃ kvs : List (Key × V), kvs.map (fun q => kV q.1) = ns.map V.str ∧ kvs.map (·.2) = vs ∧ TdAll K H kvs (ns.zip ps)
  | [], vs, [], h, _ => by
    cases h
    exact ⟨[], rfl, rfl, .nil⟩
  | n :: ns, vs, p :: ps, h, e => by
    have h' : DpAll K H vs (p.data :: P.datas ps) := h
    cases h' with
    | cons a b =>
      obtain ⟨kvs, h1, h2, h3⟩ := TdAll.zip (ns := ns) (ps := ps) b (Nat.succ.inj e)
      exact ⟨(.inr n, _) :: kvs, by rw [List.map_cons, List.map_cons, h1]; rfl, by rw [List.map_cons, h2], .cons a h3⟩
  | [], _, _ :: _, _, e => nomatch e
  | _ :: _, _, [], _, e => nomatch e
end
end Lz

set_option Elab.async false
set_option linter.all false
set_option maxRecDepth 100000
set_option maxHeartbeats 8000000
namespace Lz
open PySem PySem.Spec PyProof.Rows L2
def spGiven (K : PySem.W.Frag) : Sp := fun vs H Q _ => ∃ (v : V) (t h : Lz.P) (ts : List Lz.P), vs = [v] ∧ Dp K H v t.data ∧ Gv t h ts ∧ ts.length ≤ 900 ∧ ∀ (pa : Addr) (hv : V) (l : Addr) (xs : List V) (H' : Hp), Kp [] H H' → H' pa = some (.tup [hv, .ref l]) → Dp K H' hv h.data → H' l = some (.lst xs) → DpAll K H' xs (Lz.P.datas ts) → Q (.ref pa) H'
section
variable {P : Program} {w : World} {K : PySem.W.Frag} {mg : Str → Option Value} {base : Heap} {f : Addr} {fd : FuncData}
abbrev sGiven : Stmt := topS 17
theorem scGiven : FnScope ["part", "things"] ["part"] (defScope sGiven) := ⟨rfl, rfl, rfl, by decide +kernel, rfl, by decide +kernel, by decide +kernel⟩
theorem ok_given (F : Fun K "given" "given" sGiven f fd) : FnOk P w K mg base CX0 1 f fd ["part"] (spGiven K) := by
  refine F.ok scGiven (fun vs H Q E h => ?_) (fun cdv A outer s H vs Q E hr h => ?_)
  · obtain ⟨v, t, h, ts, rfl, _⟩ := h
    rfl
  obtain ⟨v, t, h, ts, rfl, hd, hg, hn, q⟩ := h
  refine ⟨_, (pss_cons (ps_set (i := 1) scGiven.nd rfl (.inl rfl) (pe_lst pa_nil))
    (pss_cons (ps_while PassesOwn.never (pt_cmpR op_eq (pe_ix (ix_tupK (K := K) rfl) (pv 0) pe_int (fun _ _ => rfl)) pe_str (nomark _)) (pss_cons (ps_expr (pe_bmK (K := K) rfl PySem.F.plainAttrs_list PySem.F.slot_list_append PySem.F.type_list_append mt_append (pv 1) (pa_cons (pe_ix (ix_tupK (K := K) rfl) (pv 0) pe_int (fun _ _ => rfl)) pa_nil)))
    (pss_one (ps_set (i := 0) scGiven.nd rfl (.inl rfl) (pe_ix (ix_tupK (K := K) rfl) (pv 0) pe_int (fun _ _ => rfl))))))
    (pss_one (ps_ret (pe_tup (pa_cons (pv 0) (pa_cons (revLK (K := K) rfl (pv 1)) pa_nil))))))), ?_⟩
  refine ⟨Nat.zero_le _, fun l hl => ?_⟩
  have k1 : Kp [] H (upd H l (.lst [])) := Kp.new hl
  have hl1 : (upd H l (.lst [])) l = some (.lst []) := upd_same
  have hd1 := Dp.keep k1 _ _ (data_fz _) hd
  generalize upd H l (.lst []) = H1 at k1 hl1 hd1 ⊢
  refine ⟨fun m σ H' => ∃ (v' : V) (t' : Lz.P) (ts' us : List Lz.P) (ys : List V), σ = [some v', some (.ref l)] ∧ Kp [] H H' ∧ Dp K H' v' t'.data ∧ Gv t' h ts' ∧ ts' ++ us = ts ∧ H' l = some (.lst ys) ∧ DpAll K H' ys.reverse (Lz.P.datas us) ∧ m = ts'.length,
    ⟨_, v, t, ts, [], [], rfl, k1, hd1, hg, List.append_nil _, hl1, .nil, rfl⟩, ?_⟩
  rintro m σ H2 ⟨v', t', ts', us, ys, rfl, k2, hd2, hg2, heq, hl2, hys, rfl⟩
  obtain ⟨a, xs, rfl, ht, hxs⟩ := hd_at hd2
  refine ⟨_, rfl, a, _, _, _, rfl, rfl, ht, at_of (j := 0) rfl rfl, rfl, _, rfl, ?_⟩
  have hyl : ys.length = us.length := by
    have := hys.length
    rw [List.length_reverse, datas_len] at this
    exact this
  have htl : ts'.length + us.length = ts.length := by rw [← heq, List.length_append]
  cases hg2 with
  | stop e =>
    refine ite2 (fun c => absurd (V.str.inj (of_decide_eq_true c)) e) (fun _ => ?_)
    rw [List.nil_append] at heq
    subst heq
    refine ⟨_, rfl, _, rfl, l, ys, rfl, SqL.of hl2, fun lr hlr => ?_⟩
    have kx : Kp [] H2 (upd H2 lr (.lst ys.reverse)) := Kp.new hlr
    have h3 : (upd H2 lr (.lst ys.reverse)) lr = some (.lst ys.reverse) := upd_same
    have hd3 := Dp.keep kx _ _ (data_fz _) hd2
    have hy3 := Dp.keepAll kx _ _ (datas_fz _) hys
    have k3 := k2.trans kx
    generalize upd H2 lr (.lst ys.reverse) = H3 at h3 hd3 hy3 k3 ⊢
    refine ⟨(by show 2 ≤ sizeLine; decide), fun T hT => ?_⟩
    have kx : Kp [] H3 (upd H3 T (.tup [.ref a, .ref lr])) := Kp.new hT
    exact q T (.ref a) lr ys.reverse _ (k3.trans kx) upd_same (Dp.keep kx _ _ (data_fz _) hd3) (kx.lst h3 (fun m => nomatch m)) (Dp.keepAll kx _ _ (datas_fz _) hy3)
  | @give x b _ ts0 g0 =>
    refine ite2 (fun _ => ?_) (fun c => absurd (decide_eq_true rfl) c)
    obtain ⟨p, va, vb, e, hpt, hda, hdb⟩ := give_at hd2
    obtain rfl := V.ref.inj e
    refine ⟨fun σ' H' => ∃ m', m' < (ts0 ++ [b]).length ∧ ∃ (v' : V) (t' : Lz.P) (ts' us : List Lz.P) (ys : List V), σ' = [some v', some (.ref l)] ∧ Kp [] H H' ∧ Dp K H' v' t'.data ∧ Gv t' h ts' ∧ ts' ++ us = ts ∧ H' l = some (.lst ys) ∧ DpAll K H' ys.reverse (Lz.P.datas us) ∧ m' = ts'.length, fun σ' H' h => h, ?_⟩
    refine ⟨_, rfl, .inl ⟨rfl, _, SqL.of hl2⟩, _, rfl, a, _, _, _, rfl, rfl, hpt, at_of (j := 2) rfl rfl, l, _, _, rfl, rfl, hl2, small9000 (by omega), ?_⟩
    have kp : Kp [l] H2 (upd H2 l (.lst (ys ++ [vb]))) := Kp.put hl2 List.mem_cons_self
    refine ⟨_, rfl, a, _, _, _, rfl, rfl, kp.sqT hpt, at_of (j := 1) rfl rfl, ?_⟩
    refine ⟨ts0.length, by rw [List.length_append]; exact Nat.lt_succ_self _, va, x, ts0, b :: us, ys ++ [vb], rfl, k2.mut hl, Dp.keep kp _ _ (data_fz _) hda, g0, by rw [← heq, List.append_assoc]; rfl, upd_same, ?_, rfl⟩
    rw [List.reverse_append]
    exact .cons (Dp.keep kp _ _ (data_fz _) hdb) (Dp.keepAll kp _ _ (datas_fz _) hys)
end
end Lz

set_option Elab.async false
set_option linter.all false
set_option maxRecDepth 100000
set_option maxHeartbeats 8000000
namespace Lz
open PySem PySem.Spec PyProof.Rows L2
theorem fD_at {K : PySem.W.Frag} {H : Hp} {v : V} {g : Fn} (h : Dp K H v (fD g)) : ∃ t r u, v = .ref t ∧ SqT K H t [.str g.1, .ref r, u] ∧ SqT K H r (g.2.1.map V.str) ∧ Dp K H u g.2.2.data := by
  obtain ⟨g', t, r, u, e, rfl, h1, h2, h3⟩ := fn_atU (xs := [v]) (gs := [g]) (i := 0) (.cons h .nil) rfl
  obtain rfl : g = g' := Option.some.inj e
  exact ⟨t, r, u, rfl, h1, h2, h3⟩
/-- a word and a part -/
def Ww (K : PySem.W.Frag) (H : Hp) (v : V) (x : Str) (t : Lz.P) : Prop := Dp K H v (.tuple [.str x, t.data])
theorem Ww.new {K : PySem.W.Frag} {H : Hp} {T : Addr} {x : Str} {t : Lz.P} {v : V} (h : H T = none) (d : Dp K H v t.data) : Ww K (upd H T (.tup [.str x, v])) (.ref T) x t := Dp.newT h (.cons (.str _) (.cons d .nil)) (datas_fz [t])
def spDueCall (K : PySem.W.Frag) : Sp := fun vs H Q _ => ∃ (vp v : V) (fs : List Fn) (d t : Lz.P) (ts : List Lz.P) (i : Nat) (g : Fn) (F : List Str), vs = [vp, v] ∧ Dp K H vp (progD fs d) ∧ PrOk fs d ∧ Dp K H v t.data ∧ Gv t (.fn g.1) ts ∧ (fnsOf fs d)[i]? = some g ∧ g.2.1.length = ts.length ∧ ts.length ≤ 4 ∧ g.2.2.okS F ∧ g.2.2.mw ≤ 9000 ∧
  ∀ (v' : V) (H' : Hp), Kp [] H H' → Ww K H' v' "call" (Lz.P.put (mergeT [] (g.2.1.zip ts)) g.2.2) → Q v' H'
section
variable {P : Program} {w : World} {K : PySem.W.Frag} {mg : Str → Option Value} {base : Heap} {f : Addr} {fd : FuncData}
abbrev sDueOfCall : Stmt := topS 19
theorem scDueOfCall : FnScope ["program", "part", "head", "things", "_", "names", "body"] ["program", "part"] (defScope sDueOfCall) := ⟨rfl, rfl, rfl, by decide +kernel, rfl, by decide +kernel, by decide +kernel⟩
theorem ok_dueCall (F : Fun K "due_of_call" "due_of_call" sDueOfCall f fd) (mdict : mg "dict" = none) (mzip : mg "zip" = none) (CGiven : C8.Cal P w K mg base 1 "given" (spGiven K) []) (CFunctionOf : C8.Cal P w K mg base 3 "function_of" (spFunOf K) []) (CPutIn : C8.Cal P w K mg base 3 "put_in" (spPutIn K) []) : FnOk P w K mg base CX0 4 f fd ["program", "part"] (spDueCall K) := by
  refine F.ok scDueOfCall (fun vs H Q E h => ?_) (fun cdv A outer s H vs Q E hr h => ?_)
  · obtain ⟨vp, v, fs, d, t, ts, i, g, G, rfl, _⟩ := h
    rfl
  obtain ⟨vp, v, fs, d, t, ts, i, g, G, rfl, hp, hok, hd, hg, hi, hl, h4, hgo, hgm, q⟩ := h
  refine ⟨_, (pss_cons (ps_asg (C8.pe_c CGiven hr (by first | decide | omega) (by rfl) (pa_cons (pv 1) pa_nil)) (pg_tupK (K := K) (n := 2) rfl rfl (pgs_cons (pg_name (i := 2) scDueOfCall.nd rfl (.inl rfl)) (pgs_cons (pg_name (i := 3) scDueOfCall.nd rfl (.inl rfl)) pgs_nil))))
    (pss_cons (ps_asg (C8.pe_c CFunctionOf hr (by first | decide | omega) (by rfl) (pa_cons (pv 0) (pa_cons (pe_ix (ix_tupK (K := K) rfl) (pv 2) pe_int (fun _ _ => rfl)) pa_nil))) (pg_tupK (K := K) (n := 3) rfl rfl (pgs_cons (pg_name (i := 4) scDueOfCall.nd rfl (.inl rfl)) (pgs_cons (pg_name (i := 5) scDueOfCall.nd rfl (.inl rfl)) (pgs_cons (pg_name (i := 6) scDueOfCall.nd rfl (.inl rfl)) pgs_nil)))))
    (pss_one (ps_ret (pe_tup (pa_cons pe_str (pa_cons (C8.pe_c CPutIn hr (by first | decide | omega) (by rfl) (pa_cons (pv 6) (pa_cons (StZ.pe_dictZip (K := K) rfl (by rfl) mdict (by rfl) mzip (pa_cons (pv 5) (pa_cons (pv 3) pa_nil)) rfl) pa_nil))) pa_nil))))))), ?_⟩
  refine ⟨_, rfl, v, t, _, ts, rfl, hd, hg, by omega, fun pa hv l xs H1 k1 hpa hhv hl1 hxs => ?_⟩
  obtain ⟨ah, e, hth⟩ := str_at hhv rfl
  subst e
  refine ⟨pa, _, rfl, SqT.of hpa, rfl, _, _, rfl, _, _, rfl, rfl, ?_⟩
  refine ⟨_, rfl, _, rfl, ah, _, _, _, rfl, rfl, hth, at_of (j := 1) rfl rfl, vp, fs, d, i, g, rfl, Dp.keep k1 _ _ (progU_fz _ _) hp, hok, hi, fun t2 H2 k2 ht2 => ?_⟩
  obtain ⟨tt, r, u, rfl, htt, hrr, hu⟩ := fD_at ht2
  refine ⟨tt, _, rfl, htt, rfl, _, _, rfl, _, _, rfl, _, _, rfl, rfl, ?_⟩
  have hl2 := k2.lst hl1 (fun m => nomatch m)
  have hx2 := Dp.keepAll k2 _ _ (datas_fz _) hxs
  obtain ⟨kvs, e1, e2, hT⟩ := TdAll.zip hx2 hl
  have hkl : kvs.length ≤ 10 * 100 := by
    have := congrArg List.length e2
    rw [List.length_map] at this
    rw [this, hx2.length, datas_len]
    omega
  refine ⟨_, rfl, _, rfl, _, rfl, r, l, kvs, rfl, by rw [e1]; exact hrr, by rw [e2]; exact SqL.of hl2, hkl, fun pd hpd => ?_⟩
  have kx : Kp [] H2 (upd H2 pd (.dK (mergeK [] kvs))) := Kp.new hpd
  have hT3 : TD K (upd H2 pd (.dK (mergeK [] kvs))) pd (mergeK [] kvs) (mergeT [] (g.2.1.zip ts)) := ⟨upd_same, (hT.merge .nil).keepT (.of kx)⟩
  have hu3 := Dp.keep kx _ _ (data_fz _) hu
  have k3 := (k1.trans k2).trans kx
  generalize upd H2 pd (.dK (mergeK [] kvs)) = H3 at hT3 hu3 k3 ⊢
  refine ⟨u, pd, g.2.2, G, _, _, rfl, hu3, hgo, hgm, hT3, fun v' H4 k4 hd4 => ?_⟩
  refine ⟨(by show 2 ≤ sizeLine; decide), fun T hT' => ?_⟩
  exact q (.ref T) _ ((k3.trans k4).trans (Kp.new hT')) (Ww.new hT' hd4)
end
end Lz

set_option Elab.async false
set_option linter.all false
set_option maxRecDepth 100000
set_option maxHeartbeats 4000000
/-! What is due of a closed part: plain Lean. -/
namespace Lz
open PySem PySem.Spec PyProof.Rows L2
theorem Spine.one {t h : P} {n : Nat} (s : Spine t n h) : ∀ {m : Nat} {h' : P}, Spine t m h' → m = n ∧ h' = h := by
  induction s with
  | stop e =>
    intro m h' s'
    cases s' with
    | stop _ => exact ⟨rfl, rfl⟩
    | give _ => exact absurd rfl e
  | give _ ih =>
    intro m h' s'
    cases s' with
    | stop e => exact absurd rfl e
    | give q =>
      obtain ⟨e1, e2⟩ := ih q
      exact ⟨by rw [e1], e2⟩
/-- it is a worth -/
noncomputable def wb (fs : List Fn) (t : P) : Bool := @decide (∃ n h, Spine t n h ∧ worthB fs n h = true) (Classical.propDecidable _)
theorem wb_eq {fs : List Fn} {t h : P} {n : Nat} (s : Spine t n h) : wb fs t = worthB fs n h := by
  unfold wb
  rw [Bool.eq_iff_iff, @decide_eq_true_iff _ (Classical.propDecidable _)]
  refine ⟨fun ⟨m, h', s', e⟩ => ?_, fun e => ⟨n, h, s, e⟩⟩
  obtain ⟨rfl, rfl⟩ := s.one s'
  exact e
inductive Out where
  | w (t : P)
  | f (x : Str)
  | s (x : Str) (t : P)
  | inn (k : Nat)
def Out.data : Out → PyData
  | .w t => .tuple [.str "worth", t.data]
  | .f x => .tuple [.str "fault", .str x]
  | .s x t => .tuple [.str x, t.data]
  | .inn k => .tuple [.str "within", .int (k : Nat)]
def fours : List Str := ["plus", "less", "times", "below"]
def comeOf (k : Str) (i j : Int) : Int := if k = "plus" then i + j else if k = "less" then i - j else if k = "times" then i * j else if i < j then 1 else 0
inductive Due (fs : List Fn) (d : P) : P → Out → Prop
  | shut {a : P} : Due fs d (.op "shut" [a]) (.s "open" a)
  | lett {nm : List Str} {as : List P} {b : P} : Due fs d (.lt nm as b) (.s "let" (P.put (mergeT [] (nm.zip (as.map fun a => P.lt nm as a))) b))
  | call {t : P} {ts : List P} {g : Fn} {i : Nat} : (t = .fn g.1 ∨ ∃ a b, t = .op "give" [a, b] ∧ wb fs a = true ∧ a.hd ≠ "number" ∧ a.hd ≠ "pair") → Gv t (.fn g.1) ts → (fnsOf fs d)[i]? = some g → g.2.1.length = ts.length → Due fs d t (.s "call" (P.put (mergeT [] (g.2.1.zip ts)) g.2.2))
  | giveIn {a b : P} : wb fs a = false → Due fs d (.op "give" [a, b]) (.inn 1)
  | giveF {a b : P} : wb fs a = true → (a.hd = "number" ∨ a.hd = "pair") → Due fs d (.op "give" [a, b]) (.f "function")
  | two1 {k : Str} {a b : P} : k ∈ fours → wb fs a = false → Due fs d (.op k [a, b]) (.inn 1)
  | twoF1 {k : Str} {a b : P} : k ∈ fours → wb fs a = true → a.hd ≠ "number" → Due fs d (.op k [a, b]) (.f "number")
  | two2 {k : Str} {i : Int} {b : P} : k ∈ fours → wb fs b = false → Due fs d (.op k [.num i, b]) (.inn 2)
  | twoF2 {k : Str} {i : Int} {b : P} : k ∈ fours → wb fs b = true → b.hd ≠ "number" → Due fs d (.op k [.num i, b]) (.f "number")
  | twoG {k : Str} {i j : Int} : k ∈ fours → ¬ (comeOf k i j).natAbs < 10 ^ 60 → Due fs d (.op k [.num i, .num j]) (.f "great")
  | two {k : Str} {i j : Int} : k ∈ fours → (comeOf k i j).natAbs < 10 ^ 60 → Due fs d (.op k [.num i, .num j]) (.s "number" (.num (comeOf k i j)))
  | when1 {a b c : P} : wb fs a = false → Due fs d (.op "when" [a, b, c]) (.inn 1)
  | whenF {a b c : P} : wb fs a = true → a.hd ≠ "number" → Due fs d (.op "when" [a, b, c]) (.f "number")
  | when {i : Int} {b c : P} : Due fs d (.op "when" [.num i, b, c]) (.s "turn" (if i ≠ 0 then b else c))
  | side1 {k : Str} {a : P} : (k = "left" ∨ k = "right") → wb fs a = false → Due fs d (.op k [a]) (.inn 1)
  | sideF {k : Str} {a : P} : (k = "left" ∨ k = "right") → wb fs a = true → a.hd ≠ "pair" → Due fs d (.op k [a]) (.f "pair")
  | side {k : Str} {a b : P} : (k = "left" ∨ k = "right") → Due fs d (.op k [.op "pair" [a, b]]) (.s "side" (if k = "left" then a else b))
theorem fours_not {k : Str} (h : k ∈ fours) : k ≠ "shut" ∧ k ≠ "give" ∧ k ≠ "when" ∧ k ≠ "left" ∧ k ≠ "right" := by
  have h0 : fours.all (fun k => decide (k ≠ "shut") && decide (k ≠ "give") && decide (k ≠ "when") && decide (k ≠ "left") && decide (k ≠ "right")) = true := by decide +kernel
  have q := List.all_eq_true.mp h0 _ h
  simp only [Bool.and_eq_true, decide_eq_true_eq] at q
  exact ⟨q.1.1.1.1, q.1.1.1.2, q.1.1.2, q.1.2, q.2⟩
theorem due_shut {fs : List Fn} {d t : P} {o : Out} {F : List Str} (h : t.okS F) (e : t.hd = "shut") (q : Due fs d t o) : ∃ a, t = .op "shut" [a] ∧ o = .s "open" a := by
  cases q with
  | shut => exact ⟨_, rfl, rfl⟩
  | lett => exact absurd (show ("let" : Str) = "shut" from e) (by decide +kernel)
  | call c _ _ _ =>
    rcases c with rfl | ⟨a, b, rfl, _⟩
    · exact absurd (show ("fun" : Str) = "shut" from e) (by decide +kernel)
    · exact absurd (show ("give" : Str) = "shut" from e) (by decide +kernel)
  | giveIn _ => exact absurd (show ("give" : Str) = "shut" from e) (by decide +kernel)
  | giveF _ _ => exact absurd (show ("give" : Str) = "shut" from e) (by decide +kernel)
  | two1 k _ => exact absurd e (fours_not k).1
  | twoF1 k _ _ => exact absurd e (fours_not k).1
  | two2 k _ => exact absurd e (fours_not k).1
  | twoF2 k _ _ => exact absurd e (fours_not k).1
  | twoG k _ => exact absurd e (fours_not k).1
  | two k _ => exact absurd e (fours_not k).1
  | when1 _ => exact absurd (show ("when" : Str) = "shut" from e) (by decide +kernel)
  | whenF _ _ => exact absurd (show ("when" : Str) = "shut" from e) (by decide +kernel)
  | when => exact absurd (show ("when" : Str) = "shut" from e) (by decide +kernel)
  | side1 k _ => exact k.elim (fun k => absurd (k.symm.trans e) (by decide +kernel)) (fun k => absurd (k.symm.trans e) (by decide +kernel))
  | sideF k _ _ => exact k.elim (fun k => absurd (k.symm.trans e) (by decide +kernel)) (fun k => absurd (k.symm.trans e) (by decide +kernel))
  | side k => exact k.elim (fun k => absurd (k.symm.trans e) (by decide +kernel)) (fun k => absurd (k.symm.trans e) (by decide +kernel))
/-- a program whose parts are closed by its functions -/
structure PrS (fs : List Fn) (d : P) : Prop where
  ok : PrOk fs d
  bo : ∀ g, g ∈ fnsOf fs d → g.2.2.okS (fs.map (·.1))
theorem worth_num {fs : List Fn} (i : Int) : wb fs (.num i) = true := by
  rw [wb_eq (Spine.stop (by show ("number" : Str) ≠ "give"; decide +kernel) : Spine (.num i) 0 (.num i))]
  rfl
theorem worth_pair {fs : List Fn} (a b : P) : wb fs (.op "pair" [a, b]) = true := by
  rw [wb_eq (Spine.stop (by show ("pair" : Str) ≠ "give"; decide +kernel) : Spine (.op "pair" [a, b]) 0 (.op "pair" [a, b]))]
  rfl
end Lz

set_option Elab.async false
set_option linter.all false
set_option maxRecDepth 100000
set_option maxHeartbeats 4000000
/-! Each kind's own due: plain Lean. -/
namespace Lz
open PySem PySem.Spec PyProof.Rows L2
theorem hd_op {F : List Str} {t : P} {k : Str} (h : t.okS F) (e : t.hd = k) (h1 : k ≠ "number") (h2 : k ≠ "name") (h3 : k ≠ "fun") (h4 : k ≠ "let") : ∃ as, t = .op k as ∧ (k, as.length) ∈ kinds2 ∧ P.okSs F as := by
  cases t with
  | num i => exact absurd e.symm h1
  | nam i => exact absurd e.symm h2
  | fn i => exact absurd e.symm h3
  | lt nm as b => exact absurd e.symm h4
  | op k' as =>
    obtain rfl : k' = k := e
    exact ⟨as, rfl, (show (k', as.length) ∈ kinds2 ∧ P.okSs F as from h).1, (show (k', as.length) ∈ kinds2 ∧ P.okSs F as from h).2⟩
theorem when_three {n : Nat} (h : (("when" : Str), n) ∈ kinds2) : n = 3 := by
  have h0 : kinds2.all (fun p => !decide (p.1 = "when") || decide (p.2 = 3)) = true := by decide +kernel
  simpa using List.all_eq_true.mp h0 _ h
theorem side_one {k : Str} {n : Nat} (hk : k = "left" ∨ k = "right") (h : (k, n) ∈ kinds2) : n = 1 := by
  have h0 : kinds2.all (fun p => !(decide (p.1 = "left") || decide (p.1 = "right")) || decide (p.2 = 1)) = true := by decide +kernel
  have q := List.all_eq_true.mp h0 _ h
  rcases hk with rfl | rfl <;> simpa using q
theorem pair_two {n : Nat} (h : (("pair" : Str), n) ∈ kinds2) : n = 2 := by
  have h0 : kinds2.all (fun p => !decide (p.1 = "pair") || decide (p.2 = 2)) = true := by decide +kernel
  simpa using List.all_eq_true.mp h0 _ h
theorem fours_two {k : Str} {n : Nat} (hk : k ∈ fours) (h : (k, n) ∈ kinds2) : n = 2 := by
  have h0 : kinds2.all (fun p => !decide (p.1 ∈ fours) || decide (p.2 = 2)) = true := by decide +kernel
  have q := List.all_eq_true.mp h0 _ h
  simpa [hk] using q
theorem fours_op {k : Str} (h : k ∈ fours) : k ≠ "number" ∧ k ≠ "name" ∧ k ≠ "fun" ∧ k ≠ "let" := by
  have h0 : fours.all (fun k => decide (k ≠ "number") && decide (k ≠ "name") && decide (k ≠ "fun") && decide (k ≠ "let")) = true := by decide +kernel
  have q := List.all_eq_true.mp h0 _ h
  simp only [Bool.and_eq_true, decide_eq_true_eq] at q
  exact ⟨q.1.1.1, q.1.1.2, q.1.2, q.2⟩
theorem one_of {α : Type} {as : List α} (h : as.length = 1) : ∃ a, as = [a] := by
  match as, h with
  | [a], _ => exact ⟨a, rfl⟩
theorem two_of {α : Type} {as : List α} (h : as.length = 2) : ∃ a b, as = [a, b] := by
  match as, h with
  | [a, b], _ => exact ⟨a, b, rfl⟩
theorem three_of {α : Type} {as : List α} (h : as.length = 3) : ∃ a b c, as = [a, b, c] := by
  match as, h with
  | [a, b, c], _ => exact ⟨a, b, c, rfl⟩
section
variable {fs : List Fn} {d : P} {o : Out}
theorem due_let {nm : List Str} {as : List P} {b : P} (q : Due fs d (.lt nm as b) o) : o = .s "let" (P.put (mergeT [] (nm.zip (as.map fun a => P.lt nm as a))) b) := by
  cases q with
  | lett => rfl
  | call c _ _ _ =>
    rcases c with e | ⟨_, _, e, _⟩
    · cases e
    · cases e
theorem num_of {F : List Str} {t : P} (h : t.okS F) (e : t.hd = "number") : ∃ i, t = .num i := by
  cases t with
  | num i => exact ⟨i, rfl⟩
  | nam i => exact absurd (show ("name" : Str) = "number" from e) (by decide +kernel)
  | fn i => exact absurd (show ("fun" : Str) = "number" from e) (by decide +kernel)
  | lt nm as b => exact absurd (show ("let" : Str) = "number" from e) (by decide +kernel)
  | op k as => exact absurd (show k = "number" from e) (kind2_plain (show (k, as.length) ∈ kinds2 ∧ _ from h).1).2.1
theorem due_when {a b c : P} (q : Due fs d (.op "when" [a, b, c]) o) : (wb fs a = false ∧ o = .inn 1) ∨ (wb fs a = true ∧ a.hd ≠ "number" ∧ o = .f "number") ∨ ∃ i, a = .num i ∧ o = .s "turn" (if i ≠ 0 then b else c) := by
  cases q with
  | call c _ _ _ =>
    rcases c with e | ⟨_, _, e, _⟩
    · cases e
    · cases e
  | when1 h => exact .inl ⟨h, rfl⟩
  | whenF h e => exact .inr (.inl ⟨h, e, rfl⟩)
  | when => exact .inr (.inr ⟨_, rfl, rfl⟩)
theorem due_side {k : Str} {a : P} (hk : k = "left" ∨ k = "right") (q : Due fs d (.op k [a]) o) : (wb fs a = false ∧ o = .inn 1) ∨ (wb fs a = true ∧ a.hd ≠ "pair" ∧ o = .f "pair") ∨ ∃ x y, a = .op "pair" [x, y] ∧ o = .s "side" (if k = "left" then x else y) := by
  cases q with
  | shut => exact hk.elim (fun h => absurd h (by decide +kernel)) (fun h => absurd h (by decide +kernel))
  | call c _ _ _ =>
    rcases c with e | ⟨_, _, e, _⟩
    · cases e
    · cases e
  | side1 _ h => exact .inl ⟨h, rfl⟩
  | sideF _ h e => exact .inr (.inl ⟨h, e, rfl⟩)
  | side _ => exact .inr (.inr ⟨_, _, rfl, rfl⟩)
theorem due_give {a b : P} (q : Due fs d (.op "give" [a, b]) o) : (wb fs a = false ∧ o = .inn 1) ∨ (wb fs a = true ∧ (a.hd = "number" ∨ a.hd = "pair") ∧ o = .f "function") ∨ (wb fs a = true ∧ a.hd ≠ "number" ∧ a.hd ≠ "pair" ∧ ∃ (ts : List P) (g : Fn) (i : Nat), Gv (.op "give" [a, b]) (.fn g.1) ts ∧ (fnsOf fs d)[i]? = some g ∧ g.2.1.length = ts.length ∧ o = .s "call" (P.put (mergeT [] (g.2.1.zip ts)) g.2.2)) := by
  cases q with
  | call c h1 h2 h3 =>
    rcases c with e | ⟨_, _, e, h4, h5, h6⟩
    · cases e
    · cases e
      exact .inr (.inr ⟨h4, h5, h6, _, _, _, h1, h2, h3, rfl⟩)
  | giveIn h => exact .inl ⟨h, rfl⟩
  | giveF h e => exact .inr (.inl ⟨h, e, rfl⟩)
  | two1 k _ => exact absurd rfl (fours_not k).2.1
  | twoF1 k _ _ => exact absurd rfl (fours_not k).2.1
  | two2 k _ => exact absurd rfl (fours_not k).2.1
  | twoF2 k _ _ => exact absurd rfl (fours_not k).2.1
  | twoG k _ => exact absurd rfl (fours_not k).2.1
  | two k _ => exact absurd rfl (fours_not k).2.1
theorem due_two {k : Str} {a b : P} (hk : k ∈ fours) (q : Due fs d (.op k [a, b]) o) : (wb fs a = false ∧ o = .inn 1) ∨ (wb fs a = true ∧ a.hd ≠ "number" ∧ o = .f "number") ∨ ∃ i, a = .num i ∧ ((wb fs b = false ∧ o = .inn 2) ∨ (wb fs b = true ∧ b.hd ≠ "number" ∧ o = .f "number") ∨ ∃ j, b = .num j ∧ ((¬ (comeOf k i j).natAbs < 10 ^ 60 ∧ o = .f "great") ∨ ((comeOf k i j).natAbs < 10 ^ 60 ∧ o = .s "number" (.num (comeOf k i j))))) := by
  cases q with
  | call c _ _ _ =>
    rcases c with e | ⟨_, _, e, _⟩
    · cases e
    · cases e
      exact absurd rfl (fours_not hk).2.1
  | giveIn _ => exact absurd rfl (fours_not hk).2.1
  | giveF _ _ => exact absurd rfl (fours_not hk).2.1
  | two1 _ h => exact .inl ⟨h, rfl⟩
  | twoF1 _ h e => exact .inr (.inl ⟨h, e, rfl⟩)
  | two2 _ h => exact .inr (.inr ⟨_, rfl, .inl ⟨h, rfl⟩⟩)
  | twoF2 _ h e => exact .inr (.inr ⟨_, rfl, .inr (.inl ⟨h, e, rfl⟩)⟩)
  | twoG _ h => exact .inr (.inr ⟨_, rfl, .inr (.inr ⟨_, rfl, .inl ⟨h, rfl⟩⟩)⟩)
  | two _ h => exact .inr (.inr ⟨_, rfl, .inr (.inr ⟨_, rfl, .inr ⟨h, rfl⟩⟩)⟩)
theorem due_fn {x : Str} (q : Due fs d (.fn x) o) : ∃ (ts : List P) (g : Fn) (i : Nat), g.1 = x ∧ Gv (.fn x) (.fn g.1) ts ∧ (fnsOf fs d)[i]? = some g ∧ g.2.1.length = ts.length ∧ o = .s "call" (P.put (mergeT [] (g.2.1.zip ts)) g.2.2) := by
  cases q with
  | call c h1 h2 h3 =>
    rcases c with e | ⟨_, _, e, _⟩
    · cases e
      exact ⟨_, _, _, rfl, h1, h2, h3, rfl⟩
    · cases e
end
end Lz

set_option Elab.async false
set_option linter.all false
set_option maxRecDepth 100000
set_option maxHeartbeats 8000000
namespace Lz
open PySem PySem.Spec PyProof.Rows L2
theorem DpAll.unconsE {K : PySem.W.Frag} {H : Hp} {vs : List V} {d : PyData} {ds : List PyData} (h : DpAll K H vs (d :: ds)) : ∃ v r, vs = v :: r ∧ Dp K H v d ∧ DpAll K H r ds := by
  cases h with
  | cons a b => exact ⟨_, _, rfl, a, b⟩
/-- one of the rules: of parts whose kind is among ks -/
def spRule (K : PySem.W.Frag) (ks : List Str) : Sp := fun vs H Q _ => ∃ (vp v : V) (fs : List Fn) (d t : Lz.P) (o : Out), vs = [vp, v] ∧ Dp K H vp (progD fs d) ∧ PrS fs d ∧ Dp K H v t.data ∧ t.okS (fs.map (·.1)) ∧ t.hd ∈ ks ∧ t.mw ≤ 9000 ∧ (∀ nm as b, t = .lt nm as b → b.mw ≤ 9000) ∧ (∀ k i j, t = .op k [.num i, .num j] → i.natAbs < 10 ^ 60 ∧ j.natAbs < 10 ^ 60) ∧ Due fs d t o ∧ ∀ (v' : V) (H' : Hp), Kp [] H H' → Dp K H' v' o.data → Q v' H'
def spIsW (K : PySem.W.Frag) : Sp := fun vs H Q _ => ∃ (vp v : V) (fs : List Fn) (d t : Lz.P), vs = [vp, v] ∧ Dp K H vp (progD fs d) ∧ PrS fs d ∧ Dp K H v t.data ∧ t.okS (fs.map (·.1)) ∧ ∀ H', Kp [] H H' → Q (.bl (wb fs t)) H'
theorem isW_of {K : PySem.W.Frag} {vs : List V} {H : Hp} {Q : VK} {E : XK} (h : spIsW K vs H Q E) : spWorth K vs H Q E := by
  obtain ⟨vp, v, fs, d, t, rfl, hp, hok, hd, ht, q⟩ := h
  obtain ⟨n, h, s, ho, hh⟩ := spine_ex t.many t (Nat.le_refl _) ht
  exact ⟨vp, v, fs, d, t, h, n, rfl, hp, hok.ok, hd, ht, s, ho, hh, fun H' k => by
    have := q H' k
    rw [wb_eq s] at this
    exact this⟩
section
variable {P : Program} {w : World} {K : PySem.W.Frag} {mg : Str → Option Value} {base : Heap} {f : Addr} {fd : FuncData}
abbrev sDueOfShut : Stmt := topS 22
theorem scDueOfShut : FnScope ["program", "part"] ["program", "part"] (defScope sDueOfShut) := ⟨rfl, rfl, rfl, by decide +kernel, rfl, by decide +kernel, by decide +kernel⟩
theorem ok_dueShut (F : Fun K "due_of_shut" "due_of_shut" sDueOfShut f fd) : FnOk P w K mg base CX0 1 f fd ["program", "part"] (spRule K ["shut"]) := by
  refine F.ok scDueOfShut (fun vs H Q E h => ?_) (fun cdv A outer s H vs Q E hr h => ?_)
  · obtain ⟨vp, v, fs, d, t, o, rfl, _⟩ := h
    rfl
  obtain ⟨vp, v, fs, d, t, o, rfl, hp, hok, hd, hto, hk, hm, hm2, hm3, hdue, q⟩ := h
  refine ⟨_, (pss_one (ps_ret (pe_tup (pa_cons pe_str (pa_cons (pe_ix (ix_tupK (K := K) rfl) (pv 1) pe_int (fun _ _ => rfl)) pa_nil))))), ?_⟩
  have hk' : t.hd = "shut" := List.mem_singleton.mp hk
  obtain ⟨a, rfl, rfl⟩ := due_shut hto hk' hdue
  obtain ⟨p, xs, rfl, ht, hxs⟩ := op_atU hd
  obtain ⟨x, r, rfl, hx, hr⟩ := DpAll.uncons hxs
  cases hr
  refine ⟨_, rfl, p, _, _, _, rfl, rfl, ht, at_of (j := 1) rfl rfl, (by show 2 ≤ sizeLine; decide), fun T hT => ?_⟩
  exact q (.ref T) _ (Kp.new hT) (Ww.new hT hx)
abbrev sDueOfWhen : Stmt := topS 24
theorem scDueOfWhen : FnScope ["program", "part"] ["program", "part"] (defScope sDueOfWhen) := ⟨rfl, rfl, rfl, by decide +kernel, rfl, by decide +kernel, by decide +kernel⟩
theorem ok_dueWhen (F : Fun K "due_of_when" "due_of_when" sDueOfWhen f fd) (CIsWorth : C8.Cal P w K mg base 5 "is_worth" (spIsW K) []) : FnOk P w K mg base CX0 6 f fd ["program", "part"] (spRule K ["when"]) := by
  refine F.ok scDueOfWhen (fun vs H Q E h => ?_) (fun cdv A outer s H vs Q E hr h => ?_)
  · obtain ⟨vp, v, fs, d, t, o, rfl, _⟩ := h
    rfl
  obtain ⟨vp, v, fs, d, t, o, rfl, hp, hok, hd, hto, hk, hm, hm2, hm3, hdue, q⟩ := h
  refine ⟨_, (pss_cons (ps_if (pt_not (pt_truthK (K := K) rfl (C8.pe_c CIsWorth hr (by first | decide | omega) (by rfl) (pa_cons (pv 0) (pa_cons (pe_ix (ix_tupK (K := K) rfl) (pv 1) pe_int (fun _ _ => rfl)) pa_nil))) (fun _ => rfl))) (pss_one (ps_ret (pe_tup (pa_cons pe_str (pa_cons pe_int pa_nil))))) pss_nil)
    (pss_cons (ps_if (pt_cmpR op_ne (pe_ix (ix_tupK (K := K) rfl) (pe_ix (ix_tupK (K := K) rfl) (pv 1) pe_int (fun _ _ => rfl)) pe_int (fun _ _ => rfl)) pe_str (nomark _)) (pss_one (ps_ret (pe_tup (pa_cons pe_str (pa_cons pe_str pa_nil))))) pss_nil)
    (pss_one (ps_ret (pe_tup (pa_cons pe_str (pa_cons (pe_ifExp (pt_cmpR op_ne (pe_ix (ix_tupK (K := K) rfl) (pe_ix (ix_tupK (K := K) rfl) (pv 1) pe_int (fun _ _ => rfl)) pe_int (fun _ _ => rfl)) pe_int (nomark _)) (pe_ix (ix_tupK (K := K) rfl) (pv 1) pe_int (fun _ _ => rfl)) (pe_ix (ix_tupK (K := K) rfl) (pv 1) pe_int (fun _ _ => rfl))) pa_nil))))))), ?_⟩
  obtain ⟨as, rfl, hkk, hos⟩ := hd_op hto (List.mem_singleton.mp hk) (by decide +kernel) (by decide +kernel) (by decide +kernel) (by decide +kernel)
  obtain ⟨a, b, c, rfl⟩ := three_of (when_three hkk)
  obtain ⟨p, xs, rfl, ht, hxs⟩ := op_atU hd
  obtain ⟨xa, r1, rfl, hxa, hr1⟩ := DpAll.uncons hxs
  obtain ⟨xb, r2, rfl, hxb, hr2⟩ := DpAll.uncons hr1
  obtain ⟨xc, r3, rfl, hxc, hr3⟩ := DpAll.uncons hr2
  cases hr3
  refine ⟨_, rfl, _, rfl, p, _, _, _, rfl, rfl, ht, at_of (j := 1) rfl rfl, vp, xa, fs, d, a, rfl, hp, hok, hxa, hos.1, fun H1 k1 => ?_⟩
  refine ⟨_, rfl, ?_⟩
  obtain ⟨pa, ya, rfl, hta, hya⟩ := hd_at hxa
  rcases due_when hdue with ⟨hw, rfl⟩ | ⟨hw, hn, rfl⟩ | ⟨i, rfl, rfl⟩
  · rw [hw]
    refine ite2 (fun _ => ?_) (fun c => absurd rfl c)
    exact ⟨(by show 2 ≤ sizeLine; decide), fun T hT => q (.ref T) _ (k1.trans (Kp.new hT)) (Dp.newT hT (.cons (.str _) (.cons (.int _) .nil)) rfl)⟩
  · rw [hw]
    refine ite2 (fun c => absurd c (by simp)) (fun _ => ?_)
    refine ⟨_, rfl, p, _, _, _, rfl, rfl, k1.sqT ht, at_of (j := 1) rfl rfl, pa, _, _, _, rfl, rfl, k1.sqT hta, at_of (j := 0) rfl rfl, rfl, _, rfl, ?_⟩
    refine ite2 (fun _ => ?_) (fun c => absurd (by simpa using hn) c)
    exact ⟨(by show 2 ≤ sizeLine; decide), fun T hT => q (.ref T) _ (k1.trans (Kp.new hT)) (Dp.newT hT (.cons (.str _) (.cons (.str _) .nil)) rfl)⟩
  · rw [worth_num]
    refine ite2 (fun c => absurd c (by simp)) (fun _ => ?_)
    obtain ⟨vi, y2, rfl, hvi, hy2⟩ := DpAll.unconsE (show DpAll K H ya [.int i] from hya)
    cases hvi
    cases hy2
    refine ⟨_, rfl, p, _, _, _, rfl, rfl, k1.sqT ht, at_of (j := 1) rfl rfl, pa, _, _, _, rfl, rfl, k1.sqT hta, at_of (j := 0) rfl rfl, rfl, _, rfl, ?_⟩
    refine ite2 (fun c => absurd c (by simp [Lz.P.hd])) (fun _ => ?_)
    refine ⟨_, rfl, p, _, _, _, rfl, rfl, k1.sqT ht, at_of (j := 1) rfl rfl, pa, _, _, _, rfl, rfl, k1.sqT hta, at_of (j := 1) rfl rfl, rfl, _, rfl, ?_⟩
    by_cases h0 : i = 0
    · refine ite2 (fun c => absurd c (by simp [h0])) (fun _ => ?_)
      refine ⟨_, rfl, p, _, _, _, rfl, rfl, k1.sqT ht, at_of (j := 3) rfl rfl, (by show 2 ≤ sizeLine; decide), fun T hT => ?_⟩
      rw [if_neg (by simpa using h0)] at q
      exact q (.ref T) _ (k1.trans (Kp.new hT)) (Ww.new hT (Dp.keep k1 _ _ (data_fz _) hxc))
    · refine ite2 (fun _ => ?_) (fun c => absurd (by simpa using h0) c)
      refine ⟨_, rfl, p, _, _, _, rfl, rfl, k1.sqT ht, at_of (j := 2) rfl rfl, (by show 2 ≤ sizeLine; decide), fun T hT => ?_⟩
      rw [if_pos h0] at q
      exact q (.ref T) _ (k1.trans (Kp.new hT)) (Ww.new hT (Dp.keep k1 _ _ (data_fz _) hxb))
abbrev sDueOfSide : Stmt := topS 25
theorem scDueOfSide : FnScope ["program", "part"] ["program", "part"] (defScope sDueOfSide) := ⟨rfl, rfl, rfl, by decide +kernel, rfl, by decide +kernel, by decide +kernel⟩
theorem ok_dueSide (F : Fun K "due_of_side" "due_of_side" sDueOfSide f fd) (CIsWorth : C8.Cal P w K mg base 5 "is_worth" (spIsW K) []) : FnOk P w K mg base CX0 6 f fd ["program", "part"] (spRule K ["left", "right"]) := by
  refine F.ok scDueOfSide (fun vs H Q E h => ?_) (fun cdv A outer s H vs Q E hr h => ?_)
  · obtain ⟨vp, v, fs, d, t, o, rfl, _⟩ := h
    rfl
  obtain ⟨vp, v, fs, d, t, o, rfl, hp, hok, hd, hto, hk, hm, hm2, hm3, hdue, q⟩ := h
  refine ⟨_, (pss_cons (ps_if (pt_not (pt_truthK (K := K) rfl (C8.pe_c CIsWorth hr (by first | decide | omega) (by rfl) (pa_cons (pv 0) (pa_cons (pe_ix (ix_tupK (K := K) rfl) (pv 1) pe_int (fun _ _ => rfl)) pa_nil))) (fun _ => rfl))) (pss_one (ps_ret (pe_tup (pa_cons pe_str (pa_cons pe_int pa_nil))))) pss_nil)
    (pss_cons (ps_if (pt_cmpR op_ne (pe_ix (ix_tupK (K := K) rfl) (pe_ix (ix_tupK (K := K) rfl) (pv 1) pe_int (fun _ _ => rfl)) pe_int (fun _ _ => rfl)) pe_str (nomark _)) (pss_one (ps_ret (pe_tup (pa_cons pe_str (pa_cons pe_str pa_nil))))) pss_nil)
    (pss_one (ps_ret (pe_tup (pa_cons pe_str (pa_cons (pe_ifExp (pt_cmpR op_eq (pe_ix (ix_tupK (K := K) rfl) (pv 1) pe_int (fun _ _ => rfl)) pe_str (nomark _)) (pe_ix (ix_tupK (K := K) rfl) (pe_ix (ix_tupK (K := K) rfl) (pv 1) pe_int (fun _ _ => rfl)) pe_int (fun _ _ => rfl)) (pe_ix (ix_tupK (K := K) rfl) (pe_ix (ix_tupK (K := K) rfl) (pv 1) pe_int (fun _ _ => rfl)) pe_int (fun _ _ => rfl))) pa_nil))))))), ?_⟩
  have hk' : t.hd = "left" ∨ t.hd = "right" := by simpa using hk
  obtain ⟨k, ek⟩ : ∃ k, t.hd = k := ⟨_, rfl⟩
  rw [ek] at hk'
  obtain ⟨as, rfl, hkk, hos⟩ := hd_op hto ek (by rcases hk' with e | e <;> rw [e] <;> decide +kernel) (by rcases hk' with e | e <;> rw [e] <;> decide +kernel) (by rcases hk' with e | e <;> rw [e] <;> decide +kernel) (by rcases hk' with e | e <;> rw [e] <;> decide +kernel)
  obtain ⟨a, rfl⟩ := one_of (side_one hk' hkk)
  obtain ⟨p, xs, rfl, ht, hxs⟩ := op_atU hd
  obtain ⟨xa, r1, rfl, hxa, hr1⟩ := DpAll.uncons hxs
  cases hr1
  refine ⟨_, rfl, _, rfl, p, _, _, _, rfl, rfl, ht, at_of (j := 1) rfl rfl, vp, xa, fs, d, a, rfl, hp, hok, hxa, hos.1, fun H1 k1 => ?_⟩
  refine ⟨_, rfl, ?_⟩
  obtain ⟨pa, ya, rfl, hta, hya⟩ := hd_at hxa
  rcases due_side hk' hdue with ⟨hw, rfl⟩ | ⟨hw, hn, rfl⟩ | ⟨x, y, rfl, rfl⟩
  · rw [hw]
    refine ite2 (fun _ => ?_) (fun c => absurd rfl c)
    exact ⟨(by show 2 ≤ sizeLine; decide), fun T hT => q (.ref T) _ (k1.trans (Kp.new hT)) (Dp.newT hT (.cons (.str _) (.cons (.int _) .nil)) rfl)⟩
  · rw [hw]
    refine ite2 (fun c => absurd c (by simp)) (fun _ => ?_)
    refine ⟨_, rfl, p, _, _, _, rfl, rfl, k1.sqT ht, at_of (j := 1) rfl rfl, pa, _, _, _, rfl, rfl, k1.sqT hta, at_of (j := 0) rfl rfl, rfl, _, rfl, ?_⟩
    refine ite2 (fun _ => ?_) (fun c => absurd (by simpa using hn) c)
    exact ⟨(by show 2 ≤ sizeLine; decide), fun T hT => q (.ref T) _ (k1.trans (Kp.new hT)) (Dp.newT hT (.cons (.str _) (.cons (.str _) .nil)) rfl)⟩
  · rw [worth_pair]
    refine ite2 (fun c => absurd c (by simp)) (fun _ => ?_)
    obtain ⟨vx, y1, rfl, hvx, hy1⟩ := DpAll.uncons (show DpAll K H ya (Lz.P.datas [x, y]) from hya)
    obtain ⟨vy, y2, rfl, hvy, hy2⟩ := DpAll.uncons hy1
    cases hy2
    refine ⟨_, rfl, p, _, _, _, rfl, rfl, k1.sqT ht, at_of (j := 1) rfl rfl, pa, _, _, _, rfl, rfl, k1.sqT hta, at_of (j := 0) rfl rfl, rfl, _, rfl, ?_⟩
    refine ite2 (fun c => absurd c (by simp [Lz.P.hd])) (fun _ => ?_)
    refine ⟨_, rfl, p, _, _, _, rfl, rfl, k1.sqT ht, at_of (j := 0) rfl rfl, rfl, _, rfl, ?_⟩
    by_cases h0 : k = "left"
    · refine ite2 (fun _ => ?_) (fun c => absurd (decide_eq_true (congrArg V.str h0)) c)
      refine ⟨_, rfl, p, _, _, _, rfl, rfl, k1.sqT ht, at_of (j := 1) rfl rfl, pa, _, _, _, rfl, rfl, k1.sqT hta, at_of (j := 1) rfl rfl, (by show 2 ≤ sizeLine; decide), fun T hT => ?_⟩
      rw [if_pos h0] at q
      exact q (.ref T) _ (k1.trans (Kp.new hT)) (Ww.new hT (Dp.keep k1 _ _ (data_fz _) hvx))
    · refine ite2 (fun c => absurd (V.str.inj (of_decide_eq_true c)) h0) (fun _ => ?_)
      refine ⟨_, rfl, p, _, _, _, rfl, rfl, k1.sqT ht, at_of (j := 1) rfl rfl, pa, _, _, _, rfl, rfl, k1.sqT hta, at_of (j := 2) rfl rfl, (by show 2 ≤ sizeLine; decide), fun T hT => ?_⟩
      rw [if_neg h0] at q
      exact q (.ref T) _ (k1.trans (Kp.new hT)) (Ww.new hT (Dp.keep k1 _ _ (data_fz _) hvy))
end
end Lz

set_option Elab.async false
set_option linter.all false
set_option maxRecDepth 100000
set_option maxHeartbeats 8000000
namespace Lz
open PySem PySem.Spec PyProof.Rows L2
theorem mergeT_snoc : ∀ (l th : List (Str × Lz.P)) (q : Str × Lz.P), mergeT th (l ++ [q]) = putT (mergeT th l) q.1 q.2
  | [], _, _ => rfl
  | a :: l, th, q => mergeT_snoc l (putT th a.1 a.2) q
section
variable {P : Program} {w : World} {K : PySem.W.Frag} {mg : Str → Option Value} {base : Heap} {f : Addr} {fd : FuncData}
abbrev sDueOfGive : Stmt := topS 20
theorem scDueOfGive : FnScope ["program", "part"] ["program", "part"] (defScope sDueOfGive) := ⟨rfl, rfl, rfl, by decide +kernel, rfl, by decide +kernel, by decide +kernel⟩
theorem ok_dueGive (F : Fun K "due_of_give" "due_of_give" sDueOfGive f fd) (CIsWorth : C8.Cal P w K mg base 5 "is_worth" (spIsW K) []) (CDueOfCall : C8.Cal P w K mg base 4 "due_of_call" (spDueCall K) []) : FnOk P w K mg base CX0 6 f fd ["program", "part"] (spRule K ["give"]) := by
  refine F.ok scDueOfGive (fun vs H Q E h => ?_) (fun cdv A outer s H vs Q E hr h => ?_)
  · obtain ⟨vp, v, fs, d, t, o, rfl, _⟩ := h
    rfl
  obtain ⟨vp, v, fs, d, t, o, rfl, hp, hok, hd, hto, hk, hm, hm2, hm3, hdue, q⟩ := h
  refine ⟨_, (pss_cons (ps_if (pt_not (pt_truthK (K := K) rfl (C8.pe_c CIsWorth hr (by first | decide | omega) (by rfl) (pa_cons (pv 0) (pa_cons (pe_ix (ix_tupK (K := K) rfl) (pv 1) pe_int (fun _ _ => rfl)) pa_nil))) (fun _ => rfl))) (pss_one (ps_ret (pe_tup (pa_cons pe_str (pa_cons pe_int pa_nil))))) pss_nil)
    (pss_cons (ps_if (pt_cmpR (op_inK (K := K) rfl) (pe_ix (ix_tupK (K := K) rfl) (pe_ix (ix_tupK (K := K) rfl) (pv 1) pe_int (fun _ _ => rfl)) pe_int (fun _ _ => rfl)) (pe_tup (pa_cons pe_str (pa_cons pe_str pa_nil))) rfl) (pss_one (ps_ret (pe_tup (pa_cons pe_str (pa_cons pe_str pa_nil))))) pss_nil)
    (pss_one (ps_ret (C8.pe_c CDueOfCall hr (by first | decide | omega) (by rfl) (pa_cons (pv 0) (pa_cons (pv 1) pa_nil))))))), ?_⟩
  obtain ⟨as, rfl, hkk, hos⟩ := hd_op hto (List.mem_singleton.mp hk) (by decide +kernel) (by decide +kernel) (by decide +kernel) (by decide +kernel)
  obtain ⟨a, b, rfl⟩ := two_of (give_two hkk)
  obtain ⟨p, va, vb, rfl, ht, hxa, hxb⟩ := give_at hd
  refine ⟨_, rfl, _, rfl, p, _, _, _, rfl, rfl, ht, at_of (j := 1) rfl rfl, vp, va, fs, d, a, rfl, hp, hok, hxa, hos.1, fun H1 k1 => ?_⟩
  refine ⟨_, rfl, ?_⟩
  obtain ⟨pa, ya, rfl, hta, hya⟩ := hd_at hxa
  rcases due_give hdue with ⟨hw, rfl⟩ | ⟨hw, hn, rfl⟩ | ⟨hw, hn1, hn2, ts, g, i, hgv, hgi, hgl, rfl⟩
  · rw [hw]
    refine ite2 (fun _ => ?_) (fun c => absurd rfl c)
    exact ⟨(by show 2 ≤ sizeLine; decide), fun T hT => q (.ref T) _ (k1.trans (Kp.new hT)) (Dp.newT hT (.cons (.str _) (.cons (.int _) .nil)) rfl)⟩
  · rw [hw]
    refine ite2 (fun c => absurd c (by simp)) (fun _ => ?_)
    refine ⟨_, rfl, p, _, _, _, rfl, rfl, k1.sqT ht, at_of (j := 1) rfl rfl, pa, _, _, _, rfl, rfl, k1.sqT hta, at_of (j := 0) rfl rfl, (by show 2 ≤ sizeLine; decide), fun T1 hT1 => ?_⟩
    refine ⟨T1, _, rfl, .inr (SqT.of upd_same), rfl, rfl, _, rfl, ?_⟩
    rw [in2U]
    refine ite2 (fun _ => ?_) (fun c => absurd (by rcases hn with e | e <;> simp [e]) c)
    have k2 := k1.trans (Kp.new (S := []) (o := .tup [.str "number", .str "pair"]) hT1)
    exact ⟨(by show 2 ≤ sizeLine; decide), fun T hT => q (.ref T) _ (k2.trans (Kp.new hT)) (Dp.newT hT (.cons (.str _) (.cons (.str _) .nil)) rfl)⟩
  · rw [hw]
    refine ite2 (fun c => absurd c (by simp)) (fun _ => ?_)
    refine ⟨_, rfl, p, _, _, _, rfl, rfl, k1.sqT ht, at_of (j := 1) rfl rfl, pa, _, _, _, rfl, rfl, k1.sqT hta, at_of (j := 0) rfl rfl, (by show 2 ≤ sizeLine; decide), fun T1 hT1 => ?_⟩
    refine ⟨T1, _, rfl, .inr (SqT.of upd_same), rfl, rfl, _, rfl, ?_⟩
    rw [in2U]
    refine ite2 (fun c => absurd c (by simp [hn1, hn2])) (fun _ => ?_)
    have k2 := k1.trans (Kp.new (S := []) (o := .tup [.str "number", .str "pair"]) hT1)
    generalize upd H1 T1 (.tup [.str "number", .str "pair"]) = H2 at k2 ⊢
    have hgm := List.mem_of_getElem? hgi
    have hb := hok.ok.bd g hgm
    have hbm := hb.1.many
    have hmw := mw_many g.2.2
    exact ⟨_, rfl, _, rfl, vp, .ref p, fs, d, _, ts, i, g, _, rfl, Dp.keep k2 _ _ (progU_fz _ _) hp, hok.ok, Dp.keep k2 _ _ (data_fz _) hd, hgv, hgi, hgl, by omega, hok.bo g hgm, by omega, fun v' H3 k3 hw3 => q v' H3 (k2.trans k3) hw3⟩
abbrev sDueOfLet : Stmt := topS 21
theorem scDueOfLet : FnScope ["program", "part", "rows", "x", "inner"] ["program", "part"] (defScope sDueOfLet) := ⟨rfl, rfl, rfl, by decide +kernel, rfl, by decide +kernel, by decide +kernel⟩
theorem ok_dueLet (F : Fun K "due_of_let" "due_of_let" sDueOfLet f fd) (CPutIn : C8.Cal P w K mg base 3 "put_in" (spPutIn K) []) : FnOk P w K mg base CX0 4 f fd ["program", "part"] (spRule K ["let"]) := by
  refine F.ok scDueOfLet (fun vs H Q E h => ?_) (fun cdv A outer s H vs Q E hr h => ?_)
  · obtain ⟨vp, v, fs, d, t, o, rfl, _⟩ := h
    rfl
  obtain ⟨vp, v, fs, d, t, o, rfl, hp, hok, hd, hto, hk, hm, hm2, hm3, hdue, q⟩ := h
  refine ⟨_, (pss_cons (ps_set (i := 2) scDueOfLet.nd rfl (.inr rfl) (pe_ix (ix_tupK (K := K) rfl) (pv 1) pe_int (fun _ _ => rfl)))
    (pss_one (ps_ret (pe_tup (pa_cons pe_str (pa_cons (C8.pe_c CPutIn hr (by first | decide | omega) (by rfl) (pa_cons (pe_ix (ix_tupK (K := K) rfl) (pv 1) pe_int (fun _ _ => rfl)) (pa_cons (pe_dc (own := [("x", 3), ("inner", 4)]) rfl scDueOfLet.nd (pi_tupK (K := K) rfl (pv 2)) (blkOk_by (N := ["program", "part", "rows", "x", "inner"]) (sc := defScope sDueOfLet) (by decide +kernel)) (fun _ _ _ _ _ => (pg_tupK (K := K) (n := 2) rfl rfl (pgs_cons (pg_name (i := 3) scDueOfLet.nd rfl (.inl rfl)) (pgs_cons (pg_name (i := 4) scDueOfLet.nd rfl (.inl rfl)) pgs_nil)))) (fun _ _ _ _ _ => pts_nil) (fun _ _ _ _ _ => (pv 3)) (fun _ _ _ _ _ => (pe_tup (pa_cons pe_str (pa_cons (pv 2) (pa_cons (pv 4) pa_nil)))))) pa_nil))) pa_nil)))))), ?_⟩
  obtain ⟨nm, as, b, rfl⟩ := hd_let hto (List.mem_singleton.mp hk)
  obtain rfl := due_let hdue
  obtain ⟨a, r, rs, vb, rfl, ht, hr2, hrs, hb⟩ := let_atU hd
  have hto' := (show nm.length = as.length ∧ (∀ x, x ∈ nm → nmOk x) ∧ Lz.P.okSs (fs.map (·.1)) as ∧ b.okS (fs.map (·.1)) from hto)
  have hrl : rs.length = as.length := by rw [hrs.length, List.length_zipWith, datas_len]; have := hto'.1; omega
  have hal : as.length ≤ 8998 := by
    have h1 := win_len hm
    have h2 : (as ++ [b]).length ≤ 8999 := h1
    rw [List.length_append, List.length_singleton] at h2
    omega
  refine ⟨_, rfl, a, _, _, _, rfl, rfl, ht, at_of (j := 1) rfl rfl, ?_⟩
  refine ⟨_, rfl, a, _, _, _, rfl, rfl, ht, at_of (j := 2) rfl rfl, _, rfl, r, rfl, ⟨_, hr2⟩, fun D hD => ?_⟩
  refine dc_tup (K := K) (a := r) (xs := rs) (fun i H' => Kp [] H H' ∧ ∃ kvs, H' D = some (.dK kvs) ∧ kvs.length ≤ i ∧ TdAll K H' kvs (mergeT [] ((nm.zip (as.map fun a => Lz.P.lt nm as a)).take i)))
    ⟨Kp.new hD, [], upd_same, Nat.le_refl _, .nil⟩ (fun i H' _ ⟨k, _⟩ => k.sqT hr2) ?_ ?_
  · rintro i x H1 hi ⟨k1, kvs, hkv, hkl, hT⟩
    have hil := (List.getElem?_eq_some_iff.mp hi).1
    obtain ⟨tr, nx, u, e, rfl, htr, hnx, hae, hue⟩ := row_atU (Dp.keepAll k1 _ _ rows_fz hrs) hi
    refine ⟨tr, _, rfl, htr, rfl, _, _, rfl, _, _, rfl, rfl, ?_⟩
    refine ⟨rfl, ?_⟩
    refine ⟨_, rfl, _, rfl, _, rfl, (by show 3 ≤ sizeLine; decide), fun T hT' => ?_⟩
    have kx : Kp [] H1 (upd H1 T (.tup [.str "let", .ref r, u])) := Kp.new hT'
    have hkv2 : (upd H1 T (.tup [.str "let", .ref r, u])) D = some (.dK kvs) := kx D _ hkv fun _ _ e => nomatch e
    have er : fzAll [PyData.str "let", .tuple (List.zipWith rowD nm (Lz.P.datas as)), e.data] = true := by
      show (fzAll (List.zipWith rowD nm (Lz.P.datas as)) && (fz e.data && true)) = true
      rw [rows_fz, data_fz]
      rfl
    have hle : Dp K (upd H1 T (.tup [.str "let", .ref r, u])) (.ref T) (Lz.P.lt nm as e).data := Dp.newT hT' (.cons (.str _) (.cons (.tup (k1.sqT hr2) (Dp.keepAll k1 _ _ rows_fz hrs)) (.cons hue .nil))) er
    have k2 := k1.trans kx
    have hT2 := hT.keepT (Tk.of kx)
    generalize upd H1 T (.tup [.str "let", .ref r, u]) = H2 at hkv2 hle k2 hT2 ⊢
    have kt : Tk K H2 (upd H2 D (.dK (putK kvs (.inr nx) (.ref T)))) := Tk.put hkv2
    have hll := length_putK kvs (Sum.inr nx : Key) (.ref T)
    have ez : (nm.zip (as.map fun a => Lz.P.lt nm as a))[i]? = some (nx, Lz.P.lt nm as e) := by
      rw [List.getElem?_zip_eq_some]
      exact ⟨hnx, by rw [List.getElem?_map, hae]; rfl⟩
    refine ⟨kvs, .inr nx, rfl, hkv2, small9000 (by omega), k2.mut hD, _, upd_same, by omega, ?_⟩
    rw [List.take_add_one, ez]
    show TdAll K _ _ (mergeT [] (_ ++ [(nx, Lz.P.lt nm as e)]))
    rw [mergeT_snoc]
    exact (hT2.keepT kt).putF (Dp.keepT kt _ _ (data_fz _) hle)
  · rintro H1 ⟨k1, kvs, hkv, hkl, hT⟩
    rw [List.take_of_length_le (by rw [List.length_zip, List.length_map]; omega)] at hT
    have hbm := hm2 nm as b rfl
    refine ⟨vb, D, b, _, kvs, _, rfl, Dp.keep k1 _ _ (data_fz _) hb, hto'.2.2.2, hbm, ⟨hkv, hT⟩, fun v' H2 k2 hd2 => ?_⟩
    refine ⟨(by show 2 ≤ sizeLine; decide), fun T hT' => ?_⟩
    exact q (.ref T) _ ((k1.trans k2).trans (Kp.new hT')) (Ww.new hT' hd2)
end
end Lz

set_option Elab.async false
set_option linter.all false
set_option maxRecDepth 100000
set_option maxHeartbeats 8000000
namespace Lz
open PySem PySem.Spec PyProof.Rows L2
abbrev beyond : Int := 1000000000000000000000000000000000000000000000000000000000000
theorem beyond_iff (i : Int) : ((if i < 0 then -i else i) < beyond) ↔ i.natAbs < 10 ^ 60 := by
  have e : ((10 ^ 60 : Nat) : Int) = beyond := rfl
  split <;> omega
theorem log_60 {n : Nat} (h : n < 10 ^ 60) : n.log2 < 200 := by
  by_cases e : n = 0
  · subst e
    decide
  · rw [Nat.log2_lt e]
    exact Nat.lt_trans h (by decide +kernel)
theorem log_mul {i j : Int} (hi : i.natAbs < 10 ^ 60) (hj : j.natAbs < 10 ^ 60) : CMulW i j := by
  have h1 := log_60 hi
  have h2 := log_60 hj
  show i.natAbs.log2 + j.natAbs.log2 < 1000000
  omega
def spFitP (K : PySem.W.Frag) : Sp := fun vs H Q _ => ∃ (i : Int), vs = [.int i] ∧ Q (.bl (decide ((if i < 0 then -i else i) < beyond))) H
def spCome (K : PySem.W.Frag) : Sp := fun vs H Q _ => ∃ (k : Str) (i j : Int), vs = [.str k, .int i, .int j] ∧ i.natAbs < 10 ^ 60 ∧ j.natAbs < 10 ^ 60 ∧ ((comeOf k i j).natAbs < 10 ^ 60 → Q (.int (comeOf k i j)) H) ∧ (¬ (comeOf k i j).natAbs < 10 ^ 60 → Q .non H)
section
variable {P : Program} {w : World} {K : PySem.W.Frag} {mg : Str → Option Value} {base : Heap} {f : Addr} {fd : FuncData}
abbrev sFits : Stmt := topS 2
theorem scFits : FnScope ["n"] ["n"] (defScope sFits) := ⟨rfl, rfl, rfl, by decide +kernel, rfl, by decide +kernel, by decide +kernel⟩
theorem ok_fitP (F : Fun K "fits" "fits" sFits f fd) (mabs : mg "abs" = none) {tb : Tok} (mBEYOND : mg "BEYOND" = some (.int beyond tb)) : FnOk P w K mg base CX0 1 f fd ["n"] (spFitP K) := by
  refine F.ok scFits (fun vs H Q E h => ?_) (fun cdv A outer s H vs Q E hr h => ?_)
  · obtain ⟨x, rfl, _⟩ := h
    rfl
  obtain ⟨i, rfl, q⟩ := h
  refine ⟨_, (pss_one (ps_ret (pe_cmpR op_lt (pe_callB call_abs (by rfl) mabs (by decide +kernel) (pa_cons (pv 0) pa_nil)) (pe_glob (v := .int beyond) (by rfl) mBEYOND ⟨_, rfl⟩) (nomark _)))), ?_⟩
  refine ⟨_, rfl, i, rfl, _, _, rfl, rfl, ?_⟩
  exact q
abbrev sComeOf : Stmt := topS 3
theorem scComeOf : FnScope ["kind", "a", "b", "n"] ["kind", "a", "b"] (defScope sComeOf) := ⟨rfl, rfl, rfl, by decide +kernel, rfl, by decide +kernel, by decide +kernel⟩
theorem ok_come (F : Fun K "come_of" "come_of" sComeOf f fd) (CFits : C8.Cal P w K mg base 1 "fits" (spFitP K) []) : FnOk P w K mg base CX0 2 f fd ["kind", "a", "b"] (spCome K) := by
  refine F.ok scComeOf (fun vs H Q E h => ?_) (fun cdv A outer s H vs Q E hr h => ?_)
  · obtain ⟨k, i, j, rfl, _⟩ := h
    rfl
  obtain ⟨k, i, j, rfl, hi, hj, q1, q2⟩ := h
  refine ⟨_, (pss_cons (ps_if (pt_cmpR op_eq (pv 0) pe_str (nomark _)) (pss_one (ps_set (i := 3) scComeOf.nd rfl (.inl rfl) (pe_op op_add (pv 1) (pv 2)))) (pss_one (ps_if (pt_cmpR op_eq (pv 0) pe_str (nomark _)) (pss_one (ps_set (i := 3) scComeOf.nd rfl (.inl rfl) (pe_op op_sub (pv 1) (pv 2)))) (pss_one (ps_if (pt_cmpR op_eq (pv 0) pe_str (nomark _)) (pss_one (ps_set (i := 3) scComeOf.nd rfl (.inl rfl) (pe_op op_mulW (pv 1) (pv 2)))) (pss_one (ps_set (i := 3) scComeOf.nd rfl (.inl rfl) (pe_ifExp (pt_cmpR op_lt (pv 1) (pv 2) (nomark _)) pe_int pe_int))))))))
    (pss_one (ps_ret (pe_ifExp (pt_truthK (K := K) rfl (C8.pe_c CFits hr (by first | decide | omega) (by rfl) (pa_cons (pv 3) pa_nil)) (fun _ => rfl)) (pv 3) pe_non)))), ?_⟩
  refine ⟨_, rfl, rfl, _, rfl, ?_⟩
  by_cases h1 : k = "plus"
  · refine ite2 (fun _ => ?_) (fun c => absurd (decide_eq_true (congrArg V.str h1)) c)
    have e : comeOf k i j = i + j := if_pos h1
    rw [e] at q1 q2
    refine ⟨_, rfl, _, rfl, _, _, rfl, rfl, ?_⟩
    refine ⟨_, rfl, i + j, rfl, _, rfl, ?_⟩
    refine ite2 (fun c => ?_) (fun c => ?_)
    · exact ⟨_, rfl, q1 ((beyond_iff _).mp (of_decide_eq_true c))⟩
    · exact q2 fun z => c (decide_eq_true ((beyond_iff _).mpr z))
  refine ite2 (fun c => absurd (V.str.inj (of_decide_eq_true c)) h1) (fun _ => ?_)
  refine ⟨_, rfl, rfl, _, rfl, ?_⟩
  by_cases h2 : k = "less"
  · refine ite2 (fun _ => ?_) (fun c => absurd (decide_eq_true (congrArg V.str h2)) c)
    have e : comeOf k i j = i - j := (if_neg h1).trans (if_pos h2)
    rw [e] at q1 q2
    refine ⟨_, rfl, _, rfl, _, _, rfl, rfl, ?_⟩
    refine ⟨_, rfl, i - j, rfl, _, rfl, ?_⟩
    refine ite2 (fun c => ?_) (fun c => ?_)
    · exact ⟨_, rfl, q1 ((beyond_iff _).mp (of_decide_eq_true c))⟩
    · exact q2 fun z => c (decide_eq_true ((beyond_iff _).mpr z))
  refine ite2 (fun c => absurd (V.str.inj (of_decide_eq_true c)) h2) (fun _ => ?_)
  refine ⟨_, rfl, rfl, _, rfl, ?_⟩
  by_cases h3 : k = "times"
  · refine ite2 (fun _ => ?_) (fun c => absurd (decide_eq_true (congrArg V.str h3)) c)
    have e : comeOf k i j = i * j := (if_neg h1).trans ((if_neg h2).trans (if_pos h3))
    rw [e] at q1 q2
    refine ⟨_, rfl, _, rfl, _, _, rfl, rfl, log_mul hi hj, ?_⟩
    refine ⟨_, rfl, i * j, rfl, _, rfl, ?_⟩
    refine ite2 (fun c => ?_) (fun c => ?_)
    · exact ⟨_, rfl, q1 ((beyond_iff _).mp (of_decide_eq_true c))⟩
    · exact q2 fun z => c (decide_eq_true ((beyond_iff _).mpr z))
  refine ite2 (fun c => absurd (V.str.inj (of_decide_eq_true c)) h3) (fun _ => ?_)
  have e : comeOf k i j = if i < j then 1 else 0 := (if_neg h1).trans ((if_neg h2).trans (if_neg h3))
  rw [e] at q1 q2
  refine ⟨_, rfl, _, rfl, _, _, rfl, rfl, _, rfl, ?_⟩
  by_cases h4 : i < j
  · refine ite2 (fun _ => ?_) (fun c => absurd (decide_eq_true h4) c)
    rw [if_pos h4] at q1
    exact ⟨_, rfl, 1, rfl, _, rfl, ite2 (fun _ => ⟨_, rfl, q1 (by decide +kernel)⟩) (fun c => absurd (by decide +kernel) c)⟩
  · refine ite2 (fun c => absurd (of_decide_eq_true c) h4) (fun _ => ?_)
    rw [if_neg h4] at q1
    exact ⟨_, rfl, 0, rfl, _, rfl, ite2 (fun _ => ⟨_, rfl, q1 (by decide +kernel)⟩) (fun c => absurd (by decide +kernel) c)⟩
end
end Lz

set_option Elab.async false
set_option linter.all false
set_option maxRecDepth 100000
set_option maxHeartbeats 8000000
namespace Lz
open PySem PySem.Spec PyProof.Rows L2
section
variable {P : Program} {w : World} {K : PySem.W.Frag} {mg : Str → Option Value} {base : Heap} {f : Addr} {fd : FuncData}
abbrev sDueOfTwo : Stmt := topS 23
theorem scDueOfTwo : FnScope ["program", "part", "at", "n"] ["program", "part"] (defScope sDueOfTwo) := ⟨rfl, rfl, rfl, by decide +kernel, rfl, by decide +kernel, by decide +kernel⟩
theorem ok_dueTwo (F : Fun K "due_of_two" "due_of_two" sDueOfTwo f fd) (CIsWorth : C8.Cal P w K mg base 5 "is_worth" (spIsW K) []) (CComeOf : C8.Cal P w K mg base 2 "come_of" (spCome K) []) : FnOk P w K mg base CX0 6 f fd ["program", "part"] (spRule K fours) := by
  refine F.ok scDueOfTwo (fun vs H Q E h => ?_) (fun cdv A outer s H vs Q E hr h => ?_)
  · obtain ⟨vp, v, fs, d, t, o, rfl, _⟩ := h
    rfl
  obtain ⟨vp, v, fs, d, t, o, rfl, hp, hok, hd, hto, hk, hm, hm2, hm3, hdue, q⟩ := h
  refine ⟨_, (pss_cons (ps_for PassesOwn.never rfl (pi_tupK (K := K) rfl (pe_tup (pa_cons pe_int (pa_cons pe_int pa_nil)))) (pg_name (i := 2) scDueOfTwo.nd rfl (.inl rfl)) (pss_cons (ps_if (pt_not (pt_truthK (K := K) rfl (C8.pe_c CIsWorth hr (by first | decide | omega) (by rfl) (pa_cons (pv 0) (pa_cons (pe_ix (ix_tupK (K := K) rfl) (pv 1) (pv 2) (fun _ _ => rfl)) pa_nil))) (fun _ => rfl))) (pss_one (ps_ret (pe_tup (pa_cons pe_str (pa_cons (pv 2) pa_nil))))) pss_nil)
    (pss_one (ps_if (pt_cmpR op_ne (pe_ix (ix_tupK (K := K) rfl) (pe_ix (ix_tupK (K := K) rfl) (pv 1) (pv 2) (fun _ _ => rfl)) pe_int (fun _ _ => rfl)) pe_str (nomark _)) (pss_one (ps_ret (pe_tup (pa_cons pe_str (pa_cons pe_str pa_nil))))) pss_nil))))
    (pss_cons (ps_set (i := 3) scDueOfTwo.nd rfl (.inl rfl) (C8.pe_c CComeOf hr (by first | decide | omega) (by rfl) (pa_cons (pe_ix (ix_tupK (K := K) rfl) (pv 1) pe_int (fun _ _ => rfl)) (pa_cons (pe_ix (ix_tupK (K := K) rfl) (pe_ix (ix_tupK (K := K) rfl) (pv 1) pe_int (fun _ _ => rfl)) pe_int (fun _ _ => rfl)) (pa_cons (pe_ix (ix_tupK (K := K) rfl) (pe_ix (ix_tupK (K := K) rfl) (pv 1) pe_int (fun _ _ => rfl)) pe_int (fun _ _ => rfl)) pa_nil)))))
    (pss_one (ps_ret (pe_ifExp (pt_cmpR op_isN (pv 3) pe_non (nomark _)) (pe_tup (pa_cons pe_str (pa_cons pe_str pa_nil))) (pe_tup (pa_cons pe_str (pa_cons (pe_tup (pa_cons pe_str (pa_cons (pv 3) pa_nil))) pa_nil)))))))), ?_⟩
  obtain ⟨k, ek⟩ : ∃ k, t.hd = k := ⟨_, rfl⟩
  rw [ek] at hk
  have h4 := fours_op hk
  obtain ⟨as, rfl, hkk, hos⟩ := hd_op hto ek h4.1 h4.2.1 h4.2.2.1 h4.2.2.2
  obtain ⟨a, b, rfl⟩ := two_of (fours_two hk hkk)
  obtain ⟨p, xs, rfl, ht, hxs⟩ := op_atU hd
  obtain ⟨xa, r1, rfl, hxa, hr1⟩ := DpAll.uncons hxs
  obtain ⟨xb, r2, rfl, hxb, hr2⟩ := DpAll.uncons hr1
  cases hr2
  obtain ⟨pa, ya, rfl, hta, hya⟩ := hd_at hxa
  obtain ⟨pb, yb, rfl, htb, hyb⟩ := hd_at hxb
  refine ⟨(by show 2 ≤ sizeLine; decide), fun T0 hT0 => ?_⟩
  have k0 : Kp [] H (upd H T0 (.tup [.int 1, .int 2])) := Kp.new hT0
  have h0 : (upd H T0 (.tup [.int 1, .int 2])) T0 = some (.tup [.int 1, .int 2]) := upd_same
  generalize upd H T0 (.tup [.int 1, .int 2]) = H0 at k0 h0 ⊢
  have fin : ∀ {x : Str} {H1 : Hp} {T : Addr}, Kp [] H H1 → H1 T = none → Dp K (upd H1 T (.tup [.str "fault", .str x])) (.ref T) (Out.f x).data := fun _ hT => Dp.newT hT (.cons (.str _) (.cons (.str _) .nil)) rfl
  refine ⟨T0, rfl, ⟨_, SqT.of h0⟩, for_tup (K := K) (a := T0) (xs := [.int 1, .int 2]) (fun i σ H' => ∃ (v2 v3 : Option V), σ = [some vp, some (.ref p), v2, v3] ∧ Kp [] H H' ∧ Kp [] H0 H' ∧ (1 ≤ i → ∃ n, a = .num n) ∧ (2 ≤ i → ∃ n, b = .num n))
    ⟨none, none, rfl, k0, Kp.refl _ _, fun h => absurd h (by decide), fun h => absurd h (by decide)⟩ (fun i σ H' _ ⟨_, _, _, _, k, _⟩ => k.sqT (SqT.of h0)) ?_ ?_⟩
  · rintro i x σ H1 hi ⟨v2, v3, rfl, k1, k01, ha, hb⟩
    match i, hi with
    | 0, hi =>
      obtain rfl : V.int 1 = x := Option.some.inj hi
      refine ⟨_, rfl, _, rfl, _, rfl, p, _, _, _, rfl, rfl, k1.sqT ht, at_of (j := 1) rfl rfl, vp, .ref pa, fs, d, a, rfl, Dp.keep k1 _ _ (progU_fz _ _) hp, hok, Dp.keep k1 _ _ (data_fz _) hxa, hos.1, fun H2 k2 => ?_⟩
      refine ⟨_, rfl, ?_⟩
      have k2' := k1.trans k2
      rcases due_two hk hdue with ⟨hw, rfl⟩ | ⟨hw, hn, rfl⟩ | ⟨n, rfl, hrest⟩
      · rw [hw]
        refine ite2 (fun _ => ?_) (fun c => absurd rfl c)
        exact ⟨_, rfl, (by show 2 ≤ sizeLine; decide), fun T hT => q (.ref T) _ (k2'.trans (Kp.new hT)) (Dp.newT hT (.cons (.str _) (.cons (.int _) .nil)) rfl)⟩
      · rw [hw]
        refine ite2 (fun c => absurd c (by simp)) (fun _ => ?_)
        refine ⟨_, rfl, _, rfl, p, _, _, _, rfl, rfl, k2'.sqT ht, at_of (j := 1) rfl rfl, pa, _, _, _, rfl, rfl, k2'.sqT hta, at_of (j := 0) rfl rfl, rfl, _, rfl, ?_⟩
        refine ite2 (fun _ => ?_) (fun c => absurd (by simpa using hn) c)
        exact ⟨(by show 2 ≤ sizeLine; decide), fun T hT => q (.ref T) _ (k2'.trans (Kp.new hT)) (fin k2' hT)⟩
      · rw [worth_num]
        refine ite2 (fun c => absurd c (by simp)) (fun _ => ?_)
        refine ⟨_, rfl, _, rfl, p, _, _, _, rfl, rfl, k2'.sqT ht, at_of (j := 1) rfl rfl, pa, _, _, _, rfl, rfl, k2'.sqT hta, at_of (j := 0) rfl rfl, rfl, _, rfl, ?_⟩
        refine ite2 (fun c => absurd c (by simp [Lz.P.hd])) (fun _ => ?_)
        exact ⟨_, _, rfl, k2', k01.trans k2, fun _ => ⟨_, rfl⟩, fun h => absurd h (by decide)⟩
    | 1, hi =>
      obtain rfl : V.int 2 = x := Option.some.inj hi
      obtain ⟨n, rfl⟩ := ha (Nat.le_refl _)
      refine ⟨_, rfl, _, rfl, _, rfl, p, _, _, _, rfl, rfl, k1.sqT ht, at_of (j := 2) rfl rfl, vp, .ref pb, fs, d, b, rfl, Dp.keep k1 _ _ (progU_fz _ _) hp, hok, Dp.keep k1 _ _ (data_fz _) hxb, hos.2.1, fun H2 k2 => ?_⟩
      refine ⟨_, rfl, ?_⟩
      have k2' := k1.trans k2
      rcases due_two hk hdue with ⟨hw, _⟩ | ⟨_, hn, _⟩ | ⟨n', e, ⟨hw, rfl⟩ | ⟨hw, hn, rfl⟩ | ⟨j, rfl, hrest⟩⟩
      · rw [worth_num] at hw
        cases hw
      · exact absurd rfl hn
      · rw [hw]
        refine ite2 (fun _ => ?_) (fun c => absurd rfl c)
        exact ⟨_, rfl, (by show 2 ≤ sizeLine; decide), fun T hT => q (.ref T) _ (k2'.trans (Kp.new hT)) (Dp.newT hT (.cons (.str _) (.cons (.int _) .nil)) rfl)⟩
      · rw [hw]
        refine ite2 (fun c => absurd c (by simp)) (fun _ => ?_)
        refine ⟨_, rfl, _, rfl, p, _, _, _, rfl, rfl, k2'.sqT ht, at_of (j := 2) rfl rfl, pb, _, _, _, rfl, rfl, k2'.sqT htb, at_of (j := 0) rfl rfl, rfl, _, rfl, ?_⟩
        refine ite2 (fun _ => ?_) (fun c => absurd (by simpa using hn) c)
        exact ⟨(by show 2 ≤ sizeLine; decide), fun T hT => q (.ref T) _ (k2'.trans (Kp.new hT)) (fin k2' hT)⟩
      · rw [worth_num]
        refine ite2 (fun c => absurd c (by simp)) (fun _ => ?_)
        refine ⟨_, rfl, _, rfl, p, _, _, _, rfl, rfl, k2'.sqT ht, at_of (j := 2) rfl rfl, pb, _, _, _, rfl, rfl, k2'.sqT htb, at_of (j := 0) rfl rfl, rfl, _, rfl, ?_⟩
        refine ite2 (fun c => absurd c (by simp [Lz.P.hd])) (fun _ => ?_)
        exact ⟨_, _, rfl, k2', k01.trans k2, fun _ => ⟨_, rfl⟩, fun _ => ⟨_, rfl⟩⟩
    | i + 2, hi => exact nomatch hi
  · rintro σ H1 ⟨v2, v3, rfl, k1, k01, ha, hb⟩
    obtain ⟨n, rfl⟩ := ha (by decide)
    obtain ⟨m, rfl⟩ := hb (by decide)
    obtain ⟨vi, y2, rfl, hvi, hy2⟩ := DpAll.unconsE (show DpAll K H ya [.int n] from hya)
    cases hvi
    cases hy2
    obtain ⟨vj, y3, rfl, hvj, hy3⟩ := DpAll.unconsE (show DpAll K H yb [.int m] from hyb)
    cases hvj
    cases hy3
    obtain ⟨hn, hm'⟩ := hm3 k n m rfl
    have hr : (¬ (comeOf k n m).natAbs < 10 ^ 60 ∧ o = .f "great") ∨ ((comeOf k n m).natAbs < 10 ^ 60 ∧ o = .s "number" (.num (comeOf k n m))) := by
      rcases due_two hk hdue with ⟨hw, _⟩ | ⟨_, hn, _⟩ | ⟨n', e, ⟨hw, _⟩ | ⟨_, hn, _⟩ | ⟨j, e2, hrest⟩⟩
      · rw [worth_num] at hw
        cases hw
      · exact absurd rfl hn
      · rw [worth_num] at hw
        cases hw
      · exact absurd rfl hn
      · cases e
        cases e2
        exact hrest
    refine ⟨_, rfl, p, _, _, _, rfl, rfl, k1.sqT ht, at_of (j := 0) rfl rfl, _, rfl, p, _, _, _, rfl, rfl, k1.sqT ht, at_of (j := 1) rfl rfl, pa, _, _, _, rfl, rfl, k1.sqT hta, at_of (j := 1) rfl rfl, _, rfl, p, _, _, _, rfl, rfl, k1.sqT ht, at_of (j := 2) rfl rfl, pb, _, _, _, rfl, rfl, k1.sqT htb, at_of (j := 1) rfl rfl, k, n, m, rfl, hn, hm', fun h => ?_, fun h => ?_⟩
    · rcases hr with ⟨h', _⟩ | ⟨_, rfl⟩
      · exact absurd h h'
      refine ⟨_, rfl, rfl, _, rfl, ?_⟩
      refine ite2 (fun c => absurd (of_decide_eq_true c) (fun e => nomatch e)) (fun _ => ?_)
      refine ⟨_, rfl, (by show 2 ≤ sizeLine; decide), fun T1 hT1 => ?_⟩
      have kx : Kp [] H1 (upd H1 T1 (.tup [.str "number", .int (comeOf k n m)])) := Kp.new hT1
      have e1 : Dp K (upd H1 T1 (.tup [.str "number", .int (comeOf k n m)])) (.ref T1) (Lz.P.num (comeOf k n m)).data := Dp.newT hT1 (.cons (.str _) (.cons (.int _) .nil)) rfl
      have k2 := k1.trans kx
      generalize upd H1 T1 (.tup [.str "number", .int (comeOf k n m)]) = H2 at e1 k2 ⊢
      exact ⟨(by show 2 ≤ sizeLine; decide), fun T hT => q (.ref T) _ (k2.trans (Kp.new hT)) (Ww.new hT e1)⟩
    · rcases hr with ⟨_, rfl⟩ | ⟨h', _⟩
      · refine ⟨_, rfl, rfl, _, rfl, ?_⟩
        refine ite2 (fun _ => ?_) (fun c => absurd (decide_eq_true rfl) c)
        exact ⟨(by show 2 ≤ sizeLine; decide), fun T hT => q (.ref T) _ (k1.trans (Kp.new hT)) (fin k1 hT)⟩
      · exact absurd h' h
end
end Lz

set_option Elab.async false
set_option linter.all false
set_option maxRecDepth 100000
set_option maxHeartbeats 8000000
namespace Lz
open PySem PySem.Spec PyProof.Rows L2
theorem sl_one {K : PySem.W.Frag} {H : Hp} {a : Addr} {xs : List V} {lo hi : Option Int} {Q : VK} (ha : SqT K H a xs) (q : ∀ (c : Addr) (H' : Hp), Kp [] H H' → SqT K H' c (cutV xs lo hi) → Q (.ref c) H') : rSlA K (.ref a) lo hi H Q := by
  refine ⟨a, xs, rfl, ha, fun ⟨e1, e2⟩ => ?_, fun _ c hc => q c _ (Kp.new hc) (SqT.of upd_same)⟩
  refine q a H (Kp.refl _ _) ?_
  have e : cutV xs lo hi = xs := by
    unfold cutV
    rw [e1, e2]
    simp
  rw [e]
  exact ha
theorem cutV_to2 (xs : List V) (k : Nat) : cutV xs none (some (k : Int)) = xs.take k := by
  unfold cutV
  rw [HT.sIx_none, HT.sIx_nat]
  simp
theorem cutV_from2 (xs : List V) (k : Nat) : cutV xs (some (k : Int)) none = xs.drop k := by
  unfold cutV
  rw [HT.sIx_none, HT.sIx_nat]
  by_cases h : k ≤ xs.length
  · rw [Nat.min_eq_left h]
    exact List.take_of_length_le (by rw [List.length_drop]; exact Nat.le_refl _)
  · rw [Nat.min_eq_right (by omega), List.drop_length, List.drop_of_length_le (by omega)]
    simp
def spPutBack (K : PySem.W.Frag) : Sp := fun vs H Q _ => ∃ (v : V) (p : Addr) (k : Str) (xs : List V) (j : Nat), vs = [v, .ref p, .int ((j + 1 : Nat) : Int)] ∧ SqT K H p (.str k :: xs) ∧ j < xs.length ∧ xs.length ≤ 9000 ∧ ∀ (c : Addr) (H' : Hp), Kp [] H H' → SqT K H' c (.str k :: xs.set j v) → Q (.ref c) H'
section
variable {P : Program} {w : World} {K : PySem.W.Frag} {mg : Str → Option Value} {base : Heap} {f : Addr} {fd : FuncData}
abbrev sPutBack : Stmt := topS 28
theorem scPutBack : FnScope ["part", "outer", "at"] ["part", "outer", "at"] (defScope sPutBack) := ⟨rfl, rfl, rfl, by decide +kernel, rfl, by decide +kernel, by decide +kernel⟩
theorem ok_putBack (F : Fun K "put_back" "put_back" sPutBack f fd) : FnOk P w K mg base CX0 1 f fd ["part", "outer", "at"] (spPutBack K) := by
  refine F.ok scPutBack (fun vs H Q E h => ?_) (fun cdv A outer s H vs Q E hr h => ?_)
  · obtain ⟨v, p, k, xs, j, rfl, _⟩ := h
    rfl
  obtain ⟨v, p, k, xs, j, rfl, ht, hj, hx, q⟩ := h
  refine ⟨_, (pss_one (ps_ret (pe_tup (StX.pa_starK (K := K) rfl (pe_slice (sl_tupAK (K := K) rfl) (pv 1) po_none (po_some (pv 2))) (pa_cons (pv 0) (StX.pa_starK (K := K) rfl (pe_slice (sl_tupAK (K := K) rfl) (pv 1) (po_some (pe_op op_add (pv 2) pe_int)) po_none) pa_nil)))))), ?_⟩
  refine ⟨_, rfl, _, rfl, _, rfl, ?_⟩
  refine sl_one ht fun c1 H1 k1 h1 => ?_
  rw [cutV_to2] at h1
  refine ⟨c1, _, rfl, .inl h1, _, rfl, _, rfl, _, rfl, _, _, rfl, rfl, _, rfl, ?_⟩
  have e : ((j + 1 : Nat) : Int) + 1 = ((j + 2 : Nat) : Int) := by omega
  rw [e]
  dsimp only [tNoPart]
  refine sl_one (k1.sqT ht) fun c2 H2 k2 h2 => ?_
  rw [cutV_from2] at h2
  refine ⟨c2, _, rfl, .inl h2, ?_⟩
  have ex : (V.str k :: xs).take (j + 1) ++ v :: ((V.str k :: xs).drop (j + 2) ++ []) = .str k :: xs.set j v := by
    rw [List.append_nil, List.take_succ_cons, List.drop_succ_cons, List.cons_append, List.set_eq_take_append_cons_drop, if_pos hj]
  show ((V.str k :: xs).take (j + 1) ++ v :: ((V.str k :: xs).drop (j + 2) ++ [])).length ≤ sizeLine ∧ ∀ (p : Addr), H2 p = none → Q (V.ref p) (upd H2 p (HO.tup ((V.str k :: xs).take (j + 1) ++ v :: ((V.str k :: xs).drop (j + 2) ++ []))))
  rw [ex]
  refine ⟨?_, fun T hT => q T _ ((k1.trans k2).trans (Kp.new hT)) (SqT.of upd_same)⟩
  rw [List.length_cons, List.length_set]
  exact Nat.le_trans (Nat.succ_le_succ hx) (by decide)
end
end Lz

set_option Elab.async false
set_option linter.all false
set_option maxRecDepth 100000
set_option maxHeartbeats 8000000
namespace Lz
open PySem PySem.Spec PyProof.Rows L2
theorem ix_kdK {X : Cx} {K : PySem.W.Frag} {d : Addr} {es : Array DictEntry} {n : Nat} (h : X.K = K) (D : KDict K X.w d es n) : IxR X (fun x y H Q => ∃ (z : Str) (u0 : Value) (v0 : V), x = .ref d ∧ y = .str z ∧ PySem.W.nsIn K d z = some (some u0) ∧ RelV v0 u0 ∧ Q v0 H) := by
  subst h
  intro value slice pins s σ H x y v u Q I rx ry h hs
  obtain ⟨z, u0, v0, rfl, rfl, e, r, q⟩ := h
  exact ix_kdict value slice pins s σ H _ _ v u Q I rx ry ⟨d, z, v0, rfl, rfl, ⟨es, n, u0, D.at_, D.lit, e, r⟩, q⟩ hs
def spDue (K : PySem.W.Frag) : Sp := fun vs H Q _ => ∃ (vp v : V) (fs : List Fn) (d t : Lz.P) (o : Out), vs = [vp, v] ∧ Dp K H vp (progD fs d) ∧ PrS fs d ∧ Dp K H v t.data ∧ t.okS (fs.map (·.1)) ∧ (∀ x, t ≠ .nam x) ∧ t.mw ≤ 9000 ∧ (∀ nm as b, t = .lt nm as b → b.mw ≤ 9000) ∧ (∀ k i j, t = .op k [.num i, .num j] → i.natAbs < 10 ^ 60 ∧ j.natAbs < 10 ^ 60) ∧ (wb fs t = true → o = .w t) ∧ (wb fs t = false → Due fs d t o) ∧
  ∀ (v' : V) (H' : Hp), Kp [] H H' → Dp K H' v' o.data → Q v' H'
/-- DUES as the top leaves it: each kind's rule -/
structure Rules (P : Program) (w : World) (K : PySem.W.Frag) (mg : Str → Option Value) (base : Heap) (dd : Addr) (S : Addr → Option Sp) : Prop where
  held : ∀ f sp, S f = some sp → Held P w K mg base 6 f sp
  rule : ∀ k, k ∈ (["fun", "give", "let", "shut", "plus", "less", "times", "below", "when", "left", "right"] : List Str) → ∃ f ks, PySem.W.nsIn K dd k = some (some (.ref f)) ∧ S f = some (spRule K ks) ∧ k ∈ ks
theorem pair_worth {fs : List Fn} {F : List Str} {as : List Lz.P} (h : (Lz.P.op "pair" as).okS F) : wb fs (.op "pair" as) = true := by
  obtain ⟨a, b, rfl⟩ := two_of (pair_two (show (("pair" : Str), as.length) ∈ kinds2 ∧ _ from h).1)
  exact worth_pair a b
theorem kind_rule {fs : List Fn} {F : List Str} {t : Lz.P} (h : t.okS F) (hn : ∀ x, t ≠ .nam x) (hw : wb fs t = false) : t.hd ∈ (["fun", "give", "let", "shut", "plus", "less", "times", "below", "when", "left", "right"] : List Str) := by
  cases t with
  | num i => rw [worth_num] at hw; cases hw
  | nam x => exact absurd rfl (hn x)
  | fn x => exact List.mem_cons_self
  | lt nm as b => exact (show ("let" : Str) ∈ (["fun", "give", "let", "shut", "plus", "less", "times", "below", "when", "left", "right"] : List Str) by decide +kernel)
  | op k as =>
    have hk := (show (k, as.length) ∈ kinds2 ∧ Lz.P.okSs F as from h).1
    have hp : k ≠ "pair" := fun e => by
      subst e
      rw [pair_worth h] at hw
      cases hw
    have h0 : kinds2.all (fun p => decide (p.1 = "pair") || decide (p.1 ∈ (["fun", "give", "let", "shut", "plus", "less", "times", "below", "when", "left", "right"] : List Str))) = true := by decide +kernel
    have q := List.all_eq_true.mp h0 _ hk
    simp only [Bool.or_eq_true, decide_eq_true_eq] at q
    exact q.resolve_left hp
section
variable {P : Program} {w : World} {K : PySem.W.Frag} {mg : Str → Option Value} {base : Heap} {f : Addr} {fd : FuncData}
abbrev sDue : Stmt := topS 27
theorem scDue : FnScope ["program", "part", "rule"] ["program", "part"] (defScope sDue) := ⟨rfl, rfl, rfl, by decide +kernel, rfl, by decide +kernel, by decide +kernel⟩
theorem ok_due {dd : Addr} {es : Array DictEntry} {n : Nat} {S : Addr → Option Sp} (F : Fun K "due" "due" sDue f fd) (mDUES : mg "DUES" = some (.ref dd)) (DD : KDict K w dd es n) (R : Rules P w K mg base dd S) (CIsWorth : C8.Cal P w K mg base 5 "is_worth" (spIsW K) []) : FnOk P w K mg base CX0 7 f fd ["program", "part"] (spDue K) := by
  refine F.ok scDue (fun vs H Q E h => ?_) (fun cdv A outer s H vs Q E hr h => ?_)
  · obtain ⟨vp, v, fs, d, t, o, rfl, _⟩ := h
    rfl
  have RA := R.held
  obtain ⟨vp, v, fs, d, t, o, rfl, hp, hok, hd, hto, hn, hm, hm2, hm3, hw1, hw2, q⟩ := h
  refine ⟨_, (pss_cons (ps_if (pt_truthK (K := K) rfl (C8.pe_c CIsWorth hr (by first | decide | omega) (by rfl) (pa_cons (pv 0) (pa_cons (pv 1) pa_nil))) (fun _ => rfl)) (pss_one (ps_ret (pe_tup (pa_cons pe_str (pa_cons (pv 1) pa_nil))))) pss_nil)
    (pss_cons (ps_set (i := 2) scDue.nd rfl (.inl rfl) (pe_ix (ix_kdK (K := K) rfl DD) (pe_glob (v := .ref dd) (by rfl) mDUES rfl) (pe_ix (ix_tupK (K := K) rfl) (pv 1) pe_int (fun _ _ => rfl)) (fun _ _ => rfl)))
    (pss_one (ps_ret (pe_callA (i := 2) RA (hr.mono (by omega)) (by rfl) (by first | exact .inl rfl | exact rfl | decide) (pa_cons (pv 0) (pa_cons (pv 1) pa_nil))))))), ?_⟩
  obtain ⟨p, xs, rfl, ht, hxs⟩ := hd_at hd
  refine ⟨_, rfl, _, rfl, vp, .ref p, fs, d, t, rfl, hp, hok, hd, hto, fun H1 k1 => ?_⟩
  refine ⟨_, rfl, ?_⟩
  cases hw : wb fs t with
  | true =>
    obtain rfl := hw1 hw
    refine ite2 (fun _ => ?_) (fun c => absurd rfl c)
    exact ⟨_, rfl, (by show 2 ≤ sizeLine; decide), fun T hT => q (.ref T) _ (k1.trans (Kp.new hT)) (Ww.new hT (Dp.keep k1 _ _ (data_fz _) hd))⟩
  | false =>
    refine ite2 (fun c => absurd c (by simp)) (fun _ => ?_)
    obtain ⟨rf, ks, h1, h2, h3⟩ := R.rule _ (kind_rule hto hn hw)
    refine ⟨_, rfl, p, _, _, _, rfl, rfl, k1.sqT ht, at_of (j := 0) rfl rfl, t.hd, _, .ref rf, rfl, rfl, h1, rfl, ?_⟩
    exact ⟨rf, _, rfl, h2, _, rfl, _, rfl, vp, .ref p, fs, d, t, o, rfl, Dp.keep k1 _ _ (progU_fz _ _) hp, hok, Dp.keep k1 _ _ (data_fz _) hd, hto, h3, hm, hm2, hm3, hw2 hw, fun v' H2 k2 h => q v' H2 (k1.trans k2) h⟩
end
end Lz

set_option Elab.async false
set_option linter.all false
set_option maxRecDepth 100000
set_option maxHeartbeats 4000000
/-! What nine steps make stays small: plain Lean. -/
namespace Lz
open PySem PySem.Spec PyProof.Rows L2
mutual
/-- all its numbers are small enough -/
def P.nums : P → Prop
  | .num i => i.natAbs < 10 ^ 60
  | .nam _ => True
  | .fn _ => True
  | .op _ as => P.numss as
  | .lt _ as b => P.numss as ∧ P.nums b
def P.numss : List P → Prop
  | [] => True
  | a :: as => P.nums a ∧ P.numss as
end
theorem numss_iff : ∀ {as : List P}, P.numss as ↔ ∀ a, a ∈ as → P.nums a
  | [] => ⟨fun _ _ h => (nomatch h), fun _ => True.intro⟩
  | x :: xs => by
    show (P.nums x ∧ P.numss xs) ↔ _
    rw [numss_iff]
    refine ⟨fun h d m => ?_, fun h => ⟨h x List.mem_cons_self, fun d m => h d (List.mem_cons_of_mem _ m)⟩⟩
    rcases List.mem_cons.mp m with e | m
    · rw [e]; exact h.1
    · exact h.2 d m
theorem numss_mem {as : List P} {a : P} (h : P.numss as) (m : a ∈ as) : P.nums a := numss_iff.mp h a m
/-- where a part waits undone -/
def lzy (k : Str) (j : Nat) : Prop := k = "shut" ∨ k = "pair" ∨ (k = "give" ∧ 1 ≤ j) ∨ (k = "when" ∧ 1 ≤ j)
mutual
/-- lets are small, and what waits undone -/
def P.iv (M D : Nat) : P → Prop
  | .num _ => True
  | .nam _ => True
  | .fn _ => True
  | .op k as => (∀ j a, as[j]? = some a → lzy k j → a.mw ≤ 2 * M + 1) ∧ P.ivs M D as
  | .lt _ as b => P.mws as ≤ M ∧ b.mw ≤ M ∧ P.dws as + 1 ≤ D ∧ b.dw + 1 ≤ D ∧ P.ivs M D as ∧ P.iv M D b
def P.ivs (M D : Nat) : List P → Prop
  | [] => True
  | a :: as => P.iv M D a ∧ P.ivs M D as
end
theorem ivs_iff {M D : Nat} : ∀ {as : List P}, P.ivs M D as ↔ ∀ a, a ∈ as → a.iv M D
  | [] => ⟨fun _ _ h => (nomatch h), fun _ => True.intro⟩
  | x :: xs => by
    show (P.iv M D x ∧ P.ivs M D xs) ↔ _
    rw [ivs_iff]
    refine ⟨fun h d m => ?_, fun h => ⟨h x List.mem_cons_self, fun d m => h d (List.mem_cons_of_mem _ m)⟩⟩
    rcases List.mem_cons.mp m with e | m
    · rw [e]; exact h.1
    · exact h.2 d m
theorem dws_mem {as : List P} {a : P} (h : a ∈ as) : a.dw ≤ P.dws as := by
  induction as with
  | nil => exact nomatch h
  | cons x r ih =>
    show a.dw ≤ max x.dw (P.dws r)
    rcases List.mem_cons.mp h with e | m
    · rw [e]; omega
    · have := ih m
      omega
section
variable {th : List (Str × P)} {M D : Nat}
mutual
theorem iv_put (hp : ∀ x p, (x, p) ∈ th → p.iv M D ∧ p.mw ≤ 2 * M + 1) : ∀ t : P, t.iv M D → (P.put th t).iv M D
  | .num _, _ => True.intro
  | .nam x, h => by
    cases e : getT th x with
    | some p =>
      obtain ⟨y, hy⟩ := getT_mem e
      have q := hp y p hy
      rw [put_name e]
      refine ⟨fun j a hj _ => ?_, q.1, True.intro⟩
      have : a ∈ [p] := List.mem_of_getElem? hj
      rw [List.mem_singleton.mp this]
      exact q.2
    | none => rw [put_name0 e]; exact h
  | .fn _, _ => True.intro
  | .op k as, h => by
    show (∀ j a, (if k = "shut" then as else P.puts th as)[j]? = some a → lzy k j → a.mw ≤ 2 * M + 1) ∧ P.ivs M D (if k = "shut" then as else P.puts th as)
    by_cases e : k = "shut"
    · rw [if_pos e]; exact h
    · rw [if_neg e]
      refine ⟨fun j a hj hl => ?_, ivs_put hp as h.2⟩
      rw [puts_map, List.getElem?_map] at hj
      cases e2 : as[j]? with
      | none => rw [e2] at hj; cases hj
      | some b =>
        rw [e2] at hj
        obtain rfl : P.put th b = a := Option.some.inj hj
        rw [mw_put]
        exact h.1 j b e2 hl
  | .lt nm as b, h => by
    have h' : P.mws as ≤ M ∧ b.mw ≤ M ∧ P.dws as + 1 ≤ D ∧ b.dw + 1 ≤ D ∧ P.ivs M D as ∧ P.iv M D b := h
    refine ⟨?_, ?_, ?_, ?_, ivs_put hp as h'.2.2.2.2.1, iv_put hp b h'.2.2.2.2.2⟩
    · rw [mws_puts]; exact h'.1
    · rw [mw_put]; exact h'.2.1
    · rw [dws_puts]; exact h'.2.2.1
    · rw [dw_put]; exact h'.2.2.2.1
theorem ivs_put (hp : ∀ x p, (x, p) ∈ th → p.iv M D ∧ p.mw ≤ 2 * M + 1) : ∀ as : List P, P.ivs M D as → P.ivs M D (P.puts th as)
  | [], _ => True.intro
  | a :: as, h => ⟨iv_put hp a h.1, ivs_put hp as h.2⟩
end
mutual
theorem nums_put (hp : ∀ x p, (x, p) ∈ th → P.nums p) : ∀ t : P, P.nums t → P.nums (P.put th t)
  | .num _, h => h
  | .nam x, h => by
    cases e : getT th x with
    | some p =>
      obtain ⟨y, hy⟩ := getT_mem e
      rw [put_name e]
      exact ⟨hp y p hy, True.intro⟩
    | none => rw [put_name0 e]; exact h
  | .fn _, _ => True.intro
  | .op k as, h => by
    show P.numss (if k = "shut" then as else P.puts th as)
    by_cases e : k = "shut"
    · rw [if_pos e]; exact h
    · rw [if_neg e]; exact numss_put hp as h
  | .lt nm as b, h => ⟨numss_put hp as h.1, nums_put hp b h.2⟩
theorem numss_put (hp : ∀ x p, (x, p) ∈ th → P.nums p) : ∀ as : List P, P.numss as → P.numss (P.puts th as)
  | [], _ => True.intro
  | a :: as, h => ⟨nums_put hp a h.1, numss_put hp as h.2⟩
end
end
mutual
theorem nums_fit {F : List Str} : ∀ (t : P) (sc : List Str), t.fit F sc → P.nums t
  | .num _, _, h => h
  | .nam _, _, _ => True.intro
  | .fn _, _, _ => True.intro
  | .op _ as, sc, h => numss_fit as sc h
  | .lt nm as b, sc, h => ⟨numss_fit as _ h.2.2.1, nums_fit b _ h.2.2.2⟩
theorem numss_fit {F : List Str} : ∀ (as : List P) (sc : List Str), P.fits F as sc → P.numss as
  | [], _, _ => True.intro
  | a :: as, sc, h => ⟨nums_fit a sc h.1, numss_fit as sc h.2⟩
end
theorem mws_cons (a : P) (as : List P) : P.mws (a :: as) = a.mw + P.mws as := by
  show (a.alw ++ P.alws as).length = _
  rw [List.length_append]
  rfl
theorem mw_op {k : Str} {as : List P} (hk : k ≠ "shut") : (P.op k as).mw = P.mws as + 1 := by
  have h1 := mw_win (P.op k as)
  have h2 : (P.op k as).win = as := if_neg hk
  rw [h2] at h1
  exact h1
theorem mw_lt (nm : List Str) (as : List P) (b : P) : (P.lt nm as b).mw = P.mws as + b.mw + 1 := by
  have h1 := mw_win (P.lt nm as b)
  have h2 : P.mws (P.lt nm as b).win = P.mws as + b.mw := by
    show P.mws (as ++ [b]) = _
    rw [mws_append, mws_one]
  rw [h2] at h1
  exact h1
theorem mw_shut (as : List P) : (P.op "shut" as).mw = 1 := by
  have h1 := mw_win (P.op "shut" as)
  have h2 : (P.op "shut" as).win = [] := by
    show (if ("shut" : Str) = "shut" then [] else as) = []
    rw [if_pos rfl]
  rw [h2] at h1
  exact h1
theorem dw_op {k : Str} {as : List P} (hk : k ≠ "shut") : (P.op k as).dw = 1 + P.dws as := by
  show 1 + (if k = "shut" then 0 else P.dws as) = _
  rw [if_neg hk]
theorem kind_not_shut {k : Str} {n : Nat} (h : (k, n) ∈ kinds) : k ≠ "shut" := fun e => by
  have h0 : kinds.all (fun p => decide (p.1 ≠ "shut")) = true := by decide +kernel
  exact (of_decide_eq_true (List.all_eq_true.mp h0 _ h)) e
mutual
theorem iv_ok {M D : Nat} : ∀ t : P, t.ok → t.mw ≤ M → t.dw ≤ D → t.iv M D
  | .num _, _, _, _ => True.intro
  | .nam _, _, _, _ => True.intro
  | .fn _, _, _, _ => True.intro
  | .op k as, h, hm, hd => by
    have h' : (k, as.length) ∈ kinds ∧ P.oks as := h
    have hk := kind_not_shut h'.1
    rw [mw_op hk] at hm
    rw [dw_op hk] at hd
    refine ⟨fun j a hj _ => ?_, ivs_ok as h'.2 (by omega) (by omega)⟩
    have := mws_mem (List.mem_of_getElem? hj)
    omega
  | .lt nm as b, h, hm, hd => by
    have h' : nm.length = as.length ∧ (∀ x, x ∈ nm → nmOk x) ∧ P.oks as ∧ P.ok b := h
    rw [mw_lt] at hm
    have hd' : 1 + max (P.dws as) b.dw ≤ D := hd
    exact ⟨by omega, by omega, by omega, by omega, ivs_ok as h'.2.2.1 (by omega) (by omega), iv_ok b h'.2.2.2 (by omega) (by omega)⟩
theorem ivs_ok {M D : Nat} : ∀ as : List P, P.oks as → P.mws as ≤ M → P.dws as ≤ D → P.ivs M D as
  | [], _, _, _ => True.intro
  | a :: as, h, hm, hd => by
    rw [mws_cons] at hm
    have hd' : max a.dw (P.dws as) ≤ D := hd
    exact ⟨iv_ok a h.1 (by omega) (by omega), ivs_ok as h.2 (by omega) (by omega)⟩
end
theorem mws_set : ∀ {as : List P} {j : Nat} {a u : P}, as[j]? = some a → P.mws (as.set j u) + a.mw = P.mws as + u.mw
  | [], j, a, u, h => by simp at h
  | x :: as, 0, a, u, h => by
    obtain rfl : x = a := Option.some.inj h
    show P.mws (u :: as) + _ = _
    rw [mws_cons, mws_cons]
    omega
  | x :: as, j + 1, a, u, h => by
    have ih := mws_set (as := as) (j := j) (u := u) h
    show P.mws (x :: as.set j u) + _ = _
    rw [mws_cons, mws_cons]
    omega
theorem deeps_set : ∀ (as : List P) (j : Nat) (u : P), P.deeps (as.set j u) ≤ max (P.deeps as) u.deep
  | [], j, u => Nat.zero_le _
  | x :: as, 0, u => by
    show max u.deep (P.deeps as) ≤ max (max x.deep (P.deeps as)) u.deep
    omega
  | x :: as, j + 1, u => by
    have := deeps_set as j u
    show max x.deep (P.deeps (as.set j u)) ≤ max (max x.deep (P.deeps as)) u.deep
    omega
theorem set_mem {as : List P} {j : Nat} {u b : P} (h : b ∈ as.set j u) : b = u ∨ b ∈ as := by
  rcases List.mem_or_eq_of_mem_set h with m | e
  · exact .inr m
  · exact .inl e
/-! ### what is given -/
theorem gv_iv {M D : Nat} {t h : P} {ts : List P} (g : Gv t h ts) : t.iv M D → ∀ x, x ∈ ts → x.iv M D ∧ x.mw ≤ 2 * M + 1 := by
  induction g with
  | stop _ => exact fun _ _ m => nomatch m
  | @give a b h ts _ ih =>
    intro hi x m
    have hi' : (∀ j c, [a, b][j]? = some c → lzy "give" j → c.mw ≤ 2 * M + 1) ∧ P.iv M D a ∧ P.iv M D b ∧ True := hi
    rcases List.mem_append.mp m with m | m
    · exact ih hi'.2.1 x m
    · rw [List.mem_singleton.mp m]
      exact ⟨hi'.2.2.1, hi'.1 1 b rfl (.inr (.inr (.inl ⟨rfl, Nat.le_refl _⟩)))⟩
theorem gv_deep {t h : P} {ts : List P} (g : Gv t h ts) : (∀ x, x ∈ ts → x.deep + 1 ≤ t.deep) ∧ ts.length + 1 ≤ t.deep := by
  induction g with
  | @stop t _ => exact ⟨fun _ m => (nomatch m), deep_pos t⟩
  | @give a b h ts _ ih =>
    have e : (P.op "give" [a, b]).deep = 1 + max a.deep (max b.deep 0) := rfl
    refine ⟨fun x m => ?_, ?_⟩
    · rcases List.mem_append.mp m with m | m
      · have := ih.1 x m
        omega
      · rw [List.mem_singleton.mp m]
        omega
    · rw [List.length_append]
      show ts.length + 1 + 1 ≤ _
      have := ih.2
      omega
theorem gv_all {Q : P → Prop} (hq : ∀ a b, Q (.op "give" [a, b]) → Q a ∧ Q b) {t h : P} {ts : List P} (g : Gv t h ts) : Q t → ∀ x, x ∈ ts → Q x := by
  induction g with
  | stop _ => exact fun _ _ m => nomatch m
  | @give a b h ts _ ih =>
    intro hi x m
    rcases List.mem_append.mp m with m | m
    · exact ih (hq a b hi).1 x m
    · rw [List.mem_singleton.mp m]
      exact (hq a b hi).2
/-! ### one step -/
/-- a closed part that is stepped -/
structure Ok10 (fs : List Fn) (M D : Nat) (t : P) : Prop where
  ok : t.okS (fs.map (·.1))
  cl : t.cl []
  nums : P.nums t
  iv : t.iv M D
/-- a program that is stepped through -/
structure Pr10 (fs : List Fn) (d : P) (M D : Nat) : Prop where
  ok : ∀ g, g ∈ fnsOf fs d → g.2.2.okS (fs.map (·.1))
  cl : ∀ g, g ∈ fnsOf fs d → g.2.2.cl g.2.1
  nums : ∀ g, g ∈ fnsOf fs d → P.nums g.2.2
  iv : ∀ g, g ∈ fnsOf fs d → g.2.2.iv M D
  mw : ∀ g, g ∈ fnsOf fs d → g.2.2.mw ≤ M
  dw : ∀ g, g ∈ fnsOf fs d → g.2.2.deep ≤ D
theorem Fits.pr10 {fs : List Fn} {d : P} (h : Fits fs d) : Pr10 fs d 60 12 where
  ok := fun g m => okS_of g.2.2 g.2.1 (h.bd g m).ok (h.ft g m)
  cl := fun g m => cl_of_fit g.2.2 g.2.1 (h.bd g m).ok (h.ft g m)
  nums := fun g m => nums_fit g.2.2 g.2.1 (h.ft g m)
  iv := fun g m => iv_ok g.2.2 (h.bd g m).ok (Nat.le_trans (mw_many _) (h.bd g m).many) (Nat.le_trans (dw_deep _) (h.bd g m).deep)
  mw := fun g m => Nat.le_trans (mw_many _) (h.bd g m).many
  dw := fun g m => (h.bd g m).deep
theorem Ok10.inn {fs : List Fn} {M D : Nat} {k : Str} {as : List P} {a : P} (g : Ok10 fs M D (.op k as)) (m : a ∈ as) : Ok10 fs M D a where
  ok := okSs_iff.mp (show (k, as.length) ∈ kinds2 ∧ P.okSs (fs.map (·.1)) as from g.ok).2 a m
  cl := by
    have h : P.cls (if k = "shut" then [] else []) as := g.cl
    rw [ite_self] at h
    exact cls_iff.mp h a m
  nums := numss_mem (show P.numss as from g.nums) m
  iv := ivs_iff.mp (show _ ∧ P.ivs M D as from g.iv).2 a m
theorem Ok10.put {fs : List Fn} {M D : Nat} {th : List (Str × P)} {b : P} {xs : List Str} (ho : b.okS (fs.map (·.1))) (hc : b.cl xs) (hn : P.nums b) (hi : b.iv M D) (hx : ∀ x, x ∈ xs → getT th x ≠ none) (hth : ∀ x p, (x, p) ∈ th → Ok10 fs M D p ∧ p.mw ≤ 2 * M + 1) : Ok10 fs M D (P.put th b) where
  ok := okS_put (fun x p m => (hth x p m).1.ok) b ho
  cl := cl_put (fun x p m => (hth x p m).1.cl) b (fun x m => .inr (hx x m)) hc
  nums := nums_put (fun x p m => (hth x p m).1.nums) b hn
  iv := iv_put (fun x p m => ⟨(hth x p m).1.iv, (hth x p m).2⟩) b hi
theorem zip_mem2 {α β : Type} : ∀ {xs : List α} {ys : List β} {x : α} {y : β}, (x, y) ∈ xs.zip ys → y ∈ ys
  | [], _, _, _, h => by simp at h
  | _ :: _, [], _, _, h => by simp at h
  | a :: xs, b :: ys, x, y, h => by
    rw [List.zip_cons_cons] at h
    rcases List.mem_cons.mp h with e | m
    · cases e
      exact List.mem_cons_self
    · exact List.mem_cons_of_mem _ (zip_mem2 m)
theorem zip_names {β : Type} : ∀ {xs : List Str} {ys : List β}, xs.length = ys.length → (xs.zip ys).map (·.1) = xs
  | [], [], _ => rfl
  | x :: xs, y :: ys, h => by
    show x :: (xs.zip ys).map (·.1) = x :: xs
    rw [zip_names (Nat.succ.inj h)]
  | [], _ :: _, h => nomatch h
  | _ :: _, [], h => nomatch h
/-- what one step makes is a closed part again, and not much greater -/
theorem due_ok {fs : List Fn} {d t u : P} {x : Str} {M D : Nat} (pr : Pr10 fs d M D) (q : Due fs d t (.s x u)) (g : Ok10 fs M D t) : Ok10 fs M D u ∧ u.mw ≤ t.mw + (2 * M + 1) ∧ u.deep + 1 ≤ t.deep + D := by
  have hD : 1 ≤ D := Nat.le_trans (deep_pos d) (pr.dw (askedFn d) (List.mem_append_right _ List.mem_cons_self))
  cases q with
  | shut =>
    refine ⟨g.inn List.mem_cons_self, ?_, ?_⟩
    · have := (show _ ∧ _ from g.iv).1 0 u rfl (.inl rfl)
      omega
    · have e : (P.op "shut" [u]).deep = 1 + max u.deep 0 := rfl
      omega
  | @lett nm as b =>
    have ho : nm.length = as.length ∧ (∀ x, x ∈ nm → nmOk x) ∧ P.okSs (fs.map (·.1)) as ∧ P.okS (fs.map (·.1)) b := g.ok
    have hc : P.cls ([] ++ nm) as ∧ P.cl ([] ++ nm) b := g.cl
    have hn : P.numss as ∧ P.nums b := g.nums
    have hi : P.mws as ≤ M ∧ b.mw ≤ M ∧ P.dws as + 1 ≤ D ∧ b.dw + 1 ≤ D ∧ P.ivs M D as ∧ P.iv M D b := g.iv
    have hth : ∀ x p, (x, p) ∈ mergeT [] (nm.zip (as.map fun a => P.lt nm as a)) → ∃ a, a ∈ as ∧ p = P.lt nm as a := fun x p m => by
      rcases mergeT_mem m with ⟨z, hz⟩ | m
      · obtain ⟨a, ha, e⟩ := List.mem_map.mp (zip_mem2 hz)
        exact ⟨a, ha, e.symm⟩
      · exact nomatch m
    refine ⟨Ok10.put (xs := nm) ho.2.2.2 hc.2 hn.2 hi.2.2.2.2.2 (fun x m => mergeT_get x _ _ (.inr ?_)) fun x p m => ?_, ?_, ?_⟩
    · rw [zip_names (by rw [List.length_map]; exact ho.1)]
      exact m
    · obtain ⟨a, ha, rfl⟩ := hth x p m
      have h1 := mws_mem ha
      have h2 := dws_mem ha
      refine ⟨⟨⟨ho.1, ho.2.1, ho.2.2.1, okSs_iff.mp ho.2.2.1 a ha⟩, ⟨hc.1, cls_iff.mp hc.1 a ha⟩, ⟨hn.1, numss_mem hn.1 ha⟩, ⟨hi.1, by omega, hi.2.2.1, by omega, hi.2.2.2.2.1, ivs_iff.mp hi.2.2.2.2.1 a ha⟩⟩, ?_⟩
      rw [mw_lt]
      omega
    · rw [mw_put]
      have := hi.2.1
      omega
    · have e : (P.lt nm as b).deep = 1 + max (P.deeps as) b.deep := rfl
      have h1 := deep_put (th := mergeT [] (nm.zip (as.map fun a => P.lt nm as a))) (D := 1 + P.deeps as) (fun x p m => by
        obtain ⟨a, ha, rfl⟩ := hth x p m
        have := deeps_mem ha
        show 1 + max (P.deeps as) a.deep ≤ _
        omega) b
      have h2 := hi.2.2.2.1
      omega
  | @call _ ts f i hw hg hi hl =>
    have hf : f ∈ fnsOf fs d := List.mem_of_getElem? hi
    have hts := gv_iv hg g.iv
    have hall : ∀ x, x ∈ ts → Ok10 fs M D x := gv_all (Q := fun t => Ok10 fs M D t) (fun a b h => ⟨h.inn List.mem_cons_self, h.inn (List.mem_cons_of_mem _ List.mem_cons_self)⟩) hg g
    have hth : ∀ x p, (x, p) ∈ mergeT [] (f.2.1.zip ts) → p ∈ ts := fun x p m => by
      rcases mergeT_mem m with ⟨z, hz⟩ | m
      · exact zip_mem2 hz
      · exact nomatch m
    refine ⟨Ok10.put (xs := f.2.1) (pr.ok f hf) (pr.cl f hf) (pr.nums f hf) (pr.iv f hf) (fun x m => mergeT_get x _ _ (.inr ?_)) fun x p m => ⟨hall p (hth x p m), (hts p (hth x p m)).2⟩, ?_, ?_⟩
    · rw [zip_names hl]
      exact m
    · rw [mw_put]
      have := pr.mw f hf
      omega
    · have h1 := deep_put (th := mergeT [] (f.2.1.zip ts)) (D := t.deep - 1) (fun x p m => by have := (gv_deep hg).1 p (hth x p m); omega) f.2.2
      have h0 := deep_pos t
      have h2 := pr.dw f hf
      have h3 := dw_deep f.2.2
      omega
  | @two k i j hk h =>
    refine ⟨⟨True.intro, True.intro, h, True.intro⟩, ?_, ?_⟩
    · have : (P.num (comeOf k i j)).mw = 1 := rfl
      omega
    · have := deep_pos (P.op k [.num i, .num j])
      show 1 + 1 ≤ _
      omega
  | @when i b c =>
    have hm := mw_op (k := "when") (as := [.num i, b, c]) (by decide +kernel)
    have h1 : P.mws [.num i, b, c] = 1 + (b.mw + (c.mw + 0)) := by
      rw [mws_cons, mws_cons, mws_cons]
      rfl
    have e : (P.op "when" [.num i, b, c]).deep = 1 + max 1 (max b.deep (max c.deep 0)) := rfl
    split
    · exact ⟨g.inn (List.mem_cons_of_mem _ List.mem_cons_self), by omega, by omega⟩
    · exact ⟨g.inn (List.mem_cons_of_mem _ (List.mem_cons_of_mem _ List.mem_cons_self)), by omega, by omega⟩
  | @side k a b hk =>
    have hks : k ≠ "shut" := by rcases hk with rfl | rfl <;> decide +kernel
    have hm := mw_op (k := k) (as := [.op "pair" [a, b]]) hks
    have hm2 := mw_op (k := "pair") (as := [a, b]) (by decide +kernel)
    have h1 : P.mws [P.op "pair" [a, b]] = (P.op "pair" [a, b]).mw + 0 := by rw [mws_cons]; rfl
    have h2 : P.mws [a, b] = a.mw + (b.mw + 0) := by rw [mws_cons, mws_cons]; rfl
    have e : (P.op k [P.op "pair" [a, b]]).deep = 1 + max (1 + max a.deep (max b.deep 0)) 0 := rfl
    have gp := g.inn (a := .op "pair" [a, b]) List.mem_cons_self
    split
    · exact ⟨gp.inn List.mem_cons_self, by omega, by omega⟩
    · exact ⟨gp.inn (List.mem_cons_of_mem _ List.mem_cons_self), by omega, by omega⟩
theorem gv_nil {a h : P} {ts : List P} (g : Gv a h ts) (e : ts = []) : h = a := by
  cases g with
  | stop _ => rfl
  | give _ => exact absurd e (by simp)
theorem shut_one {n : Nat} (h : (("shut" : Str), n) ∈ kinds2) : n = 1 := by
  unfold kinds2 kinds at h
  simp only [List.mem_cons, Prod.mk.injEq, List.not_mem_nil, or_false] at h
  rcases h with h | h | h | h | h | h | h | h | h | h
  · exact h.2
  all_goals exact absurd h.1 (by decide +kernel)
/-- what is no worth has a next step, a fault or a part to go to -/
theorem due_ex {fs : List Fn} {d t : P} {M D : Nat} (hnd : (fs.map (·.1)).Nodup) (g : Ok10 fs M D t) (hw : wb fs t = false) : ∃ o, Due fs d t o ∧ ((∃ x, o = .f x) ∨ (∃ x u, o = .s x u) ∨ ∃ (k : Str) (as : List P) (a : P) (j : Nat), t = .op k as ∧ o = .inn (j + 1) ∧ as[j]? = some a ∧ wb fs a = false ∧ ¬ lzy k j) := by
  have call : ∀ (f : Str) (ts : List P), Gv t (.fn f) ts → f ∈ fs.map (·.1) → worthB fs ts.length (.fn f) = false → (∀ g, g ∈ fs → g.1 = f → ts.length ≤ g.2.1.length) → (t = .fn f ∨ ∃ a b, t = .op "give" [a, b] ∧ wb fs a = true ∧ a.hd ≠ "number" ∧ a.hd ≠ "pair") → ∃ o, Due fs d t o ∧ ((∃ x, o = .f x) ∨ (∃ x u, o = .s x u) ∨ ∃ (k : Str) (as : List P) (a : P) (j : Nat), t = .op k as ∧ o = .inn (j + 1) ∧ as[j]? = some a ∧ wb fs a = false ∧ ¬ lzy k j) := fun f ts hg hf hb hle hs => by
    obtain ⟨gg, hgm, rfl⟩ := List.mem_map.mp hf
    obtain ⟨i, hi⟩ := List.mem_iff_getElem?.mp hgm
    have hwt := wants_at hnd hi
    rw [worth_fn, hwt] at hb
    have hlt : ¬ ts.length < gg.2.1.length := of_decide_eq_false hb
    have h2 := hle gg hgm rfl
    have hi' : (fnsOf fs d)[i]? = some gg := by
      show (fs ++ [askedFn d])[i]? = some gg
      rw [List.getElem?_append_left (List.getElem?_eq_some_iff.mp hi).1]
      exact hi
    exact ⟨_, .call hs hg hi' (by omega), .inr (.inl ⟨_, _, rfl⟩)⟩
  cases t with
  | num i => rw [worth_num] at hw; cases hw
  | nam x => exact nomatch (show x ∈ ([] : List Str) from g.cl)
  | fn f =>
    have hf : nmOk f ∧ f ∈ fs.map (·.1) := g.ok
    have hs : Gv (.fn f) (.fn f) [] := .stop (by show ("fun" : Str) ≠ "give"; decide +kernel)
    have hb := wb_eq (fs := fs) hs.spine
    rw [hw] at hb
    exact call f [] hs hf.2 hb.symm (fun _ _ _ => Nat.zero_le _) (.inl rfl)
  | lt nm as b => exact ⟨_, .lett, .inr (.inl ⟨_, _, rfl⟩)⟩
  | op k as =>
    have hk : (k, as.length) ∈ kinds2 := (show (k, as.length) ∈ kinds2 ∧ P.okSs (fs.map (·.1)) as from g.ok).1
    have hks : k = "shut" ∨ k = "give" ∨ k ∈ fours ∨ k = "when" ∨ k = "pair" ∨ (k = "left" ∨ k = "right") := by
      unfold kinds2 kinds at hk
      simp only [List.mem_cons, Prod.mk.injEq, List.not_mem_nil, or_false] at hk
      rcases hk with h | h | h | h | h | h | h | h | h | h
      · exact .inl h.1
      · exact .inr (.inl h.1)
      · exact .inr (.inr (.inl (by rw [h.1]; decide +kernel)))
      · exact .inr (.inr (.inl (by rw [h.1]; decide +kernel)))
      · exact .inr (.inr (.inl (by rw [h.1]; decide +kernel)))
      · exact .inr (.inr (.inl (by rw [h.1]; decide +kernel)))
      · exact .inr (.inr (.inr (.inl h.1)))
      · exact .inr (.inr (.inr (.inr (.inl h.1))))
      · exact .inr (.inr (.inr (.inr (.inr (.inl h.1)))))
      · exact .inr (.inr (.inr (.inr (.inr (.inr h.1)))))
    rcases hks with rfl | rfl | h4 | rfl | rfl | hs
    · obtain ⟨a, rfl⟩ := one_of (shut_one hk)
      exact ⟨_, .shut, .inr (.inl ⟨_, _, rfl⟩)⟩
    · obtain ⟨a, b, rfl⟩ := two_of (give_two hk)
      cases ha : wb fs a with
      | false => exact ⟨_, .giveIn ha, .inr (.inr ⟨_, _, a, 0, rfl, rfl, rfl, ha, fun h => by rcases h with h | h | h | h <;> first | exact absurd h (by decide +kernel) | exact absurd h.2 (by decide) | exact absurd h.1 (by decide +kernel)⟩)⟩
      | true =>
        by_cases h1 : a.hd = "number"
        · exact ⟨_, .giveF ha (.inl h1), .inl ⟨_, rfl⟩⟩
        by_cases h2 : a.hd = "pair"
        · exact ⟨_, .giveF ha (.inr h2), .inl ⟨_, rfl⟩⟩
        have hao : a.okS (fs.map (·.1)) := (g.inn (a := a) List.mem_cons_self).ok
        obtain ⟨h, ts, hg, hho, _⟩ := gv_ex a.many a (Nat.le_refl _) hao
        have hwa := wb_eq (fs := fs) hg.spine
        rw [ha] at hwa
        have hf : h.hd = "fun" := by
          by_cases hf : h.hd = "fun"
          · exact hf
          · rw [worth_not hf] at hwa
            have hwa := hwa.symm
            rw [Bool.and_eq_true, Bool.or_eq_true, decide_eq_true_iff, decide_eq_true_iff, decide_eq_true_iff] at hwa
            have e0 : ts = [] := List.eq_nil_of_length_eq_zero hwa.1
            have e1 : h = a := gv_nil hg e0
            rw [e1] at hwa
            exact hwa.2.elim (fun e => absurd e h1) (fun e => absurd e h2)
        obtain ⟨f, rfl, hfm⟩ := hd_fun hho hf
        have hg2 : Gv (.op "give" [a, b]) (.fn f) (ts ++ [b]) := .give hg
        have hwt := wb_eq (fs := fs) hg2.spine
        rw [hw] at hwt
        refine call f (ts ++ [b]) hg2 hfm hwt.symm (fun gg hgm e => ?_) (.inr ⟨a, b, rfl, ha, h1, h2⟩)
        obtain ⟨i, hi⟩ := List.mem_iff_getElem?.mp hgm
        have hw2 := wants_at hnd hi
        rw [e] at hw2
        rw [worth_fn, hw2] at hwa
        have := of_decide_eq_true hwa.symm
        rw [List.length_append]
        exact this
    · obtain ⟨a, b, rfl⟩ := two_of (fours_two h4 hk)
      have hnz : ∀ j, ¬ lzy k j := fun j h => by
        have hf := fours_not h4
        rcases h with h | h | h | h
        · exact hf.1 h
        · rw [h] at h4
          exact absurd h4 (by decide +kernel)
        · exact hf.2.1 h.1
        · exact hf.2.2.1 h.1
      cases ha : wb fs a with
      | false => exact ⟨_, .two1 h4 ha, .inr (.inr ⟨_, _, a, 0, rfl, rfl, rfl, ha, hnz 0⟩)⟩
      | true =>
        by_cases h1 : a.hd = "number"
        · obtain ⟨i, rfl⟩ := num_of (g.inn (a := a) List.mem_cons_self).ok h1
          cases hb : wb fs b with
          | false => exact ⟨_, .two2 h4 hb, .inr (.inr ⟨_, _, b, 1, rfl, rfl, rfl, hb, hnz 1⟩)⟩
          | true =>
            by_cases h2 : b.hd = "number"
            · obtain ⟨j, rfl⟩ := num_of (g.inn (a := b) (List.mem_cons_of_mem _ List.mem_cons_self)).ok h2
              by_cases h3 : (comeOf k i j).natAbs < 10 ^ 60
              · exact ⟨_, .two h4 h3, .inr (.inl ⟨_, _, rfl⟩)⟩
              · exact ⟨_, .twoG h4 h3, .inl ⟨_, rfl⟩⟩
            · exact ⟨_, .twoF2 h4 hb h2, .inl ⟨_, rfl⟩⟩
        · exact ⟨_, .twoF1 h4 ha h1, .inl ⟨_, rfl⟩⟩
    · obtain ⟨a, b, c, rfl⟩ := three_of (when_three hk)
      cases ha : wb fs a with
      | false => exact ⟨_, .when1 ha, .inr (.inr ⟨_, _, a, 0, rfl, rfl, rfl, ha, fun h => by rcases h with h | h | h | h <;> first | exact absurd h (by decide +kernel) | exact absurd h.2 (by decide) | exact absurd h.1 (by decide +kernel)⟩)⟩
      | true =>
        by_cases h1 : a.hd = "number"
        · obtain ⟨i, rfl⟩ := num_of (g.inn (a := a) List.mem_cons_self).ok h1
          exact ⟨_, .when, .inr (.inl ⟨_, _, rfl⟩)⟩
        · exact ⟨_, .whenF ha h1, .inl ⟨_, rfl⟩⟩
    · obtain ⟨a, b, rfl⟩ := two_of (pair_two hk)
      rw [worth_pair] at hw
      cases hw
    · obtain ⟨a, rfl⟩ := one_of (side_one hs hk)
      have hnz : ∀ j, ¬ lzy k j := fun j h => by
        rcases hs with rfl | rfl <;> rcases h with h | h | h | h <;> first | exact absurd h (by decide +kernel) | exact absurd h.1 (by decide +kernel)
      cases ha : wb fs a with
      | false => exact ⟨_, .side1 hs ha, .inr (.inr ⟨_, _, a, 0, rfl, rfl, rfl, ha, hnz 0⟩)⟩
      | true =>
        by_cases h1 : a.hd = "pair"
        · obtain ⟨as, rfl, hka, _⟩ := hd_op (g.inn (a := a) List.mem_cons_self).ok h1 (by decide +kernel) (by decide +kernel) (by decide +kernel) (by decide +kernel)
          obtain ⟨x, y, rfl⟩ := two_of (pair_two hka)
          exact ⟨_, .side hs, .inr (.inl ⟨_, _, rfl⟩)⟩
        · exact ⟨_, .sideF hs ha h1, .inl ⟨_, rfl⟩⟩
end Lz

set_option Elab.async false
set_option linter.all false
set_option maxRecDepth 100000
set_option maxHeartbeats 8000000
namespace Lz
open PySem PySem.Spec PyProof.Rows L2
theorem win_mwA {t a : Lz.P} (m : a ∈ t.win) : a.mw + 1 ≤ t.mw := by
  have h1 := mws_mem m
  have h2 := mw_win t
  omega
/-- what is around: kind, parts, place -/
abbrev Ctxt := Str × List Lz.P × Nat
def Out.back (c : Ctxt) : Out → Out
  | .s x t => .s x (.op c.1 (c.2.1.set c.2.2 t))
  | o => o
/-- the innermost first -/
def plug : List Ctxt → Out → Out
  | [], o => o
  | c :: r, o => plug r (o.back c)
/-- the next step, by those of parts within -/
inductive StepR (fs : List Fn) (d : Lz.P) : Lz.P → Out → Prop
  | here {t u : Lz.P} {x : Str} : wb fs t = false → Due fs d t (.s x u) → StepR fs d t (.s x u)
  | fault {t : Lz.P} {x : Str} : wb fs t = false → Due fs d t (.f x) → StepR fs d t (.f x)
  | inn {k : Str} {as : List Lz.P} {a : Lz.P} {j : Nat} {o : Out} : wb fs (.op k as) = false → Due fs d (.op k as) (.inn (j + 1)) → as[j]? = some a → StepR fs d a o → StepR fs d (.op k as) (o.back (k, as, j))
/-- what each part on the way must keep -/
structure Fine (fs : List Fn) (t : Lz.P) : Prop where
  ok : t.okS (fs.map (·.1))
  nn : ∀ x, t ≠ .nam x
  mw : t.mw ≤ 9000
  lt : ∀ nm as b, t = .lt nm as b → b.mw ≤ 9000
  nb : ∀ k i j, t = .op k [.num i, .num j] → i.natAbs < 10 ^ 60 ∧ j.natAbs < 10 ^ 60
/-- contexts as the list around has them, the outermost first -/
def Aro (K : PySem.W.Frag) (H : Hp) : List V → List Ctxt → Prop
  | [], [] => True
  | v :: vs, c :: cs => (∃ (za po : Addr), v = .ref za ∧ SqT K H za [.ref po, .int ((c.2.2 + 1 : Nat) : Int)] ∧ Dp K H (.ref po) (Lz.P.op c.1 c.2.1).data ∧ c.2.2 < c.2.1.length ∧ c.2.1.length ≤ 3) ∧ Aro K H vs cs
  | _, _ => False
theorem Aro.keep {K : PySem.W.Frag} {H H' : Hp} {S : List Addr} (k : Kp S H H') : ∀ {vs : List V} {cs : List Ctxt}, Aro K H vs cs → Aro K H' vs cs
  | [], [], _ => True.intro
  | v :: vs, c :: cs, ⟨⟨za, po, e, h1, h2, h3⟩, r⟩ => ⟨⟨za, po, e, k.sqT h1, Dp.keep k _ _ (data_fz _) h2, h3⟩, Aro.keep k r⟩
  | [], _ :: _, h => h.elim
  | _ :: _, [], h => h.elim
theorem Aro.snoc {K : PySem.W.Frag} {H : Hp} {v : V} {c : Ctxt} (hv : ∃ (za po : Addr), v = .ref za ∧ SqT K H za [.ref po, .int ((c.2.2 + 1 : Nat) : Int)] ∧ Dp K H (.ref po) (Lz.P.op c.1 c.2.1).data ∧ c.2.2 < c.2.1.length ∧ c.2.1.length ≤ 3) : ∀ {vs : List V} {cs : List Ctxt}, Aro K H vs cs → Aro K H (vs ++ [v]) (cs ++ [c])
  | [], [], _ => ⟨hv, True.intro⟩
  | w :: vs, e :: cs, ⟨h, r⟩ => ⟨h, Aro.snoc hv r⟩
  | [], _ :: _, h => h.elim
  | _ :: _, [], h => h.elim
theorem Aro.length {K : PySem.W.Frag} {H : Hp} : ∀ {vs : List V} {cs : List Ctxt}, Aro K H vs cs → vs.length = cs.length
  | [], [], _ => rfl
  | _ :: _, _ :: _, ⟨_, r⟩ => by rw [List.length_cons, List.length_cons, Aro.length r]
  | [], _ :: _, h => h.elim
  | _ :: _, [], h => h.elim
structure Good (fs : List Fn) (t : Lz.P) : Prop where
  ok : t.okS (fs.map (·.1))
  cl : t.cl []
  mw : t.mw ≤ 9000
  lay : ∃ W, t.lay W 9000
  nums : P.nums t
theorem Good.fine {fs : List Fn} {t : Lz.P} (g : Good fs t) : Fine fs t where
  ok := g.ok
  nn := fun x e => by
    have h := g.cl
    rw [e] at h
    exact nomatch (show x ∈ ([] : List Str) from h)
  mw := g.mw
  lt := fun nm as b e => by
    obtain ⟨W, h⟩ := g.lay
    rw [e] at h
    exact (show b.mw ≤ 9000 ∧ _ from h).1
  nb := fun k i j e => by
    have h := g.nums
    rw [e] at h
    exact ⟨(show i.natAbs < 10 ^ 60 ∧ _ from h).1, (show i.natAbs < 10 ^ 60 ∧ j.natAbs < 10 ^ 60 ∧ True from h).2.1⟩
theorem Good.inn {fs : List Fn} {k : Str} {as : List Lz.P} {a : Lz.P} (g : Good fs (.op k as)) (hk : k ≠ "shut") (m : a ∈ as) : Good fs a where
  ok := okSs_iff.mp (show (k, as.length) ∈ kinds2 ∧ Lz.P.okSs (fs.map (·.1)) as from g.ok).2 a m
  cl := cls_iff.mp ((cl_op hk).mp g.cl) a m
  mw := by
    have h := win_mwA (t := .op k as) (a := a) (by rw [win_op hk]; exact m)
    have := g.mw
    omega
  lay := by
    obtain ⟨W, h⟩ := g.lay
    exact ⟨W, lays_iff.mp (show _ ∧ Lz.P.lays W 9000 as from h).2 a m⟩
  nums := numss_mem (show P.numss as from g.nums) m
theorem due_inn {fs : List Fn} {d t : Lz.P} {n : Nat} (q : Due fs d t (.inn n)) : ∃ k as, t = .op k as ∧ k ≠ "shut" ∧ as.length ≤ 3 := by
  cases q with
  | giveIn _ => exact ⟨_, _, rfl, by decide +kernel, by show 2 ≤ 3; decide⟩
  | two1 k _ => exact ⟨_, _, rfl, (fours_not k).1, by show 2 ≤ 3; decide⟩
  | two2 k _ => exact ⟨_, _, rfl, (fours_not k).1, by show 2 ≤ 3; decide⟩
  | when1 _ => exact ⟨_, _, rfl, by decide +kernel, by show 3 ≤ 3; decide⟩
  | side1 k _ => exact ⟨_, _, rfl, by rcases k with rfl | rfl <;> decide +kernel, by show 1 ≤ 3; decide⟩
theorem due_word {fs : List Fn} {d t u : Lz.P} {x : Str} (q : Due fs d t (.s x u)) : x ≠ "within" ∧ x ≠ "worth" ∧ x ≠ "fault" := by
  cases q <;> exact ⟨by decide +kernel, by decide +kernel, by decide +kernel⟩
/-- where the step is, and what is around it -/
def spGo (K : PySem.W.Frag) : Sp := fun vs H Q _ => ∃ (vp v : V) (la : Addr) (fs : List Fn) (d t : Lz.P) (o : Out), vs = [vp, v, .ref la] ∧ Dp K H vp (progD fs d) ∧ PrS fs d ∧ Dp K H v t.data ∧ StepR fs d t o ∧ t.deep ≤ 900 ∧ H la = some (.lst []) ∧ Good fs t ∧
  ∀ (v' : V) (ys : List V) (cs : List Ctxt) (o' : Out) (H' : Hp), Kp [la] H H' → H' la = some (.lst ys) → Aro K H' ys cs → plug cs.reverse o' = o → ((∃ x, o' = .f x) ∨ ∃ x u, o' = .s x u ∧ x ≠ "fault") → Dp K H' v' o'.data → Q v' H'
section
variable {P : Program} {w : World} {K : PySem.W.Frag} {mg : Str → Option Value} {base : Heap} {f : Addr} {fd : FuncData}
abbrev sGoToStep : Stmt := topS 29
theorem scGoToStep : FnScope ["program", "part", "around", "told", "outer", "at"] ["program", "part", "around"] (defScope sGoToStep) := ⟨rfl, rfl, rfl, by decide +kernel, rfl, by decide +kernel, by decide +kernel⟩
theorem ok_go (F : Fun K "go_to_step" "go_to_step" sGoToStep f fd) (CDue : C8.Cal P w K mg base 7 "due" (spDue K) []) (CPutBack : C8.Cal P w K mg base 1 "put_back" (spPutBack K) []) : FnOk P w K mg base CX0 8 f fd ["program", "part", "around"] (spGo K) := by
  refine F.ok scGoToStep (fun vs H Q E h => ?_) (fun cdv A outer s H vs Q E hr h => ?_)
  · obtain ⟨vp, v, la, fs, d, t, o, rfl, _⟩ := h
    rfl
  obtain ⟨vp, v, la, fs, d, t, o, rfl, hp, hok, hd, hst, hde, hla, hg, q⟩ := h
  refine ⟨_, (pss_one (ps_while PassesOwn.never (pt_truthK (K := K) rfl pe_bl (fun _ => rfl)) (pss_cons (ps_set (i := 3) scGoToStep.nd rfl (.inl rfl) (C8.pe_c CDue hr (by first | decide | omega) (by rfl) (pa_cons (pv 0) (pa_cons (pv 1) pa_nil))))
    (pss_one (ps_if (pt_cmpR op_eq (pe_ix (ix_tupK (K := K) rfl) (pv 3) pe_int (fun _ _ => rfl)) pe_str (nomark _)) (pss_cons (ps_expr (pe_bmK (K := K) rfl PySem.F.plainAttrs_list PySem.F.slot_list_append PySem.F.type_list_append mt_append (pv 2) (pa_cons (pe_tup (pa_cons (pv 1) (pa_cons (pe_ix (ix_tupK (K := K) rfl) (pv 3) pe_int (fun _ _ => rfl)) pa_nil))) pa_nil)))
    (pss_one (ps_set (i := 1) scGoToStep.nd rfl (.inl rfl) (pe_ix (ix_tupK (K := K) rfl) (pv 1) (pe_ix (ix_tupK (K := K) rfl) (pv 3) pe_int (fun _ _ => rfl)) (fun _ _ => rfl))))) (pss_one (ps_if (PW.pt (pw_and (pt_cmpR op_eq (pe_ix (ix_tupK (K := K) rfl) (pv 3) pe_int (fun _ _ => rfl)) pe_str (nomark _)) (pw_and1 (pt_truthK (K := K) rfl (pv 2) (fun _ => rfl))))) (pss_cons (ps_asg (pe_bm0K (K := K) rfl PySem.F.plainAttrs_list PySem.F.slot_list_pop PySem.F.type_list_pop mt_pop (pv 2)) (pg_tupK (K := K) (n := 2) rfl rfl (pgs_cons (pg_name (i := 4) scGoToStep.nd rfl (.inl rfl)) (pgs_cons (pg_name (i := 5) scGoToStep.nd rfl (.inl rfl)) pgs_nil))))
    (pss_one (ps_set (i := 1) scGoToStep.nd rfl (.inl rfl) (C8.pe_c CPutBack hr (by first | decide | omega) (by rfl) (pa_cons (pv 1) (pa_cons (pv 4) (pa_cons (pv 5) pa_nil))))))) (pss_one (ps_ret (pv 3)))))))))), ?_⟩
  refine ⟨fun m σ H' => ∃ (v' : V) (v3 v4 v5 : Option V) (t' : Lz.P) (o' : Out) (ys : List V) (cs : List Ctxt), σ = [some vp, some v', some (.ref la), v3, v4, v5] ∧ Kp [la] H H' ∧ H' la = some (.lst ys) ∧ Aro K H' ys cs ∧ Dp K H' v' t'.data ∧ StepR fs d t' o' ∧ plug cs.reverse o' = o ∧ Good fs t' ∧ cs.length + t'.deep ≤ 900 ∧ m = t'.deep,
    ⟨_, v, none, none, none, t, o, [], [], rfl, Kp.refl _ _, hla, True.intro, hd, hst, rfl, hg, by show 0 + t.deep ≤ 900; omega, rfl⟩, ?_⟩
  rintro m σ H1 ⟨v', v3, v4, v5, t', o', ys, cs, rfl, k1, hla1, har, hd1, hst1, hpl, hg1, hde1, rfl⟩
  refine ⟨true, rfl, ?_⟩
  refine ite2 (fun _ => ?_) (fun c => absurd rfl c)
  have hf := hg1.fine
  refine ⟨fun σ' H' => ∃ m', m' < t'.deep ∧ ∃ (v' : V) (v3 v4 v5 : Option V) (t' : Lz.P) (o' : Out) (ys : List V) (cs : List Ctxt), σ' = [some vp, some v', some (.ref la), v3, v4, v5] ∧ Kp [la] H H' ∧ H' la = some (.lst ys) ∧ Aro K H' ys cs ∧ Dp K H' v' t'.data ∧ StepR fs d t' o' ∧ plug cs.reverse o' = o ∧ Good fs t' ∧ cs.length + t'.deep ≤ 900 ∧ m' = t'.deep, fun σ' H' h => h, ?_⟩
  have hp1 := Dp.keep k1 _ _ (progU_fz _ _) hp
  cases hst1 with
  | @here _ u x hw hdue =>
    obtain ⟨w1, w2, w3⟩ := due_word hdue
    refine ⟨_, rfl, _, rfl, vp, v', fs, d, t', _, rfl, hp1, hok, hd1, hf.ok, hf.nn, hf.mw, hf.lt, hf.nb, (fun c => by rw [hw] at c; cases c), (fun _ => hdue), fun vt H2 k2 hvt => ?_⟩
    obtain ⟨pt, zs, rfl, hpt, hzs⟩ := Dp.tup_of (ds := [.str x, u.data]) hvt
    obtain ⟨z1, r1, rfl, hz1, hz2⟩ := DpAll.unconsE hzs
    cases hz1
    refine ⟨_, rfl, pt, _, _, _, rfl, rfl, hpt, at_of (j := 0) rfl rfl, rfl, _, rfl, ?_⟩
    refine ite2 (fun c => absurd (V.str.inj (of_decide_eq_true c)) w1) (fun _ => ?_)
    refine ⟨_, rfl, pt, _, _, _, rfl, rfl, hpt, at_of (j := 0) rfl rfl, rfl, _, rfl, ?_⟩
    refine ite2 (fun c => absurd (V.str.inj (of_decide_eq_true c)) w2) (fun _ => ?_)
    refine ite2 (fun c => absurd c (by simp)) (fun _ => ?_)
    exact ⟨_, rfl, q _ ys cs _ H2 (k1.trans (k2.mono fun _ m => nomatch m)) (k2.lst hla1 (fun m => nomatch m)) (Aro.keep k2 har) hpl (.inr ⟨x, u, rfl, w3⟩) hvt⟩
  | @fault _ x hw hdue =>
    refine ⟨_, rfl, _, rfl, vp, v', fs, d, t', _, rfl, hp1, hok, hd1, hf.ok, hf.nn, hf.mw, hf.lt, hf.nb, (fun c => by rw [hw] at c; cases c), (fun _ => hdue), fun vt H2 k2 hvt => ?_⟩
    obtain ⟨pt, zs, rfl, hpt, hzs⟩ := Dp.tup_of (ds := [.str "fault", .str x]) hvt
    obtain ⟨z1, r1, rfl, hz1, hz2⟩ := DpAll.unconsE hzs
    cases hz1
    refine ⟨_, rfl, pt, _, _, _, rfl, rfl, hpt, at_of (j := 0) rfl rfl, rfl, _, rfl, ?_⟩
    refine ite2 (fun c => absurd (V.str.inj (of_decide_eq_true c)) (by decide +kernel)) (fun _ => ?_)
    refine ⟨_, rfl, pt, _, _, _, rfl, rfl, hpt, at_of (j := 0) rfl rfl, rfl, _, rfl, ?_⟩
    refine ite2 (fun c => absurd (V.str.inj (of_decide_eq_true c)) (by decide +kernel)) (fun _ => ?_)
    refine ite2 (fun c => absurd c (by simp)) (fun _ => ?_)
    exact ⟨_, rfl, q _ ys cs _ H2 (k1.trans (k2.mono fun _ m => nomatch m)) (k2.lst hla1 (fun m => nomatch m)) (Aro.keep k2 har) hpl (.inl ⟨x, rfl⟩) hvt⟩
  | @inn k as a j o2 hw hdue hja hst2 =>
    obtain ⟨k', as', e, hns, h3⟩ := due_inn hdue
    cases e
    have hjm := List.mem_of_getElem? hja
    have hjl := (List.getElem?_eq_some_iff.mp hja).1
    refine ⟨_, rfl, _, rfl, vp, v', fs, d, _, _, rfl, hp1, hok, hd1, hf.ok, hf.nn, hf.mw, hf.lt, hf.nb, (fun c => by rw [hw] at c; cases c), (fun _ => hdue), fun vt H2 k2 hvt => ?_⟩
    obtain ⟨pt, zs, rfl, hpt, hzs⟩ := Dp.tup_of (ds := [.str "within", .int ((j + 1 : Nat) : Int)]) hvt
    obtain ⟨z1, r1, rfl, hz1, hz2⟩ := DpAll.unconsE hzs
    cases hz1
    obtain ⟨z2, r2, rfl, hz2, hz3⟩ := DpAll.unconsE hz2
    cases hz2
    cases hz3
    refine ⟨_, rfl, pt, _, _, _, rfl, rfl, hpt, at_of (j := 0) rfl rfl, rfl, _, rfl, ?_⟩
    refine ite2 (fun _ => ?_) (fun c => absurd (decide_eq_true rfl) c)
    have hd2 := Dp.keep k2 _ _ (data_fz _) hd1
    obtain ⟨po, xs, rfl, hpo, hxs⟩ := op_atU hd2
    have hla2 := k2.lst hla1 (fun m => nomatch m)
    have har2 := Aro.keep k2 har
    have hyl := har.length
    have hdd : a.deep + 1 ≤ (Lz.P.op k as).deep := inn_deep (t := .op k as) hjm
    refine ⟨_, rfl, .inl ⟨rfl, _, SqL.of hla2⟩, _, rfl, _, rfl, pt, _, _, _, rfl, rfl, hpt, at_of (j := 1) rfl rfl, (by show 2 ≤ sizeLine; decide), fun T hT => ?_⟩
    have kx : Kp [] H2 (upd H2 T (.tup [.ref po, .int ((j + 1 : Nat) : Int)])) := Kp.new hT
    have hT3 : SqT K (upd H2 T (.tup [.ref po, .int ((j + 1 : Nat) : Int)])) T [.ref po, .int ((j + 1 : Nat) : Int)] := SqT.of upd_same
    have hla3 := kx.lst hla2 (fun m => nomatch m)
    have har3 := Aro.keep kx har2
    have hd3 := Dp.keep kx _ _ (data_fz _) hd2
    have hpo3 := kx.sqT hpo
    have hpt3 := kx.sqT hpt
    have hxs3 := Dp.keepAll kx _ _ (datas_fz _) hxs
    have k3 := k2.trans kx
    generalize upd H2 T (.tup [.ref po, .int ((j + 1 : Nat) : Int)]) = H3 at hT3 hla3 har3 hd3 hpo3 hpt3 hxs3 k3 ⊢
    refine ⟨la, _, _, rfl, rfl, hla3, small9000 (by omega), ?_⟩
    have kp : Kp [la] H3 (upd H3 la (.lst (ys ++ [.ref T]))) := Kp.put hla3 List.mem_cons_self
    have har4 := Aro.snoc (c := (k, as, j)) ⟨T, po, rfl, kp.sqT hT3, Dp.keep kp _ _ (data_fz _) hd3, hjl, h3⟩ (Aro.keep kp har3)
    obtain ⟨vj, hvj⟩ : ∃ vj, xs[j]? = some vj := ⟨_, List.getElem?_eq_getElem (by rw [hxs.length, datas_len]; exact hjl)⟩
    obtain ⟨a', ha', hdj⟩ := part_atU hxs3 hvj
    obtain rfl : a = a' := Option.some.inj (hja.symm.trans ha')
    refine ⟨_, rfl, _, rfl, pt, _, _, _, rfl, rfl, kp.sqT hpt3, at_of (j := 1) rfl rfl, po, _, _, _, rfl, rfl, kp.sqT hpo3, at_of (j := j + 1) rfl (by rw [List.getElem?_cons_succ]; exact hvj), ?_⟩
    refine ⟨a.deep, by omega, vj, _, _, _, a, o2, ys ++ [.ref T], cs ++ [(k, as, j)], rfl, (k1.trans (k3.mono fun _ m => nomatch m)).trans kp, upd_same, har4, Dp.keep kp _ _ (data_fz _) hdj, hst2, ?_, hg1.inn hns hjm, ?_, rfl⟩
    · rw [List.reverse_append]
      exact hpl
    · rw [List.length_append, List.length_singleton]
      omega
end
end Lz

set_option Elab.async false
set_option linter.all false
set_option maxRecDepth 100000
set_option maxHeartbeats 8000000
namespace Lz
open PySem PySem.Spec PyProof.Rows L2
theorem Aro.unsnoc {K : PySem.W.Frag} {H : Hp} {c : Ctxt} : ∀ {ys : List V} {cs : List Ctxt}, Aro K H ys (cs ++ [c]) → ∃ yi v, ys = yi ++ [v] ∧ Aro K H yi cs ∧ ∃ (za po : Addr), v = .ref za ∧ SqT K H za [.ref po, .int ((c.2.2 + 1 : Nat) : Int)] ∧ Dp K H (.ref po) (Lz.P.op c.1 c.2.1).data ∧ c.2.2 < c.2.1.length ∧ c.2.1.length ≤ 3
  | [], [], h => h.elim
  | [], _ :: _, h => h.elim
  | [v], [], h => ⟨[], v, rfl, True.intro, h.1⟩
  | v :: w :: r, [], h => (show False from h.2).elim
  | v :: r, e :: cs, h => by
    obtain ⟨yi, u, e1, h1, h2⟩ := Aro.unsnoc (ys := r) (cs := cs) h.2
    exact ⟨v :: yi, u, by rw [e1]; rfl, ⟨h.1, h1⟩, h2⟩
theorem DpAll.setP {K : PySem.W.Frag} {H : Hp} {v : V} {u : Lz.P} (hv : Dp K H v u.data) : ∀ {as : List Lz.P} {xs : List V} {j : Nat}, DpAll K H xs (Lz.P.datas as) → DpAll K H (xs.set j v) (Lz.P.datas (as.set j u))
  | [], xs, j, h => by
    cases h
    exact .nil
  | a :: as, xs, j, h => by
    obtain ⟨x, r, rfl, h1, h2⟩ := DpAll.uncons h
    cases j with
    | zero => exact .cons hv h2
    | succ j => exact .cons h1 (DpAll.setP hv h2)
def spStep (K : PySem.W.Frag) : Sp := fun vs H Q _ => ∃ (vp v : V) (fs : List Fn) (d t : Lz.P) (o : Out), vs = [vp, v] ∧ Dp K H vp (progD fs d) ∧ PrS fs d ∧ Dp K H v t.data ∧ StepR fs d t o ∧ t.deep ≤ 900 ∧ Good fs t ∧ ∀ (v' : V) (H' : Hp), Kp [] H H' → Dp K H' v' o.data → Q v' H'
theorem plug_f (x : Str) : ∀ cs : List Ctxt, plug cs (.f x) = .f x
  | [] => rfl
  | c :: r => plug_f x r
section
variable {P : Program} {w : World} {K : PySem.W.Frag} {mg : Str → Option Value} {base : Heap} {f : Addr} {fd : FuncData}
abbrev sStep : Stmt := topS 30
theorem scStep : FnScope ["program", "part", "around", "word", "told", "outer", "at"] ["program", "part"] (defScope sStep) := ⟨rfl, rfl, rfl, by decide +kernel, rfl, by decide +kernel, by decide +kernel⟩
theorem ok_step (F : Fun K "step" "step" sStep f fd) (CGoToStep : C8.Cal P w K mg base 8 "go_to_step" (spGo K) []) (CPutBack : C8.Cal P w K mg base 1 "put_back" (spPutBack K) []) : FnOk P w K mg base CX0 9 f fd ["program", "part"] (spStep K) := by
  refine F.ok scStep (fun vs H Q E h => ?_) (fun cdv A outer s H vs Q E hr h => ?_)
  · obtain ⟨vp, v, fs, d, t, o, rfl, _⟩ := h
    rfl
  obtain ⟨vp, v, fs, d, t, o, rfl, hp, hok, hd, hst, hde, hg, q⟩ := h
  refine ⟨_, (pss_cons (ps_set (i := 2) scStep.nd rfl (.inl rfl) (pe_lst pa_nil))
    (pss_cons (ps_asg (C8.pe_c CGoToStep hr (by first | decide | omega) (by rfl) (pa_cons (pv 0) (pa_cons (pv 1) (pa_cons (pv 2) pa_nil)))) (pg_tupK (K := K) (n := 2) rfl rfl (pgs_cons (pg_name (i := 3) scStep.nd rfl (.inl rfl)) (pgs_cons (pg_name (i := 4) scStep.nd rfl (.inl rfl)) pgs_nil))))
    (pss_cons (ps_if (pt_cmpR op_eq (pv 3) pe_str (nomark _)) (pss_one (ps_ret (pe_tup (pa_cons pe_str (pa_cons (pv 4) pa_nil))))) pss_nil)
    (pss_cons (ps_while PassesOwn.never (pt_truthK (K := K) rfl (pv 2) (fun _ => rfl)) (pss_cons (ps_asg (pe_bm0K (K := K) rfl PySem.F.plainAttrs_list PySem.F.slot_list_pop PySem.F.type_list_pop mt_pop (pv 2)) (pg_tupK (K := K) (n := 2) rfl rfl (pgs_cons (pg_name (i := 5) scStep.nd rfl (.inl rfl)) (pgs_cons (pg_name (i := 6) scStep.nd rfl (.inl rfl)) pgs_nil))))
    (pss_one (ps_set (i := 4) scStep.nd rfl (.inl rfl) (C8.pe_c CPutBack hr (by first | decide | omega) (by rfl) (pa_cons (pv 4) (pa_cons (pv 5) (pa_cons (pv 6) pa_nil))))))))
    (pss_one (ps_ret (pe_tup (pa_cons (pv 3) (pa_cons (pv 4) pa_nil))))))))), ?_⟩
  refine ⟨Nat.zero_le _, fun la hla => ?_⟩
  have k1 : Kp [] H (upd H la (.lst [])) := Kp.new hla
  have hl1 : (upd H la (.lst [])) la = some (.lst []) := upd_same
  generalize upd H la (.lst []) = H1 at k1 hl1 ⊢
  refine ⟨_, rfl, _, rfl, _, rfl, vp, v, la, fs, d, t, o, rfl, Dp.keep k1 _ _ (progU_fz _ _) hp, hok, Dp.keep k1 _ _ (data_fz _) hd, hst, hde, hl1, hg, fun v' ys cs o' H2 k2 hl2 har hpl ho hv' => ?_⟩
  have k2' : Kp [] H H2 := fun b x e n => k2 b x (k1 b x e n) fun m => by
    rw [List.mem_singleton.mp m] at e
    rw [hla] at e
    cases e
  rcases ho with ⟨x, rfl⟩ | ⟨x, u, rfl, hxf⟩
  · obtain ⟨pt, zs, rfl, hpt, hzs⟩ := Dp.tup_of (ds := [.str "fault", .str x]) hv'
    obtain ⟨z1, r1, rfl, hz1, hz2⟩ := DpAll.unconsE hzs
    cases hz1
    obtain ⟨z2, r2, rfl, hz2, hz3⟩ := DpAll.unconsE hz2
    cases hz2
    cases hz3
    refine ⟨pt, _, rfl, hpt, rfl, _, _, rfl, _, _, rfl, rfl, ?_⟩
    refine ⟨_, rfl, rfl, _, rfl, ?_⟩
    refine ite2 (fun _ => ?_) (fun c => absurd (decide_eq_true rfl) c)
    refine ⟨_, rfl, (by show 2 ≤ sizeLine; decide), fun T hT => ?_⟩
    rw [plug_f] at hpl
    subst hpl
    exact q (.ref T) _ (k2'.trans (Kp.new hT)) (Dp.newT hT (.cons (.str _) (.cons (.str _) .nil)) rfl)
  · obtain ⟨pt, zs, rfl, hpt, hzs⟩ := Dp.tup_of (ds := [.str x, u.data]) hv'
    obtain ⟨z1, r1, rfl, hz1, hz2⟩ := DpAll.unconsE hzs
    cases hz1
    obtain ⟨z2, r2, rfl, hzd, hz3⟩ := DpAll.unconsE hz2
    cases hz3
    refine ⟨pt, _, rfl, hpt, rfl, _, _, rfl, _, _, rfl, rfl, ?_⟩
    refine ⟨_, rfl, rfl, _, rfl, ?_⟩
    refine ite2 (fun c => absurd (V.str.inj (of_decide_eq_true c)) hxf) (fun _ => ?_)
    refine ⟨fun m σ H' => ∃ (v5 v6 : Option V) (vt : V) (u' : Lz.P) (ys : List V) (cs : List Ctxt), σ = [some vp, some v, some (.ref la), some (.str x), some vt, v5, v6] ∧ Kp [] H H' ∧ H' la = some (.lst ys) ∧ Aro K H' ys cs ∧ Dp K H' vt u'.data ∧ plug cs.reverse (.s x u') = o ∧ m = cs.length,
      ⟨_, none, none, z2, u, ys, cs, rfl, k2', hl2, har, hzd, hpl, rfl⟩, ?_⟩
    rintro m σ H3 ⟨v5, v6, vt, u', ys, cs, rfl, k3, hl3, har3, hvt, hpl3, rfl⟩
    refine ⟨_, rfl, !ys.isEmpty, .inl ⟨ys, SqL.of hl3, rfl⟩, ?_⟩
    rcases List.eq_nil_or_concat cs with e | ⟨ci, c, e⟩
    · subst e
      have ey : ys = [] := by
        cases ys with
        | nil => rfl
        | cons _ _ => exact (show False from har3).elim
      subst ey
      refine ite2 (fun c => absurd c (by simp)) (fun _ => ?_)
      refine ⟨_, rfl, _, rfl, (by show 2 ≤ sizeLine; decide), fun T hT => ?_⟩
      have e : o = .s x u' := hpl3.symm
      subst e
      exact q (.ref T) _ (k3.trans (Kp.new hT)) (Ww.new hT hvt)
    · rw [List.concat_eq_append] at e
      subst e
      obtain ⟨yi, w, rfl, har4, za, po, rfl, hza, hdo, hj, h3⟩ := Aro.unsnoc har3
      have hne : (!(yi ++ [V.ref za]).isEmpty) = true := by cases yi <;> rfl
      rw [hne]
      refine ite2 (fun _ => ?_) (fun c => absurd rfl c)
      refine ⟨fun σ' H' => ∃ m', m' < (ci ++ [c]).length ∧ ∃ (v5 v6 : Option V) (vt : V) (u' : Lz.P) (ys : List V) (cs : List Ctxt), σ' = [some vp, some v, some (.ref la), some (.str x), some vt, v5, v6] ∧ Kp [] H H' ∧ H' la = some (.lst ys) ∧ Aro K H' ys cs ∧ Dp K H' vt u'.data ∧ plug cs.reverse (.s x u') = o ∧ m' = cs.length, fun σ' H' h => h, ?_⟩
      refine ⟨_, rfl, .inl ⟨rfl, _, SqL.of hl3⟩, la, _, .ref za, rfl, rfl, hl3, ?_, ?_⟩
      · rw [List.length_append]
        show (yi ++ [V.ref za])[yi.length + 1 - 1]? = some (.ref za)
        rw [Nat.add_sub_cancel, List.getElem?_append_right (Nat.le_refl _), Nat.sub_self]
        rfl
      rw [List.dropLast_concat]
      have kp : Kp [la] H3 (upd H3 la (.lst yi)) := Kp.put hl3 List.mem_cons_self
      have k4 : Kp [] H (upd H3 la (.lst yi)) := k3.mut hla
      have hl4 : (upd H3 la (.lst yi)) la = some (.lst yi) := upd_same
      have hza4 := kp.sqT hza
      have har4 := Aro.keep kp har4
      have hdo4 := Dp.keep kp _ _ (data_fz _) hdo
      have hvt4 := Dp.keep kp _ _ (data_fz _) hvt
      generalize upd H3 la (.lst yi) = H4 at k4 hl4 hza4 har4 hdo4 hvt4 ⊢
      refine ⟨za, _, rfl, hza4, rfl, _, _, rfl, _, _, rfl, rfl, ?_⟩
      obtain ⟨p1, xs, e1, hop, hxs⟩ := op_atU hdo4
      obtain rfl := V.ref.inj e1
      have hxl : xs.length = c.2.1.length := by rw [hxs.length, datas_len]
      refine ⟨_, rfl, _, rfl, _, rfl, vt, po, c.1, xs, c.2.2, rfl, hop, by omega, by omega, fun cc H5 k5 hcc => ?_⟩
      have hset := DpAll.setP (Dp.keep k5 _ _ (data_fz _) hvt4) (j := c.2.2) (Dp.keepAll k5 _ _ (datas_fz _) hxs)
      refine ⟨ci.length, by rw [List.length_append]; exact Nat.lt_succ_self _, _, _, .ref cc, .op c.1 (c.2.1.set c.2.2 u'), yi, ci, rfl, k4.trans k5, k5.lst hl4 (fun m => nomatch m), Aro.keep k5 har4, .tup hcc (.cons (.str _) hset), ?_, rfl⟩
      rw [List.reverse_append] at hpl3
      exact hpl3
end
end Lz

set_option Elab.async false
set_option linter.all false
set_option maxRecDepth 100000
set_option maxHeartbeats 8000000
namespace Lz
open PySem PySem.Spec PyProof.Rows L2
mutual
theorem lay_iv {M D N W : Nat} (hM : M ≤ N) : ∀ t : Lz.P, t.iv M D → t.deep ≤ W → t.lay W N
  | .num _, _, _ => True.intro
  | .nam _, _, _ => True.intro
  | .fn _, _, _ => True.intro
  | .op k as, h, hd => by
    have e : (Lz.P.op k as).deep = 1 + Lz.P.deeps as := rfl
    have h1 := dws_deeps as
    exact ⟨fun _ => by omega, lays_iv hM as h.2 (by omega)⟩
  | .lt nm as b, h, hd => by
    have h' : Lz.P.mws as ≤ M ∧ b.mw ≤ M ∧ Lz.P.dws as + 1 ≤ D ∧ b.dw + 1 ≤ D ∧ Lz.P.ivs M D as ∧ Lz.P.iv M D b := h
    have e : (Lz.P.lt nm as b).deep = 1 + max (Lz.P.deeps as) b.deep := rfl
    exact ⟨Nat.le_trans h'.2.1 hM, lays_iv hM as h'.2.2.2.2.1 (by omega), lay_iv hM b h'.2.2.2.2.2 (by omega)⟩
theorem lays_iv {M D N W : Nat} (hM : M ≤ N) : ∀ as : List Lz.P, Lz.P.ivs M D as → Lz.P.deeps as ≤ W → Lz.P.lays W N as
  | [], _, _ => True.intro
  | a :: as, h, hd => by
    have e : Lz.P.deeps (a :: as) = max a.deep (Lz.P.deeps as) := rfl
    exact ⟨lay_iv hM a h.1 (by omega), lays_iv hM as h.2 (by omega)⟩
end
theorem Ok10.good {fs : List Fn} {t : Lz.P} {M D : Nat} (g : Ok10 fs M D t) (hm : t.mw ≤ 9000) (hM : M ≤ 9000) : Good fs t :=
  ⟨g.ok, g.cl, hm, ⟨t.deep, lay_iv hM t g.iv (Nat.le_refl _)⟩, g.nums⟩
theorem set_iv {M D : Nat} {k : Str} {as : List Lz.P} {j : Nat} {u : Lz.P} (h : (Lz.P.op k as).iv M D) (hn : ¬ lzy k j) (hu : u.iv M D) : (Lz.P.op k (as.set j u)).iv M D := by
  have h' : (∀ j a, as[j]? = some a → lzy k j → a.mw ≤ 2 * M + 1) ∧ Lz.P.ivs M D as := h
  refine ⟨fun i a hi hl => ?_, ivs_iff.mpr fun b m => ?_⟩
  · by_cases e : i = j
    · rw [e] at hl
      exact absurd hl hn
    · rw [List.getElem?_set_ne (fun q => e q.symm)] at hi
      exact h'.1 i a hi hl
  · rcases set_mem m with rfl | m
    · exact hu
    · exact ivs_iff.mp h'.2 b m
/-- a closed part that is no worth has a next step, of a closed part again, or a fault -/
theorem step_ex {fs : List Fn} {d : Lz.P} {M D : Nat} (pr : Pr10 fs d M D) (hnd : (fs.map (·.1)).Nodup) : ∀ (n : Nat) (t : Lz.P), t.deep ≤ n → Ok10 fs M D t → wb fs t = false → ∃ o, StepR fs d t o ∧ ((∃ x, o = .f x) ∨ ∃ x u, o = .s x u ∧ x ≠ "fault" ∧ Ok10 fs M D u ∧ u.mw ≤ t.mw + (2 * M + 1) ∧ u.deep + 1 ≤ t.deep + D) := fun n => by
  have hD : 1 ≤ D := Nat.le_trans (deep_pos d) (pr.dw (askedFn d) (List.mem_append_right _ List.mem_cons_self))
  induction n with
  | zero =>
    intro t hn _ _
    have := deep_pos t
    omega
  | succ n ih =>
    intro t hn g hw
    obtain ⟨o, hd, ho | ho | ho⟩ := due_ex hnd g hw
    · obtain ⟨x, rfl⟩ := ho
      exact ⟨_, .fault hw hd, .inl ⟨x, rfl⟩⟩
    · obtain ⟨x, u, rfl⟩ := ho
      exact ⟨_, .here hw hd, .inr ⟨x, u, rfl, (due_word hd).2.2, due_ok pr hd g⟩⟩
    · obtain ⟨k, as, a, j, rfl, rfl, ha, hwa, hnl⟩ := ho
      have hm := List.mem_of_getElem? ha
      have e : (Lz.P.op k as).deep = 1 + Lz.P.deeps as := rfl
      have h1 := deeps_mem hm
      obtain ⟨oa, hs, h⟩ := ih a (by omega) (g.inn hm) hwa
      refine ⟨_, .inn hw hd ha hs, ?_⟩
      rcases h with ⟨x, rfl⟩ | ⟨x, u, rfl, hx, gu, hmu, hdu⟩
      · exact .inl ⟨x, rfl⟩
      · have hks : k ≠ "shut" := fun e => hnl (.inl e)
        have hok : (k, as.length) ∈ kinds2 ∧ Lz.P.okSs (fs.map (·.1)) as := g.ok
        refine .inr ⟨x, _, rfl, hx, ⟨⟨by rw [List.length_set]; exact hok.1, okSs_iff.mpr fun b m => ?_⟩, (cl_op hks).mpr (cls_iff.mpr fun b m => ?_), numss_iff.mpr fun b m => ?_, set_iv g.iv hnl gu.iv⟩, ?_, ?_⟩
        · rcases set_mem m with rfl | m
          · exact gu.ok
          · exact okSs_iff.mp hok.2 b m
        · rcases set_mem m with rfl | m
          · exact gu.cl
          · exact (g.inn m).cl
        · rcases set_mem m with rfl | m
          · exact gu.nums
          · exact (g.inn m).nums
        · show (Lz.P.op k (as.set j u)).mw ≤ _
          rw [mw_op hks, mw_op hks]
          have := mws_set (u := u) ha
          omega
        · have h3 := deeps_set as j u
          show 1 + Lz.P.deeps (as.set j u) + 1 ≤ _
          omega
end Lz

set_option Elab.async false
set_option linter.all false
set_option maxRecDepth 100000
set_option maxHeartbeats 8000000
namespace Lz
open PySem PySem.Spec PyProof.Rows L2
def spLPut (K : PySem.W.Frag) (n : Nat) : Sp := fun vs H Q _ => ∃ (v : V) (a : Addr) (t : Lz.P) (F : List Str) (kvs : List (Key × V)) (th : List (Str × Lz.P)), vs = [v, .ref a] ∧ Dp K H v t.data ∧ t.okS F ∧ t.mw ≤ 9000 ∧ t.dw ≤ n ∧ TD K H a kvs th ∧ ∀ (v' : V) (H' : Hp), Kp [] H H' → Dp K H' v' (Lz.P.put th t).data → Q v' H'
theorem dw_pos (t : Lz.P) : 1 ≤ t.dw := by
  cases t with
  | num i => exact Nat.le_refl _
  | nam i => exact Nat.le_refl _
  | fn i => exact Nat.le_refl _
  | op k as => exact Nat.le_add_right _ _
  | lt nm as b => exact Nat.le_add_right _ _
theorem hd_cases {F : List Str} {t : Lz.P} (h : t.okS F) : (∃ x, t = .nam x) ∨ (t.win = [] ∧ (t.hd = "number" ∨ t.hd = "fun" ∨ t.hd = "shut") ∧ ∀ th, Lz.P.put th t = t) ∨ (∃ k as, t = .op k as ∧ k ≠ "shut" ∧ (k, as.length) ∈ kinds) ∨ ∃ nm as b, t = .lt nm as b ∧ nm.length = as.length := by
  cases t with
  | num i => exact .inr (.inl ⟨rfl, .inl rfl, fun _ => rfl⟩)
  | nam x => exact .inl ⟨x, rfl⟩
  | fn x => exact .inr (.inl ⟨rfl, .inr (.inl rfl), fun _ => rfl⟩)
  | op k as =>
    by_cases e : k = "shut"
    · exact .inr (.inl ⟨if_pos e, .inr (.inr e), fun th => by
        show Lz.P.op k (if k = "shut" then as else Lz.P.puts th as) = _
        rw [if_pos e]⟩)
    · exact .inr (.inr (.inl ⟨k, as, rfl, e, kinds_of2 (show (k, as.length) ∈ kinds2 ∧ Lz.P.okSs F as from h).1 e⟩))
  | lt nm as b => exact .inr (.inr (.inr ⟨nm, as, b, rfl, (show nm.length = as.length ∧ _ from h).1⟩))
theorem in4U (a b c d k : Str) : inV (.str k) [.str a, .str b, .str c, .str d] = decide (k = a ∨ k = b ∨ k = c ∨ k = d) := by
  refine (inU k [a, b, c, d]).trans ?_
  rw [Bool.eq_iff_iff, decide_eq_true_iff, decide_eq_true_iff]
  simp
theorem win_mw {t a : Lz.P} (m : a ∈ t.win) : a.mw + 1 ≤ t.mw := by
  have h1 := mws_mem m
  have h2 := mw_win t
  omega
section
variable {P : Program} {w : World} {K : PySem.W.Frag} {mg : Str → Option Value} {base : Heap} {f : Addr} {fd : FuncData}
abbrev sLPut : Stmt := topS 46
theorem scLPut : FnScope ["_law_part_here", "_law_things", "_law_rows", "_law_row", "_law_one"] ["_law_part_here", "_law_things"] (defScope sLPut) := ⟨rfl, rfl, rfl, by decide +kernel, rfl, by decide +kernel, by decide +kernel⟩
theorem no_lput {j : Nat} {ps : List Str} : FnOk P w K mg base CX0 j f fd ps (spLPut K 0) := by
  have no : ∀ vs H Q E, ¬ spLPut K 0 vs H Q E := fun vs H Q E h => by
    obtain ⟨_, _, t, _, _, _, _, _, _, _, h1, _⟩ := h
    have := dw_pos t
    omega
  exact ⟨fun vs H Q E h => absurd h (no vs H Q E), fun A outer s H args us vs Q E _ _ _ _ h => absurd h (no vs H Q E)⟩
theorem ok_lput {n j : Nat} (hj : 1 ≤ j) (F : Fun K "_law_put" "_law_put" sLPut f fd) (B : Bt mg) (CLPut : C8.Cal P w K mg base j "_law_put" (spLPut K n) []) : FnOk P w K mg base CX0 (j + 1) f fd ["_law_part_here", "_law_things"] (spLPut K (n + 1)) := by
  have mtup := B.tuple
  refine F.ok scLPut (fun vs H Q E h => ?_) (fun cdv A outer s H vs Q E hr h => ?_)
  · obtain ⟨v, a, t, G, kvs, th, rfl, _⟩ := h
    rfl
  have hu := units1 hr
  obtain ⟨v, ad, t, G, kvs, th, rfl, hd, hok, hmw, hdw, hT, q⟩ := h
  refine ⟨_, (pss_cons (ps_if (PW.pt (pw_and (pt_cmpR op_eq (pe_ix (ix_tupK (K := K) rfl) (pv 0) pe_int (fun _ _ => rfl)) pe_str (nomark _)) (pw_and1 (pt_cmp (pc_din hu (pe_ix (ix_tupK (K := K) rfl) (pv 0) pe_int (fun _ _ => rfl)) (pv 1)))))) (pss_one (ps_ret (pe_tup (pa_cons pe_str (pa_cons (pe_dget hu (pv 1) (pe_ix (ix_tupK (K := K) rfl) (pv 0) pe_int (fun _ _ => rfl)) (fun _ _ => rfl)) pa_nil))))) pss_nil)
    (pss_cons (ps_if (pt_cmpR (op_inK (K := K) rfl) (pe_ix (ix_tupK (K := K) rfl) (pv 0) pe_int (fun _ _ => rfl)) (pe_tup (pa_cons pe_str (pa_cons pe_str (pa_cons pe_str (pa_cons pe_str pa_nil))))) rfl) (pss_one (ps_ret (pv 0))) pss_nil)
    (pss_cons (ps_if (pt_cmpR op_eq (pe_ix (ix_tupK (K := K) rfl) (pv 0) pe_int (fun _ _ => rfl)) pe_str (nomark _)) (pss_cons (ps_setLc (i := 2) (own := [("_law_row", 3)]) rfl scLPut.nd rfl rfl (sw_true rfl rfl rfl (by decide +kernel)) (pi_tupK (K := K) rfl (pe_ix (ix_tupK (K := K) rfl) (pv 0) pe_int (fun _ _ => rfl))) (blkOk_by (N := ["_law_part_here", "_law_things", "_law_rows", "_law_row", "_law_one"]) (sc := defScope sLPut) (by decide +kernel)) (fun _ _ _ _ _ => (pg_name (i := 3) scLPut.nd rfl (.inl rfl))) (fun _ _ _ _ _ => pts_nil) (fun _ _ _ _ _ => (pe_tup (pa_cons (pe_ix (ix_tupK (K := K) rfl) (pv 3) pe_int (fun _ _ => rfl)) (pa_cons (C8.pe_c CLPut hr (by first | decide | omega) (by rfl) (pa_cons (pe_ix (ix_tupK (K := K) rfl) (pv 3) pe_int (fun _ _ => rfl)) (pa_cons (pv 1) pa_nil))) pa_nil)))))
    (pss_one (ps_ret (pe_tup (pa_cons pe_str (pa_cons (pe_callTy (call_tupleK (K := K) rfl) (by rfl) mtup (by decide +kernel) (pa_cons (pv 2) pa_nil)) (pa_cons (C8.pe_c CLPut hr (by first | decide | omega) (by rfl) (pa_cons (pe_ix (ix_tupK (K := K) rfl) (pv 0) pe_int (fun _ _ => rfl)) (pa_cons (pv 1) pa_nil))) pa_nil))))))) pss_nil)
    (pss_one (ps_ret (pe_callTy (call_tupleK (K := K) rfl) (by rfl) mtup (by decide +kernel) (pa_cons (pe_op op_cat (pe_lst (pa_cons (pe_ix (ix_tupK (K := K) rfl) (pv 0) pe_int (fun _ _ => rfl)) pa_nil)) (pe_lc (own := [("_law_one", 4)]) rfl scLPut.nd (pi_tupK (K := K) rfl (pe_slice (sl_tupAK (K := K) rfl) (pv 0) (po_some pe_int) po_none)) (blkOk_by (N := ["_law_part_here", "_law_things", "_law_rows", "_law_row", "_law_one"]) (sc := defScope sLPut) (by decide +kernel)) (fun _ _ _ _ _ => (pg_name (i := 4) scLPut.nd rfl (.inl rfl))) (fun _ _ _ _ _ => pts_nil) (fun _ _ _ _ _ => (C8.pe_c CLPut hr (by first | decide | omega) (by rfl) (pa_cons (pv 4) (pa_cons (pv 1) pa_nil)))))) pa_nil))))))), ?_⟩
  rcases hd_cases hok with ⟨x, rfl⟩ | ⟨hw, hk, hp⟩ | ⟨k, as, rfl, hns, hk⟩ | ⟨nm, as, b, rfl, hnl⟩
  · obtain ⟨a, e, ht⟩ := str_at hd rfl
    subst e
    refine ⟨_, rfl, a, _, _, _, rfl, rfl, ht, at_of (j := 0) rfl rfl, rfl, _, rfl, ?_⟩
    refine ite2 (fun _ => ?_) (fun c => absurd (decide_eq_true rfl) c)
    rcases hT.get x with ⟨u, p, hg, hp, hu'⟩ | ⟨hg, hp⟩
    · refine ⟨_, rfl, a, _, _, _, rfl, rfl, ht, at_of (j := 1) rfl rfl, _, rfl, ad, _, rfl, hg, _, rfl, ?_⟩
      refine ite2 (fun _ => ?_) (fun c => absurd rfl c)
      refine ⟨_, rfl, _, rfl, a, _, _, _, rfl, rfl, ht, at_of (j := 1) rfl rfl, ad, _, rfl, hg, (by show 2 ≤ sizeLine; decide), fun T hT' => ?_⟩
      exact q (.ref T) _ (Kp.new hT') (by rw [put_name hp]; exact Dp.newT hT' (.cons (.str _) (.cons hu' .nil)) (datas_fz [p]))
    · refine ⟨_, rfl, a, _, _, _, rfl, rfl, ht, at_of (j := 1) rfl rfl, _, rfl, ad, _, rfl, hg, _, rfl, ?_⟩
      refine ite2 (fun c => absurd c (by simp)) (fun _ => ?_)
      refine ⟨_, rfl, a, _, _, _, rfl, rfl, ht, at_of (j := 0) rfl rfl, (by show 4 ≤ sizeLine; decide), fun T hT' => ?_⟩
      refine ⟨T, _, rfl, .inr (SqT.of upd_same), rfl, rfl, _, rfl, ?_⟩
      rw [in4U]
      refine ite2 (fun _ => ?_) (fun c => absurd (decide_eq_true (Or.inl rfl : ("name" : Str) = "name" ∨ ("name" : Str) = "number" ∨ ("name" : Str) = "fun" ∨ ("name" : Str) = "shut")) c)
      exact ⟨_, rfl, q _ _ (Kp.new hT') (by rw [put_name0 hp]; exact Dp.keep (Kp.new (S := []) hT') _ _ (data_fz (.nam x)) hd)⟩
  · obtain ⟨a, ys, rfl, ht, hys⟩ := hd_at hd
    refine ⟨_, rfl, a, _, _, _, rfl, rfl, ht, at_of (j := 0) rfl rfl, rfl, _, rfl, ?_⟩
    refine ite2 (fun c => ?_) (fun _ => ?_)
    · have e : t.hd = "name" := V.str.inj (of_decide_eq_true c)
      rcases hk with h | h | h <;> exact absurd (h.symm.trans e) (by decide +kernel)
    refine ⟨_, rfl, a, _, _, _, rfl, rfl, ht, at_of (j := 0) rfl rfl, (by show 4 ≤ sizeLine; decide), fun T hT' => ?_⟩
    refine ⟨T, _, rfl, .inr (SqT.of upd_same), rfl, rfl, _, rfl, ?_⟩
    rw [in4U]
    refine ite2 (fun _ => ?_) (fun c => absurd (decide_eq_true (hk.elim (fun h => .inr (.inl h)) fun h => .inr (.inr h))) c)
    exact ⟨_, rfl, q _ _ (Kp.new hT') (by rw [hp]; exact Dp.keep (Kp.new (S := []) hT') _ _ (data_fz t) hd)⟩
  · obtain ⟨a, xs, rfl, ht, hx⟩ := op_atU hd
    have hp := kind2_plain (kinds_sub hk)
    have hk3 := kind2_len (kinds_sub hk)
    have hxl : xs.length = as.length := by rw [hx.length, datas_len]
    refine ⟨_, rfl, a, _, _, _, rfl, rfl, ht, at_of (j := 0) rfl rfl, rfl, _, rfl, ?_⟩
    refine ite2 (fun c => absurd (V.str.inj (of_decide_eq_true c)) hp.2.2.1) (fun _ => ?_)
    refine ⟨_, rfl, a, _, _, _, rfl, rfl, ht, at_of (j := 0) rfl rfl, (by show 4 ≤ sizeLine; decide), fun T0 hT0 => ?_⟩
    refine ⟨T0, _, rfl, .inr (SqT.of upd_same), rfl, rfl, _, rfl, ?_⟩
    rw [in4U]
    refine ite2 (fun c => ?_) (fun _ => ?_)
    · rcases of_decide_eq_true c with h | h | h | h
      · exact absurd h hp.2.2.1
      · exact absurd h hp.2.1
      · exact absurd h hp.2.2.2
      · exact absurd h hns
    have k0 : Kp [] H (upd H T0 (.tup [.str "name", .str "number", .str "fun", .str "shut"])) := Kp.new hT0
    generalize upd H T0 (.tup [.str "name", .str "number", .str "fun", .str "shut"]) = H0 at k0 ⊢
    have ht0 := k0.sqT ht
    refine ⟨_, rfl, a, _, _, _, rfl, rfl, ht0, at_of (j := 0) rfl rfl, rfl, _, rfl, ?_⟩
    refine ite2 (fun c => absurd (V.str.inj (of_decide_eq_true c)) hp.1) (fun _ => ?_)
    refine ⟨_, rfl, a, _, _, _, rfl, rfl, ht0, at_of (j := 0) rfl rfl, (by show 1 ≤ sizeLine; decide), fun l1 hl1 => ?_⟩
    have k1 := k0.trans (Kp.new (S := []) (o := .lst [.str k]) hl1)
    have hl2 : (upd H0 l1 (.lst [.str k])) l1 = some (.lst [.str k]) := upd_same
    generalize upd H0 l1 (.lst [.str k]) = H1 at k1 hl2 ⊢
    refine ⟨_, rfl, _, rfl, a, _, rfl, k1.sqT ht, fun z => absurd z (not_wholeU _ _), fun _ t2 ht2 => ?_⟩
    rw [cut_tlU]
    have kx : Kp [] H1 (upd H1 t2 (.tup xs)) := Kp.new ht2
    have h2t : (upd H1 t2 (.tup xs)) t2 = some (.tup xs) := upd_same
    have hl3 := kx.lst hl2 (fun m => nomatch m)
    have k2 := k1.trans kx
    generalize upd H1 t2 (.tup xs) = H2 at k2 h2t hl3 ⊢
    refine ⟨t2, rfl, ⟨_, SqT.of h2t⟩, fun D hD => ?_⟩
    have nDl : l1 ≠ D := ne_of_none hl3 hD
    refine lc_tup (K := K) (a := t2) (xs := xs) (fun i H' => Kp [] H2 H' ∧ ∃ ws, H' D = some (.lst ws) ∧ DpAll K H' ws (Lz.P.datas ((Lz.P.puts th as).take i)))
      ⟨Kp.new hD, [], upd_same, .nil⟩ (fun i H' _ ⟨k, _⟩ => SqT.of (k.tup h2t)) ?_ ?_
    · rintro i x H3 hi ⟨k3, ws, hws, hdw⟩
      have k03 := k2.trans k3
      obtain ⟨d, hda, hdx⟩ := part_atU (Dp.keepAll k03 _ _ (datas_fz _) hx) hi
      have hdm : d ∈ (Lz.P.op k as).win := by rw [win_op hns]; exact List.mem_of_getElem? hda
      have h1 := win_mw hdm
      have h2 := win_dw hdm
      refine ⟨rfl, ?_⟩
      refine ⟨_, rfl, _, rfl, x, ad, d, G, kvs, th, rfl, hdx, win_okS hok hdm, by omega, by omega, hT.keep k03, fun v' H4 k4 hd4 => ?_⟩
      have hws4 := k4.lst hws (fun m => nomatch m)
      have hwl : ws.length ≤ 3 := by
        rw [hdw.length, datas_len, List.length_take, puts_len]
        omega
      have kput : Kp [D] H4 (upd H4 D (.lst (ws ++ [v']))) := Kp.put hws4 List.mem_cons_self
      refine ⟨ws, hws4, small9000 (by omega), (k3.trans k4).mut hD, ws ++ [v'], upd_same, ?_⟩
      have ez : (Lz.P.puts th as)[i]? = some (Lz.P.put th d) := by
        rw [puts_map, List.getElem?_map, hda]
        rfl
      rw [List.take_add_one, ez, datas_map, List.map_append, ← datas_map]
      exact (Dp.keepAll (k4.mono (fun _ m => nomatch m) |>.trans kput) _ _ (datas_fz _) hdw).append (.one (Dp.keep kput _ _ (data_fz _) hd4))
    · rintro H3 ⟨k3, ws, hws, hdw⟩
      rw [List.take_of_length_le (by rw [puts_len, hxl]; exact Nat.le_refl _)] at hdw
      have hwl : ws.length = as.length := by rw [hdw.length, datas_len, puts_len]
      have hl4 := k3.lst hl3 (fun m => nomatch m)
      refine ⟨l1, D, _, _, rfl, rfl, hl4, hws, (by show 1 + ws.length ≤ sizeLine; rw [hwl]; exact Nat.le_trans (Nat.add_le_add_left hk3.2 1) (by decide)), fun lr hlr => ?_⟩
      have kr : Kp [] H3 (upd H3 lr (.lst ([.str k] ++ ws))) := Kp.new hlr
      have hdr := Dp.keepAll kr _ _ (datas_fz _) hdw
      have k4 := (k2.trans k3).trans kr
      have hlr2 : (upd H3 lr (.lst ([.str k] ++ ws))) lr = some (.lst (.str k :: ws)) := upd_same
      generalize upd H3 lr (.lst ([.str k] ++ ws)) = H4 at hdr k4 hlr2 ⊢
      refine ⟨lr, _, rfl, .inl ⟨SqL.of hlr2, fun R hR => ?_⟩⟩
      have e : (Lz.P.put th (Lz.P.op k as)).data = .tuple (.str k :: Lz.P.datas (Lz.P.puts th as)) := by
        show (Lz.P.op k (if k = "shut" then as else Lz.P.puts th as)).data = _
        rw [if_neg hns]
        rfl
      refine q (.ref R) _ (k4.trans (Kp.new hR)) ?_
      rw [e]
      exact Dp.newT hR (.cons (.str _) hdr) (datas_fz _)
  · obtain ⟨a, r, rs, vb, rfl, ht, hr2, hrs, hb⟩ := let_atU hd
    have hrl : rs.length = as.length := by rw [hrs.length, List.length_zipWith, datas_len]; omega
    have hal : as.length ≤ 8998 := by
      have h1 := win_len hmw
      have h2 : (as ++ [b]).length ≤ 8999 := h1
      rw [List.length_append, List.length_singleton] at h2
      omega
    refine ⟨_, rfl, a, _, _, _, rfl, rfl, ht, at_of (j := 0) rfl rfl, rfl, _, rfl, ?_⟩
    refine ite2 (fun c => absurd (show ("let" : Str) = "name" from V.str.inj (of_decide_eq_true c)) (by decide +kernel)) (fun _ => ?_)
    refine ⟨_, rfl, a, _, _, _, rfl, rfl, ht, at_of (j := 0) rfl rfl, (by show 4 ≤ sizeLine; decide), fun T0 hT0 => ?_⟩
    refine ⟨T0, _, rfl, .inr (SqT.of upd_same), rfl, rfl, _, rfl, ?_⟩
    rw [in4U]
    refine ite2 (fun c => absurd (show ("let" : Str) = "name" ∨ ("let" : Str) = "number" ∨ ("let" : Str) = "fun" ∨ ("let" : Str) = "shut" from of_decide_eq_true c) (by decide +kernel)) (fun _ => ?_)
    have k0 : Kp [] H (upd H T0 (.tup [.str "name", .str "number", .str "fun", .str "shut"])) := Kp.new hT0
    generalize upd H T0 (.tup [.str "name", .str "number", .str "fun", .str "shut"]) = H0 at k0 ⊢
    have ht0 := k0.sqT ht
    refine ⟨_, rfl, a, _, _, _, rfl, rfl, ht0, at_of (j := 0) rfl rfl, rfl, _, rfl, ?_⟩
    refine ite2 (fun _ => ?_) (fun c => absurd (decide_eq_true rfl) c)
    refine ⟨_, rfl, a, _, _, _, rfl, rfl, ht0, at_of (j := 1) rfl rfl, r, rfl, ⟨_, k0.sqT hr2⟩, fun D hD => ?_⟩
    refine lc_tup (K := K) (a := r) (xs := rs) (fun i H' => Kp [] H0 H' ∧ ∃ ws, H' D = some (.lst ws) ∧ DpAll K H' ws ((List.zipWith rowD nm (Lz.P.datas (Lz.P.puts th as))).take i))
      ⟨Kp.new hD, [], upd_same, .nil⟩ (fun i H' _ ⟨k, _⟩ => k.sqT (k0.sqT hr2)) ?_ ?_
    · rintro i x H1 hi ⟨k1, ws, hws, hdw⟩
      have k01 := k0.trans k1
      obtain ⟨tr, x, u, d, rfl, htr, hnx, hdx, hux⟩ := row_atU (Dp.keepAll k01 _ _ rows_fz hrs) hi
      have hdm : d ∈ (Lz.P.lt nm as b).win := List.mem_append_left _ (List.mem_of_getElem? hdx)
      have h1 := win_mw hdm
      have h2 := win_dw hdm
      have hil := (List.getElem?_eq_some_iff.mp hi).1
      refine ⟨rfl, ?_⟩
      refine ⟨_, rfl, tr, _, _, _, rfl, rfl, htr, at_of (j := 0) rfl rfl, _, rfl, tr, _, _, _, rfl, rfl, htr, at_of (j := 1) rfl rfl, _, rfl, u, ad, d, G, kvs, th, rfl, hux, win_okS hok hdm, by omega, by omega, hT.keep k01, fun v' H2 k2 hd2 => ?_⟩
      refine ⟨(by show 2 ≤ sizeLine; decide), fun T2 hT2 => ?_⟩
      have hws2 := k2.lst hws (fun m => nomatch m)
      have kT2 : Kp [] H2 (upd H2 T2 (.tup [.str x, v'])) := Kp.new hT2
      have hws3 := kT2.lst hws2 (fun m => nomatch m)
      have k3 := (k1.trans k2).trans kT2
      have hro : Dp K (upd H2 T2 (.tup [.str x, v'])) (.ref T2) (rowD x (Lz.P.put th d).data) := Dp.newT hT2 (.cons (.str _) (.cons hd2 .nil)) (datas_fz [Lz.P.put th d])
      have hdw3 := Dp.keepAll (k2.trans kT2) _ _ (fzAll_iff.mpr fun d m => fzAll_iff.mp rows_fz d (List.mem_of_mem_take m)) hdw
      generalize upd H2 T2 (.tup [.str x, v']) = H3 at hws3 k3 hro hdw3 ⊢
      have hwl : ws.length ≤ 8998 := by
        rw [hdw.length, List.length_take, List.length_zipWith, datas_len, puts_len]
        omega
      have kput : Kp [D] H3 (upd H3 D (.lst (ws ++ [.ref T2]))) := Kp.put hws3 List.mem_cons_self
      refine ⟨ws, hws3, small9000 (by omega), k3.mut hD, ws ++ [.ref T2], upd_same, ?_⟩
      have hz : (List.zipWith rowD nm (Lz.P.datas (Lz.P.puts th as)))[i]? = some (rowD x (Lz.P.put th d).data) := by
        rw [List.getElem?_zipWith, hnx, datas_map, puts_map, List.getElem?_map, List.getElem?_map, hdx]
        rfl
      rw [List.take_add_one, hz]
      exact (Dp.keepAll kput _ _ (fzAll_iff.mpr fun d m => fzAll_iff.mp rows_fz d (List.mem_of_mem_take m)) hdw3).append (.one (Dp.keep kput _ _ (datas_fz [Lz.P.put th d]) hro))
    · rintro H1 ⟨k1, ws, hws, hdw⟩
      have hzl : (List.zipWith rowD nm (Lz.P.datas (Lz.P.puts th as))).length = as.length := by rw [List.length_zipWith, datas_len, puts_len]; omega
      rw [List.take_of_length_le (by rw [hzl, hrl]; exact Nat.le_refl _)] at hdw
      refine ⟨_, rfl, D, ws, rfl, .inl ⟨SqL.of hws, fun R hR => ?_⟩⟩
      have kR : Kp [] H1 (upd H1 R (.tup ws)) := Kp.new hR
      have hdR := Dp.keepAll kR _ _ rows_fz hdw
      have hR2 : SqT K (upd H1 R (.tup ws)) R ws := SqT.of upd_same
      have k2 := (k0.trans k1).trans kR
      generalize upd H1 R (.tup ws) = H2 at hdR hR2 k2 ⊢
      have hbm : b ∈ (Lz.P.lt nm as b).win := List.mem_append_right _ List.mem_cons_self
      have h1 := win_mw hbm
      have h2 := win_dw hbm
      refine ⟨_, rfl, a, _, _, _, rfl, rfl, k2.sqT ht, at_of (j := 2) rfl rfl, _, rfl, vb, ad, b, G, kvs, th, rfl, Dp.keep k2 _ _ (data_fz _) hb, win_okS hok hbm, by omega, by omega, hT.keep k2, fun v' H3 k3 hd3 => ?_⟩
      refine ⟨(by show 3 ≤ sizeLine; decide), fun T hT' => ?_⟩
      have er : fzAll [PyData.str "let", .tuple (List.zipWith rowD nm (Lz.P.datas (Lz.P.puts th as))), (Lz.P.put th b).data] = true := by
        show (fzAll (List.zipWith rowD nm (Lz.P.datas (Lz.P.puts th as))) && (fz (Lz.P.put th b).data && true)) = true
        rw [rows_fz, data_fz]
        rfl
      exact q (.ref T) _ ((k2.trans k3).trans (Kp.new hT')) (Dp.newT hT' (.cons (.str _) (.cons (.tup (k3.sqT hR2) (Dp.keepAll k3 _ _ rows_fz hdR)) (.cons hd3 .nil))) er)
end
end Lz

set_option Elab.async false
set_option linter.all false
set_option maxRecDepth 100000
set_option maxHeartbeats 8000000
namespace Lz
open PySem PySem.Spec PyProof.Rows L2
section
variable {P : Program} {w : World} {K : PySem.W.Frag} {mg : Str → Option Value} {base : Heap} {f : Addr} {fd : FuncData}
abbrev sLSpine : Stmt := topS 47
theorem scLSpine : FnScope ["_law_part_here", "_law_things"] ["_law_part_here"] (defScope sLSpine) := ⟨rfl, rfl, rfl, by decide +kernel, rfl, by decide +kernel, by decide +kernel⟩
theorem ok_lspine (F : Fun K "_law_spine" "_law_spine" sLSpine f fd) : FnOk P w K mg base CX0 1 f fd ["_law_part_here"] (spGiven K) := by
  refine F.ok scLSpine (fun vs H Q E h => ?_) (fun cdv A outer s H vs Q E hr h => ?_)
  · obtain ⟨v, t, h, ts, rfl, _⟩ := h
    rfl
  obtain ⟨v, t, h, ts, rfl, hd, hg, hn, q⟩ := h
  refine ⟨_, (pss_cons (ps_set (i := 1) scLSpine.nd rfl (.inl rfl) (pe_lst pa_nil))
    (pss_cons (ps_while PassesOwn.never (pt_cmpR op_eq (pe_ix (ix_tupK (K := K) rfl) (pv 0) pe_int (fun _ _ => rfl)) pe_str (nomark _)) (pss_cons (ps_set (i := 1) scLSpine.nd rfl (.inl rfl) (pe_op op_cat (pe_lst (pa_cons (pe_ix (ix_tupK (K := K) rfl) (pv 0) pe_int (fun _ _ => rfl)) pa_nil)) (pv 1)))
    (pss_one (ps_set (i := 0) scLSpine.nd rfl (.inl rfl) (pe_ix (ix_tupK (K := K) rfl) (pv 0) pe_int (fun _ _ => rfl))))))
    (pss_one (ps_ret (pe_tup (pa_cons (pv 0) (pa_cons (pv 1) pa_nil))))))), ?_⟩
  refine ⟨Nat.zero_le _, fun l hl => ?_⟩
  have k1 : Kp [] H (upd H l (.lst [])) := Kp.new hl
  have hl1 : (upd H l (.lst [])) l = some (.lst []) := upd_same
  have hd1 := Dp.keep k1 _ _ (data_fz _) hd
  generalize upd H l (.lst []) = H1 at k1 hl1 hd1 ⊢
  refine ⟨fun m σ H' => ∃ (v' : V) (lc : Addr) (t' : Lz.P) (ts' us : List Lz.P) (ys : List V), σ = [some v', some (.ref lc)] ∧ Kp [] H H' ∧ Dp K H' v' t'.data ∧ Gv t' h ts' ∧ ts' ++ us = ts ∧ H' lc = some (.lst ys) ∧ DpAll K H' ys (Lz.P.datas us) ∧ m = ts'.length,
    ⟨_, v, l, t, ts, [], [], rfl, k1, hd1, hg, List.append_nil _, hl1, .nil, rfl⟩, ?_⟩
  rintro m σ H2 ⟨v', lc, t', ts', us, ys, rfl, k2, hd2, hg2, heq, hl2, hys, rfl⟩
  obtain ⟨a, xs, rfl, ht, hxs⟩ := hd_at hd2
  refine ⟨_, rfl, a, _, _, _, rfl, rfl, ht, at_of (j := 0) rfl rfl, rfl, _, rfl, ?_⟩
  have hyl : ys.length = us.length := by rw [hys.length, datas_len]
  have htl : ts'.length + us.length = ts.length := by rw [← heq, List.length_append]
  cases hg2 with
  | stop e =>
    refine ite2 (fun c => absurd (V.str.inj (of_decide_eq_true c)) e) (fun _ => ?_)
    rw [List.nil_append] at heq
    subst heq
    refine ⟨_, rfl, _, rfl, (by show 2 ≤ sizeLine; decide), fun T hT => ?_⟩
    have kx : Kp [] H2 (upd H2 T (.tup [.ref a, .ref lc])) := Kp.new hT
    exact q T (.ref a) lc ys _ (k2.trans kx) upd_same (Dp.keep kx _ _ (data_fz _) hd2) (kx.lst hl2 (fun m => nomatch m)) (Dp.keepAll kx _ _ (datas_fz _) hys)
  | @give x b _ ts0 g0 =>
    refine ite2 (fun _ => ?_) (fun c => absurd (decide_eq_true rfl) c)
    obtain ⟨p, va, vb, e, hpt, hda, hdb⟩ := give_at hd2
    obtain rfl := V.ref.inj e
    refine ⟨fun σ' H' => ∃ m', m' < (ts0 ++ [b]).length ∧ ∃ (v' : V) (lc : Addr) (t' : Lz.P) (ts' us : List Lz.P) (ys : List V), σ' = [some v', some (.ref lc)] ∧ Kp [] H H' ∧ Dp K H' v' t'.data ∧ Gv t' h ts' ∧ ts' ++ us = ts ∧ H' lc = some (.lst ys) ∧ DpAll K H' ys (Lz.P.datas us) ∧ m' = ts'.length, fun σ' H' h => h, ?_⟩
    refine ⟨_, rfl, a, _, _, _, rfl, rfl, hpt, at_of (j := 2) rfl rfl, (by show 1 ≤ sizeLine; decide), fun l1 hl1' => ?_⟩
    have kx : Kp [] H2 (upd H2 l1 (.lst [vb])) := Kp.new hl1'
    have h1 : (upd H2 l1 (.lst [vb])) l1 = some (.lst [vb]) := upd_same
    have hl3 := kx.lst hl2 (fun m => nomatch m)
    have hdb3 := Dp.keep kx _ _ (data_fz _) hdb
    have hda3 := Dp.keep kx _ _ (data_fz _) hda
    have hys3 := Dp.keepAll kx _ _ (datas_fz _) hys
    have hpt3 := kx.sqT hpt
    have k3 := k2.trans kx
    generalize upd H2 l1 (.lst [vb]) = H3 at h1 hl3 hdb3 hda3 hys3 hpt3 k3 ⊢
    refine ⟨_, rfl, l1, lc, _, _, rfl, rfl, h1, hl3, (by show 1 + ys.length ≤ sizeLine; exact Nat.le_of_lt (small9000 (by omega))), fun lr hlr => ?_⟩
    have kx : Kp [] H3 (upd H3 lr (.lst ([vb] ++ ys))) := Kp.new hlr
    refine ⟨_, rfl, a, _, _, _, rfl, rfl, kx.sqT hpt3, at_of (j := 1) rfl rfl, ?_⟩
    exact ⟨ts0.length, by rw [List.length_append]; exact Nat.lt_succ_self _, va, lr, x, ts0, b :: us, vb :: ys, rfl, k3.trans kx, Dp.keep kx _ _ (data_fz _) hda3, g0, by rw [← heq, List.append_assoc]; rfl, upd_same, .cons (Dp.keep kx _ _ (data_fz _) hdb3) (Dp.keepAll kx _ _ (datas_fz _) hys3), rfl⟩
end
end Lz

set_option Elab.async false
set_option linter.all false
set_option maxRecDepth 100000
set_option maxHeartbeats 8000000
namespace Lz
open PySem PySem.Spec PyProof.Rows L2
theorem fn_one {fs : List Fn} {d : Lz.P} (h : PrOk fs d) {i j : Nat} {g g' : Fn} (hi : fs[i]? = some g) (hj : fs[j]? = some g') (e : g'.1 = g.1) : g' = g := by
  have hn := h.nd
  unfold fnsOf at hn
  rw [List.map_append, List.nodup_append] at hn
  have h1 : (fs.map (·.1))[i]? = some g.1 := by rw [List.getElem?_map, hi]; rfl
  have h2 : (fs.map (·.1))[j]? = some g.1 := by rw [List.getElem?_map, hj, ← e]; rfl
  obtain ⟨li, ei⟩ := List.getElem?_eq_some_iff.mp h1
  obtain ⟨lj, ej⟩ := List.getElem?_eq_some_iff.mp h2
  have hij : i = j := by
    by_cases c : i = j
    · exact c
    · rcases Nat.lt_or_gt_of_ne c with c | c
      · exact absurd (ei.trans ej.symm) (List.pairwise_iff_getElem.mp hn.1 i j li lj c)
      · exact absurd (ej.trans ei.symm) (List.pairwise_iff_getElem.mp hn.1 j i lj li c)
  subst hij
  rw [hi] at hj
  exact (Option.some.inj hj).symm
def spLWants (K : PySem.W.Frag) : Sp := fun vs H Q _ => ∃ (v : V) (fs : List Fn) (d : Lz.P) (i : Nat) (g : Fn), vs = [v, .str g.1] ∧ Dp K H v (progD fs d) ∧ PrOk fs d ∧ fs[i]? = some g ∧ ∀ H', Kp [] H H' → Q (.int (g.2.1.length : Nat)) H'
section
variable {P : Program} {w : World} {K : PySem.W.Frag} {mg : Str → Option Value} {base : Heap} {f : Addr} {fd : FuncData}
abbrev sLWants : Stmt := topS 44
theorem scLWants : FnScope ["_law_program_here", "_law_f", "_law_name", "_law_names_here", "_law_body_here"] ["_law_program_here", "_law_f"] (defScope sLWants) := ⟨rfl, rfl, rfl, by decide +kernel, rfl, by decide +kernel, by decide +kernel⟩
theorem ok_lwants (F : Fun K "_law_wants" "_law_wants" sLWants f fd) (B : Bt mg) : FnOk P w K mg base CX0 1 f fd ["_law_program_here", "_law_f"] (spLWants K) := by
  have ml := B.len
  refine F.ok scLWants (fun vs H Q E h => ?_) (fun cdv A outer s H vs Q E hr h => ?_)
  · obtain ⟨v, fs, d, i, g, rfl, _⟩ := h
    rfl
  obtain ⟨v, fs, d, i, g, rfl, hp, hok, hi, q⟩ := h
  refine ⟨_, (pss_one (ps_ret (pe_callB (call_lenK (K := K) rfl) (by rfl) ml PySem.boot_len (pa_cons (pe_ix (ix_listK (K := K) rfl) (pe_lc (own := [("_law_name", 2), ("_law_names_here", 3), ("_law_body_here", 4)]) rfl scLWants.nd (pi_tupK (K := K) rfl (pe_ix (ix_tupK (K := K) rfl) (pv 0) pe_int (fun _ _ => rfl))) (blkOk_by (N := ["_law_program_here", "_law_f", "_law_name", "_law_names_here", "_law_body_here"]) (sc := defScope sLWants) (by decide +kernel)) (fun _ _ _ _ _ => (pg_tupK (K := K) (n := 3) rfl rfl (pgs_cons (pg_name (i := 2) scLWants.nd rfl (.inl rfl)) (pgs_cons (pg_name (i := 3) scLWants.nd rfl (.inl rfl)) (pgs_cons (pg_name (i := 4) scLWants.nd rfl (.inl rfl)) pgs_nil))))) (fun _ _ _ _ _ => (pts_one (pt_cmpR op_eq (pv 2) (pv 1) (nomark _)))) (fun _ _ _ _ _ => (pv 3))) pe_int (fun _ _ => rfl)) pa_nil)))), ?_⟩
  obtain ⟨pr, ft, rs, vd, rfl, hpr, hft, hrs, hvd⟩ := prog_at hp
  have h8 := hok.len
  refine ⟨_, rfl, pr, _, _, _, rfl, rfl, hpr, at_of (j := 0) rfl rfl, ft, rfl, ⟨_, hft⟩, fun D hD => ?_⟩
  refine lc_tup (K := K) (a := ft) (xs := rs) (fun j H' => Kp [] H H' ∧ ∃ ws : List V, H' D = some (.lst ws) ∧ ws.length ≤ j ∧ (i < j → ws ≠ []) ∧ ∀ x, x ∈ ws → ∃ r, x = .ref r ∧ SqT K H' r (g.2.1.map V.str))
    ⟨Kp.new hD, [], upd_same, Nat.le_refl _, (fun h => absurd h (Nat.not_lt_zero _)), (fun _ m => nomatch m)⟩ (fun j H' _ ⟨k, _⟩ => k.sqT hft) ?_ ?_
  · rintro j x H1 hj ⟨k1, ws, hws, hwl, hwn, hwx⟩
    obtain ⟨g', t, r, u, hg', rfl, ht, hrr, hu⟩ := fn_atU (Dp.keepAll k1 _ _ (fdU_fz _) hrs) hj
    have hjl := (List.getElem?_eq_some_iff.mp hg').1
    refine ⟨t, _, rfl, ht, rfl, _, _, rfl, _, _, rfl, _, _, rfl, rfl, ?_⟩
    refine ⟨rfl, ?_⟩
    refine ⟨_, rfl, _, rfl, rfl, _, rfl, ?_⟩
    by_cases e : g'.1 = g.1
    · obtain rfl := fn_one hok hi hg' e
      refine ite2 (fun _ => ?_) (fun c => absurd (decide_eq_true rfl) c)
      have kp : Kp [D] H1 (upd H1 D (.lst (ws ++ [.ref r]))) := Kp.put hws List.mem_cons_self
      refine ⟨_, rfl, ws, hws, small9000 (by omega), k1.mut hD, _, upd_same, by rw [List.length_append, List.length_singleton]; omega, (fun _ => by simp), fun x m => ?_⟩
      rcases List.mem_append.mp m with m | m
      · obtain ⟨r', e1, h1⟩ := hwx x m
        exact ⟨r', e1, kp.sqT h1⟩
      · rw [List.mem_singleton.mp m]
        exact ⟨r, rfl, kp.sqT hrr⟩
    · refine ite2 (fun c => absurd (V.str.inj (of_decide_eq_true c)) e) (fun _ => ?_)
      refine ⟨k1, ws, hws, by omega, fun h => ?_, hwx⟩
      by_cases c : i < j
      · exact hwn c
      · have e2 : i = j := by omega
        subst e2
        rw [hi] at hg'
        exact absurd (congrArg (·.1) (Option.some.inj hg')).symm e
  · rintro H1 ⟨k1, ws, hws, hwl, hwn, hwx⟩
    have hrl : rs.length = fs.length := by rw [hrs.length, List.length_map]
    have hil := (List.getElem?_eq_some_iff.mp hi).1
    cases ws with
    | nil => exact absurd rfl (hwn (by rw [hrl]; exact hil))
    | cons w0 r0 =>
      obtain ⟨r, rfl, hr0⟩ := hwx w0 List.mem_cons_self
      refine ⟨D, _, _, _, rfl, rfl, SqL.of hws, at_of (j := 0) rfl rfl, r, _, rfl, .inr hr0, ?_⟩
      rw [List.length_map]
      exact q H1 k1
end
end Lz

set_option Elab.async false
set_option linter.all false
set_option maxRecDepth 100000
set_option maxHeartbeats 8000000
namespace Lz
open PySem PySem.Spec PyProof.Rows L2
def spLCall (K : PySem.W.Frag) : Sp := fun vs H Q _ => ∃ (vp v : V) (fs : List Fn) (d t : Lz.P) (ts : List Lz.P) (i : Nat) (g : Fn), vs = [vp, v] ∧ Dp K H vp (progD fs d) ∧ PrS fs d ∧ Dp K H v t.data ∧ Gv t (.fn g.1) ts ∧ fs[i]? = some g ∧ g.2.1.length = ts.length ∧ ts.length ≤ 4 ∧ g.2.2.mw ≤ 9000 ∧ g.2.2.dw ≤ 12 ∧
  ∀ (v' : V) (H' : Hp), Kp [] H H' → Ww K H' v' "call" (Lz.P.put (mergeT [] (g.2.1.zip ts)) g.2.2) → Q v' H'
theorem mergeT_snocZ (x : Str) (p : Lz.P) : ∀ (r th : List (Str × Lz.P)), mergeT th (r ++ [(x, p)]) = putT (mergeT th r) x p
  | [], th => rfl
  | q :: r, th => mergeT_snocZ x p r (putT th q.1 q.2)
section
variable {P : Program} {w : World} {K : PySem.W.Frag} {mg : Str → Option Value} {base : Heap} {f : Addr} {fd : FuncData}
abbrev sLCallOf : Stmt := topS 50
theorem scLCallOf : FnScope ["_law_program_here", "_law_part_here", "_law_head", "_law_things", "_law_names_here", "_law_body_here", "_law_known", "_law_name", "_law_thing"] ["_law_program_here", "_law_part_here"] (defScope sLCallOf) := ⟨rfl, rfl, rfl, by decide +kernel, rfl, by decide +kernel, by decide +kernel⟩
theorem ok_lcall (F : Fun K "_law_call_of" "_law_call_of" sLCallOf f fd) (mzip : mg "zip" = none) (CLSpine : C8.Cal P w K mg base 1 "_law_spine" (spGiven K) []) (CLPut : C8.Cal P w K mg base 13 "_law_put" (spLPut K 12) []) : FnOk P w K mg base CX0 14 f fd ["_law_program_here", "_law_part_here"] (spLCall K) := by
  refine F.ok scLCallOf (fun vs H Q E h => ?_) (fun cdv A outer s H vs Q E hr h => ?_)
  · obtain ⟨vp, v, fs, d, t, ts, i, g, rfl, _⟩ := h
    rfl
  have hu := units1 hr
  obtain ⟨vp, v, fs, d, t, ts, i, g, rfl, hp, hok, hd, hg, hi, hl, h4, hgm, hgd, q⟩ := h
  refine ⟨_, (pss_cons (ps_asg (C8.pe_c CLSpine hr (by first | decide | omega) (by rfl) (pa_cons (pv 1) pa_nil)) (pg_tupK (K := K) (n := 2) rfl rfl (pgs_cons (pg_name (i := 2) scLCallOf.nd rfl (.inr rfl)) (pgs_cons (pg_name (i := 3) scLCallOf.nd rfl (.inl rfl)) pgs_nil))))
    (pss_cons (ps_asg (pe_ix (ix_listK (K := K) rfl) (pe_lc (own := [("_law_name", 7), ("_law_names_here", 4), ("_law_body_here", 5)]) rfl scLCallOf.nd (pi_tupK (K := K) rfl (pe_ix (ix_tupK (K := K) rfl) (pv 0) pe_int (fun _ _ => rfl))) (blkOk_by (N := ["_law_program_here", "_law_part_here", "_law_head", "_law_things", "_law_names_here", "_law_body_here", "_law_known", "_law_name", "_law_thing"]) (sc := defScope sLCallOf) (by decide +kernel)) (fun _ _ _ _ _ => (pg_tupK (K := K) (n := 3) rfl rfl (pgs_cons (pg_name (i := 7) scLCallOf.nd rfl (.inl rfl)) (pgs_cons (pg_name (i := 4) scLCallOf.nd rfl (.inl rfl)) (pgs_cons (pg_name (i := 5) scLCallOf.nd rfl (.inl rfl)) pgs_nil))))) (fun _ _ _ _ _ => (pts_one (pt_cmpR op_eq (pv 7) (pe_ix (ix_tupK (K := K) rfl) (pv 2) pe_int (fun _ _ => rfl)) (nomark _)))) (fun _ _ _ _ _ => (pe_tup (pa_cons (pv 4) (pa_cons (pv 5) pa_nil))))) pe_int (fun _ _ => rfl)) (pg_tupK (K := K) (n := 2) rfl rfl (pgs_cons (pg_name (i := 4) scLCallOf.nd rfl (.inl rfl)) (pgs_cons (pg_name (i := 5) scLCallOf.nd rfl (.inl rfl)) pgs_nil))))
    (pss_cons (ps_set (i := 6) scLCallOf.nd rfl (.inl rfl) pe_dnewK)
    (pss_cons (ps_for PassesOwn.never rfl (pi_mixK (K := K) rfl (by rfl) mzip (pa_cons (pv 4) (pa_cons (pv 3) pa_nil))) (pg_tupK (K := K) (n := 2) rfl rfl (pgs_cons (pg_name (i := 7) scLCallOf.nd rfl (.inl rfl)) (pgs_cons (pg_name (i := 8) scLCallOf.nd rfl (.inl rfl)) pgs_nil))) (pss_one (ps_dput hu (pv 6) (pv 7) (pv 8) rfl)))
    (pss_one (ps_ret (pe_tup (pa_cons pe_str (pa_cons (C8.pe_c CLPut hr (by first | decide | omega) (by rfl) (pa_cons (pv 5) (pa_cons (pv 6) pa_nil))) pa_nil))))))))), ?_⟩
  refine ⟨_, rfl, v, t, _, ts, rfl, hd, hg, by omega, fun pa hv l xs H1 k1 hpa hhv hl1 hxs => ?_⟩
  obtain ⟨ah, e, hth⟩ := str_at hhv rfl
  subst e
  refine ⟨pa, _, rfl, SqT.of hpa, rfl, _, _, rfl, _, _, rfl, rfl, ?_⟩
  have hp1 := Dp.keep k1 _ _ (progU_fz _ _) hp
  obtain ⟨pr, ft, rs, vd, rfl, hpr, hft, hrs, hvd⟩ := prog_at hp1
  have h8 := hok.ok.len
  refine ⟨_, rfl, pr, _, _, _, rfl, rfl, hpr, at_of (j := 0) rfl rfl, ft, rfl, ⟨_, hft⟩, fun D hD => ?_⟩
  refine lc_tup (K := K) (a := ft) (xs := rs) (fun j H' => Kp [] H1 H' ∧ ∃ ws : List V, H' D = some (.lst ws) ∧ ws.length ≤ j ∧ (i < j → ws ≠ []) ∧ ∀ x, x ∈ ws → ∃ T r u, x = .ref T ∧ SqT K H' T [.ref r, u] ∧ SqT K H' r (g.2.1.map V.str) ∧ Dp K H' u g.2.2.data)
    ⟨Kp.new hD, [], upd_same, Nat.le_refl _, (fun h => absurd h (Nat.not_lt_zero _)), (fun _ m => nomatch m)⟩ (fun j H' _ ⟨k, _⟩ => k.sqT hft) ?_ ?_
  · rintro j x H2 hj ⟨k2, ws, hws, hwl, hwn, hwx⟩
    obtain ⟨g', t2, r, u, hg', rfl, ht, hrr, hu2⟩ := fn_atU (Dp.keepAll k2 _ _ (fdU_fz _) hrs) hj
    have hjl := (List.getElem?_eq_some_iff.mp hg').1
    refine ⟨t2, _, rfl, ht, rfl, _, _, rfl, _, _, rfl, _, _, rfl, rfl, ?_⟩
    refine ⟨rfl, ?_⟩
    refine ⟨_, rfl, _, rfl, ah, _, _, _, rfl, rfl, k2.sqT hth, at_of (j := 1) rfl rfl, rfl, _, rfl, ?_⟩
    by_cases e : g'.1 = g.1
    · obtain rfl := fn_one hok.ok hi hg' e
      refine ite2 (fun _ => ?_) (fun c => absurd (decide_eq_true rfl) c)
      refine ⟨_, rfl, _, rfl, (by show 2 ≤ sizeLine; decide), fun T hT => ?_⟩
      have kT : Kp [] H2 (upd H2 T (.tup [.ref r, u])) := Kp.new hT
      have hT3 : (upd H2 T (.tup [.ref r, u])) T = some (.tup [.ref r, u]) := upd_same
      have hws3 := kT.lst hws (fun m => nomatch m)
      generalize upd H2 T (.tup [.ref r, u]) = H3 at kT hT3 hws3 ⊢
      have kp : Kp [D] H3 (upd H3 D (.lst (ws ++ [.ref T]))) := Kp.put hws3 List.mem_cons_self
      have kk : Kp [D] H2 (upd H3 D (.lst (ws ++ [.ref T]))) := (kT.mono (fun _ m => nomatch m)).trans kp
      refine ⟨ws, hws3, small9000 (by omega), (k2.trans kT).mut hD, _, upd_same, by rw [List.length_append, List.length_singleton]; omega, (fun _ => by simp), fun x m => ?_⟩
      rcases List.mem_append.mp m with m | m
      · obtain ⟨T', r', u', e1, a1, a2, a3⟩ := hwx x m
        exact ⟨T', r', u', e1, kk.sqT a1, kk.sqT a2, Dp.keep kk _ _ (data_fz _) a3⟩
      · rw [List.mem_singleton.mp m]
        exact ⟨T, r, u, rfl, kp.sqT (SqT.of hT3), kk.sqT hrr, Dp.keep kk _ _ (data_fz _) hu2⟩
    · refine ite2 (fun c => absurd (V.str.inj (of_decide_eq_true c)) e) (fun _ => ?_)
      refine ⟨k2, ws, hws, by omega, fun h => ?_, hwx⟩
      by_cases c : i < j
      · exact hwn c
      · have e2 : i = j := by omega
        subst e2
        rw [hi] at hg'
        exact absurd (congrArg (·.1) (Option.some.inj hg')).symm e
  rintro H2 ⟨k2, ws, hws, hwl, hwn, hwx⟩
  have hrl : rs.length = fs.length := by rw [hrs.length, List.length_map]
  have hil := (List.getElem?_eq_some_iff.mp hi).1
  cases ws with
  | nil => exact absurd rfl (hwn (by rw [hrl]; exact hil))
  | cons w0 r0 =>
    obtain ⟨T, r, u, rfl, hT, hr0, hu0⟩ := hwx w0 List.mem_cons_self
    refine ⟨D, _, _, _, rfl, rfl, SqL.of hws, at_of (j := 0) rfl rfl, T, _, rfl, hT, rfl, _, _, rfl, _, _, rfl, rfl, ?_⟩
    intro pd hpd
    have kx : Kp [] H2 (upd H2 pd (.dK [])) := Kp.new hpd
    have hT3 : TD K (upd H2 pd (.dK [])) pd [] [] := TD.new hpd
    have hr3 := kx.sqT hr0
    have hu3 := Dp.keep kx _ _ (data_fz _) hu0
    have k3 := k2.trans kx
    generalize upd H2 pd (.dK []) = H3 at kx hT3 hr3 hu3 k3 ⊢
    have hl2 := k2.lst hl1 (fun m => nomatch m)
    have hx2 := Dp.keepAll k2 _ _ (datas_fz _) hxs
    have hxl : xs.length = ts.length := by rw [hx2.length, datas_len]
    have k02 := k1.trans k2
    refine ⟨_, rfl, _, rfl, r, l, _, _, rfl, hr3, SqL.of (kx.lst hl2 (fun m => nomatch m)), for_it (StZ.walk_mix (K := K) (a := r) (b := l) (xs := g.2.1.map V.str) (ys := xs) (n := ts.length) (by rw [List.length_map, hxl, hl, Nat.min_self])) (fun j σ H' => ∃ (v7 v8 : Option V) (kvs : List (Key × V)), σ = [some (.ref pr), some v, some (.ref ah), some (.ref l), some (.ref r), some u, some (.ref pd), v7, v8] ∧ Kp [] H2 H' ∧ TD K H' pd kvs (mergeT [] ((g.2.1.zip ts).take j)) ∧ kvs.length ≤ j)
      ⟨none, none, [], rfl, kx, hT3, Nat.le_refl _⟩ (fun j σ H' _ ⟨_, _, _, _, k, _⟩ => ⟨k.sqT hr0, SqL.of (k.lst hl2 (fun m => nomatch m))⟩) ?_ ?_⟩
    · rintro j x σ H4 H5 hj ⟨v7, v8, kvs, rfl, k4, hT4, hkl⟩ ⟨T2, rv, ov, rfl, hT0, rfl, e3, e4⟩
      have e3 : (g.2.1.map V.str)[j]? = some rv := e3
      have e4 : xs[j]? = some ov := e4
      rw [List.getElem?_map] at e3
      obtain ⟨nx, hnx, rfl⟩ : ∃ nx, g.2.1[j]? = some nx ∧ V.str nx = rv := by
        cases e : g.2.1[j]? with
        | none => rw [e] at e3; cases e3
        | some y => rw [e] at e3; exact ⟨y, rfl, Option.some.inj e3⟩
      obtain ⟨tt, htt, hdt⟩ := part_atU hx2 e4
      have ky : Kp [] H4 (upd H4 T2 (.tup [.str nx, ov])) := Kp.new hT0
      have hT5 := hT4.keep ky
      have k5 := k4.trans ky
      have hT25 : (upd H4 T2 (.tup [.str nx, ov])) T2 = some (.tup [.str nx, ov]) := upd_same
      generalize upd H4 T2 (.tup [.str nx, ov]) = H5 at hT5 k5 hT25 ⊢
      refine ⟨T2, _, rfl, SqT.of hT25, rfl, _, _, rfl, _, _, rfl, rfl, ?_⟩
      refine ⟨_, rfl, _, rfl, _, rfl, pd, _, rfl, DPut.k (k := .inr nx) hT5.at' (small9000 (by omega)), ?_⟩
      have kt : Tk K H5 (upd H5 pd (.dK (putK kvs (.inr nx) ov))) := Tk.put hT5.at'
      have hl' := length_putK kvs (.inr nx) ov
      refine ⟨_, _, _, rfl, k5.mut hpd, ⟨upd_same, ?_⟩, by omega⟩
      have ez : (g.2.1.zip ts)[j]? = some (nx, tt) := by
        rw [List.getElem?_zip_eq_some]
        exact ⟨hnx, htt⟩
      rw [List.take_add_one, ez]
      show TdAll K _ _ (mergeT [] (_ ++ [(nx, tt)]))
      rw [mergeT_snocZ]
      exact (hT5.all.keepT kt).putF (Dp.keepT kt _ _ (data_fz _) (Dp.keep k5 _ _ (data_fz _) hdt))
    · rintro σ H4 ⟨v7, v8, kvs, rfl, k4, hT4, hkl⟩
      rw [List.take_of_length_le (by rw [List.length_zip]; omega)] at hT4
      refine ⟨_, rfl, _, rfl, u, pd, g.2.2, _, kvs, _, rfl, Dp.keep k4 _ _ (data_fz _) hu0, hok.bo g (List.mem_append_left _ (List.mem_of_getElem? hi)), hgm, hgd, hT4, fun v' H5 k5 hd5 => ?_⟩
      refine ⟨(by show 2 ≤ sizeLine; decide), fun T' hT' => ?_⟩
      exact q (.ref T') _ (k02.trans (k4.trans (k5.trans (Kp.new hT')))) (Ww.new hT' hd5)
end
end Lz

set_option Elab.async false
set_option linter.all false
set_option maxRecDepth 100000
set_option maxHeartbeats 8000000
namespace Lz
open PySem PySem.Spec PyProof.Rows L2
abbrev tkv (i j : Int) : List (Key × V) := putK (putK (mergeK [] [(Sum.inr "plus", .int (i + j)), (Sum.inr "less", .int (i - j))]) (Sum.inr "times") (.int (i * j))) (Sum.inr "below") (.int (if decide (i < j) = true then 1 else 0))
theorem two_val {k : Str} (i j : Int) (h : k ∈ fours) : valV (tkv i j) (Sum.inr k) = some (.int (comeOf k i j)) := by
  have h' : k = "plus" ∨ k = "less" ∨ k = "times" ∨ k = "below" := by
    unfold fours at h
    simpa using h
  have c4 : comeOf "below" i j = if decide (i < j) = true then 1 else 0 := by
    unfold comeOf
    rw [if_neg (by decide +kernel), if_neg (by decide +kernel), if_neg (by decide +kernel)]
    by_cases e : i < j
    · rw [if_pos e, if_pos (decide_eq_true e)]
    · rw [if_neg e, if_neg (fun z => e (of_decide_eq_true z))]
  rcases h' with rfl | rfl | rfl | rfl
  · rfl
  · rfl
  · rfl
  · rw [c4]; rfl
def spLTwo (K : PySem.W.Frag) : Sp := fun vs H Q _ => ∃ (k : Str) (i j : Int), vs = [.str k, .int i, .int j] ∧ k ∈ fours ∧ i.natAbs < 10 ^ 60 ∧ j.natAbs < 10 ^ 60 ∧ ∀ (v' : V) (H' : Hp), Kp [] H H' → ((¬ (comeOf k i j).natAbs < 10 ^ 60 ∧ Dp K H' v' (Out.f "great").data) ∨ ((comeOf k i j).natAbs < 10 ^ 60 ∧ Dp K H' v' (Out.s "number" (.num (comeOf k i j))).data)) → Q v' H'
section
variable {P : Program} {w : World} {K : PySem.W.Frag} {mg : Str → Option Value} {base : Heap} {f : Addr} {fd : FuncData}
abbrev sLOfTwo : Stmt := topS 51
theorem scLOfTwo : FnScope ["_law_kind", "_law_one", "_law_other", "_law_some", "_law_number_here"] ["_law_kind", "_law_one", "_law_other"] (defScope sLOfTwo) := ⟨rfl, rfl, rfl, by decide +kernel, rfl, by decide +kernel, by decide +kernel⟩
theorem ok_ltwo (F : Fun K "_law_of_two" "_law_of_two" sLOfTwo f fd) (B : Bt mg) : FnOk P w K mg base CX0 1 f fd ["_law_kind", "_law_one", "_law_other"] (spLTwo K) := by
  have mint := B.int
  have mabs := B.abs
  refine F.ok scLOfTwo (fun vs H Q E h => ?_) (fun cdv A outer s H vs Q E hr h => ?_)
  · obtain ⟨k, i, j, rfl, _⟩ := h
    rfl
  have hu := units1 hr
  obtain ⟨k, i, j, rfl, hk, hi, hj, q⟩ := h
  refine ⟨_, (pss_cons (ps_set (i := 3) scLOfTwo.nd rfl (.inl rfl) (pe_disp (pps_cons pe_str (pe_op op_add (pv 1) (pv 2)) (pps_cons pe_str (pe_op op_sub (pv 1) (pv 2)) pps_nil)) rfl rfl (by intro q; cases q) (by decide)))
    (pss_cons (ps_dput hu (pv 3) pe_str (pe_op op_mulW (pv 1) (pv 2)) rfl)
    (pss_cons (ps_dput hu (pv 3) pe_str (pe_callTy call_int1 (by rfl) mint (by decide +kernel) (pa_cons (pe_cmpR op_lt (pv 1) (pv 2) (nomark _)) pa_nil)) rfl)
    (pss_cons (ps_set (i := 4) scLOfTwo.nd rfl (.inl rfl) (pe_dget hu (pv 3) (pv 0) (fun _ _ => rfl)))
    (pss_cons (ps_if (pt_cmpR op_ge (pe_callB call_abs (by rfl) mabs (by decide +kernel) (pa_cons (pv 4) pa_nil)) (pe_op op_pow pe_int pe_int) (nomark _)) (pss_one (ps_ret (pe_tup (pa_cons pe_str (pa_cons pe_str pa_nil))))) pss_nil)
    (pss_one (ps_ret (pe_tup (pa_cons pe_str (pa_cons (pe_tup (pa_cons pe_str (pa_cons (pv 4) pa_nil))) pa_nil)))))))))), ?_⟩
  refine fun dd hdd => ⟨_, rfl, _, rfl, _, _, rfl, rfl, _, rfl, _, rfl, _, _, rfl, rfl, upd_same, [(Sum.inr _, .int _), (Sum.inr _, .int _)], rfl, (by show 2 ≤ 15; decide), ?_⟩
  refine ⟨_, rfl, _, rfl, _, _, rfl, rfl, log_mul hi hj, _, rfl, dd, _, rfl, DPut.k (k := Sum.inr _) upd_same (by show (2 : Nat) < _; decide +kernel), ?_⟩
  refine ⟨_, rfl, _, rfl, _, _, rfl, rfl, .inr ⟨_, rfl, ?_⟩⟩
  refine ⟨_, rfl, dd, _, rfl, DPut.k (k := Sum.inr _) upd_same (by show (3 : Nat) < _; decide +kernel), ?_⟩
  have ew : upd (upd (upd (upd H dd (.dK [])) dd (.dK (mergeK [] [(Sum.inr "plus", .int (i + j)), (Sum.inr "less", .int (i - j))]))) dd (.dK (putK (mergeK [] [(Sum.inr "plus", .int (i + j)), (Sum.inr "less", .int (i - j))]) (Sum.inr "times") (.int (i * j))))) dd (.dK (tkv i j)) = upd H dd (.dK (tkv i j)) := by
    rw [upd_upd, upd_upd, upd_upd]
  show tSeq _ _ _ _ (upd (upd (upd (upd H dd (.dK [])) dd (.dK (mergeK [] [(Sum.inr "plus", .int (i + j)), (Sum.inr "less", .int (i - j))]))) dd (.dK (putK (mergeK [] [(Sum.inr "plus", .int (i + j)), (Sum.inr "less", .int (i - j))]) (Sum.inr "times") (.int (i * j))))) dd (.dK (tkv i j)))
  rw [ew]
  have k1 : Kp [] H (upd H dd (.dK (tkv i j))) := Kp.new hdd
  have hd1 : (upd H dd (.dK (tkv i j))) dd = some (.dK (tkv i j)) := upd_same
  generalize upd H dd (.dK (tkv i j)) = H1 at k1 hd1 ⊢
  refine ⟨_, rfl, _, rfl, dd, _, rfl, (by have := DGet.k (k := Sum.inr k) hd1; rw [two_val i j hk] at this; exact this), ?_⟩
  have e60 : ((10 ^ 60 : Nat) : Int) = beyond := rfl
  refine ⟨_, rfl, _, rfl, _, _, rfl, rfl, ⟨by decide, by decide, by decide⟩, _, _, rfl, rfl, _, rfl, ?_⟩
  refine ite2 (fun c => ?_) (fun c => ?_)
  · have hno : ¬ (comeOf k i j).natAbs < 10 ^ 60 := fun z => by
      have h1 := (beyond_iff _).mpr z
      have h2 : beyond ≤ (if comeOf k i j < 0 then -comeOf k i j else comeOf k i j) := of_decide_eq_true c
      omega
    refine ⟨(by show 2 ≤ sizeLine; decide), fun T hT => ?_⟩
    exact q _ _ (k1.trans (Kp.new hT)) (.inl ⟨hno, Dp.newT hT (.cons (.str _) (.cons (.str _) .nil)) rfl⟩)
  · have hyes : (comeOf k i j).natAbs < 10 ^ 60 := (beyond_iff _).mp (by
      have h2 : ¬ beyond ≤ (if comeOf k i j < 0 then -comeOf k i j else comeOf k i j) := fun z => c (decide_eq_true z)
      omega)
    refine ⟨_, rfl, (by show 2 ≤ sizeLine; decide), fun T hT => ⟨(by show 2 ≤ sizeLine; decide), fun T2 hT2 => ?_⟩⟩
    have e1 : Dp K (upd H1 T (.tup [.str "number", .int (comeOf k i j)])) (.ref T) (Lz.P.num (comeOf k i j)).data := Dp.newT hT (.cons (.str _) (.cons (.int _) .nil)) rfl
    exact q _ _ (k1.trans ((Kp.new hT).trans (Kp.new hT2))) (.inr ⟨hyes, Dp.newT hT2 (.cons (.str _) (.cons e1 .nil)) rfl⟩)
end
end Lz

set_option Elab.async false
set_option linter.all false
set_option maxRecDepth 100000
set_option maxHeartbeats 8000000
namespace Lz
open PySem PySem.Spec PyProof.Rows L2
/-- compared with what is not deep -/
def rEqMin (K : PySem.W.Frag) : R2 := fun x y H Q => ∃ d e, Dp K H x d ∧ Dp K H y e ∧ d.canLay0 = true ∧ e.canLay0 = true ∧ e.depth ≤ 64 ∧ Q (.bl (PyData.eqv d e)) H
theorem op_eqMin {X : Cx} {K : PySem.W.Frag} (h : X.K = K) (hu : X.A.units + 64 < cLine) : OpR X (compareOp .Eq) (rEqMin K) := by
  subst h
  intro pins s σ H x y v u Q I rx ry h
  obtain ⟨d, e, hd, he, sd, se, hl, q⟩ := h
  obtain ⟨as, r1⟩ := Dp.reads I d x v hd rx
  obtain ⟨bs, r2⟩ := Dp.reads I e y u he ry
  have h2 : min d.depth e.depth ≤ e.depth := Nat.min_le_right _ _
  exact SeqAt.compareEq_reads r1 r2 sd se (by omega) ⟨.bl _, H, I, rfl, q⟩
theorem eq_nilP (ts : List Lz.P) : PyData.eqv (.list (Lz.P.datas ts)) (.list []) = decide (ts.length = 0) := by
  rw [PyData.eqv]
  cases ts with
  | nil => rfl
  | cons a r =>
    show PyData.eqvAll (a.data :: Lz.P.datas r) [] = _
    rw [PyData.eqvAll]
    rfl
def spLIsW (K : PySem.W.Frag) : Sp := fun vs H Q _ => ∃ (vp v : V) (fs : List Fn) (d t : Lz.P), vs = [vp, v] ∧ Dp K H vp (progD fs d) ∧ PrS fs d ∧ Dp K H v t.data ∧ t.okS (fs.map (·.1)) ∧ (∀ h ts, Gv t h ts → ts.length ≤ 900) ∧ ∀ H', Kp [] H H' → Q (.bl (wb fs t)) H'
section
variable {P : Program} {w : World} {K : PySem.W.Frag} {mg : Str → Option Value} {base : Heap} {f : Addr} {fd : FuncData}
abbrev sLIsWorth : Stmt := topS 48
theorem scLIsWorth : FnScope ["_law_program_here", "_law_part_here", "_law_head", "_law_things"] ["_law_program_here", "_law_part_here"] (defScope sLIsWorth) := ⟨rfl, rfl, rfl, by decide +kernel, rfl, by decide +kernel, by decide +kernel⟩
theorem ok_lworth (F : Fun K "_law_is_worth" "_law_is_worth" sLIsWorth f fd) (B : Bt mg) (CLSpine : C8.Cal P w K mg base 1 "_law_spine" (spGiven K) []) (CLWants : C8.Cal P w K mg base 1 "_law_wants" (spLWants K) []) : FnOk P w K mg base CX0 2 f fd ["_law_program_here", "_law_part_here"] (spLIsW K) := by
  have ml := B.len
  refine F.ok scLIsWorth (fun vs H Q E h => ?_) (fun cdv A outer s H vs Q E hr h => ?_)
  · obtain ⟨vp, v, fs, d, t, rfl, _⟩ := h
    rfl
  have hu64 := hr.units
  obtain ⟨vp, v, fs, d, t, rfl, hp, hok, hd, hto, hmany, q⟩ := h
  refine ⟨_, (pss_cons (ps_asg (C8.pe_c CLSpine hr (by first | decide | omega) (by rfl) (pa_cons (pv 1) pa_nil)) (pg_tupK (K := K) (n := 2) rfl rfl (pgs_cons (pg_name (i := 2) scLIsWorth.nd rfl (.inl rfl)) (pgs_cons (pg_name (i := 3) scLIsWorth.nd rfl (.inl rfl)) pgs_nil))))
    (pss_cons (ps_if (pt_cmpR op_ne (pe_ix (ix_tupK (K := K) rfl) (pv 2) pe_int (fun _ _ => rfl)) pe_str (nomark _)) (pss_one (ps_ret (pe_and (pe_cmpR (op_eqMin (K := K) rfl hu64) (pv 3) (pe_lst pa_nil) (nomark _)) (pe_one (pe_cmpR (op_inK (K := K) rfl) (pe_ix (ix_tupK (K := K) rfl) (pv 2) pe_int (fun _ _ => rfl)) (pe_tup (pa_cons pe_str (pa_cons pe_str pa_nil))) rfl))))) pss_nil)
    (pss_one (ps_ret (pe_cmpR op_lt (pe_callB (call_lenK (K := K) rfl) (by rfl) ml PySem.boot_len (pa_cons (pv 3) pa_nil)) (C8.pe_c CLWants hr (by first | decide | omega) (by rfl) (pa_cons (pv 0) (pa_cons (pe_ix (ix_tupK (K := K) rfl) (pv 2) pe_int (fun _ _ => rfl)) pa_nil))) (nomark _)))))), ?_⟩
  obtain ⟨h, ts, hg, hho, hts⟩ := gv_ex t.many t (Nat.le_refl _) hto
  have hn := hmany h ts hg
  refine ⟨_, rfl, v, t, h, ts, rfl, hd, hg, hn, fun pa hv l xs H1 k1 hpa hhv hl1 hxs => ?_⟩
  obtain ⟨ph, yh, rfl, hth, hyh⟩ := hd_at hhv
  refine ⟨pa, _, rfl, SqT.of hpa, rfl, _, _, rfl, _, _, rfl, rfl, ?_⟩
  refine ⟨_, rfl, ph, _, _, _, rfl, rfl, hth, at_of (j := 0) rfl rfl, rfl, _, rfl, ?_⟩
  have hwb := wb_eq (fs := fs) hg.spine
  by_cases hf : h.hd = "fun"
  · refine ite2 (fun c => absurd c (by simp [hf])) (fun _ => ?_)
    obtain ⟨x, rfl, _⟩ := hd_fun hho hf
    obtain ⟨ah, e, hth2⟩ := str_at hhv rfl
    obtain rfl := V.ref.inj e
    obtain ⟨g, hgm, hgx⟩ := List.mem_map.mp (show nmOk x ∧ x ∈ fs.map (·.1) from hho).2
    obtain ⟨i, hi⟩ := List.mem_iff_getElem?.mp hgm
    subst hgx
    refine ⟨_, rfl, l, xs, rfl, .inl (SqL.of hl1), _, rfl, _, rfl, ph, _, _, _, rfl, rfl, hth2, at_of (j := 1) rfl rfl, vp, fs, d, i, g, rfl, Dp.keep k1 _ _ (progU_fz _ _) hp, hok.ok, hi, fun H2 k2 => ?_⟩
    refine ⟨_, _, rfl, rfl, ?_⟩
    have hnd : (fs.map (·.1)).Nodup := by
      have := hok.ok.nd
      unfold fnsOf at this
      rw [List.map_append, List.nodup_append] at this
      exact this.1
    have q2 := q H2 (k1.trans k2)
    rw [hwb, worth_fn, wants_at hnd hi] at q2
    have hxl : xs.length = ts.length := by rw [hxs.length, datas_len]
    have e : decide ((xs.length : Int) < (g.2.1.length : Nat)) = decide (ts.length < g.2.1.length) := by
      rw [hxl, Bool.eq_iff_iff, decide_eq_true_iff, decide_eq_true_iff]
      omega
    show Q (V.bl (decide ((xs.length : Int) < ((g.2.1.length : Nat) : Int)))) H2
    rw [e]
    exact q2
  · refine ite2 (fun _ => ?_) (fun c => absurd (by simpa using hf) c)
    refine ⟨_, rfl, Nat.zero_le _, fun l0 hl0 => ?_⟩
    have kx : Kp [] H1 (upd H1 l0 (.lst [])) := Kp.new hl0
    have h0 : (upd H1 l0 (.lst [])) l0 = some (.lst []) := upd_same
    have hl2 := kx.lst hl1 (fun m => nomatch m)
    have hx2 := Dp.keepAll kx _ _ (datas_fz _) hxs
    have hth2 := kx.sqT hth
    have k2 := k1.trans kx
    generalize upd H1 l0 (.lst []) = H2 at h0 hl2 hx2 hth2 k2 ⊢
    have hlay : (PyData.list (Lz.P.datas ts)).canLay0 = true := by
      rw [PyData.canLay0]
      exact datas_layS ts (okSs_iff.mpr hts)
    refine ⟨_, _, .lst (SqL.of hl2) hx2, .lst (SqL.of h0) .nil, hlay, (by rw [PyData.canLay0]; exact lay_nil), (by simp only [PyData.depth, PyData.depthAll]; decide), _, rfl, ?_⟩
    rw [eq_nilP]
    rw [worth_not hf] at hwb
    by_cases h00 : ts.length = 0
    · refine ite2 (fun _ => ?_) (fun c => absurd (decide_eq_true h00) c)
      refine ⟨_, rfl, ph, _, _, _, rfl, rfl, hth2, at_of (j := 0) rfl rfl, (by show 2 ≤ sizeLine; decide), fun T hT => ?_⟩
      refine ⟨T, _, rfl, .inr (SqT.of upd_same), rfl, rfl, ?_⟩
      have q2 := q _ (k2.trans (Kp.new (S := []) (o := .tup [.str "number", .str "pair"]) hT))
      rw [hwb, decide_eq_true h00, Bool.true_and] at q2
      rw [in2U]
      exact q2
    · refine ite2 (fun c => absurd (of_decide_eq_true c) h00) (fun _ => ?_)
      have q2 := q _ k2
      rw [hwb, decide_eq_false h00, Bool.false_and] at q2
      exact q2
end
end Lz

set_option Elab.async false
set_option linter.all false
set_option maxRecDepth 100000
set_option maxHeartbeats 8000000
namespace Lz
open PySem PySem.Spec PyProof.Rows L2
theorem StepR.op {fs : List Fn} {d : Lz.P} {k : Str} {as : List Lz.P} {o : Out} (h : StepR fs d (.op k as) o) : wb fs (.op k as) = false ∧ ∃ o', Due fs d (.op k as) o' ∧ ((o = o' ∧ ∀ n, o' ≠ .inn n) ∨ ∃ j a oa, o' = .inn (j + 1) ∧ as[j]? = some a ∧ StepR fs d a oa ∧ o = oa.back (k, as, j)) := by
  cases h with
  | here hw hd => exact ⟨hw, _, hd, .inl ⟨rfl, fun n e => nomatch e⟩⟩
  | fault hw hd => exact ⟨hw, _, hd, .inl ⟨rfl, fun n e => nomatch e⟩⟩
  | inn hw hd ha hs => exact ⟨hw, _, hd, .inr ⟨_, _, _, rfl, ha, hs, rfl⟩⟩
theorem StepR.fn {fs : List Fn} {d : Lz.P} {x : Str} {o : Out} (h : StepR fs d (.fn x) o) : Due fs d (.fn x) o := by
  cases h with
  | here hw hd => exact hd
  | fault hw hd => exact hd
theorem StepR.lt {fs : List Fn} {d : Lz.P} {nm : List Str} {as : List Lz.P} {b : Lz.P} {o : Out} (h : StepR fs d (.lt nm as b) o) : Due fs d (.lt nm as b) o := by
  cases h with
  | here hw hd => exact hd
  | fault hw hd => exact hd
theorem StepR.wb {fs : List Fn} {d t : Lz.P} {o : Out} (h : StepR fs d t o) : Lz.wb fs t = false := by
  cases h with
  | here hw _ => exact hw
  | fault hw _ => exact hw
  | inn hw _ _ _ => exact hw
/-- what is told of a step -/
theorem StepR.out {fs : List Fn} {d t : Lz.P} {o : Out} (h : StepR fs d t o) : (∃ x, o = .f x) ∨ ∃ x u, o = .s x u ∧ x ≠ "fault" := by
  induction h with
  | here _ hd => exact .inr ⟨_, _, rfl, (due_word hd).2.2⟩
  | fault _ _ => exact .inl ⟨_, rfl⟩
  | @inn k as a j o _ _ _ _ ih =>
    rcases ih with ⟨x, rfl⟩ | ⟨x, u, rfl, h⟩
    · exact .inl ⟨x, rfl⟩
    · exact .inr ⟨x, _, rfl, h⟩
/-- what a part to be stepped keeps -/
structure Lw (fs : List Fn) (d t : Lz.P) (n : Nat) : Prop where
  ok : Ok10 fs 60 12 t
  mw : t.mw ≤ 9000
  dn : t.deep ≤ n
  d9 : t.deep ≤ 900
def spLStep (K : PySem.W.Frag) (n : Nat) : Sp := fun vs H Q _ => ∃ (vp v : V) (fs : List Fn) (d t : Lz.P) (o : Out), vs = [vp, v] ∧ Dp K H vp (progD fs d) ∧ PrS fs d ∧ Pr10 fs d 60 12 ∧ Dp K H v t.data ∧ StepR fs d t o ∧ Lw fs d t n ∧ ∀ (v' : V) (H' : Hp), Kp [] H H' → Dp K H' v' o.data → Q v' H'
def spLWithin (K : PySem.W.Frag) (n : Nat) : Sp := fun vs H Q _ => ∃ (vp v : V) (fs : List Fn) (d a : Lz.P) (k : Str) (as : List Lz.P) (j : Nat) (oa : Out), vs = [vp, v, .int ((j + 1 : Nat) : Int)] ∧ Dp K H vp (progD fs d) ∧ PrS fs d ∧ Pr10 fs d 60 12 ∧ Dp K H v (Lz.P.op k as).data ∧ as.length ≤ 3 ∧ as[j]? = some a ∧ StepR fs d a oa ∧ Lw fs d a n ∧ ∀ (v' : V) (H' : Hp), Kp [] H H' → Dp K H' v' (oa.back (k, as, j)).data → Q v' H'
section
variable {P : Program} {w : World} {K : PySem.W.Frag} {mg : Str → Option Value} {base : Heap} {f : Addr} {fd : FuncData}
abbrev sLWithin : Stmt := topS 49
theorem scLWithin : FnScope ["_law_program_here", "_law_part_here", "_law_at", "_law_word", "_law_found"] ["_law_program_here", "_law_part_here", "_law_at"] (defScope sLWithin) := ⟨rfl, rfl, rfl, by decide +kernel, rfl, by decide +kernel, by decide +kernel⟩
theorem ok_lwithin {n j0 : Nat} (hj0 : 1 ≤ j0) (F : Fun K "_law_within" "_law_within" sLWithin f fd) (CLStep : C8.Cal P w K mg base j0 "_law_step" (spLStep K n) []) : FnOk P w K mg base CX0 (j0 + 1) f fd ["_law_program_here", "_law_part_here", "_law_at"] (spLWithin K n) := by
  refine F.ok scLWithin (fun vs H Q E h => ?_) (fun cdv A outer s H vs Q E hr h => ?_)
  · obtain ⟨vp, v, fs, d, a, k, as, j, oa, rfl, _⟩ := h
    rfl
  obtain ⟨vp, v, fs, d, a, k, as, j, oa, rfl, hp, hok, hpr, hd, h3, ha, hs, hl, q⟩ := h
  refine ⟨_, (pss_cons (ps_asg (C8.pe_c CLStep hr (by first | decide | omega) (by rfl) (pa_cons (pv 0) (pa_cons (pe_ix (ix_tupK (K := K) rfl) (pv 1) (pv 2) (fun _ _ => rfl)) pa_nil))) (pg_tupK (K := K) (n := 2) rfl rfl (pgs_cons (pg_name (i := 3) scLWithin.nd rfl (.inl rfl)) (pgs_cons (pg_name (i := 4) scLWithin.nd rfl (.inl rfl)) pgs_nil))))
    (pss_cons (ps_if (pt_cmpR op_eq (pv 3) pe_str (nomark _)) (pss_one (ps_ret (pe_tup (pa_cons (pv 3) (pa_cons (pv 4) pa_nil))))) pss_nil)
    (pss_one (ps_ret (pe_tup (pa_cons (pv 3) (pa_cons (pe_op (op_catAK (K := K) rfl) (pe_op (op_catAK (K := K) rfl) (pe_slice (sl_tupAK (K := K) rfl) (pv 1) po_none (po_some (pv 2))) (pe_tup (pa_cons (pv 4) pa_nil))) (pe_slice (sl_tupAK (K := K) rfl) (pv 1) (po_some (pe_op op_add (pv 2) pe_int)) po_none)) pa_nil))))))), ?_⟩
  obtain ⟨p, xs, rfl, ht, hxs⟩ := op_atU hd
  obtain ⟨va, hva, hda⟩ := hxs.get (i := j) (d := a.data) (by rw [datas_map, List.getElem?_map, ha]; rfl)
  have hjl := (List.getElem?_eq_some_iff.mp ha).1
  have hxl : xs.length = as.length := by rw [hxs.length, datas_len]
  refine ⟨_, rfl, _, rfl, _, rfl, p, _, _, _, rfl, rfl, ht, at_of (j := j + 1) rfl (by rw [List.getElem?_cons_succ]; exact hva), vp, va, fs, d, a, oa, rfl, hp, hok, hpr, hda, hs, hl, fun v' H1 k1 hv' => ?_⟩
  rcases hs.out with ⟨x, rfl⟩ | ⟨x, u, rfl, hx⟩
  · obtain ⟨pt, zs, rfl, hpt, hzs⟩ := Dp.tup_of (ds := [.str "fault", .str x]) hv'
    obtain ⟨z1, r1, rfl, hz1, hz2⟩ := DpAll.unconsE hzs
    obtain ⟨z2, r2, rfl, hz3, hz4⟩ := DpAll.unconsE hz2
    cases hz1
    cases hz3
    cases hz4
    refine ⟨pt, _, rfl, hpt, rfl, _, _, rfl, _, _, rfl, rfl, ?_⟩
    refine ⟨_, rfl, rfl, _, rfl, ?_⟩
    refine ite2 (fun _ => ?_) (fun c => absurd (decide_eq_true rfl) c)
    refine ⟨_, rfl, _, rfl, (by show 2 ≤ sizeLine; decide), fun T hT => ?_⟩
    exact q _ _ (k1.trans (Kp.new hT)) (Dp.newT hT (.cons (.str _) (.cons (.str _) .nil)) rfl)
  · obtain ⟨pt, zs, rfl, hpt, hzs⟩ := Dp.tup_of (ds := [.str x, u.data]) hv'
    obtain ⟨z1, r1, rfl, hz1, hz2⟩ := DpAll.unconsE hzs
    obtain ⟨z2, r2, rfl, hz3, hz4⟩ := DpAll.unconsE hz2
    cases hz1
    cases hz4
    refine ⟨pt, _, rfl, hpt, rfl, _, _, rfl, _, _, rfl, rfl, ?_⟩
    refine ⟨_, rfl, rfl, _, rfl, ?_⟩
    refine ite2 (fun c => absurd (V.str.inj (of_decide_eq_true c)) hx) (fun _ => ?_)
    have hset : (V.str k :: xs).take (j + 1) ++ [z2] ++ (V.str k :: xs).drop (j + 2) = .str k :: xs.set j z2 := by
      rw [List.append_assoc, List.take_succ_cons, List.drop_succ_cons, List.cons_append, List.set_eq_take_append_cons_drop, if_pos (by omega)]
      rfl
    have fin : ∀ (H' : Hp) (c T : Addr), Kp [] H1 H' → SqT K H' c (.str k :: xs.set j z2) → H' T = none → Q (.ref T) (upd H' T (.tup [.str x, .ref c])) := fun H' c T k' hc hT => by
      have k2 := k1.trans k'
      have hdu := Dp.keep k' _ _ (data_fz _) hz3
      have hdx := Dp.keepAll k2 _ _ (datas_fz _) hxs
      have hop : Dp K H' (.ref c) (Lz.P.op k (as.set j u)).data := .tup hc (.cons (.str _) (DpAll.setP hdu hdx))
      exact q _ _ (k2.trans (Kp.new hT)) (Ww.new hT hop)
    refine ⟨_, rfl, _, rfl, _, rfl, _, rfl, ?_⟩
    refine sl_one (k1.sqT ht) fun c1 H2 k2 h2 => ?_
    rw [cutV_to2] at h2
    refine ⟨_, rfl, (by show 1 ≤ sizeLine; decide), fun T1 hT1 => ?_⟩
    have kx : Kp [] H2 (upd H2 T1 (.tup [z2])) := Kp.new hT1
    have h3T : (upd H2 T1 (.tup [z2])) T1 = some (.tup [z2]) := upd_same
    have h31 := kx.sqT h2
    have k3 := k2.trans kx
    generalize upd H2 T1 (.tup [z2]) = H3 at h3T h31 k3 ⊢
    refine ⟨c1, T1, _, _, rfl, rfl, h31, SqT.of h3T, ?_, (fun e => absurd e (by rw [List.take_succ_cons]; exact fun e => nomatch e)), (fun _ e => nomatch e), fun _ _ c2 hc2 => ?_⟩
    · rw [List.length_take, List.length_cons]
      show min (j + 1) (xs.length + 1) + 1 ≤ sizeLine
      have : 100 ≤ sizeLine := by decide +kernel
      omega
    have ky : Kp [] H3 (upd H3 c2 (.tup ((V.str k :: xs).take (j + 1) ++ [z2]))) := Kp.new hc2
    have h42 : (upd H3 c2 (.tup ((V.str k :: xs).take (j + 1) ++ [z2]))) c2 = some (.tup ((V.str k :: xs).take (j + 1) ++ [z2])) := upd_same
    have k4 := k3.trans ky
    generalize upd H3 c2 (.tup ((V.str k :: xs).take (j + 1) ++ [z2])) = H4 at h42 k4 ⊢
    refine ⟨_, rfl, _, rfl, _, _, rfl, rfl, _, rfl, ?_⟩
    have e : ((j + 1 : Nat) : Int) + 1 = ((j + 2 : Nat) : Int) := by omega
    rw [e]
    dsimp only [tNoPart]
    refine sl_one (k4.sqT (k1.sqT ht)) fun c3 H5 k5 h53 => ?_
    rw [cutV_from2] at h53
    have h52 := k5.sqT (K := K) (SqT.of h42)
    have k15 := k4.trans k5
    refine ⟨c2, c3, _, _, rfl, rfl, h52, h53, ?_, (fun e => absurd e (by simp)), (fun _ e => ?_), fun _ _ c4 hc4 => ?_⟩
    · have h100 : 100 ≤ sizeLine := by decide +kernel
      have := congrArg List.length hset
      rw [List.length_append, List.length_cons, List.length_set] at this
      omega
    · rw [e, List.append_nil] at hset
      rw [hset] at h52
      exact ⟨(by show 2 ≤ sizeLine; decide), fun T hT => fin H5 c2 T k15 h52 hT⟩
    · have kz : Kp [] H5 (upd H5 c4 (.tup ((V.str k :: xs).take (j + 1) ++ [z2] ++ (V.str k :: xs).drop (j + 2)))) := Kp.new hc4
      have h64 : (upd H5 c4 (.tup ((V.str k :: xs).take (j + 1) ++ [z2] ++ (V.str k :: xs).drop (j + 2)))) c4 = some (.tup (.str k :: xs.set j z2)) := by rw [upd_same, hset]
      exact ⟨(by show 2 ≤ sizeLine; decide), fun T hT => fin _ c4 T (k15.trans kz) (SqT.of h64) hT⟩
end
end Lz

set_option Elab.async false
set_option linter.all false
set_option maxRecDepth 100000
set_option maxHeartbeats 8000000
namespace Lz
open PySem PySem.Spec PyProof.Rows L2
def RelO (fs : List Fn) (d : Lz.P) (k : Str) (as : List Lz.P) (o o' : Out) : Prop := (o = o' ∧ ∀ n, o' ≠ .inn n) ∨ ∃ j a oa, o' = .inn (j + 1) ∧ as[j]? = some a ∧ StepR fs d a oa ∧ o = oa.back (k, as, j)
theorem RelO.inn {fs : List Fn} {d : Lz.P} {k : Str} {as : List Lz.P} {o : Out} {m : Nat} {a : Lz.P} (h : RelO fs d k as o (.inn (m + 1))) (ha : as[m]? = some a) : ∃ oa, StepR fs d a oa ∧ o = oa.back (k, as, m) := by
  rcases h with ⟨_, e⟩ | ⟨j, a', oa, e, h1, h2, h3⟩
  · exact absurd rfl (e _)
  · obtain rfl : m = j := by
      have := Out.inn.inj e
      omega
    rw [ha] at h1
    cases h1
    exact ⟨oa, h2, h3⟩
theorem RelO.out {fs : List Fn} {d : Lz.P} {k : Str} {as : List Lz.P} {o o' : Out} (h : RelO fs d k as o o') (hn : ∀ n, o' ≠ .inn n) : o = o' := by
  rcases h with ⟨e, _⟩ | ⟨j, a', oa, e, _⟩
  · exact e
  · exact absurd e (hn _)
theorem due_in0 {fs : List Fn} {d a : Lz.P} {rest : List Lz.P} {k : Str} {o : Out} (hk : k ≠ "shut") (hw : wb fs a = false) (q : Due fs d (.op k (a :: rest)) o) : o = .inn 1 := by
  cases q with
  | shut => exact absurd rfl hk
  | call c _ _ _ =>
    rcases c with e | ⟨_, _, e, h, _⟩
    · cases e
    · cases e
      rw [hw] at h
      cases h
  | giveIn _ => rfl
  | giveF h _ => rw [hw] at h; cases h
  | two1 _ _ => rfl
  | twoF1 _ h _ => rw [hw] at h; cases h
  | two2 _ _ => rw [worth_num] at hw; cases hw
  | twoF2 _ _ _ => rw [worth_num] at hw; cases hw
  | twoG _ _ => rw [worth_num] at hw; cases hw
  | two _ _ => rw [worth_num] at hw; cases hw
  | when1 _ => rfl
  | whenF h _ => rw [hw] at h; cases h
  | when => rw [worth_num] at hw; cases hw
  | side1 _ _ => rfl
  | sideF _ h _ => rw [hw] at h; cases h
  | side _ => rw [worth_pair] at hw; cases hw
theorem gv_head {F : List Str} {t h : Lz.P} {ts : List Lz.P} (g : Gv t h ts) : t.okS F → h.okS F := by
  induction g with
  | stop _ => exact id
  | @give a b h ts _ ih => exact fun ho => ih (show _ ∧ Lz.P.okS F a ∧ _ from ho).2.1
theorem fn_in {fs : List Fn} {d : Lz.P} {i : Nat} {g : Fn} (h : (fnsOf fs d)[i]? = some g) (hn : nmOk g.1) : fs[i]? = some g := by
  have h' : (fs ++ [askedFn d])[i]? = some g := h
  by_cases hi : i < fs.length
  · rw [List.getElem?_append_left hi] at h'
    exact h'
  · rw [List.getElem?_append_right (by omega)] at h'
    have hm : g ∈ [askedFn d] := List.mem_of_getElem? h'
    rw [List.mem_singleton.mp hm] at hn
    exact absurd hn.1 (by show ¬ 1 ≤ ("" : Str).length; decide +kernel)
theorem lw_inn {fs : List Fn} {d : Lz.P} {k : Str} {as : List Lz.P} {a : Lz.P} {n : Nat} (hk : k ≠ "shut") (h : Lw fs d (.op k as) (n + 1)) (m : a ∈ as) : Lw fs d a n := by
  have e : (Lz.P.op k as).deep = 1 + Lz.P.deeps as := rfl
  have h1 := deeps_mem m
  have h2 := mws_mem m
  have h3 := mw_op (k := k) (as := as) hk
  have h4 := h.mw
  have h5 := h.dn
  have h6 := h.d9
  exact ⟨h.ok.inn m, by omega, by omega, by omega⟩
section
variable {P : Program} {w : World} {K : PySem.W.Frag} {mg : Str → Option Value} {base : Heap} {f : Addr} {fd : FuncData}
abbrev sLStep : Stmt := topS 52
theorem scLStep : FnScope ["_law_program_here", "_law_part_here", "_law_kind", "_law_known", "_law_row", "_law_one"] ["_law_program_here", "_law_part_here"] (defScope sLStep) := ⟨rfl, rfl, rfl, by decide +kernel, rfl, by decide +kernel, by decide +kernel⟩
theorem ok_lstep {n j0 : Nat} (hj0 : 14 ≤ j0) (F : Fun K "_law_step" "_law_step" sLStep f fd) (B : Bt mg) (CLCallOf : C8.Cal P w K mg base 14 "_law_call_of" (spLCall K) []) (CLPut : C8.Cal P w K mg base 13 "_law_put" (spLPut K 12) []) (CLIsWorth : C8.Cal P w K mg base 2 "_law_is_worth" (spLIsW K) []) (CLOfTwo : C8.Cal P w K mg base 1 "_law_of_two" (spLTwo K) [])
    (CLWithin : C8.Cal P w K mg base j0 "_law_within" (spLWithin K n) []) : FnOk P w K mg base CX0 (j0 + 1) f fd ["_law_program_here", "_law_part_here"] (spLStep K (n + 1)) := by
  have mint := B.int
  refine F.ok scLStep (fun vs H Q E h => ?_) (fun cdv A outer s H vs Q E hr h => ?_)
  · obtain ⟨vp, v, fs, d, t, o, rfl, _⟩ := h
    rfl
  have hu := units1 hr
  obtain ⟨vp, v, fs, d, t, o, rfl, hp, hok, hpr, hd, hs, hl, q⟩ := h
  refine ⟨_, (pss_cons (ps_set (i := 2) scLStep.nd rfl (.inl rfl) (pe_ix (ix_tupK (K := K) rfl) (pv 1) pe_int (fun _ _ => rfl)))
    (pss_cons (ps_if (pt_cmpR op_eq (pv 2) pe_str (nomark _)) (pss_one (ps_ret (pe_tup (pa_cons pe_str (pa_cons (pe_ix (ix_tupK (K := K) rfl) (pv 1) pe_int (fun _ _ => rfl)) pa_nil))))) pss_nil)
    (pss_cons (ps_if (pt_cmpR op_eq (pv 2) pe_str (nomark _)) (pss_one (ps_ret (C8.pe_c CLCallOf hr (by first | decide | omega) (by rfl) (pa_cons (pv 0) (pa_cons (pv 1) pa_nil))))) pss_nil)
    (pss_cons (ps_if (pt_cmpR op_eq (pv 2) pe_str (nomark _)) (pss_cons (ps_set (i := 3) scLStep.nd rfl (.inl rfl) pe_dnewK)
    (pss_cons (ps_for PassesOwn.never rfl (pi_tupK (K := K) rfl (pe_ix (ix_tupK (K := K) rfl) (pv 1) pe_int (fun _ _ => rfl))) (pg_name (i := 4) scLStep.nd rfl (.inl rfl)) (pss_one (ps_dput hu (pv 3) (pe_ix (ix_tupK (K := K) rfl) (pv 4) pe_int (fun _ _ => rfl)) (pe_tup (pa_cons pe_str (pa_cons (pe_ix (ix_tupK (K := K) rfl) (pv 1) pe_int (fun _ _ => rfl)) (pa_cons (pe_ix (ix_tupK (K := K) rfl) (pv 4) pe_int (fun _ _ => rfl)) pa_nil)))) rfl)))
    (pss_one (ps_ret (pe_tup (pa_cons pe_str (pa_cons (C8.pe_c CLPut hr (by first | decide | omega) (by rfl) (pa_cons (pe_ix (ix_tupK (K := K) rfl) (pv 1) pe_int (fun _ _ => rfl)) (pa_cons (pv 3) pa_nil))) pa_nil))))))) pss_nil)
    (pss_cons (ps_if (pt_not (pt_truthK (K := K) rfl (C8.pe_c CLIsWorth hr (by first | decide | omega) (by rfl) (pa_cons (pv 0) (pa_cons (pe_ix (ix_tupK (K := K) rfl) (pv 1) pe_int (fun _ _ => rfl)) pa_nil))) (fun _ => rfl))) (pss_one (ps_ret (C8.pe_c CLWithin hr (by first | decide | omega) (by rfl) (pa_cons (pv 0) (pa_cons (pv 1) (pa_cons pe_int pa_nil)))))) pss_nil)
    (pss_cons (ps_set (i := 5) scLStep.nd rfl (.inl rfl) (pe_ix (ix_tupK (K := K) rfl) (pv 1) pe_int (fun _ _ => rfl)))
    (pss_cons (ps_if (pt_cmpR op_eq (pv 2) pe_str (nomark _)) (pss_one (ps_ret (pe_ifExp (pt_cmpR (op_inK (K := K) rfl) (pe_ix (ix_tupK (K := K) rfl) (pv 5) pe_int (fun _ _ => rfl)) (pe_tup (pa_cons pe_str (pa_cons pe_str pa_nil))) rfl) (pe_tup (pa_cons pe_str (pa_cons pe_str pa_nil))) (C8.pe_c CLCallOf hr (by first | decide | omega) (by rfl) (pa_cons (pv 0) (pa_cons (pv 1) pa_nil)))))) pss_nil)
    (pss_cons (ps_if (pt_cmpR (op_inK (K := K) rfl) (pv 2) (pe_tup (pa_cons pe_str (pa_cons pe_str pa_nil))) rfl) (pss_one (ps_ret (pe_ifExp (pt_cmpR op_eq (pe_ix (ix_tupK (K := K) rfl) (pv 5) pe_int (fun _ _ => rfl)) pe_str (nomark _)) (pe_tup (pa_cons pe_str (pa_cons (pe_ix (ix_tupK (K := K) rfl) (pv 5) (pe_op op_add pe_int (pe_callTy call_int1 (by rfl) mint (by decide +kernel) (pa_cons (pe_cmpR op_eq (pv 2) pe_str (nomark _)) pa_nil))) (fun _ _ => rfl)) pa_nil))) (pe_tup (pa_cons pe_str (pa_cons pe_str pa_nil)))))) pss_nil)
    (pss_cons (ps_if (pt_cmpR op_ne (pe_ix (ix_tupK (K := K) rfl) (pv 5) pe_int (fun _ _ => rfl)) pe_str (nomark _)) (pss_one (ps_ret (pe_tup (pa_cons pe_str (pa_cons pe_str pa_nil))))) pss_nil)
    (pss_cons (ps_if (pt_cmpR op_eq (pv 2) pe_str (nomark _)) (pss_one (ps_ret (pe_tup (pa_cons pe_str (pa_cons (pe_ix (ix_tupK (K := K) rfl) (pv 1) (pe_op op_add pe_int (pe_callTy call_int1 (by rfl) mint (by decide +kernel) (pa_cons (pe_cmpR op_eq (pe_ix (ix_tupK (K := K) rfl) (pv 5) pe_int (fun _ _ => rfl)) pe_int (nomark _)) pa_nil))) (fun _ _ => rfl)) pa_nil))))) pss_nil)
    (pss_cons (ps_if (pt_not (pt_truthK (K := K) rfl (C8.pe_c CLIsWorth hr (by first | decide | omega) (by rfl) (pa_cons (pv 0) (pa_cons (pe_ix (ix_tupK (K := K) rfl) (pv 1) pe_int (fun _ _ => rfl)) pa_nil))) (fun _ => rfl))) (pss_one (ps_ret (C8.pe_c CLWithin hr (by first | decide | omega) (by rfl) (pa_cons (pv 0) (pa_cons (pv 1) (pa_cons pe_int pa_nil)))))) pss_nil)
    (pss_one (ps_ret (pe_ifExp (pt_cmpR op_eq (pe_ix (ix_tupK (K := K) rfl) (pe_ix (ix_tupK (K := K) rfl) (pv 1) pe_int (fun _ _ => rfl)) pe_int (fun _ _ => rfl)) pe_str (nomark _)) (C8.pe_c CLOfTwo hr (by first | decide | omega) (by rfl) (pa_cons (pv 2) (pa_cons (pe_ix (ix_tupK (K := K) rfl) (pv 5) pe_int (fun _ _ => rfl)) (pa_cons (pe_ix (ix_tupK (K := K) rfl) (pe_ix (ix_tupK (K := K) rfl) (pv 1) pe_int (fun _ _ => rfl)) pe_int (fun _ _ => rfl)) pa_nil)))) (pe_tup (pa_cons pe_str (pa_cons pe_str pa_nil))))))))))))))))), ?_⟩
  have hto := hl.ok.ok
  have call : ∀ (ts : List Lz.P) (g : Fn) (i : Nat), Gv t (.fn g.1) ts → (fnsOf fs d)[i]? = some g → g.2.1.length = ts.length → o = .s "call" (Lz.P.put (mergeT [] (g.2.1.zip ts)) g.2.2) → ∀ H1, Kp [] H H1 → spLCall K [vp, v] H1 Q C8.E0 := fun ts g i hgv hgi hgl e H1 k1 => by
    have hgn := (show nmOk g.1 ∧ _ from gv_head hgv hto).1
    have hgm := List.mem_of_getElem? hgi
    have hb := hok.ok.bd g hgm
    refine ⟨vp, v, fs, d, t, ts, i, g, rfl, Dp.keep k1 _ _ (progU_fz _ _) hp, hok, Dp.keep k1 _ _ (data_fz _) hd, hgv, fn_in hgi hgn, hgl, by omega, Nat.le_trans (hpr.mw g hgm) (by decide), Nat.le_trans (dw_deep _) (hpr.dw g hgm), fun v' H2 k2 hw => ?_⟩
    subst e
    exact q v' H2 (k1.trans k2) hw
  cases t with
  | num i =>
    have := hs.wb
    rw [worth_num] at this
    cases this
  | nam x => exact nomatch (show x ∈ ([] : List Str) from hl.ok.cl)
  | fn x =>
    obtain ⟨p, rfl, ht⟩ := str_at hd rfl
    obtain ⟨ts, g, i, hgx, hgv, hgi, hgl, rfl⟩ := due_fn hs.fn
    refine ⟨_, rfl, p, _, _, _, rfl, rfl, ht, at_of (j := 0) rfl rfl, ?_⟩
    refine ⟨_, rfl, rfl, _, rfl, ?_⟩
    refine ite2 (fun c => absurd (V.str.inj (of_decide_eq_true c)) (by show ("fun" : Str) ≠ "shut"; decide +kernel)) (fun _ => ?_)
    refine ⟨_, rfl, rfl, _, rfl, ?_⟩
    refine ite2 (fun _ => ?_) (fun c => absurd (decide_eq_true rfl) c)
    exact ⟨_, rfl, _, rfl, call ts g i hgv hgi hgl rfl H (Kp.refl _ _)⟩
  | lt nm as b =>
    obtain ⟨p, r, rs, vb, rfl, ht, hrt, hrs, hvb⟩ := let_atU hd
    obtain rfl := due_let hs.lt
    have hto' := (show nm.length = as.length ∧ (∀ x, x ∈ nm → nmOk x) ∧ Lz.P.okSs (fs.map (·.1)) as ∧ b.okS (fs.map (·.1)) from hto)
    have hiv := (show Lz.P.mws as ≤ 60 ∧ b.mw ≤ 60 ∧ Lz.P.dws as + 1 ≤ 12 ∧ b.dw + 1 ≤ 12 ∧ _ from hl.ok.iv)
    have hrl : rs.length = as.length := by rw [hrs.length, List.length_zipWith, datas_len]; have := hto'.1; omega
    have hal := mws_len as
    refine ⟨_, rfl, p, _, _, _, rfl, rfl, ht, at_of (j := 0) rfl rfl, ?_⟩
    refine ⟨_, rfl, rfl, _, rfl, ?_⟩
    refine ite2 (fun c => absurd (V.str.inj (of_decide_eq_true c)) (by show ("let" : Str) ≠ "shut"; decide +kernel)) (fun _ => ?_)
    refine ⟨_, rfl, rfl, _, rfl, ?_⟩
    refine ite2 (fun c => absurd (V.str.inj (of_decide_eq_true c)) (by show ("let" : Str) ≠ "fun"; decide +kernel)) (fun _ => ?_)
    refine ⟨_, rfl, rfl, _, rfl, ?_⟩
    refine ite2 (fun _ => ?_) (fun c => absurd (decide_eq_true rfl) c)
    intro pd hpd
    have kx : Kp [] H (upd H pd (.dK [])) := Kp.new hpd
    have hT1 : TD K (upd H pd (.dK [])) pd [] [] := TD.new hpd
    generalize upd H pd (.dK []) = H1 at kx hT1 ⊢
    refine ⟨_, rfl, p, _, _, _, rfl, rfl, kx.sqT ht, at_of (j := 1) rfl rfl, r, rfl, ⟨_, kx.sqT hrt⟩, for_tup (K := K) (a := r) (xs := rs) (fun i σ H' => ∃ (v4 : Option V) (kvs : List (Key × V)), σ = [some vp, some (.ref p), some (.str "let"), some (.ref pd), v4, none] ∧ Kp [] H H' ∧ TD K H' pd kvs (mergeT [] ((nm.zip (as.map fun a => Lz.P.lt nm as a)).take i)) ∧ kvs.length ≤ i)
      ⟨none, [], rfl, kx, hT1, Nat.le_refl _⟩ (fun i σ H' _ ⟨_, _, _, k, _⟩ => k.sqT hrt) ?_ ?_⟩
    · rintro i x σ H2 hi ⟨v4, kvs, rfl, k2, hT2, hkl⟩
      have hil := (List.getElem?_eq_some_iff.mp hi).1
      obtain ⟨tr, nx, u, e, rfl, htr, hnx, hae, hue⟩ := row_atU (Dp.keepAll k2 _ _ rows_fz hrs) hi
      refine ⟨_, rfl, p, _, _, _, rfl, rfl, k2.sqT ht, at_of (j := 1) rfl rfl, _, rfl, tr, _, _, _, rfl, rfl, htr, at_of (j := 1) rfl rfl, (by show 3 ≤ sizeLine; decide), fun T hT' => ?_⟩
      have ky : Kp [] H2 (upd H2 T (.tup [.str "let", .ref r, u])) := Kp.new hT'
      have er : fzAll [PyData.str "let", .tuple (List.zipWith rowD nm (Lz.P.datas as)), e.data] = true := by
        show (fzAll (List.zipWith rowD nm (Lz.P.datas as)) && (fz e.data && true)) = true
        rw [rows_fz, data_fz]
        rfl
      have hle : Dp K (upd H2 T (.tup [.str "let", .ref r, u])) (.ref T) (Lz.P.lt nm as e).data := Dp.newT hT' (.cons (.str _) (.cons (.tup (k2.sqT hrt) (Dp.keepAll k2 _ _ rows_fz hrs)) (.cons hue .nil))) er
      have k3 := k2.trans ky
      have hT3 := hT2.keep ky
      have htr3 := ky.sqT htr
      generalize upd H2 T (.tup [.str "let", .ref r, u]) = H3 at hle k3 hT3 htr3 ⊢
      refine ⟨_, rfl, _, rfl, tr, _, _, _, rfl, rfl, htr3, at_of (j := 0) rfl rfl, pd, _, rfl, DPut.k (k := .inr nx) hT3.at' (small9000 (by omega)), ?_⟩
      have kt : Tk K H3 (upd H3 pd (.dK (putK kvs (.inr nx) (.ref T)))) := Tk.put hT3.at'
      have hll := length_putK kvs (Sum.inr nx : Key) (.ref T)
      have ez : (nm.zip (as.map fun a => Lz.P.lt nm as a))[i]? = some (nx, Lz.P.lt nm as e) := by
        rw [List.getElem?_zip_eq_some]
        exact ⟨hnx, by rw [List.getElem?_map, hae]; rfl⟩
      refine ⟨_, _, rfl, k3.mut hpd, ⟨upd_same, ?_⟩, by omega⟩
      rw [List.take_add_one, ez]
      show TdAll K _ _ (mergeT [] (_ ++ [(nx, Lz.P.lt nm as e)]))
      rw [mergeT_snocZ]
      exact (hT3.all.keepT kt).putF (Dp.keepT kt _ _ (data_fz _) hle)
    · rintro σ H2 ⟨v4, kvs, rfl, k2, hT2, hkl⟩
      rw [List.take_of_length_le (by rw [List.length_zip, List.length_map]; omega)] at hT2
      refine ⟨_, rfl, p, _, _, _, rfl, rfl, k2.sqT ht, at_of (j := 2) rfl rfl, _, rfl, vb, pd, b, _, kvs, _, rfl, Dp.keep k2 _ _ (data_fz _) hvb, hto'.2.2.2, (by have := hiv.2.1; omega), (by have := hiv.2.2.2.1; omega), hT2, fun v' H3 k3 hd3 => ?_⟩
      refine ⟨(by show 2 ≤ sizeLine; decide), fun T hT' => ?_⟩
      exact q (.ref T) _ (k2.trans (k3.trans (Kp.new hT'))) (Ww.new hT' hd3)
  | op k as =>
    obtain ⟨p, xs, rfl, ht, hxs⟩ := op_atU hd
    obtain ⟨hwb, o', hdue, hrel⟩ := hs.op
    have hrel : RelO fs d k as o o' := hrel
    have hkk := (show (k, as.length) ∈ kinds2 ∧ Lz.P.okSs (fs.map (·.1)) as from hto).1
    have hos := (show (k, as.length) ∈ kinds2 ∧ Lz.P.okSs (fs.map (·.1)) as from hto).2
    have hpl := kind2_plain hkk
    refine ⟨_, rfl, p, _, _, _, rfl, rfl, ht, at_of (j := 0) rfl rfl, ?_⟩
    refine ⟨_, rfl, rfl, _, rfl, ?_⟩
    by_cases hsh : k = "shut"
    · subst hsh
      obtain ⟨a, rfl⟩ := one_of (shut_one hkk)
      obtain ⟨x, r, rfl, hx, hr'⟩ := DpAll.uncons hxs
      cases hr'
      obtain ⟨a', e, rfl⟩ := due_shut hto rfl hdue
      cases e
      obtain rfl := hrel.out (fun n e => nomatch e)
      refine ite2 (fun _ => ?_) (fun c => absurd (decide_eq_true rfl) c)
      refine ⟨_, rfl, p, _, _, _, rfl, rfl, ht, at_of (j := 1) rfl rfl, (by show 2 ≤ sizeLine; decide), fun T hT => ?_⟩
      exact q (.ref T) _ (Kp.new hT) (Ww.new hT hx)
    refine ite2 (fun c => absurd (V.str.inj (of_decide_eq_true c)) hsh) (fun _ => ?_)
    refine ⟨_, rfl, rfl, _, rfl, ?_⟩
    refine ite2 (fun c => absurd (V.str.inj (of_decide_eq_true c)) hpl.2.2.2) (fun _ => ?_)
    refine ⟨_, rfl, rfl, _, rfl, ?_⟩
    refine ite2 (fun c => absurd (V.str.inj (of_decide_eq_true c)) hpl.1) (fun _ => ?_)
    have hlen := kind2_len hkk
    obtain ⟨a, rest, rfl⟩ : ∃ a rest, as = a :: rest := by
      cases as with
      | nil => exact absurd hlen.1 (by decide)
      | cons a r => exact ⟨a, r, rfl⟩
    obtain ⟨va, xr, rfl, hxa, hxr⟩ := DpAll.uncons hxs
    have hao := okSs_iff.mp hos a List.mem_cons_self
    have hla := lw_inn hsh hl (a := a) List.mem_cons_self
    have hgvn : ∀ (b : Lz.P), b.deep ≤ 900 → ∀ h ts, Gv b h ts → ts.length ≤ 900 := fun b hb h ts g => by
      have := (gv_deep g).2
      omega
    refine ⟨_, rfl, _, rfl, p, _, _, _, rfl, rfl, ht, at_of (j := 1) rfl rfl, vp, va, fs, d, a, rfl, hp, hok, hxa, hao, hgvn a hla.d9, fun H1 k1 => ?_⟩
    refine ⟨_, rfl, ?_⟩
    have inn0 : wb fs a = false → o' = .inn 1 → ∀ H1, Kp [] H H1 → spLWithin K n [vp, .ref p, .int 1] H1 Q C8.E0 := fun _ e H1 k1 => by
      subst e
      obtain ⟨oa, hsa, rfl⟩ := RelO.inn (m := 0) (a := a) hrel rfl
      exact ⟨vp, .ref p, fs, d, a, k, a :: rest, 0, oa, rfl, Dp.keep k1 _ _ (progU_fz _ _) hp, hok, hpr, Dp.keep k1 _ _ (data_fz _) hd, hlen.2, rfl, hsa, hla, fun v' H2 k2 hv => q v' H2 (k1.trans k2) hv⟩
    have fault : ∀ (x : Str), o' = .f x → ∀ (H2 : Hp) (T : Addr), Kp [] H H2 → H2 T = none → Q (.ref T) (upd H2 T (.tup [.str "fault", .str x])) := fun x e H2 T k2 hT => by
      subst e
      obtain rfl := hrel.out (fun n e => nomatch e)
      exact q _ _ (k2.trans (Kp.new hT)) (Dp.newT hT (.cons (.str _) (.cons (.str _) .nil)) rfl)
    cases hw : wb fs a with
    | false =>
      refine ite2 (fun _ => ?_) (fun c => absurd rfl c)
      exact ⟨_, rfl, _, rfl, inn0 hw (due_in0 hsh hw hdue) H1 k1⟩
    | true =>
    refine ite2 (fun c => absurd c (by simp)) (fun _ => ?_)
    refine ⟨_, rfl, p, _, _, _, rfl, rfl, k1.sqT ht, at_of (j := 1) rfl rfl, ?_⟩
    refine ⟨_, rfl, rfl, _, rfl, ?_⟩
    obtain ⟨pa, ya, rfl, hta, hya⟩ := hd_at hxa
    by_cases hg : k = "give"
    · subst hg
      obtain ⟨b, rfl⟩ := one_of (show rest.length = 1 by have := give_two hkk; rw [List.length_cons] at this; omega)
      refine ite2 (fun _ => ?_) (fun c => absurd (decide_eq_true rfl) c)
      rcases due_give hdue with ⟨hw', _⟩ | ⟨_, hn, e⟩ | ⟨_, hn1, hn2, ts, g, i, hgv, hgi, hgl, e⟩
      · rw [hw] at hw'
        cases hw'
      · refine ⟨_, rfl, pa, _, _, _, rfl, rfl, k1.sqT hta, at_of (j := 0) rfl rfl, (by show 2 ≤ sizeLine; decide), fun T1 hT1 => ?_⟩
        refine ⟨T1, _, rfl, .inr (SqT.of upd_same), rfl, rfl, _, rfl, ?_⟩
        rw [in2U]
        refine ite2 (fun _ => ?_) (fun c => absurd (by rcases hn with e | e <;> simp [e]) c)
        exact ⟨(by show 2 ≤ sizeLine; decide), fun T hT => fault _ e _ T (k1.trans (Kp.new hT1)) hT⟩
      · refine ⟨_, rfl, pa, _, _, _, rfl, rfl, k1.sqT hta, at_of (j := 0) rfl rfl, (by show 2 ≤ sizeLine; decide), fun T1 hT1 => ?_⟩
        refine ⟨T1, _, rfl, .inr (SqT.of upd_same), rfl, rfl, _, rfl, ?_⟩
        rw [in2U]
        refine ite2 (fun c => absurd c (by simp [hn1, hn2])) (fun _ => ?_)
        subst e
        have eo := hrel.out (fun n e => nomatch e)
        exact ⟨_, rfl, _, rfl, call ts g i hgv hgi hgl eo _ (k1.trans (Kp.new hT1))⟩
    refine ite2 (fun c => absurd (V.str.inj (of_decide_eq_true c)) hg) (fun _ => ?_)
    refine ⟨_, rfl, (by show 2 ≤ sizeLine; decide), fun T0 hT0 => ?_⟩
    have k2 : Kp [] H (upd H1 T0 (.tup [.str "left", .str "right"])) := k1.trans (Kp.new hT0)
    have h0 : (upd H1 T0 (.tup [.str "left", .str "right"])) T0 = some (.tup [.str "left", .str "right"]) := upd_same
    generalize upd H1 T0 (.tup [.str "left", .str "right"]) = H2 at k2 h0 ⊢
    refine ⟨T0, _, rfl, .inr (SqT.of h0), rfl, rfl, _, rfl, ?_⟩
    rw [in2U]
    by_cases hsd : k = "left" ∨ k = "right"
    · refine ite2 (fun _ => ?_) (fun c => absurd (by simpa using hsd) c)
      obtain rfl : rest = [] := List.eq_nil_of_length_eq_zero (by have := side_one hsd hkk; rw [List.length_cons] at this; omega)
      refine ⟨_, rfl, pa, _, _, _, rfl, rfl, k2.sqT hta, at_of (j := 0) rfl rfl, rfl, _, rfl, ?_⟩
      rcases due_side hsd hdue with ⟨hw', _⟩ | ⟨_, hn, e⟩ | ⟨x, y, rfl, e⟩
      · rw [hw] at hw'
        cases hw'
      · refine ite2 (fun c => absurd (V.str.inj (of_decide_eq_true c)) hn) (fun _ => ?_)
        exact ⟨(by show 2 ≤ sizeLine; decide), fun T hT => fault _ e _ T k2 hT⟩
      · refine ite2 (fun _ => ?_) (fun c => absurd (decide_eq_true rfl) c)
        obtain ⟨vx, y1, rfl, hvx, hy1⟩ := DpAll.uncons (show DpAll K H ya (Lz.P.datas [x, y]) from hya)
        obtain ⟨vy, y2, rfl, hvy, hy2⟩ := DpAll.uncons hy1
        cases hy2
        subst e
        obtain rfl := hrel.out (fun n e => nomatch e)
        obtain ⟨wv, hat, hwv⟩ : ∃ wv : V, atI (.str (Lz.P.op "pair" [x, y]).hd :: [vx, vy]) (1 + (if decide (V.str k = V.str "right") = true then 1 else 0)) = some wv ∧ Dp K H wv (if k = "left" then x else y).data := by
          rcases hsd with rfl | rfl
          · exact ⟨vx, rfl, by rw [if_pos rfl]; exact hvx⟩
          · exact ⟨vy, rfl, by rw [if_neg (by decide +kernel)]; exact hvy⟩
        refine ⟨_, rfl, _, rfl, rfl, .inr ⟨_, rfl, _, _, rfl, rfl, pa, _, _, _, rfl, rfl, k2.sqT hta, hat, (by show 2 ≤ sizeLine; decide), fun T hT => ?_⟩⟩
        exact q (.ref T) _ (k2.trans (Kp.new hT)) (Ww.new hT (Dp.keep k2 _ _ (data_fz _) hwv))
    refine ite2 (fun c => absurd (by simpa using c) hsd) (fun _ => ?_)
    refine ⟨_, rfl, pa, _, _, _, rfl, rfl, k2.sqT hta, at_of (j := 0) rfl rfl, rfl, _, rfl, ?_⟩
    by_cases hwn : k = "when"
    · subst hwn
      obtain ⟨b, c, rfl⟩ := two_of (show rest.length = 2 by have := when_three hkk; rw [List.length_cons] at this; omega)
      obtain ⟨xb, r2, rfl, hxb, hr2⟩ := DpAll.uncons hxr
      obtain ⟨xc, r3, rfl, hxc, hr3⟩ := DpAll.uncons hr2
      cases hr3
      rcases due_when hdue with ⟨hw', _⟩ | ⟨_, hn, e⟩ | ⟨i, rfl, e⟩
      · rw [hw] at hw'
        cases hw'
      · refine ite2 (fun _ => ?_) (fun c => absurd (by simpa using hn) c)
        exact ⟨(by show 2 ≤ sizeLine; decide), fun T hT => fault _ e _ T k2 hT⟩
      · refine ite2 (fun c => absurd c (by simp [Lz.P.hd])) (fun _ => ?_)
        subst e
        obtain rfl := hrel.out (fun n e => nomatch e)
        obtain ⟨vi, y2, rfl, hvi, hy2⟩ := DpAll.unconsE (show DpAll K H ya [.int i] from hya)
        cases hvi
        cases hy2
        refine ⟨_, rfl, rfl, _, rfl, ?_⟩
        refine ite2 (fun _ => ?_) (fun c => absurd (decide_eq_true rfl) c)
        obtain ⟨wv, hat, hwv⟩ : ∃ wv : V, atI [.str "when", .ref pa, xb, xc] (2 + (if decide (V.int i = V.int 0) = true then 1 else 0)) = some wv ∧ Dp K H wv (if i ≠ 0 then b else c).data := by
          by_cases h0 : i = 0
          · subst h0
            exact ⟨xc, rfl, by rw [if_neg (by simp)]; exact hxc⟩
          · refine ⟨xb, ?_, by rw [if_pos h0]; exact hxb⟩
            rw [if_neg (fun z => h0 (V.int.inj (of_decide_eq_true z)))]
            rfl
        refine ⟨_, rfl, _, rfl, pa, _, _, _, rfl, rfl, k2.sqT hta, at_of (j := 1) rfl rfl, rfl, .inr ⟨_, rfl, _, _, rfl, rfl, p, _, _, _, rfl, rfl, k2.sqT ht, hat, (by show 2 ≤ sizeLine; decide), fun T hT => ?_⟩⟩
        exact q (.ref T) _ (k2.trans (Kp.new hT)) (Ww.new hT (Dp.keep k2 _ _ (data_fz _) hwv))
    have h4 : k ∈ fours := by
      have hk' := hkk
      unfold kinds2 kinds at hk'
      simp only [List.mem_cons, Prod.mk.injEq, List.not_mem_nil, or_false] at hk'
      rcases hk' with h | h | h | h | h | h | h | h | h | h
      · exact absurd h.1 hsh
      · exact absurd h.1 hg
      · rw [h.1]; decide +kernel
      · rw [h.1]; decide +kernel
      · rw [h.1]; decide +kernel
      · rw [h.1]; decide +kernel
      · exact absurd h.1 hwn
      · rw [h.1] at hwb
        obtain ⟨b, rfl⟩ := one_of (show rest.length = 1 by have := h.2; rw [List.length_cons] at this; omega)
        rw [worth_pair] at hwb
        cases hwb
      · exact absurd (.inl h.1) hsd
      · exact absurd (.inr h.1) hsd
    obtain ⟨b, rfl⟩ := one_of (show rest.length = 1 by have := fours_two h4 hkk; rw [List.length_cons] at this; omega)
    obtain ⟨xb, r2, rfl, hxb, hr2⟩ := DpAll.uncons hxr
    cases hr2
    have hlb := lw_inn hsh hl (a := b) (List.mem_cons_of_mem _ List.mem_cons_self)
    rcases due_two h4 hdue with ⟨hw', _⟩ | ⟨_, hn, e⟩ | ⟨i, rfl, hrest⟩
    · rw [hw] at hw'
      cases hw'
    · refine ite2 (fun _ => ?_) (fun c => absurd (by simpa using hn) c)
      exact ⟨(by show 2 ≤ sizeLine; decide), fun T hT => fault _ e _ T k2 hT⟩
    refine ite2 (fun c => absurd c (by simp [Lz.P.hd])) (fun _ => ?_)
    obtain ⟨vi, y2, rfl, hvi, hy2⟩ := DpAll.unconsE (show DpAll K H ya [.int i] from hya)
    cases hvi
    cases hy2
    refine ⟨_, rfl, rfl, _, rfl, ?_⟩
    refine ite2 (fun c => absurd (V.str.inj (of_decide_eq_true c)) hwn) (fun _ => ?_)
    refine ⟨_, rfl, _, rfl, p, _, _, _, rfl, rfl, k2.sqT ht, at_of (j := 2) rfl rfl, vp, xb, fs, d, b, rfl, Dp.keep k2 _ _ (progU_fz _ _) hp, hok, Dp.keep k2 _ _ (data_fz _) hxb, hlb.ok.ok, hgvn b hlb.d9, fun H3 k3 => ?_⟩
    refine ⟨_, rfl, ?_⟩
    have k23 := k2.trans k3
    obtain ⟨pb, yb, rfl, htb, hyb⟩ := hd_at hxb
    rcases hrest with ⟨hwf, e⟩ | ⟨hwt, hn, e⟩ | ⟨j, rfl, hfin⟩
    · rw [hwf]
      refine ite2 (fun _ => ?_) (fun c => absurd rfl c)
      subst e
      obtain ⟨oa, hsa, rfl⟩ := RelO.inn (m := 1) (a := b) hrel rfl
      exact ⟨_, rfl, _, rfl, vp, .ref p, fs, d, b, k, [.num i, b], 1, oa, rfl, Dp.keep k23 _ _ (progU_fz _ _) hp, hok, hpr, Dp.keep k23 _ _ (data_fz _) hd, hlen.2, rfl, hsa, hlb, fun v' H4 k4 hv => q v' H4 (k23.trans k4) hv⟩
    · rw [hwt]
      refine ite2 (fun c => absurd c (by simp)) (fun _ => ?_)
      refine ⟨_, rfl, p, _, _, _, rfl, rfl, k23.sqT ht, at_of (j := 2) rfl rfl, pb, _, _, _, rfl, rfl, k23.sqT htb, at_of (j := 0) rfl rfl, rfl, _, rfl, ?_⟩
      refine ite2 (fun c => absurd (V.str.inj (of_decide_eq_true c)) hn) (fun _ => ?_)
      exact ⟨(by show 2 ≤ sizeLine; decide), fun T hT => fault _ e _ T k23 hT⟩
    · rw [worth_num]
      refine ite2 (fun c => absurd c (by simp)) (fun _ => ?_)
      obtain ⟨vj, y3, rfl, hvj, hy3⟩ := DpAll.unconsE (show DpAll K H yb [.int j] from hyb)
      cases hvj
      cases hy3
      have hnums := (show i.natAbs < 10 ^ 60 ∧ j.natAbs < 10 ^ 60 ∧ True from hl.ok.nums)
      refine ⟨_, rfl, p, _, _, _, rfl, rfl, k23.sqT ht, at_of (j := 2) rfl rfl, pb, _, _, _, rfl, rfl, k23.sqT htb, at_of (j := 0) rfl rfl, rfl, _, rfl, ?_⟩
      refine ite2 (fun _ => ?_) (fun c => absurd (decide_eq_true rfl) c)
      refine ⟨_, rfl, _, rfl, pa, _, _, _, rfl, rfl, k23.sqT hta, at_of (j := 1) rfl rfl, _, rfl, p, _, _, _, rfl, rfl, k23.sqT ht, at_of (j := 2) rfl rfl, pb, _, _, _, rfl, rfl, k23.sqT htb, at_of (j := 1) rfl rfl, k, i, j, rfl, h4, hnums.1, hnums.2.1, fun v' H4 k4 hv => ?_⟩
      rcases hfin with ⟨h1, e⟩ | ⟨h1, e⟩
      · subst e
        obtain rfl := hrel.out (fun n e => nomatch e)
        rcases hv with ⟨_, hv⟩ | ⟨h2, _⟩
        · exact q v' H4 (k23.trans k4) hv
        · exact absurd h2 h1
      · subst e
        obtain rfl := hrel.out (fun n e => nomatch e)
        rcases hv with ⟨h2, _⟩ | ⟨_, hv⟩
        · exact absurd h1 h2
        · exact q v' H4 (k23.trans k4) hv
end
end Lz

set_option Elab.async false
set_option linter.all false
set_option maxRecDepth 100000
set_option maxHeartbeats 4000000
/-! A body closed by small parts: plain Lean. -/
namespace Lz
open PySem PySem.Spec PyProof.Rows L2
def sh3 : List P := [.num 3, .op "shut" [.num 2], .op "shut" [.op "shut" [.num 0]]]
mutual
/-- names but those of xs are replaced by one of three closed parts -/
def P.sh (xs : List Str) : P → P → Prop
  | .num i, t => t = .num i
  | .nam x, t => (x ∈ xs ∧ t = .nam x) ∨ (¬ x ∈ xs ∧ t ∈ sh3)
  | .fn f, t => t = .fn f
  | .op k as, t => ∃ bs, t = .op k bs ∧ P.shs xs as bs
  | .lt nm as b, t => ∃ bs c, t = .lt nm bs c ∧ P.shs (xs ++ nm) as bs ∧ P.sh (xs ++ nm) b c
def P.shs (xs : List Str) : List P → List P → Prop
  | [], l => l = []
  | a :: as, l => ∃ b bs, l = b :: bs ∧ P.sh xs a b ∧ P.shs xs as bs
end
theorem shs_snoc {xs : List Str} {a b : P} (h : P.sh xs a b) : ∀ {as bs : List P}, P.shs xs as bs → P.shs xs (as ++ [a]) (bs ++ [b])
  | [], bs, e => by
    have e' : bs = [] := e
    subst e'
    exact ⟨b, [], rfl, h, rfl⟩
  | x :: as, bs, ⟨y, r, e, h1, h2⟩ => by
    subst e
    exact ⟨y, r ++ [b], rfl, h1, shs_snoc h h2⟩
theorem sh3_facts {t : P} (h : t ∈ sh3) : t.mw = 1 ∧ t.dw = 1 ∧ (∀ xs, t.cl xs) ∧ P.nums t ∧ ∀ M D, 1 ≤ M → t.iv M D := by
  unfold sh3 at h
  simp only [List.mem_cons, List.not_mem_nil, or_false] at h
  have n0 : (0 : Int).natAbs < 10 ^ 60 := by decide +kernel
  have n2 : (2 : Int).natAbs < 10 ^ 60 := by decide +kernel
  have n3 : (3 : Int).natAbs < 10 ^ 60 := by decide +kernel
  have lz : ∀ (a : P) (M : Nat), a.mw = 1 → ∀ (j : Nat) (c : P), [a][j]? = some c → lzy "shut" j → c.mw ≤ 2 * M + 1 := fun a M e j c hc _ => by
    rw [List.mem_singleton.mp (List.mem_of_getElem? hc), e]
    omega
  rcases h with rfl | rfl | rfl
  · exact ⟨rfl, rfl, fun _ => True.intro, n3, fun _ _ _ => True.intro⟩
  · refine ⟨mw_shut _, ?_, fun xs => ?_, ⟨n2, True.intro⟩, fun M D _ => ⟨lz _ M rfl, True.intro, True.intro⟩⟩
    · show 1 + (if ("shut" : Str) = "shut" then 0 else _) = 1
      rw [if_pos rfl]
    · show P.cls (if ("shut" : Str) = "shut" then [] else xs) [.num 2]
      exact ⟨True.intro, True.intro⟩
  · refine ⟨mw_shut _, ?_, fun xs => ?_, ⟨⟨n0, True.intro⟩, True.intro⟩, fun M D _ => ⟨lz _ M (mw_shut _), ⟨lz _ M rfl, True.intro, True.intro⟩, True.intro⟩⟩
    · show 1 + (if ("shut" : Str) = "shut" then 0 else _) = 1
      rw [if_pos rfl]
    · show P.cls (if ("shut" : Str) = "shut" then [] else xs) [.op "shut" [.num 0]]
      refine ⟨?_, True.intro⟩
      show P.cls (if ("shut" : Str) = "shut" then [] else _) [.num 0]
      exact ⟨True.intro, True.intro⟩
mutual
theorem sh_size {xs : List Str} : ∀ (t t' : P), t.ok → P.sh xs t t' → t'.mw = t.mw ∧ t'.dw = t.dw
  | .num _, t', _, h => by
    have e : t' = _ := h
    rw [e]
    exact ⟨rfl, rfl⟩
  | .nam x, t', _, h => by
    rcases (show (x ∈ xs ∧ t' = .nam x) ∨ (¬ x ∈ xs ∧ t' ∈ sh3) from h) with ⟨_, e⟩ | ⟨_, m⟩
    · rw [e]
      exact ⟨rfl, rfl⟩
    · have := sh3_facts m
      exact ⟨this.1, this.2.1⟩
  | .fn _, t', _, h => by
    have e : t' = _ := h
    rw [e]
    exact ⟨rfl, rfl⟩
  | .op k as, t', ho, h => by
    obtain ⟨bs, e, h1⟩ := (show ∃ bs, t' = .op k bs ∧ P.shs xs as bs from h)
    have ho' : (k, as.length) ∈ kinds ∧ P.oks as := ho
    have hk := kind_not_shut ho'.1
    have q := shs_size as bs ho'.2 h1
    rw [e, mw_op hk, mw_op hk, dw_op hk, dw_op hk, q.1, q.2.1]
    exact ⟨rfl, rfl⟩
  | .lt nm as b, t', ho, h => by
    obtain ⟨bs, c, e, h1, h2⟩ := (show ∃ bs c, t' = .lt nm bs c ∧ P.shs (xs ++ nm) as bs ∧ P.sh (xs ++ nm) b c from h)
    have ho' : nm.length = as.length ∧ (∀ x, x ∈ nm → nmOk x) ∧ P.oks as ∧ P.ok b := ho
    have q := shs_size as bs ho'.2.2.1 h1
    have q2 := sh_size b c ho'.2.2.2 h2
    rw [e, mw_lt, mw_lt, q.1, q2.1]
    refine ⟨rfl, ?_⟩
    show 1 + max (P.dws bs) c.dw = 1 + max (P.dws as) b.dw
    rw [q.2.1, q2.2]
theorem shs_size {xs : List Str} : ∀ (as bs : List P), P.oks as → P.shs xs as bs → P.mws bs = P.mws as ∧ P.dws bs = P.dws as ∧ bs.length = as.length
  | [], bs, _, h => by
    have e : bs = [] := h
    rw [e]
    exact ⟨rfl, rfl, rfl⟩
  | a :: as, l, ho, h => by
    obtain ⟨b, bs, e, h1, h2⟩ := (show ∃ b bs, l = b :: bs ∧ P.sh xs a b ∧ P.shs xs as bs from h)
    have q := sh_size a b ho.1 h1
    have q2 := shs_size as bs ho.2 h2
    rw [e, mws_cons, mws_cons, q.1, q2.1]
    refine ⟨rfl, ?_, by rw [List.length_cons, List.length_cons, q2.2.2]⟩
    show max b.dw (P.dws bs) = max a.dw (P.dws as)
    rw [q.2, q2.2.1]
end
mutual
theorem sh_more {M D : Nat} (hM : 1 ≤ M) : ∀ (t t' : P) (xs : List Str), t.ok → P.sh xs t t' → P.nums t → t.mw ≤ M → t.dw ≤ D → t'.cl xs ∧ P.nums t' ∧ t'.iv M D
  | .num _, t', xs, _, h, hn, _, _ => by
    have e : t' = _ := h
    rw [e]
    exact ⟨True.intro, hn, True.intro⟩
  | .nam x, t', xs, _, h, _, _, _ => by
    rcases (show (x ∈ xs ∧ t' = .nam x) ∨ (¬ x ∈ xs ∧ t' ∈ sh3) from h) with ⟨hx, e⟩ | ⟨_, m⟩
    · rw [e]
      exact ⟨hx, True.intro, True.intro⟩
    · have := sh3_facts m
      exact ⟨this.2.2.1 xs, this.2.2.2.1, this.2.2.2.2 M D hM⟩
  | .fn _, t', xs, _, h, _, _, _ => by
    have e : t' = _ := h
    rw [e]
    exact ⟨True.intro, True.intro, True.intro⟩
  | .op k as, t', xs, ho, h, hn, hm, hd => by
    obtain ⟨bs, e, h1⟩ := (show ∃ bs, t' = .op k bs ∧ P.shs xs as bs from h)
    have ho' : (k, as.length) ∈ kinds ∧ P.oks as := ho
    have hk := kind_not_shut ho'.1
    rw [mw_op hk] at hm
    rw [dw_op hk] at hd
    have q := shs_size as bs ho'.2 h1
    obtain ⟨q1, q2, q3⟩ := shs_more (M := M) (D := D) hM as bs xs ho'.2 h1 hn (by omega) (by omega)
    rw [e]
    refine ⟨(cl_op hk).mpr q1, q2, fun j a hj _ => ?_, q3⟩
    have := mws_mem (List.mem_of_getElem? hj)
    omega
  | .lt nm as b, t', xs, ho, h, hn, hm, hd => by
    obtain ⟨bs, c, e, h1, h2⟩ := (show ∃ bs c, t' = .lt nm bs c ∧ P.shs (xs ++ nm) as bs ∧ P.sh (xs ++ nm) b c from h)
    have ho' : nm.length = as.length ∧ (∀ x, x ∈ nm → nmOk x) ∧ P.oks as ∧ P.ok b := ho
    have hn' : P.numss as ∧ P.nums b := hn
    rw [mw_lt] at hm
    have hd' : 1 + max (P.dws as) b.dw ≤ D := hd
    have q := shs_size as bs ho'.2.2.1 h1
    have qb := sh_size b c ho'.2.2.2 h2
    obtain ⟨q1, q2, q3⟩ := shs_more (M := M) (D := D) hM as bs (xs ++ nm) ho'.2.2.1 h1 hn'.1 (by omega) (by omega)
    obtain ⟨r1, r2, r3⟩ := sh_more (M := M) (D := D) hM b c (xs ++ nm) ho'.2.2.2 h2 hn'.2 (by omega) (by omega)
    rw [e]
    exact ⟨⟨q1, r1⟩, ⟨q2, r2⟩, ⟨by omega, by omega, by omega, by omega, q3, r3⟩⟩
theorem shs_more {M D : Nat} (hM : 1 ≤ M) : ∀ (as bs : List P) (xs : List Str), P.oks as → P.shs xs as bs → P.numss as → P.mws as ≤ M → P.dws as ≤ D → P.cls xs bs ∧ P.numss bs ∧ P.ivs M D bs
  | [], bs, xs, _, h, _, _, _ => by
    have e : bs = [] := h
    rw [e]
    exact ⟨True.intro, True.intro, True.intro⟩
  | a :: as, l, xs, ho, h, hn, hm, hd => by
    obtain ⟨b, bs, e, h1, h2⟩ := (show ∃ b bs, l = b :: bs ∧ P.sh xs a b ∧ P.shs xs as bs from h)
    rw [mws_cons] at hm
    have hd' : max a.dw (P.dws as) ≤ D := hd
    obtain ⟨q1, q2, q3⟩ := sh_more (M := M) (D := D) hM a b xs ho.1 h1 hn.1 (by omega) (by omega)
    obtain ⟨r1, r2, r3⟩ := shs_more (M := M) (D := D) hM as bs xs ho.2 h2 hn.2 (by omega) (by omega)
    rw [e]
    exact ⟨⟨q1, r1⟩, ⟨q2, r2⟩, ⟨q3, r3⟩⟩
end
end Lz

set_option Elab.async false
set_option linter.all false
set_option maxRecDepth 100000
set_option maxHeartbeats 8000000
namespace Lz
open PySem PySem.Spec PyProof.Rows L2
def spShut (K : PySem.W.Frag) (n : Nat) : Sp := fun vs H Q _ => ∃ (Fn : List Str) (p a ls : Addr) (v : V) (t : Lz.P) (xs : List Str), vs = [.ref p, v, .ref ls] ∧ PenAt H p a ∧ Dp K H v t.data ∧ t.okS Fn ∧ H ls = some (.lst (xs.map V.str)) ∧ ls ≠ p ∧ xs.length + t.many ≤ 9000 ∧ t.deep ≤ n ∧
  ∀ (v' : V) (t' : Lz.P) (H' : Hp), Kp [p] H H' → PenAt H' p a → Dp K H' v' t'.data → t'.okS Fn → t'.many ≤ 3 * t.many → t'.deep ≤ t.deep + 2 → Lz.P.sh xs t t' → Q v' H'
theorem in3U (a b c k : Str) : inV (.str k) [.str a, .str b, .str c] = decide (k ∈ [a, b, c]) := inU k [a, b, c]
theorem okSs_snoc {Fs : List Str} {as : List Lz.P} {a : Lz.P} (h : Lz.P.okSs Fs as) (k : a.okS Fs) : Lz.P.okSs Fs (as ++ [a]) := okSs_iff.mpr fun b m => by
  rcases List.mem_append.mp m with m | m
  · exact okSs_iff.mp h b m
  · rw [List.mem_singleton.mp m]; exact k
section
variable {P : Program} {w : World} {K : PySem.W.Frag} {mg : Str → Option Value} {base : Heap} {f : Addr} {fd : FuncData}
abbrev sLShut : Stmt := topS 45
theorem scLShut : FnScope ["_law_pen_here", "_law_part_here", "_law_scope", "_law_inner", "_law_rows", "_law_row", "_law_one"] ["_law_pen_here", "_law_part_here", "_law_scope"] (defScope sLShut) := ⟨rfl, rfl, rfl, by decide +kernel, rfl, by decide +kernel, by decide +kernel⟩
theorem ok_shut {n j : Nat} (hj : 1 ≤ j) (F : Fun K "_law_shut" "_law_shut" sLShut f fd) (B : Bt mg) (CLDraw : C8.Cal P w K mg base 1 "_law_draw" (spDraw K) []) (CLShut : C8.Cal P w K mg base j "_law_shut" (spShut K n) []) : FnOk P w K mg base CX0 (j + 1) f fd ["_law_pen_here", "_law_part_here", "_law_scope"] (spShut K (n + 1)) := by
  have mtup := B.tuple
  refine F.ok scLShut (fun vs H Q E h => ?_) (fun cdv A outer s H vs Q E hr h => ?_)
  · obtain ⟨Fs, p, a, ls, v, t, xs, rfl, _⟩ := h
    rfl
  obtain ⟨Fs, p, ap, ls, v, t, xs, rfl, hpen, hd, hok, hls, hlsp, hroom, hdeep, q⟩ := h
  refine ⟨_, (pss_cons (ps_if (PW.pt (pw_and (pt_cmpR op_eq (pe_ix (ix_tupK (K := K) rfl) (pv 1) pe_int (fun _ _ => rfl)) pe_str (nomark _)) (pw_and1 (pt_cmpR (op_notInK (K := K) rfl) (pe_ix (ix_tupK (K := K) rfl) (pv 1) pe_int (fun _ _ => rfl)) (pv 2) rfl)))) (pss_one (ps_ret (pe_ix (ix_listK (K := K) rfl) (pe_lst (pa_cons (pe_tup (pa_cons pe_str (pa_cons pe_int pa_nil))) (pa_cons (pe_tup (pa_cons pe_str (pa_cons (pe_tup (pa_cons pe_str (pa_cons pe_int pa_nil))) pa_nil))) (pa_cons (pe_tup (pa_cons pe_str (pa_cons (pe_tup (pa_cons pe_str (pa_cons (pe_tup (pa_cons pe_str (pa_cons pe_int pa_nil))) pa_nil))) pa_nil))) pa_nil)))) (C8.pe_c CLDraw hr (by first | decide | omega) (by rfl) (pa_cons (pv 0) (pa_cons pe_int pa_nil))) (fun _ _ => rfl)))) pss_nil)
    (pss_cons (ps_if (pt_cmpR (op_inK (K := K) rfl) (pe_ix (ix_tupK (K := K) rfl) (pv 1) pe_int (fun _ _ => rfl)) (pe_tup (pa_cons pe_str (pa_cons pe_str (pa_cons pe_str pa_nil)))) rfl) (pss_one (ps_ret (pv 1))) pss_nil)
    (pss_cons (ps_if (pt_cmpR op_eq (pe_ix (ix_tupK (K := K) rfl) (pv 1) pe_int (fun _ _ => rfl)) pe_str (nomark _)) (pss_cons (ps_set (i := 3) scLShut.nd rfl (.inr rfl) (pe_op op_cat (pv 2) (pe_lc (own := [("_law_row", 5)]) rfl scLShut.nd (pi_tupK (K := K) rfl (pe_ix (ix_tupK (K := K) rfl) (pv 1) pe_int (fun _ _ => rfl))) (blkOk_by (N := ["_law_pen_here", "_law_part_here", "_law_scope", "_law_inner", "_law_rows", "_law_row", "_law_one"]) (sc := defScope sLShut) (by decide +kernel)) (fun _ _ _ _ _ => (pg_name (i := 5) scLShut.nd rfl (.inl rfl))) (fun _ _ _ _ _ => pts_nil) (fun _ _ _ _ _ => (pe_ix (ix_tupK (K := K) rfl) (pv 5) pe_int (fun _ _ => rfl))))))
    (pss_cons (ps_setLc (i := 4) (own := [("_law_row", 5)]) rfl scLShut.nd rfl rfl (sw_true rfl rfl rfl (by decide +kernel)) (pi_tupK (K := K) rfl (pe_ix (ix_tupK (K := K) rfl) (pv 1) pe_int (fun _ _ => rfl))) (blkOk_by (N := ["_law_pen_here", "_law_part_here", "_law_scope", "_law_inner", "_law_rows", "_law_row", "_law_one"]) (sc := defScope sLShut) (by decide +kernel)) (fun _ _ _ _ _ => (pg_name (i := 5) scLShut.nd rfl (.inl rfl))) (fun _ _ _ _ _ => pts_nil) (fun _ _ _ _ _ => (pe_tup (pa_cons (pe_ix (ix_tupK (K := K) rfl) (pv 5) pe_int (fun _ _ => rfl)) (pa_cons (C8.pe_c CLShut hr (by first | decide | omega) (by rfl) (pa_cons (pv 0) (pa_cons (pe_ix (ix_tupK (K := K) rfl) (pv 5) pe_int (fun _ _ => rfl)) (pa_cons (pv 3) pa_nil)))) pa_nil)))))
    (pss_one (ps_ret (pe_tup (pa_cons pe_str (pa_cons (pe_callTy (call_tupleK (K := K) rfl) (by rfl) mtup (by decide +kernel) (pa_cons (pv 4) pa_nil)) (pa_cons (C8.pe_c CLShut hr (by first | decide | omega) (by rfl) (pa_cons (pv 0) (pa_cons (pe_ix (ix_tupK (K := K) rfl) (pv 1) pe_int (fun _ _ => rfl)) (pa_cons (pv 3) pa_nil)))) pa_nil)))))))) pss_nil)
    (pss_one (ps_ret (pe_callTy (call_tupleK (K := K) rfl) (by rfl) mtup (by decide +kernel) (pa_cons (pe_op op_cat (pe_lst (pa_cons (pe_ix (ix_tupK (K := K) rfl) (pv 1) pe_int (fun _ _ => rfl)) pa_nil)) (pe_lc (own := [("_law_one", 6)]) rfl scLShut.nd (pi_tupK (K := K) rfl (pe_slice (sl_tupAK (K := K) rfl) (pv 1) (po_some pe_int) po_none)) (blkOk_by (N := ["_law_pen_here", "_law_part_here", "_law_scope", "_law_inner", "_law_rows", "_law_row", "_law_one"]) (sc := defScope sLShut) (by decide +kernel)) (fun _ _ _ _ _ => (pg_name (i := 6) scLShut.nd rfl (.inl rfl))) (fun _ _ _ _ _ => pts_nil) (fun _ _ _ _ _ => (C8.pe_c CLShut hr (by first | decide | omega) (by rfl) (pa_cons (pv 0) (pa_cons (pv 6) (pa_cons (pv 2) pa_nil))))))) pa_nil))))))), ?_⟩
  obtain ⟨a, vs, rfl, ht, hvs⟩ := hd_at hd
  have hself : Lz.P.sh xs t t → ∀ H', Kp [p] H H' → PenAt H' p ap → Q (.ref a) H' := fun hs H' k pn => q _ t H' k pn (Dp.keep k _ _ (data_fz _) hd) hok (by omega) (by omega) hs
  have hin : Lz.P.sh xs t t → ∀ H1, Kp [p] H H1 → PenAt H1 p ap → ∀ T, H1 T = none → Q (.ref a) (upd H1 T (.tup [.str "name", .str "number", .str "fun"])) := fun hs H1 k pn T hT => hself hs _ (k.trans (Kp.new hT)) (pn.new hT)
  by_cases hn : t.hd = "name"
  · obtain ⟨x, rfl⟩ : ∃ x, t = .nam x := by
      cases t with
      | num i => exact absurd (show ("number" : Str) = "name" from hn) (by decide +kernel)
      | nam x => exact ⟨x, rfl⟩
      | fn i => exact absurd (show ("fun" : Str) = "name" from hn) (by decide +kernel)
      | lt nm as b => exact absurd (show ("let" : Str) = "name" from hn) (by decide +kernel)
      | op k as => exact absurd hn (kind2_plain (show (k, as.length) ∈ kinds2 ∧ Lz.P.okSs Fs as from hok).1).2.2.1
    obtain ⟨a2, e, hft⟩ := str_at (x := x) hd rfl
    obtain rfl := V.ref.inj e
    refine ⟨_, rfl, a, _, _, _, rfl, rfl, hft, at_of (j := 0) rfl rfl, rfl, _, rfl, ?_⟩
    refine ite2 (fun _ => ?_) (fun c => absurd (decide_eq_true rfl) c)
    refine ⟨_, rfl, a, _, _, _, rfl, rfl, hft, at_of (j := 1) rfl rfl, _, rfl, ls, _, rfl, .inl (SqL.of hls), rfl, flatU _, _, rfl, ?_⟩
    refine ite2 (fun cx => ?_) (fun cx => ?_)
    · refine ⟨(by show 2 ≤ sizeLine; decide), fun t1 ht1 => ?_⟩
      have e1 : Dp K (upd H t1 (.tup [.str "number", .int 3])) (.ref t1) (Lz.P.num 3).data := Dp.newT ht1 (.cons (.str _) (.cons (.int _) .nil)) rfl
      have k1 : Kp [p] H (upd H t1 (.tup [.str "number", .int 3])) := Kp.new ht1
      have pen1 := hpen.new (o := .tup [.str "number", .int 3]) ht1
      generalize upd H t1 (.tup [.str "number", .int 3]) = H1 at e1 k1 pen1 ⊢
      refine ⟨(by show 2 ≤ sizeLine; decide), fun t2 ht2 => ?_⟩
      have e2 : Dp K (upd H1 t2 (.tup [.str "number", .int 2])) (.ref t2) (Lz.P.num 2).data := Dp.newT ht2 (.cons (.str _) (.cons (.int _) .nil)) rfl
      have k2 : Kp [p] H1 (upd H1 t2 (.tup [.str "number", .int 2])) := Kp.new ht2
      have pen2 := pen1.new (o := .tup [.str "number", .int 2]) ht2
      have e1 := Dp.keep k2 _ _ (data_fz _) e1
      have k2 := k1.trans k2
      generalize upd H1 t2 (.tup [.str "number", .int 2]) = H2 at e1 e2 k2 pen2 ⊢
      refine ⟨(by show 2 ≤ sizeLine; decide), fun t3 ht3 => ?_⟩
      have e3 : Dp K (upd H2 t3 (.tup [.str "shut", .ref t2])) (.ref t3) (Lz.P.op "shut" [.num 2]).data := Dp.newT ht3 (.cons (.str _) (.cons e2 .nil)) rfl
      have k3 : Kp [p] H2 (upd H2 t3 (.tup [.str "shut", .ref t2])) := Kp.new ht3
      have pen3 := pen2.new (o := .tup [.str "shut", .ref t2]) ht3
      have e1 := Dp.keep k3 _ _ (data_fz _) e1
      have k3 := k2.trans k3
      generalize upd H2 t3 (.tup [.str "shut", .ref t2]) = H3 at e1 e3 k3 pen3 ⊢
      refine ⟨(by show 2 ≤ sizeLine; decide), fun t4 ht4 => ?_⟩
      have e4 : Dp K (upd H3 t4 (.tup [.str "number", .int 0])) (.ref t4) (Lz.P.num 0).data := Dp.newT ht4 (.cons (.str _) (.cons (.int _) .nil)) rfl
      have k4 : Kp [p] H3 (upd H3 t4 (.tup [.str "number", .int 0])) := Kp.new ht4
      have pen4 := pen3.new (o := .tup [.str "number", .int 0]) ht4
      have e1 := Dp.keep k4 _ _ (data_fz _) e1
      have e3 := Dp.keep k4 _ _ (data_fz _) e3
      have k4 := k3.trans k4
      generalize upd H3 t4 (.tup [.str "number", .int 0]) = H4 at e1 e3 e4 k4 pen4 ⊢
      refine ⟨(by show 2 ≤ sizeLine; decide), fun t5 ht5 => ?_⟩
      have e5 : Dp K (upd H4 t5 (.tup [.str "shut", .ref t4])) (.ref t5) (Lz.P.op "shut" [.num 0]).data := Dp.newT ht5 (.cons (.str _) (.cons e4 .nil)) rfl
      have k5 : Kp [p] H4 (upd H4 t5 (.tup [.str "shut", .ref t4])) := Kp.new ht5
      have pen5 := pen4.new (o := .tup [.str "shut", .ref t4]) ht5
      have e1 := Dp.keep k5 _ _ (data_fz _) e1
      have e3 := Dp.keep k5 _ _ (data_fz _) e3
      have k5 := k4.trans k5
      generalize upd H4 t5 (.tup [.str "shut", .ref t4]) = H5 at e1 e3 e5 k5 pen5 ⊢
      refine ⟨(by show 2 ≤ sizeLine; decide), fun t6 ht6 => ?_⟩
      have e6 : Dp K (upd H5 t6 (.tup [.str "shut", .ref t5])) (.ref t6) (Lz.P.op "shut" [.op "shut" [.num 0]]).data := Dp.newT ht6 (.cons (.str _) (.cons e5 .nil)) rfl
      have k6 : Kp [p] H5 (upd H5 t6 (.tup [.str "shut", .ref t5])) := Kp.new ht6
      have pen6 := pen5.new (o := .tup [.str "shut", .ref t5]) ht6
      have e1 := Dp.keep k6 _ _ (data_fz _) e1
      have e3 := Dp.keep k6 _ _ (data_fz _) e3
      have k6 := k5.trans k6
      generalize upd H5 t6 (.tup [.str "shut", .ref t5]) = H6 at e1 e3 e6 k6 pen6 ⊢
      refine ⟨(by show 3 ≤ sizeLine; decide), fun l hl => ?_⟩
      have k7 : Kp [p] H6 (upd H6 l (.lst [.ref t1, .ref t3, .ref t6])) := Kp.new hl
      have pen7 := pen6.new (o := .lst [.ref t1, .ref t3, .ref t6]) hl
      have hl7 : (upd H6 l (.lst [.ref t1, .ref t3, .ref t6])) l = some (.lst [.ref t1, .ref t3, .ref t6]) := upd_same
      have nlp := (pen6.apart hl).1
      have e1 := Dp.keep k7 _ _ (data_fz _) e1
      have e3 := Dp.keep k7 _ _ (data_fz _) e3
      have e6 := Dp.keep k7 _ _ (data_fz _) e6
      have k7 := k6.trans k7
      generalize upd H6 l (.lst [.ref t1, .ref t3, .ref t6]) = H7 at e1 e3 e6 k7 pen7 hl7 ⊢
      refine ⟨_, rfl, p, ap, 3, rfl, pen7, by decide, by decide, fun r H8 k8 pen8 r0 r1 => ?_⟩
      have hl8 := k8.lst hl7 (not1 nlp)
      have e1 := Dp.keep k8 _ _ (data_fz _) e1
      have e3 := Dp.keep k8 _ _ (data_fz _) e3
      have e6 := Dp.keep k8 _ _ (data_fz _) e6
      have kk := k7.trans k8
      obtain ⟨vz, tz, hvz, htz, oz, mz, dz, sz⟩ : ∃ (vz : V) (tz : Lz.P), ([.ref t1, .ref t3, .ref t6] : List V)[r.toNat]? = some vz ∧ Dp K H8 vz tz.data ∧ tz.okS Fs ∧ tz.many ≤ 3 ∧ tz.deep ≤ 3 ∧ tz ∈ sh3 := by
        have hs : (("shut" : Str), 1) ∈ kinds2 := List.mem_cons_self
        have h0 : r.toNat < 3 := by omega
        generalize r.toNat = jj at h0
        match jj, h0 with
        | 0, _ => exact ⟨_, _, rfl, e1, True.intro, by decide, by decide, List.mem_cons_self⟩
        | 1, _ => exact ⟨_, _, rfl, e3, ⟨hs, True.intro, True.intro⟩, by decide, by decide, List.mem_cons_of_mem _ List.mem_cons_self⟩
        | 2, _ => exact ⟨_, _, rfl, e6, ⟨hs, ⟨hs, True.intro, True.intro⟩, True.intro⟩, by decide, by decide, List.mem_cons_of_mem _ (List.mem_cons_of_mem _ List.mem_cons_self)⟩
      refine ⟨l, _, _, _, rfl, rfl, SqL.of hl8, at_of (j := r.toNat) (by omega) hvz, ?_⟩
      exact q vz tz H8 kk pen8 htz oz mz dz (.inr ⟨(fun m => by
        rw [inU, decide_eq_true m] at cx
        exact absurd cx (by simp)), sz⟩)
    · refine ⟨_, rfl, a, _, _, _, rfl, rfl, hft, at_of (j := 0) rfl rfl, (by show 3 ≤ sizeLine; decide), fun T hT => ?_⟩
      refine ⟨T, _, rfl, .inr (SqT.of upd_same), rfl, rfl, _, rfl, ?_⟩
      refine ite2 (fun _ => ?_) (fun c => absurd ((in3U "name" "number" "fun" "name").trans (by decide +kernel)) c)
      exact ⟨_, rfl, hin (.inl ⟨(by
        rw [inU] at cx
        by_cases m : x ∈ xs
        · exact m
        · rw [decide_eq_false m] at cx
          exact absurd rfl cx), rfl⟩) H (Kp.refl _ _) hpen T hT⟩
  refine ⟨_, rfl, a, _, _, _, rfl, rfl, ht, at_of (j := 0) rfl rfl, rfl, _, rfl, ?_⟩
  refine ite2 (fun c => absurd (V.str.inj (of_decide_eq_true c)) hn) (fun _ => ?_)
  refine ⟨_, rfl, a, _, _, _, rfl, rfl, ht, at_of (j := 0) rfl rfl, (by show 3 ≤ sizeLine; decide), fun T hT => ?_⟩
  have h1T : (upd H T (.tup [.str "name", .str "number", .str "fun"])) T = some (.tup [.str "name", .str "number", .str "fun"]) := upd_same
  have k1 : Kp [p] H (upd H T (.tup [.str "name", .str "number", .str "fun"])) := Kp.new hT
  have pen1 := hpen.new (o := .tup [.str "name", .str "number", .str "fun"]) hT
  generalize upd H T (.tup [.str "name", .str "number", .str "fun"]) = H1 at h1T k1 pen1 ⊢
  refine ⟨T, _, rfl, .inr (SqT.of h1T), rfl, rfl, _, rfl, ?_⟩
  refine ite2 (fun c => ⟨_, rfl, hself (by
    have m := of_decide_eq_true ((in3U _ _ _ _).symm.trans c)
    cases t with
    | num i => rfl
    | nam x => exact absurd rfl hn
    | fn x => rfl
    | lt nm as b => exact absurd (show ("let" : Str) ∈ (["name", "number", "fun"] : List Str) from m) (by decide +kernel)
    | op k as =>
      have hk := kind2_plain (show (k, as.length) ∈ kinds2 ∧ Lz.P.okSs Fs as from hok).1
      have m' : k ∈ (["name", "number", "fun"] : List Str) := m
      simp only [List.mem_cons, List.not_mem_nil, or_false] at m'
      rcases m' with e | e | e
      · exact absurd e hk.2.2.1
      · exact absurd e hk.2.1
      · exact absurd e hk.2.2.2) H1 k1 pen1⟩) (fun c => ?_)
  have c1 : ¬ t.hd ∈ (["name", "number", "fun"] : List Str) := fun m => c ((in3U _ _ _ _).trans (decide_eq_true m))
  have ht1 := k1.sqT ht
  have hls1 := k1.lst hls (not1 hlsp)
  have hd1 := Dp.keep k1 _ _ (data_fz _) hd
  refine ⟨_, rfl, a, _, _, _, rfl, rfl, ht1, at_of (j := 0) rfl rfl, rfl, _, rfl, ?_⟩
  cases t with
  | num i => exact absurd (List.mem_cons_of_mem _ List.mem_cons_self) c1
  | nam x => exact absurd rfl hn
  | fn i => exact absurd (List.mem_cons_of_mem _ (List.mem_cons_of_mem _ List.mem_cons_self)) c1
  | lt nm as b =>
    refine ite2 (fun _ => ?_) (fun c => absurd (decide_eq_true rfl) c)
    obtain ⟨a2, r, rs, vb, e, htt, hrt, hrs, hvb⟩ := let_atU hd1
    obtain rfl := V.ref.inj e
    have hnl : nm.length = as.length := hok.1
    have hrl : rs.length = as.length := by rw [hrs.length, List.length_zipWith, datas_len]; omega
    have hmt : (Lz.P.lt nm as b).many = 1 + (Lz.P.manys as + b.many) := rfl
    have hal := len_manys as
    have hbp := many_pos b
    rw [hmt] at hroom
    refine ⟨_, rfl, _, rfl, a, _, _, _, rfl, rfl, htt, at_of (j := 1) rfl rfl, r, rfl, ⟨_, hrt⟩, fun D hD => ?_⟩
    refine lc_tup (K := K) (a := r) (xs := rs) (fun i H' => Kp [] H1 H' ∧ PenAt H' p ap ∧ H' D = some (.lst ((nm.take i).map V.str)))
      ⟨Kp.new hD, pen1.new hD, upd_same⟩ (fun i H' _ ⟨k, _⟩ => k.sqT hrt) ?_ ?_
    · rintro i x H2 hi ⟨k2, pen2, h2⟩
      obtain ⟨tt, nx, u, d, rfl, htt2, hnx, had, hud⟩ := row_atU (Dp.keepAll k2 _ _ rows_fz hrs) hi
      refine ⟨rfl, ?_⟩
      obtain ⟨nDp, nDa⟩ := pen1.apart hD
      refine ⟨_, rfl, tt, _, _, _, rfl, rfl, htt2, at_of (j := 0) rfl rfl, _, h2, ?_, k2.mut hD, pen2.mut nDp nDa, ?_⟩
      · rw [List.length_map, List.length_take]
        exact small9000 (by omega)
      · rw [upd_same, List.take_add_one, hnx, List.map_append]
        rfl
    rintro H2 ⟨k2, pen2, h2⟩
    rw [hrl, ← hnl, List.take_length] at h2
    refine ⟨ls, D, _, _, rfl, rfl, k2.lst hls1 (fun m => nomatch m), h2, ?_, fun li hli => ?_⟩
    · rw [List.length_map, List.length_map]
      exact Nat.le_of_lt (small9000 (by omega))
    rw [← List.map_append]
    have k3 := k2.trans (Kp.new (S := []) (o := .lst ((xs ++ nm).map V.str)) hli)
    have hli3 : (upd H2 li (.lst ((xs ++ nm).map V.str))) li = some (.lst ((xs ++ nm).map V.str)) := upd_same
    have pen3 := pen2.new (o := .lst ((xs ++ nm).map V.str)) hli
    have nlip := (pen2.apart hli).1
    generalize upd H2 li (.lst ((xs ++ nm).map V.str)) = H3 at k3 hli3 pen3 ⊢
    refine ⟨_, rfl, a, _, _, _, rfl, rfl, k3.sqT htt, at_of (j := 1) rfl rfl, r, rfl, ⟨_, k3.sqT hrt⟩, fun D2 hD2 => ?_⟩
    obtain ⟨nDp, nDa⟩ := pen3.apart hD2
    have niD : li ≠ D2 := ne_of_none hli3 hD2
    refine lc_tup (K := K) (a := r) (xs := rs) (fun i H' => Kp [p] H1 H' ∧ PenAt H' p ap ∧ H' li = some (.lst ((xs ++ nm).map V.str)) ∧ ∃ (ws : List V) (as' : List Lz.P), H' D2 = some (.lst ws) ∧ DpAll K H' ws (List.zipWith rowD (nm.take i) (Lz.P.datas as')) ∧ as'.length = i ∧ Lz.P.okSs Fs as' ∧ Lz.P.manys as' ≤ 3 * Lz.P.manys (as.take i) ∧ Lz.P.deeps as' ≤ Lz.P.deeps as + 2 ∧ Lz.P.shs (xs ++ nm) (as.take i) as')
      ⟨(k3.mono (fun _ m => nomatch m)).trans (Kp.new hD2), pen3.new hD2, by rw [upd_ne niD]; exact hli3, [], [], upd_same, .nil, rfl, True.intro, Nat.zero_le _, Nat.zero_le _, rfl⟩ (fun i H' _ ⟨k, _⟩ => k.sqT hrt) ?_ ?_
    · rintro i x H4 hi ⟨k4, pen4, hli4, ws, as', hws, hdw, hal', hos, hms, hds, hsh⟩
      obtain ⟨tt, nx, u, d, rfl, htt2, hnx, had, hud⟩ := row_atU (Dp.keepAll k4 _ _ rows_fz hrs) hi
      have hdm := List.mem_of_getElem? had
      have hdr := inn_room (t := .lt nm as b) (a := d) (List.mem_append_left _ hdm)
      have hil : (Lz.P.lt nm as b).inn.length = as.length + 1 := by show (as ++ [b]).length = _; rw [List.length_append]; rfl
      have hdd := inn_deep (t := .lt nm as b) (a := d) (List.mem_append_left _ hdm)
      have hdok := okSs_iff.mp hok.2.2.1 d hdm
      have htk : Lz.P.manys (as.take (i + 1)) = Lz.P.manys (as.take i) + d.many := by
        rw [List.take_add_one, had, manys_append]
        show _ + (d.many + 0) = _
        omega
      refine ⟨rfl, ?_⟩
      refine ⟨_, rfl, tt, _, _, _, rfl, rfl, htt2, at_of (j := 0) rfl rfl, _, rfl, _, rfl, tt, _, _, _, rfl, rfl, htt2, at_of (j := 1) rfl rfl, _, rfl, Fs, p, ap, li, u, d, xs ++ nm, rfl, pen4, hud, hdok, hli4, nlip, ?_, by omega, fun v' t' H5 k5 pen5 hd5 ok5 m5 d5 s5 => ?_⟩
      · rw [List.length_append]
        omega
      refine ⟨(by show 2 ≤ sizeLine; decide), fun qt hqt => ?_⟩
      have k6 : Kp [p] H5 (upd H5 qt (.tup [.str nx, v'])) := Kp.new hqt
      have hrow : Dp K (upd H5 qt (.tup [.str nx, v'])) (.ref qt) (rowD nx t'.data) := Dp.newT hqt (.cons (.str _) (.cons hd5 .nil)) (by show (true && (fz _ && true)) = true; rw [data_fz]; rfl)
      have pen6 := pen5.new (o := .tup [.str nx, v']) hqt
      have k46 := k5.trans k6
      generalize upd H5 qt (.tup [.str nx, v']) = H6 at hrow pen6 k46 ⊢
      have hws6 := k46.lst hws (not1 nDp)
      have hdw6 := Dp.keepAll k46 _ _ rows_fz hdw
      have hwl : ws.length = i := by rw [hdw.length, List.length_zipWith, datas_len, List.length_take, hal']; have := (List.getElem?_eq_some_iff.mp hnx).1; omega
      have hil2 := (List.getElem?_eq_some_iff.mp had).1
      have hD2H : H1 D2 = none := k3.free hD2 (fun m => nomatch m)
      have kput : Kp [D2] H6 (upd H6 D2 (.lst (ws ++ [.ref qt]))) := Kp.put hws6 List.mem_cons_self
      refine ⟨ws, hws6, small9000 (by omega), (k4.trans k46).mut hD2H, pen6.mut nDp nDa, by rw [upd_ne niD]; exact k46.lst hli4 (not1 nlip), ws ++ [.ref qt], as' ++ [t'], upd_same, ?_, by rw [List.length_append, hal']; rfl, okSs_snoc hos ok5, ?_, ?_, by rw [List.take_add_one, had]; exact shs_snoc s5 hsh⟩
      · have e : List.zipWith rowD (nm.take (i + 1)) (Lz.P.datas (as' ++ [t'])) = List.zipWith rowD (nm.take i) (Lz.P.datas as') ++ [rowD nx t'.data] := by
          have e1 : Lz.P.datas (as' ++ [t']) = Lz.P.datas as' ++ [t'.data] := by rw [datas_map, datas_map, List.map_append]; rfl
          rw [List.take_add_one, hnx, e1]
          show List.zipWith rowD (nm.take i ++ [nx]) _ = _
          rw [List.zipWith_append (by rw [List.length_take, datas_len, hal']; have := (List.getElem?_eq_some_iff.mp hnx).1; omega)]
          rfl
        rw [e]
        have f1 : fz (rowD nx t'.data) = true := by show (true && (fz _ && true)) = true; rw [data_fz]; rfl
        exact (Dp.keepAll kput _ _ rows_fz hdw6).append (.one (Dp.keep kput _ _ f1 hrow))
      · rw [manys_append, htk]
        show _ + (t'.many + 0) ≤ _
        omega
      · rw [deeps_append]
        have h1 := deeps_mem hdm
        have e1 : Lz.P.deeps [t'] = max t'.deep 0 := rfl
        omega
    rintro H4 ⟨k4, pen4, hli4, ws, as', hws, hdw, hal', hos, hms, hds, hsh⟩
    rw [hrl] at hal' hms hsh
    rw [List.take_length] at hms hsh
    rw [hrl, ← hnl, List.take_length] at hdw
    have nws : D2 ≠ p := nDp
    refine ⟨_, rfl, D2, _, rfl, .inl ⟨SqL.of hws, fun tt htt4 => ?_⟩⟩
    have k5 : Kp [p] H4 (upd H4 tt (.tup ws)) := Kp.new htt4
    have pen5 := pen4.new (o := .tup ws) htt4
    have hrows : Dp K (upd H4 tt (.tup ws)) (.ref tt) (.tuple (List.zipWith rowD nm (Lz.P.datas as'))) := Dp.newT htt4 hdw rows_fz
    have hli5 := k5.lst hli4 (not1 nlip)
    have k5 := k4.trans k5
    generalize upd H4 tt (.tup ws) = H5 at k5 pen5 hrows hli5 ⊢
    have hbm : b ∈ (Lz.P.lt nm as b).inn := List.mem_append_right _ List.mem_cons_self
    have hbr := inn_room hbm
    have hbd := inn_deep hbm
    have hil : (Lz.P.lt nm as b).inn.length = as.length + 1 := by show (as ++ [b]).length = _; rw [List.length_append]; rfl
    refine ⟨_, rfl, _, rfl, a, _, _, _, rfl, rfl, k5.sqT htt, at_of (j := 2) rfl rfl, _, rfl, Fs, p, ap, li, vb, b, xs ++ nm, rfl, pen5, Dp.keep k5 _ _ (data_fz _) hvb, hok.2.2.2, hli5, nlip, ?_, by omega, fun v' t' H6 k6 pen6 hd6 ok6 m6 d6 s6 => ?_⟩
    · rw [List.length_append]
      omega
    refine ⟨(by show 3 ≤ sizeLine; decide), fun qt hqt => ?_⟩
    have hrows6 := Dp.keep k6 _ _ (by show fzAll _ = true; exact rows_fz) hrows
    have k7 := (k1.trans (k5.trans k6)).trans (Kp.new (S := [p]) (o := .tup [.str "let", .ref tt, v']) hqt)
    refine q (.ref qt) (.lt nm as' t') _ k7 (pen6.new hqt) (Dp.newT hqt (.cons (.str _) (.cons hrows6 (.cons hd6 .nil))) ?_) ⟨hnl.trans hal'.symm, hok.2.1, hos, ok6⟩ ?_ ?_ ⟨_, _, rfl, hsh, s6⟩
    · show (true && (fzAll _ && (fz _ && true))) = true
      rw [rows_fz, data_fz]
      rfl
    · show 1 + (Lz.P.manys as' + t'.many) ≤ 3 * (1 + (Lz.P.manys as + b.many))
      omega
    · show 1 + max (Lz.P.deeps as') t'.deep ≤ 1 + max (Lz.P.deeps as) b.deep + 2
      omega
  | op k as =>
    have hk2 : (k, as.length) ∈ kinds2 := hok.1
    have hpl := kind2_plain hk2
    have ht1 : SqT K H1 a (.str k :: vs) := ht1
    refine ite2 (fun c => absurd (V.str.inj (of_decide_eq_true c)) hpl.1) (fun _ => ?_)
    have hvl : vs.length = as.length := by rw [hvs.length]; exact datas_len as
    have hmt : (Lz.P.op k as).many = 1 + Lz.P.manys as := rfl
    have hal := len_manys as
    rw [hmt] at hroom
    have hvs1 : DpAll K H1 vs (Lz.P.datas as) := Dp.keepAll k1 _ _ (datas_fz _) hvs
    refine ⟨_, rfl, a, _, _, _, rfl, rfl, ht1, at_of (j := 0) rfl rfl, (by show 1 ≤ sizeLine; decide), fun l1 hl1 => ?_⟩
    have k2 : Kp [p] H1 (upd H1 l1 (.lst [.str k])) := Kp.new hl1
    have hl12 : (upd H1 l1 (.lst [.str k])) l1 = some (.lst [.str k]) := upd_same
    have pen2 := pen1.new (o := .lst [.str k]) hl1
    have nl1p := (pen1.apart hl1).1
    have ht2 := k2.sqT ht1
    have hls2 := k2.lst hls1 (not1 hlsp)
    have hvs2 := Dp.keepAll k2 _ _ (datas_fz _) hvs1
    have k2 := k1.trans k2
    generalize upd H1 l1 (.lst [.str k]) = H2 at k2 hl12 pen2 ht2 hls2 hvs2 ⊢
    refine ⟨_, rfl, _, rfl, a, _, rfl, ht2, fun z => absurd z (not_wholeU _ _), fun _ t2 ht20 => ?_⟩
    rw [cut_tlU]
    have k3 : Kp [p] H2 (upd H2 t2 (.tup vs)) := Kp.new ht20
    have ht3 : (upd H2 t2 (.tup vs)) t2 = some (.tup vs) := upd_same
    have pen3 := pen2.new (o := .tup vs) ht20
    have hls3 := k3.lst hls2 (not1 hlsp)
    have hl13 := k3.lst hl12 (not1 nl1p)
    have hvs3 := Dp.keepAll k3 _ _ (datas_fz _) hvs2
    have k3 := k2.trans k3
    generalize upd H2 t2 (.tup vs) = H3 at k3 ht3 pen3 hls3 hl13 hvs3 ⊢
    refine ⟨t2, rfl, ⟨_, SqT.of ht3⟩, fun D hD => ?_⟩
    obtain ⟨nDp, nDa⟩ := pen3.apart hD
    have nlD : ls ≠ D := ne_of_none hls3 hD
    have n1D : l1 ≠ D := ne_of_none hl13 hD
    refine lc_tup (K := K) (a := t2) (xs := vs) (fun i H' => Kp [p] H3 H' ∧ PenAt H' p ap ∧ ∃ (ws : List V) (as' : List Lz.P), H' D = some (.lst ws) ∧ DpAll K H' ws (Lz.P.datas as') ∧ as'.length = i ∧ Lz.P.okSs Fs as' ∧ Lz.P.manys as' ≤ 3 * Lz.P.manys (as.take i) ∧ Lz.P.deeps as' ≤ Lz.P.deeps as + 2 ∧ Lz.P.shs xs (as.take i) as')
      ⟨Kp.new hD, pen3.new hD, [], [], upd_same, .nil, rfl, True.intro, Nat.zero_le _, Nat.zero_le _, rfl⟩ (fun i H' _ ⟨k, _⟩ => SqT.of (k.tup ht3)) ?_ ?_
    · rintro i x H4 hi ⟨k4, pen4, ws, as', hws, hdw, hal', hos, hms, hds, hsh⟩
      obtain ⟨d, had, hud⟩ := part_atU (Dp.keepAll k4 _ _ (datas_fz _) hvs3) hi
      have hdm := List.mem_of_getElem? had
      have hdr := inn_room (t := .op k as) (a := d) hdm
      have hdd := inn_deep (t := .op k as) (a := d) hdm
      have hil : (Lz.P.op k as).inn.length = as.length := rfl
      have hdok := okSs_iff.mp hok.2 d hdm
      have htk : Lz.P.manys (as.take (i + 1)) = Lz.P.manys (as.take i) + d.many := by
        rw [List.take_add_one, had, manys_append]
        show _ + (d.many + 0) = _
        omega
      refine ⟨rfl, ?_⟩
      refine ⟨_, rfl, _, rfl, _, rfl, Fs, p, ap, ls, x, d, xs, rfl, pen4, hud, hdok, k4.lst hls3 (not1 hlsp), hlsp, by omega, by omega, fun v' t' H5 k5 pen5 hd5 ok5 m5 d5 s5 => ?_⟩
      have hws5 := k5.lst hws (not1 nDp)
      have hdw5 := Dp.keepAll k5 _ _ (datas_fz _) hdw
      have hwl : ws.length = i := by rw [hdw.length, datas_len, hal']
      have hil2 := (List.getElem?_eq_some_iff.mp had).1
      have kput : Kp [D] H5 (upd H5 D (.lst (ws ++ [v']))) := Kp.put hws5 List.mem_cons_self
      refine ⟨ws, hws5, small9000 (by omega), (k4.trans k5).mut hD, pen5.mut nDp nDa, ws ++ [v'], as' ++ [t'], upd_same, ?_, by rw [List.length_append, hal']; rfl, okSs_snoc hos ok5, ?_, ?_, by rw [List.take_add_one, had]; exact shs_snoc s5 hsh⟩
      · have e1 : Lz.P.datas (as' ++ [t']) = Lz.P.datas as' ++ [t'.data] := by rw [datas_map, datas_map, List.map_append]; rfl
        rw [e1]
        exact (Dp.keepAll kput _ _ (datas_fz _) hdw5).append (.one (Dp.keep kput _ _ (data_fz _) hd5))
      · rw [manys_append, htk]
        show _ + (t'.many + 0) ≤ _
        omega
      · rw [deeps_append]
        have h1 := deeps_mem hdm
        have e1 : Lz.P.deeps [t'] = max t'.deep 0 := rfl
        omega
    rintro H4 ⟨k4, pen4, ws, as', hws, hdw, hal', hos, hms, hds, hsh⟩
    rw [hvl] at hal' hms hsh
    rw [List.take_length] at hms hsh
    have hwl : ws.length = as.length := by rw [hdw.length, datas_len, hal']
    have k4 := k3.trans k4
    have hl14 : H4 l1 = some (.lst [.str k]) := by
      have := k4
      exact (show Kp [p] H3 H4 from by assumption).lst hl13 (not1 nl1p)
    refine ⟨l1, D, _, _, rfl, rfl, hl14, hws, ?_, fun l3 hl3 => ?_⟩
    · rw [List.length_singleton]
      exact Nat.le_of_lt (small9000 (by omega))
    have k5 : Kp [p] H4 (upd H4 l3 (.lst ([.str k] ++ ws))) := Kp.new hl3
    have pen5 := pen4.new (o := .lst ([.str k] ++ ws)) hl3
    have hl35 : (upd H4 l3 (.lst ([.str k] ++ ws))) l3 = some (.lst ([.str k] ++ ws)) := upd_same
    have hdw5 := Dp.keepAll k5 _ _ (datas_fz _) hdw
    have k5 := k4.trans k5
    generalize upd H4 l3 (.lst ([.str k] ++ ws)) = H5 at k5 pen5 hl35 hdw5 ⊢
    refine ⟨l3, _, rfl, .inl ⟨SqL.of hl35, fun tt htt => ?_⟩⟩
    refine q (.ref tt) (.op k as') _ (k5.trans (Kp.new htt)) (pen5.new htt) (Dp.newT htt (.cons (.str _) hdw5) ?_) ⟨by rw [hal']; exact hk2, hos⟩ ?_ ?_ ⟨_, rfl, hsh⟩
    · show (true && fzAll (Lz.P.datas as')) = true
      rw [datas_fz]
      rfl
    · show 1 + Lz.P.manys as' ≤ 3 * (1 + Lz.P.manys as)
      omega
    · show 1 + Lz.P.deeps as' ≤ 1 + Lz.P.deeps as + 2
      omega
end
end Lz

set_option Elab.async false
set_option linter.all false
set_option maxRecDepth 100000
set_option maxHeartbeats 8000000
namespace Lz
open PySem PySem.Spec PyProof.Rows L2
def kk9 : List Str := ["give", "plus", "less", "times", "below", "when", "pair", "left", "right"]
/-- a part around one or two -/
def Ar (a b t : Lz.P) : Prop := ∃ k as, t = .op k as ∧ (k, as.length) ∈ kinds ∧ ∀ x, x ∈ as → x = a ∨ x = b
def spAround (K : PySem.W.Frag) : Sp := fun vs H Q _ => ∃ (p ap : Addr) (va vb : V) (a b : Lz.P), vs = [.ref p, va, vb] ∧ PenAt H p ap ∧ Dp K H va a.data ∧ Dp K H vb b.data ∧ ∀ (v' : V) (t : Lz.P) (H' : Hp), Kp [p] H H' → PenAt H' p ap → Dp K H' v' t.data → Ar a b t → Q v' H'
/-- what is stepped at first -/
structure Row0 (fs : List Fn) (t : Lz.P) : Prop where
  ok : Ok10 fs 60 12 t
  mw : t.mw ≤ 60
  dp : t.deep ≤ 14
structure Row1 (fs : List Fn) (t : Lz.P) : Prop where
  ok : Ok10 fs 60 12 t
  mw : t.mw ≤ 181
  dp : t.deep ≤ 15
theorem Row0.one {fs : List Fn} {t : Lz.P} (h : Row0 fs t) : Row1 fs t := ⟨h.ok, by have := h.mw; omega, by have := h.dp; omega⟩
theorem Ar.row {fs : List Fn} {a b t : Lz.P} (h : Ar a b t) (ha : Row0 fs a) (hb : Row0 fs b) : Row1 fs t := by
  obtain ⟨k, as, rfl, hk, hx⟩ := h
  have hr : ∀ x, x ∈ as → Row0 fs x := fun x m => (hx x m).elim (fun e => by rw [e]; exact ha) (fun e => by rw [e]; exact hb)
  have hks := kind_not_shut hk
  have h3 := (kind2_len (kinds_sub hk)).2
  have hm : Lz.P.mws as ≤ 60 * as.length := by
    clear hk hx h3
    induction as with
    | nil => exact Nat.zero_le _
    | cons x r ih =>
      rw [mws_cons, List.length_cons, Nat.mul_add]
      have h1 := (hr x List.mem_cons_self).mw
      have h2 := ih fun y m => hr y (List.mem_cons_of_mem _ m)
      omega
  refine ⟨⟨⟨kinds_sub hk, okSs_iff.mpr fun x m => (hr x m).ok.ok⟩, (cl_op hks).mpr (cls_iff.mpr fun x m => (hr x m).ok.cl), numss_iff.mpr fun x m => (hr x m).ok.nums, fun j x hj _ => ?_, ivs_iff.mpr fun x m => (hr x m).ok.iv⟩, ?_, ?_⟩
  · have := (hr x (List.mem_of_getElem? hj)).mw
    omega
  · rw [mw_op hks]
    have : 60 * as.length ≤ 60 * 3 := Nat.mul_le_mul_left _ h3
    omega
  · show 1 + Lz.P.deeps as ≤ 15
    have := deeps_le (as := as) (n := 14) fun x m => (hr x m).dp
    omega
section
variable {P : Program} {w : World} {K : PySem.W.Frag} {mg : Str → Option Value} {base : Heap} {f : Addr} {fd : FuncData}
abbrev sLAround : Stmt := topS 53
theorem scLAround : FnScope ["_law_pen_here", "_law_one", "_law_other", "_law_kind"] ["_law_pen_here", "_law_one", "_law_other"] (defScope sLAround) := ⟨rfl, rfl, rfl, by decide +kernel, rfl, by decide +kernel, by decide +kernel⟩
theorem ok_around (F : Fun K "_law_around" "_law_around" sLAround f fd) (CLDraw : C8.Cal P w K mg base 1 "_law_draw" (spDraw K) []) : FnOk P w K mg base CX0 2 f fd ["_law_pen_here", "_law_one", "_law_other"] (spAround K) := by
  refine F.ok scLAround (fun vs H Q E h => ?_) (fun cdv A outer s H vs Q E hr h => ?_)
  · obtain ⟨p, ap, va, vb, a, b, rfl, _⟩ := h
    rfl
  obtain ⟨p, ap, va, vb, a, b, rfl, pen, hda, hdb, q⟩ := h
  refine ⟨_, (pss_cons (ps_set (i := 3) scLAround.nd rfl (.inl rfl) (pe_ix (ix_listK (K := K) rfl) (pe_lst (pa_cons pe_str (pa_cons pe_str (pa_cons pe_str (pa_cons pe_str (pa_cons pe_str (pa_cons pe_str (pa_cons pe_str (pa_cons pe_str (pa_cons pe_str pa_nil)))))))))) (C8.pe_c CLDraw hr (by first | decide | omega) (by rfl) (pa_cons (pv 0) (pa_cons pe_int pa_nil))) (fun _ _ => rfl)))
    (pss_cons (ps_if (pt_cmpR (op_inK (K := K) rfl) (pv 3) (pe_tup (pa_cons pe_str (pa_cons pe_str pa_nil))) rfl) (pss_one (ps_ret (pe_tup (pa_cons (pv 3) (pa_cons (pv 1) pa_nil))))) pss_nil)
    (pss_one (ps_ret (pe_ifExp (pt_cmpR op_eq (pv 3) pe_str (nomark _)) (pe_tup (pa_cons (pv 3) (pa_cons (pv 1) (pa_cons (pv 2) (pa_cons (pv 1) pa_nil))))) (pe_tup (pa_cons (pv 3) (pa_cons (pv 1) (pa_cons (pv 2) pa_nil))))))))), ?_⟩
  refine ⟨(by show 9 ≤ sizeLine; decide), fun l hl => ?_⟩
  have k1 : Kp [p] H (upd H l (.lst (kk9.map V.str))) := Kp.new hl
  have pen1 := pen.new (o := .lst (kk9.map V.str)) hl
  have hl1 : (upd H l (.lst (kk9.map V.str))) l = some (.lst (kk9.map V.str)) := upd_same
  have nlp := (pen.apart hl).1
  show tCall _ _ _ _ _ (upd H l (.lst (kk9.map V.str))) _
  generalize upd H l (.lst (kk9.map V.str)) = H1 at k1 pen1 hl1 ⊢
  refine ⟨_, rfl, p, ap, 9, rfl, pen1, by decide, by decide, fun z H2 k2 pen2 z0 z1 => ?_⟩
  have hl2 := k2.lst hl1 (not1 nlp)
  have hz : z.toNat < kk9.length := by show z.toNat < 9; omega
  obtain ⟨k, hk, hkm⟩ : ∃ k : Str, (kk9.map V.str)[z.toNat]? = some (.str k) ∧ k ∈ kk9 := ⟨kk9[z.toNat], by rw [List.getElem?_map, List.getElem?_eq_getElem hz]; rfl, List.getElem_mem hz⟩
  refine ⟨l, _, _, _, rfl, rfl, SqL.of hl2, at_of (j := z.toNat) (by omega) hk, ?_⟩
  have k12 := k1.trans k2
  refine ⟨_, rfl, (by show 2 ≤ sizeLine; decide), fun T hT => ?_⟩
  have kx : Kp [p] H2 (upd H2 T (.tup [.str "left", .str "right"])) := Kp.new hT
  have pen3 := pen2.new (o := .tup [.str "left", .str "right"]) hT
  have hT3 : (upd H2 T (.tup [.str "left", .str "right"])) T = some (.tup [.str "left", .str "right"]) := upd_same
  have k13 := k12.trans kx
  generalize upd H2 T (.tup [.str "left", .str "right"]) = H3 at pen3 hT3 k13 ⊢
  have ha3 := Dp.keep k13 _ _ (data_fz _) hda
  have hb3 := Dp.keep k13 _ _ (data_fz _) hdb
  have fin : ∀ (as : List Lz.P) (xs : List V) (T : Addr), DpAll K H3 xs (Lz.P.datas as) → (k, as.length) ∈ kinds → (∀ x, x ∈ as → x = a ∨ x = b) → H3 T = none → Q (.ref T) (upd H3 T (.tup (.str k :: xs))) := fun as xs T hx hkk hm hT => by
    refine q (.ref T) (.op k as) _ (k13.trans (Kp.new hT)) (pen3.new hT) (Dp.newT hT (.cons (.str _) hx) ?_) ⟨k, as, rfl, hkk, hm⟩
    show (true && fzAll (Lz.P.datas as)) = true
    rw [datas_fz]
    rfl
  have hk9 : k = "give" ∨ k = "plus" ∨ k = "less" ∨ k = "times" ∨ k = "below" ∨ k = "when" ∨ k = "pair" ∨ k = "left" ∨ k = "right" := by
    unfold kk9 at hkm
    simpa using hkm
  refine ⟨T, _, rfl, .inr (SqT.of hT3), rfl, rfl, _, rfl, ?_⟩
  rw [in2U]
  by_cases hsd : k = "left" ∨ k = "right"
  · refine ite2 (fun _ => ?_) (fun c => absurd (by simpa using hsd) c)
    refine ⟨_, rfl, _, rfl, (by show 2 ≤ sizeLine; decide), fun T2 hT2 => ?_⟩
    refine fin [a] [va] T2 (.cons ha3 .nil) ?_ (fun x m => .inl (List.mem_singleton.mp m)) hT2
    rcases hsd with rfl | rfl <;> (show (_, 1) ∈ kinds; decide +kernel)
  refine ite2 (fun c => absurd (by simpa using c) hsd) (fun _ => ?_)
  refine ⟨_, rfl, rfl, _, rfl, ?_⟩
  by_cases hwn : k = "when"
  · subst hwn
    refine ite2 (fun _ => ?_) (fun c => absurd (decide_eq_true rfl) c)
    refine ⟨_, rfl, _, rfl, _, rfl, _, rfl, (by show 4 ≤ sizeLine; decide), fun T2 hT2 => ?_⟩
    refine fin [a, b, a] [va, vb, va] T2 (.cons ha3 (.cons hb3 (.cons ha3 .nil))) (by show (("when" : Str), 3) ∈ kinds; decide +kernel) (fun x m => ?_) hT2
    simp only [List.mem_cons, List.not_mem_nil, or_false] at m
    rcases m with e | e | e
    · exact .inl e
    · exact .inr e
    · exact .inl e
  refine ite2 (fun c => absurd (V.str.inj (of_decide_eq_true c)) hwn) (fun _ => ?_)
  refine ⟨_, rfl, _, rfl, _, rfl, (by show 3 ≤ sizeLine; decide), fun T2 hT2 => ?_⟩
  refine fin [a, b] [va, vb] T2 (.cons ha3 (.cons hb3 .nil)) ?_ (fun x m => ?_) hT2
  · rcases hk9 with rfl | rfl | rfl | rfl | rfl | rfl | rfl | rfl | rfl
    · show (_, 2) ∈ kinds; decide +kernel
    · show (_, 2) ∈ kinds; decide +kernel
    · show (_, 2) ∈ kinds; decide +kernel
    · show (_, 2) ∈ kinds; decide +kernel
    · show (_, 2) ∈ kinds; decide +kernel
    · exact absurd rfl hwn
    · show (_, 2) ∈ kinds; decide +kernel
    · exact absurd (.inl rfl) hsd
    · exact absurd (.inr rfl) hsd
  · simp only [List.mem_cons, List.not_mem_nil, or_false] at m
    exact m
end
end Lz

set_option Elab.async false
set_option linter.all false
set_option maxRecDepth 100000
set_option maxHeartbeats 4000000
namespace Lz
open PySem PySem.Spec PyProof.Rows L2
def spNumber (K : PySem.W.Frag) : Sp := fun vs H Q _ => ∃ (p a : Addr), vs = [.ref p] ∧ PenAt H p a ∧ ∀ (i : Int) (H' : Hp), Kp [p] H H' → PenAt H' p a → i.natAbs < 10 ^ 60 → Q (.int i) H'
def WAt (K : PySem.W.Frag) (H : Hp) (wl : Addr) (W : List (Str × Int)) : Prop := ∃ ws, H wl = some (.lst ws) ∧ DpAll K H ws (W.map wD)
theorem WAt.keep {K : PySem.W.Frag} {S : List Addr} {H H' : Hp} {wl : Addr} {W : List (Str × Int)} (h : WAt K H wl W) (k : Kp S H H') (n : ¬ wl ∈ S) : WAt K H' wl W := by
  obtain ⟨ws, h1, h2⟩ := h
  exact ⟨ws, k.lst h1 n, Dp.keepAll k _ _ (wds_fz W) h2⟩
theorem WAt.dp {K : PySem.W.Frag} {H : Hp} {wl : Addr} {W : List (Str × Int)} (h : WAt K H wl W) : Dp K H (.ref wl) (.list (W.map wD)) := by
  obtain ⟨ws, h1, h2⟩ := h
  exact .lst (SqL.of h1) h2
theorem scope_dp {K : PySem.W.Frag} {H : Hp} {sl : Addr} {sc : List Str} (h : H sl = some (.lst (sc.map V.str))) : Dp K H (.ref sl) (.list (sc.map .str)) := .lst (SqL.of h) (DpAll.strs sc)
theorem nil_dp {K : PySem.W.Frag} {H : Hp} {l : Addr} : Dp K (upd H l (.lst [])) (.ref l) (.list []) := .lst (SqL.of upd_same) .nil
def spLeaf (K : PySem.W.Frag) : Sp := fun vs H Q _ => ∃ (p a wl sl : Addr) (want : Str) (W : List (Str × Int)) (sc : List Str), vs = [.ref p, .ref wl, .ref sl, .str want] ∧ PenAt H p a ∧ WAt K H wl W ∧ H sl = some (.lst (sc.map V.str)) ∧ wl ≠ p ∧ sl ≠ p ∧
  (∀ f, f ∈ W → nmOk f.1) ∧ (∀ x, x ∈ sc → nmOk x) ∧ W.length ≤ 1000 ∧ sc.length ≤ 1000 ∧
  ∀ (v : V) (d : Lz.P) (H' : Hp), Kp [p] H H' → PenAt H' p a → Dp K H' v d.data → (∀ dp n ss, Dr W sc dp n ss n ss [d]) → Q v H'
def spFits (K : PySem.W.Frag) : Sp := fun vs H Q _ => ∃ (r c : Addr) (x : V) (xs : List V) (n m : Int), vs = [.ref r, .int m] ∧ H r = some (.lst (x :: .ref c :: xs)) ∧ H c = some (.lst [.int n]) ∧ (n < m → Q (.bl false) H) ∧ (m ≤ n → Q (.bl true) (upd H c (.lst [.int (n - m)])))
section
variable {P : Program} {w : World} {K : PySem.W.Frag} {mg : Str → Option Value} {base : Heap} {f : Addr} {fd : FuncData}
abbrev sLNumber : Stmt := topS 35
theorem scLNumber : FnScope ["_law_pen_here", "_law_way"] ["_law_pen_here"] (defScope sLNumber) := ⟨rfl, rfl, rfl, by decide +kernel, rfl, by decide +kernel, by decide +kernel⟩
theorem ok_number (F : Fun K "_law_number" "_law_number" sLNumber f fd) (B : Bt mg) (CLDraw : C8.Cal P w K mg base 1 "_law_draw" (spDraw K) []) : FnOk P w K mg base CX0 2 f fd ["_law_pen_here"] (spNumber K) := by
  refine F.ok scLNumber (fun vs H Q E h => ?_) (fun cdv A outer s H vs Q E hr h => ?_)
  · obtain ⟨p, a, rfl, _⟩ := h
    rfl
  obtain ⟨p, a, rfl, hpen, k⟩ := h
  refine ⟨_, (pss_cons (ps_set (i := 1) scLNumber.nd rfl (.inl rfl) (C8.pe_c CLDraw hr (by first | decide | omega) (by rfl) (pa_cons (pv 0) (pa_cons pe_int pa_nil))))
    (pss_cons (ps_if (pt_cmpR op_eq (pv 1) pe_int (nomark _)) (pss_one (ps_ret (pe_op op_add (pe_op op_sub (C8.pe_c CLDraw hr (by first | decide | omega) (by rfl) (pa_cons (pv 0) (pa_cons (pe_op op_sub (pe_op op_mul pe_int (pe_op op_pow pe_int pe_int)) pe_int) pa_nil))) (pe_op op_pow pe_int pe_int)) pe_int))) pss_nil)
    (pss_cons (ps_if (pt_cmpR op_eq (pv 1) pe_int (nomark _)) (pss_one (ps_ret (pe_op op_sub (C8.pe_c CLDraw hr (by first | decide | omega) (by rfl) (pa_cons (pv 0) (pa_cons (pe_op op_mul pe_int (pe_op op_pow pe_int pe_int)) pa_nil))) (pe_op op_pow pe_int pe_int)))) pss_nil)
    (pss_one (ps_ret (pe_op op_sub (C8.pe_c CLDraw hr (by first | decide | omega) (by rfl) (pa_cons (pv 0) (pa_cons pe_int pa_nil))) (pe_ix (ix_listK (K := K) rfl) (pe_lst (pa_cons pe_int (pa_cons pe_int (pa_cons pe_int (pa_cons pe_int (pa_cons pe_int (pa_cons pe_int (pa_cons pe_int pa_nil)))))))) (pv 1) (fun _ _ => rfl)))))))), ?_⟩
  refine ⟨_, rfl, p, a, 9, rfl, hpen, by decide, by decide, fun way H1 k1 pen1 w0 w1 => ?_⟩
  refine ⟨_, rfl, rfl, _, rfl, ?_⟩
  refine ite2 (fun c => ?_) (fun c => ?_)
  · refine ⟨_, rfl, _, _, rfl, rfl, ⟨by decide, by decide, by decide⟩, _, _, rfl, rfl, .inl ⟨by decide, by decide⟩, _, _, rfl, rfl, p, a, _, rfl, pen1, by decide, by decide, fun r H2 k2 pen2 r0 r1 => ?_⟩
    refine ⟨_, _, rfl, rfl, ⟨by decide, by decide, by decide⟩, _, _, rfl, rfl, _, _, rfl, rfl, ?_⟩
    refine k _ H2 (k1.trans k2) pen2 ?_
    have r1' : r < 2 * 10 ^ 60 - 1 := r1
    show (r - 10 ^ 60 + 1 : Int).natAbs < 10 ^ 60
    omega
  refine ⟨_, rfl, rfl, _, rfl, ?_⟩
  refine ite2 (fun c2 => ?_) (fun c2 => ?_)
  · refine ⟨_, rfl, _, _, rfl, rfl, ⟨by decide, by decide, by decide⟩, _, _, rfl, rfl, .inl ⟨by decide, by decide⟩, p, a, _, rfl, pen1, by decide, by decide, fun r H2 k2 pen2 r0 r1 => ?_⟩
    refine ⟨_, _, rfl, rfl, ⟨by decide, by decide, by decide⟩, _, _, rfl, rfl, ?_⟩
    refine k _ H2 (k1.trans k2) pen2 ?_
    have r1' : r < 2 * 10 ^ 31 := r1
    show (r - 10 ^ 31 : Int).natAbs < 10 ^ 60
    omega
  have hw7 : way < 7 := by
    have e1 : ¬ V.int way = V.int 8 := of_decide_eq_false (Bool.eq_false_iff.mpr c)
    have e2 : ¬ V.int way = V.int 7 := of_decide_eq_false (Bool.eq_false_iff.mpr c2)
    have e1' : way ≠ 8 := fun h => e1 (by rw [h])
    have e2' : way ≠ 7 := fun h => e2 (by rw [h])
    omega
  refine ⟨_, rfl, p, a, 9, rfl, pen1, by decide, by decide, fun r H2 k2 pen2 r0 r1 => ?_⟩
  refine ⟨by show 7 ≤ sizeLine; decide, fun l hl => ?_⟩
  obtain ⟨z, hz, hz4⟩ : ∃ z : Int, ([.int 0, .int 0, .int 0, .int 1, .int 2, .int 4, .int 0] : List V)[way.toNat]? = some (.int z) ∧ 0 ≤ z ∧ z ≤ 4 := by
    have h0 : way.toNat < 7 := by omega
    generalize way.toNat = j at h0
    match j, h0 with
    | 0, _ => exact ⟨0, rfl, by omega⟩
    | 1, _ => exact ⟨0, rfl, by omega⟩
    | 2, _ => exact ⟨0, rfl, by omega⟩
    | 3, _ => exact ⟨1, rfl, by omega⟩
    | 4, _ => exact ⟨2, rfl, by omega⟩
    | 5, _ => exact ⟨4, rfl, by omega⟩
    | 6, _ => exact ⟨0, rfl, by omega⟩
  refine ⟨_, rfl, l, _, _, _, rfl, rfl, SqL.of upd_same, at_of (j := way.toNat) (by omega) hz, _, _, rfl, rfl, ?_⟩
  refine k _ _ ((k1.trans k2).trans (Kp.new hl)) (pen2.new hl) ?_
  show (r - z : Int).natAbs < 10 ^ 60
  omega
abbrev sLLeaf : Stmt := topS 36
theorem scLLeaf : FnScope ["_law_pen_here", "_law_world", "_law_scope", "_law_want", "_law_way"] ["_law_pen_here", "_law_world", "_law_scope", "_law_want"] (defScope sLLeaf) := ⟨rfl, rfl, rfl, by decide +kernel, rfl, by decide +kernel, by decide +kernel⟩
theorem ok_leaf (F : Fun K "_law_leaf" "_law_leaf" sLLeaf f fd) (B : Bt mg) (CLDraw : C8.Cal P w K mg base 1 "_law_draw" (spDraw K) []) (CLNumber : C8.Cal P w K mg base 2 "_law_number" (spNumber K) []) : FnOk P w K mg base CX0 3 f fd ["_law_pen_here", "_law_world", "_law_scope", "_law_want"] (spLeaf K) := by
  have ml := B.len
  refine F.ok scLLeaf (fun vs H Q E h => ?_) (fun cdv A outer s H vs Q E hr h => ?_)
  · obtain ⟨p, a, wl, sl, want, W, sc, rfl, _⟩ := h
    rfl
  have hu64 := hr.units
  obtain ⟨p, a, wl, sl, want, W, sc, rfl, hpen, hW, hs, nwp, nsp, nmW, nmS, lW, lS, k⟩ := h
  refine ⟨_, (pss_cons (ps_set (i := 4) scLLeaf.nd rfl (.inl rfl) (C8.pe_c CLDraw hr (by first | decide | omega) (by rfl) (pa_cons (pv 0) (pa_cons pe_int pa_nil))))
    (C8.pss_cut (ps_if (PW.pt (pw_and (pt_cmpR (op_neDK (K := K) rfl hu64) (pv 2) (pe_lst pa_nil) (nomark _)) (pw_and1 (pt_cmpR op_gt (pv 4) pe_int (nomark _))))) (pss_one (ps_ret (pe_tup (pa_cons pe_str (pa_cons (pe_ix (ix_listK (K := K) rfl) (pv 2) (C8.pe_c CLDraw hr (by first | decide | omega) (by rfl) (pa_cons (pv 0) (pa_cons (pe_callB (call_lenK (K := K) rfl) (by rfl) ml PySem.boot_len (pa_cons (pv 2) pa_nil)) pa_nil))) (fun _ _ => rfl)) pa_nil))))) pss_nil)
    (C8.pss_cut (ps_if (PW.pt (pw_and (pt_cmpR (op_neDK (K := K) rfl hu64) (pv 1) (pe_lst pa_nil) (nomark _)) (pw_and (pt_cmpR op_eq (pv 3) pe_str (nomark _)) (pw_and1 (pt_cmpR op_eq (pv 4) pe_int (nomark _)))))) (pss_one (ps_ret (pe_tup (pa_cons pe_str (pa_cons (pe_ix (ix_tupK (K := K) rfl) (pe_ix (ix_listK (K := K) rfl) (pv 1) (C8.pe_c CLDraw hr (by first | decide | omega) (by rfl) (pa_cons (pv 0) (pa_cons (pe_callB (call_lenK (K := K) rfl) (by rfl) ml PySem.boot_len (pa_cons (pv 1) pa_nil)) pa_nil))) (fun _ _ => rfl)) pe_int (fun _ _ => rfl)) pa_nil))))) pss_nil)
    (pss_one (ps_ret (pe_tup (pa_cons pe_str (pa_cons (C8.pe_c CLNumber hr (by first | decide | omega) (by rfl) (pa_cons (pv 0) pa_nil)) pa_nil)))))))), ?_⟩
  refine ⟨_, rfl, p, a, 8, rfl, hpen, by decide, by decide, fun way H1 k1 pen1 w0 w1 => ?_⟩
  have hs1 := k1.lst hs (not1 nsp)
  have hW1 := hW.keep k1 (not1 nwp)
  have back : ∀ (v : V) (d : Lz.P) (H' : Hp), Kp [p] H1 H' → PenAt H' p a → Dp K H' v d.data → (∀ dp n ss, Dr W sc dp n ss n ss [d]) → Q v H' := fun v d H' k2 => k v d H' (k1.trans k2)
  refine ⟨fun σ' H' => σ' = [some (.ref p), some (.ref wl), some (.ref sl), some (.str want), some (.int way)] ∧ Kp [p] H1 H' ∧ PenAt H' p a ∧ WAt K H' wl W, ?_, ?_⟩
  · refine ⟨_, rfl, Nat.zero_le _, fun l hl => ?_⟩
    have k2 : Kp [p] H1 (upd H1 l (.lst [])) := Kp.new hl
    have hs2 := k2.lst hs1 (not1 nsp)
    have hW2 := hW1.keep k2 (not1 nwp)
    have pen2 := pen1.new (o := .lst []) hl
    refine ⟨_, _, scope_dp hs2, nil_dp, strs_shaped nmS, nil_shaped, _, rfl, ?_⟩
    rw [eqv_nil]
    generalize upd H1 l (.lst []) = H2 at k2 hs2 hW2 pen2
    refine ite2 (fun c => ?_) (fun c => ⟨rfl, k2, pen2, hW2⟩)
    have hne : 0 < sc.length := by
      cases sc with
      | nil => cases c
      | cons x r => exact Nat.succ_pos _
    refine ⟨_, rfl, _, _, rfl, rfl, _, rfl, ?_⟩
    refine ite2 (fun c => ?_) (fun c => ⟨rfl, k2, pen2, hW2⟩)
    have hlm : (sc.map V.str).length = sc.length := List.length_map _
    refine ⟨_, rfl, _, rfl, _, rfl, sl, _, rfl, .inl (SqL.of hs2), p, a, _, rfl, pen2, (by rw [hlm]; omega), (by rw [hlm]; omega), fun r H3 k3 pen3 r0 r1 => ?_⟩
    rw [hlm] at r1
    have hr : r.toNat < sc.length := by omega
    have hat : (sc.map V.str)[r.toNat]? = some (.str sc[r.toNat]) := by
      rw [List.getElem?_map, List.getElem?_eq_getElem hr]
      rfl
    refine ⟨sl, _, _, _, rfl, rfl, SqL.of (k3.lst hs2 (not1 nsp)), at_of (j := r.toNat) (by omega) hat, (by show 2 ≤ sizeLine; decide), fun q hq => ?_⟩
    exact back _ (.nam sc[r.toNat]) _ ((k2.trans k3).trans (Kp.new hq)) (pen3.new hq) (Dp.newT hq (.cons (.str _) (.cons (.str _) .nil)) rfl) fun dp n ss => .nam (List.getElem_mem hr) .nil
  · rintro _ H2 ⟨rfl, k2, pen2, hW2⟩
    refine ⟨fun σ' H' => σ' = [some (.ref p), some (.ref wl), some (.ref sl), some (.str want), some (.int way)] ∧ Kp [p] H1 H' ∧ PenAt H' p a, ?_, ?_⟩
    · refine ⟨_, rfl, Nat.zero_le _, fun l hl => ?_⟩
      have k3 := k2.trans (Kp.new (S := [p]) (o := .lst []) hl)
      have hW3 := hW2.keep (Kp.new (S := [p]) (o := .lst []) hl) (not1 nwp)
      have pen3 := pen2.new (o := .lst []) hl
      refine ⟨_, _, hW3.dp, nil_dp, wds_shaped nmW, nil_shaped, _, rfl, ?_⟩
      rw [eqv_nil]
      generalize upd H2 l (.lst []) = H3 at k3 hW3 pen3
      refine ite2 (fun c => ?_) (fun c => ⟨rfl, k3, pen3⟩)
      have hne : 0 < W.length := by
        cases W with
        | nil => cases c
        | cons x r => exact Nat.succ_pos _
      refine ⟨_, rfl, rfl, _, rfl, ?_⟩
      refine ite2 (fun c => ?_) (fun c => ⟨rfl, k3, pen3⟩)
      refine ⟨_, rfl, rfl, _, rfl, ?_⟩
      refine ite2 (fun c => ?_) (fun c => ⟨rfl, k3, pen3⟩)
      obtain ⟨ws, hws, hdp⟩ := id hW3
      have hlw : ws.length = W.length := by rw [hdp.length, List.length_map]
      refine ⟨_, rfl, _, rfl, _, rfl, wl, _, rfl, .inl (SqL.of hws), p, a, _, rfl, pen3, (by rw [hlw]; omega), (by rw [hlw]; omega), fun r H4 k4 pen4 r0 r1 => ?_⟩
      rw [hlw] at r1
      have hr : r.toNat < W.length := by omega
      have hW4 := hW3.keep k4 (not1 nwp)
      obtain ⟨ws, hws, hdp⟩ := id hW4
      obtain ⟨v, hv, hvd⟩ := hdp.get (i := r.toNat) (d := wD W[r.toNat]) (by rw [List.getElem?_map, List.getElem?_eq_getElem hr]; rfl)
      obtain ⟨t, xs, rfl, ht, hxs⟩ := hvd.tup_of
      cases hxs with
      | cons h1 h2 =>
        cases h1
        refine ⟨wl, _, _, _, rfl, rfl, SqL.of hws, at_of (j := r.toNat) (by omega) hv, t, _, _, _, rfl, rfl, ht, at_of (j := 0) rfl rfl, (by show 2 ≤ sizeLine; decide), fun q hq => ?_⟩
        exact back _ (.fn W[r.toNat].1) _ ((k3.trans k4).trans (Kp.new hq)) (pen4.new hq) (Dp.newT hq (.cons (.str _) (.cons (.str _) .nil)) rfl) fun dp n ss => .fn (w := W[r.toNat].2) (List.getElem_mem hr) .nil
    · rintro _ H2 ⟨rfl, k2, pen2⟩
      refine ⟨_, rfl, p, a, rfl, pen2, fun i H3 k3 pen3 hi => ?_⟩
      refine ⟨(by show 2 ≤ sizeLine; decide), fun q hq => ?_⟩
      exact back _ (.num i) _ ((k2.trans k3).trans (Kp.new hq)) (pen3.new hq) (Dp.newT hq (.cons (.str _) (.cons (.int _) .nil)) rfl) fun dp n ss => .num hi .nil
abbrev sLFits : Stmt := topS 37
theorem scLFits : FnScope ["_law_room", "_law_many"] ["_law_room", "_law_many"] (defScope sLFits) := ⟨rfl, rfl, rfl, by decide +kernel, rfl, by decide +kernel, by decide +kernel⟩
theorem ok_fits (F : Fun K "_law_fits" "_law_fits" sLFits f fd) : FnOk P w K mg base CX0 1 f fd ["_law_room", "_law_many"] (spFits K) := by
  refine F.ok scLFits (fun vs H Q E h => ?_) (fun cdv A outer s H vs Q E hr h => ?_)
  · obtain ⟨r, c, x, xs, n, m, rfl, _⟩ := h
    rfl
  obtain ⟨r, c, x, xs, n, m, rfl, hR, hC, k0, k1⟩ := h
  refine ⟨_, (pss_cons (ps_if (pt_cmpR op_lt (pe_ix (ix_listK (K := K) rfl) (pe_ix (ix_listK (K := K) rfl) (pv 0) pe_int (fun _ _ => rfl)) pe_int (fun _ _ => rfl)) (pv 1) (nomark _)) (pss_one (ps_ret pe_bl)) pss_nil)
    (pss_cons (ps_asg (pe_op op_sub (pe_ix (ix_listK (K := K) rfl) (pe_ix (ix_listK (K := K) rfl) (pv 0) pe_int (fun _ _ => rfl)) pe_int (fun _ _ => rfl)) (pv 1)) (pg_sub (pe_ix (ix_listK (K := K) rfl) (pv 0) pe_int (fun _ _ => rfl)) pe_int set_list))
    (pss_one (ps_ret pe_bl)))), ?_⟩
  refine ⟨_, rfl, r, _, _, _, rfl, rfl, SqL.of hR, at_of (j := 1) rfl rfl, c, _, _, _, rfl, rfl, SqL.of hC, at_of (j := 0) rfl rfl, _, rfl, _, _, rfl, rfl, _, rfl, ?_⟩
  refine ite2 (fun c1 => k0 (of_decide_eq_true c1)) (fun c1 => ?_)
  have c1' : ¬ n < m := of_decide_eq_false (Bool.eq_false_iff.mpr c1)
  refine ⟨_, rfl, r, _, _, _, rfl, rfl, SqL.of hR, at_of (j := 1) rfl rfl, c, _, _, _, rfl, rfl, SqL.of hC, at_of (j := 0) rfl rfl, _, rfl, _, _, rfl, rfl, ?_⟩
  refine ⟨_, rfl, r, _, _, _, rfl, rfl, SqL.of hR, at_of (j := 1) rfl rfl, c, _, _, 0, rfl, rfl, hC, rfl, ?_⟩
  exact k1 (by omega)
end
end Lz

set_option Elab.async false
set_option linter.all false
set_option maxRecDepth 100000
set_option maxHeartbeats 4000000
namespace Lz
open PySem PySem.Spec PyProof.Rows L2
/-- what a drawing of a part finds: pen, world, scope, how many parts and which names are left -/
structure En (K : PySem.W.Frag) (H : Hp) (W : List (Str × Int)) (sc : List Str) (p a wl sl c st : Addr) (n : Int) (ss : List Str) : Prop where
  pen : PenAt H p a
  wld : WAt K H wl W
  scp : H sl = some (.lst (sc.map V.str))
  cnt : H c = some (.lst [.int n])
  stk : H st = some (.lst (ss.map V.str))
  dw : ¬ wl ∈ [p, c, st]
  ds : ¬ sl ∈ [p, c, st]
  da : ¬ a ∈ [p, c, st]
  pc : p ≠ c
  ps : p ≠ st
  cs : c ≠ st
  nw : ∀ f, f ∈ W → nmOk f.1 ∧ 0 ≤ f.2 ∧ f.2 ≤ 4
  nc : ∀ x, x ∈ sc → nmOk x
  ns : ∀ x, x ∈ ss → nmOk x
  lw : W.length ≤ 8
  ls : sc.length + ss.length ≤ 100
theorem mem3 {p c st : Addr} : p ∈ [p, c, st] ∧ c ∈ [p, c, st] ∧ st ∈ [p, c, st] := ⟨List.mem_cons_self, List.mem_cons_of_mem _ List.mem_cons_self, List.mem_cons_of_mem _ (List.mem_cons_of_mem _ List.mem_cons_self)⟩
theorem sub3 {p c st : Addr} : ∀ x, x ∈ [p] → x ∈ [p, c, st] := fun x h => by rw [List.mem_singleton.mp h]; exact mem3.1
theorem not3 {p c st x : Addr} (h1 : x ≠ p) (h2 : x ≠ c) (h3 : x ≠ st) : ¬ x ∈ [p, c, st] := fun m => by
  rcases List.mem_cons.mp m with e | m
  · exact h1 e
  · rcases List.mem_cons.mp m with e | m
    · exact h2 e
    · exact h3 (List.mem_singleton.mp m)
section
variable {K : PySem.W.Frag} {H H' : Hp} {W : List (Str × Int)} {sc : List Str} {p a wl sl c st : Addr} {n n' : Int} {ss ss' : List Str}
theorem En.step (E : En K H W sc p a wl sl c st n ss) (k : Kp [p, c, st] H H') (pen : PenAt H' p a) (hc : H' c = some (.lst [.int n'])) (hs : H' st = some (.lst (ss'.map V.str))) (hx : ∀ x, x ∈ ss' → x ∈ ss) (hl : ss'.length ≤ ss.length) : En K H' W sc p a wl sl c st n' ss' where
  pen := pen
  wld := E.wld.keep k E.dw
  scp := k.lst E.scp E.ds
  cnt := hc
  stk := hs
  dw := E.dw
  ds := E.ds
  da := E.da
  pc := E.pc
  ps := E.ps
  cs := E.cs
  nw := E.nw
  nc := E.nc
  ns := fun x m => E.ns x (hx x m)
  lw := E.lw
  ls := by have := E.ls; omega
theorem En.same (E : En K H W sc p a wl sl c st n ss) (k : Kp [p] H H') (pen : PenAt H' p a) : En K H' W sc p a wl sl c st n ss :=
  E.step (k.mono sub3) pen (k.lst E.cnt (not1 E.pc.symm)) (k.lst E.stk (not1 E.ps.symm)) (fun _ m => m) (Nat.le_refl _)
theorem En.new {q : Addr} {o : HO} (E : En K H W sc p a wl sl c st n ss) (h : H q = none) : En K (upd H q o) W sc p a wl sl c st n ss := E.same (Kp.new h) (E.pen.new h)
theorem En.fresh {q : Addr} (E : En K H W sc p a wl sl c st n ss) (h : H q = none) : ¬ q ∈ [p, c, st] :=
  not3 (E.pen.apart h).1 (ne_of_none E.cnt h).symm (ne_of_none E.stk h).symm
/-- some parts less -/
theorem En.less {m : Int} (E : En K H W sc p a wl sl c st n ss) : En K (upd H c (.lst [.int m])) W sc p a wl sl c st m ss := by
  have na : c ≠ a := fun e => E.da (by rw [← e]; exact mem3.2.1)
  exact E.step (Kp.put E.cnt mem3.2.1) (E.pen.mut E.pc.symm na) upd_same (by rw [upd_ne E.cs.symm]; exact E.stk) (fun _ m => m) (Nat.le_refl _)
theorem En.room {r : Addr} {dp : Int} (E : En K H W sc p a wl sl c st n ss) (h : H r = some (.lst [.int dp, .ref c, .ref st])) : ¬ r ∈ [p, c, st] := by
  obtain ⟨ns, t, q, h1, _⟩ := E.pen
  refine not3 (ne_of h h1 fun e => ?_) (ne_of h E.cnt fun e => ?_) (ne_of h E.stk fun e => ?_)
  · have e' := HO.lst.inj e
    cases e'
  · have e' := HO.lst.inj e
    cases e'
  · have e' := HO.lst.inj e
    cases ss with
    | nil => cases e'
    | cons x r => cases e'
theorem En.nms (E : En K H W sc p a wl sl c st n ss) : Nms W sc ss := ⟨fun f m => (E.nw f m).1, E.nc, E.ns⟩
end
/-- a part is drawn -/
def Drawn (K : PySem.W.Frag) (W : List (Str × Int)) (sc : List Str) (p a c st : Addr) (dp n : Int) (ss : List Str) (H : Hp) (Q : VK) : Prop :=
  ∀ (v : V) (d : Lz.P) (H' : Hp) (n' : Int) (ss' : List Str), Kp [p, c, st] H H' → PenAt H' p a → H' c = some (.lst [.int n']) → H' st = some (.lst (ss'.map V.str)) → Dp K H' v d.data → Dr W sc dp n ss n' ss' [d] → Q v H'
def wantOk (x : Str) : Prop := x = "number" ∨ x = "pair" ∨ x = "any"
def spPart (K : PySem.W.Frag) (k : Nat) : Sp := fun vs H Q _ => ∃ (p a wl sl r c st : Addr) (want : Str) (W : List (Str × Int)) (sc ss : List Str) (dp n : Int), vs = [.ref p, .ref wl, .ref sl, .ref r, .str want] ∧
  En K H W sc p a wl sl c st n ss ∧ H r = some (.lst [.int dp, .ref c, .ref st]) ∧ 0 ≤ dp ∧ dp < k ∧ wantOk want ∧ Drawn K W sc p a c st dp n ss H Q
/-- room: one less deep than the part -/
def spCall (K : PySem.W.Frag) (k : Nat) : Sp := fun vs H Q _ => ∃ (p a wl sl r c st : Addr) (want : Str) (W : List (Str × Int)) (sc ss : List Str) (dp n : Int), vs = [.ref p, .ref wl, .ref sl, .ref r, .str want] ∧
  En K H W sc p a wl sl c st n ss ∧ H r = some (.lst [.int dp, .ref c, .ref st]) ∧ 5 ≤ dp ∧ dp < k ∧ W ≠ [] ∧ wantOk want ∧ Drawn K W sc p a c st (dp + 1) n ss H Q
def spLet (K : PySem.W.Frag) (k : Nat) : Sp := fun vs H Q _ => ∃ (p a wl sl r c st : Addr) (want : Str) (W : List (Str × Int)) (sc ss : List Str) (dp n : Int), vs = [.ref p, .ref wl, .ref sl, .ref r, .str want] ∧
  En K H W sc p a wl sl c st n ss ∧ H r = some (.lst [.int dp, .ref c, .ref st]) ∧ 0 ≤ dp ∧ dp < k ∧ wantOk want ∧ Drawn K W sc p a c st (dp + 1) n ss H Q
/-- a leaf is a part -/
theorem leaf_of {K : PySem.W.Frag} {H : Hp} {W : List (Str × Int)} {sc ss : List Str} {p a wl sl c st : Addr} {n dp : Int} {want : Str} {Q : VK} {E : XK} (En : En K H W sc p a wl sl c st n ss) (D : Drawn K W sc p a c st dp n ss H Q) : spLeaf K [.ref p, .ref wl, .ref sl, .str want] H Q E :=
  ⟨p, a, wl, sl, want, W, sc, rfl, En.pen, En.wld, En.scp, fun e => En.dw (by rw [e]; exact mem3.1), fun e => En.ds (by rw [e]; exact mem3.1), fun f m => (En.nw f m).1, En.nc, Nat.le_trans En.lw (by decide), (by have := En.ls; omega),
    fun v d H' k pen hd hr => D v d H' n ss (k.mono sub3) pen (k.lst En.cnt (not1 En.pc.symm)) (k.lst En.stk (not1 En.ps.symm)) hd (hr _ _ _)⟩
section
variable {P : Program} {w : World} {K : PySem.W.Frag} {mg : Str → Option Value} {base : Heap} {f : Addr} {fd : FuncData}
abbrev sLCall : Stmt := topS 38
theorem scLCall : FnScope ["_law_pen_here", "_law_world", "_law_scope", "_law_room", "_law_want", "_law_name", "_law_wanted", "_law_many", "_law_part_here", "_law_inner", "_law_k"] ["_law_pen_here", "_law_world", "_law_scope", "_law_room", "_law_want"] (defScope sLCall) := ⟨rfl, rfl, rfl, by decide +kernel, rfl, by decide +kernel, by decide +kernel⟩
theorem ok_call {k j : Nat} (hj : 3 ≤ j) (F : Fun K "_law_call" "_law_call" sLCall f fd) (B : Bt mg) (CLDraw : C8.Cal P w K mg base 1 "_law_draw" (spDraw K) []) (CLLeaf : C8.Cal P w K mg base 3 "_law_leaf" (spLeaf K) []) (CLFits : C8.Cal P w K mg base 1 "_law_fits" (spFits K) [])
    (CLPart : C8.Cal P w K mg base j "_law_part" (spPart K k) []) : FnOk P w K mg base CX0 (j + 1) f fd ["_law_pen_here", "_law_world", "_law_scope", "_law_room", "_law_want"] (spCall K k) := by
  have ml := B.len
  have mmax := B.max
  have mrange := B.range
  refine F.ok scLCall (fun vs H Q E h => ?_) (fun cdv A outer s H vs Q E hr h => ?_)
  · obtain ⟨p, a, wl, sl, r, c, st, want, W, sc, ss, dp, n, rfl, _⟩ := h
    rfl
  obtain ⟨p, a, wl, sl, r, c, st, want, W, sc, ss, dp, n, rfl, En0, hR, hdp5, hdpk, hW0, hwant, D⟩ := h
  refine ⟨_, (pss_cons (ps_asg (pe_ix (ix_listK (K := K) rfl) (pv 1) (C8.pe_c CLDraw hr (by first | decide | omega) (by rfl) (pa_cons (pv 0) (pa_cons (pe_callB (call_lenK (K := K) rfl) (by rfl) ml PySem.boot_len (pa_cons (pv 1) pa_nil)) pa_nil))) (fun _ _ => rfl)) (pg_tupK (K := K) (n := 2) rfl rfl (pgs_cons (pg_name (i := 5) scLCall.nd rfl (.inl rfl)) (pgs_cons (pg_name (i := 6) scLCall.nd rfl (.inl rfl)) pgs_nil))))
    (pss_cons (ps_set (i := 7) scLCall.nd rfl (.inl rfl) (pe_callB (call_max2 rfl) (by rfl) mmax (by decide +kernel) (pa_cons pe_int (pa_cons (pe_op op_add (pv 6) (pe_ix (ix_listK (K := K) rfl) (pe_lst (pa_cons pe_int (pa_cons pe_int (pa_cons pe_int (pa_cons pe_int (pa_cons pe_int (pa_cons pe_int (pa_cons pe_int (pa_cons (pe_un un_neg pe_int) pa_nil))))))))) (C8.pe_c CLDraw hr (by first | decide | omega) (by rfl) (pa_cons (pv 0) (pa_cons pe_int pa_nil))) (fun _ _ => rfl))) pa_nil))))
    (pss_cons (ps_if (pt_not (pt_truthK (K := K) rfl (C8.pe_c CLFits hr (by first | decide | omega) (by rfl) (pa_cons (pv 3) (pa_cons (pe_op op_mul pe_int (pv 7)) pa_nil))) (fun _ => rfl))) (pss_one (ps_ret (C8.pe_c CLLeaf hr (by first | decide | omega) (by rfl) (pa_cons (pv 0) (pa_cons (pv 1) (pa_cons (pv 2) (pa_cons (pv 4) pa_nil))))))) pss_nil)
    (pss_cons (ps_set (i := 8) scLCall.nd rfl (.inl rfl) (pe_tup (pa_cons pe_str (pa_cons (pv 5) pa_nil))))
    (pss_cons (ps_set (i := 9) scLCall.nd rfl (.inl rfl) (pe_lst (pa_cons (pe_op op_sub (pe_ix (ix_listK (K := K) rfl) (pv 3) pe_int (fun _ _ => rfl)) (pv 7)) (pa_cons (pe_ix (ix_listK (K := K) rfl) (pv 3) pe_int (fun _ _ => rfl)) (pa_cons (pe_ix (ix_listK (K := K) rfl) (pv 3) pe_int (fun _ _ => rfl)) pa_nil)))))
    (pss_cons (ps_for PassesOwn.never rfl (pi_range1 (by rfl) mrange (pa_cons (pv 7) pa_nil)) (pg_name (i := 10) scLCall.nd rfl (.inl rfl)) (pss_one (ps_set (i := 8) scLCall.nd rfl (.inl rfl) (pe_tup (pa_cons pe_str (pa_cons (pv 8) (pa_cons (C8.pe_c CLPart hr (by first | decide | omega) (by rfl) (pa_cons (pv 0) (pa_cons (pv 1) (pa_cons (pv 2) (pa_cons (pv 9) (pa_cons (pe_ix (ix_listK (K := K) rfl) (pe_lst (pa_cons pe_str (pa_cons pe_str pa_nil))) (pe_op op_fdiv (C8.pe_c CLDraw hr (by first | decide | omega) (by rfl) (pa_cons (pv 0) (pa_cons pe_int pa_nil))) pe_int) (fun _ _ => rfl)) pa_nil)))))) pa_nil)))))))
    (pss_one (ps_ret (pv 8))))))))), ?_⟩
  have hWl : 0 < W.length := List.length_pos_iff.mpr hW0
  -- name, wanted
  obtain ⟨ws, hws, hdpw⟩ := id En0.wld
  have hlw : ws.length = W.length := by rw [hdpw.length, List.length_map]
  have lw := En0.lw
  refine ⟨_, rfl, _, rfl, _, rfl, wl, _, rfl, .inl (SqL.of hws), p, a, _, rfl, En0.pen, (by rw [hlw]; omega), (by rw [hlw]; omega), fun z H1 k1 pen1 z0 z1 => ?_⟩
  rw [hlw] at z1
  have hz : z.toNat < W.length := by omega
  have En1 := En0.same k1 pen1
  have hR1 := k1.lst hR (fun m => En0.room hR (sub3 _ m))
  obtain ⟨ws, hws, hdpw⟩ := id En1.wld
  obtain ⟨v, hv, hvd⟩ := hdpw.get (i := z.toNat) (d := wD W[z.toNat]) (by rw [List.getElem?_map, List.getElem?_eq_getElem hz]; rfl)
  obtain ⟨t, xs, rfl, ht, hxs⟩ := hvd.tup_of
  have hmem := List.getElem_mem hz
  generalize W[z.toNat] = fw at hmem hxs hvd
  obtain ⟨fn, wn⟩ := fw
  obtain ⟨hfn, hwn0, hwn4⟩ := En0.nw _ hmem
  obtain rfl : xs = [.str fn, .int wn] := by
    cases hxs with
    | cons h1 h2 =>
      cases h1
      cases h2 with
      | cons h3 h4 =>
        cases h3
        cases h4
        rfl
  refine ⟨wl, _, _, _, rfl, rfl, SqL.of hws, at_of (j := z.toNat) (by omega) hv, t, _, rfl, ht, rfl, _, _, rfl, _, _, rfl, rfl, ?_⟩
  -- many
  refine ⟨_, rfl, _, rfl, (by show 8 ≤ sizeLine; decide), fun l hl => ?_⟩
  have En2 := En1.new (o := .lst [.int 0, .int 0, .int 0, .int 0, .int 0, .int 0, .int 1, .int (-1)]) hl
  have nl := En1.fresh hl
  have hl2 : (upd H1 l (.lst [.int 0, .int 0, .int 0, .int 0, .int 0, .int 0, .int 1, .int (-1)])) l = some (.lst [.int 0, .int 0, .int 0, .int 0, .int 0, .int 0, .int 1, .int (-1)]) := upd_same
  have k2 : Kp [p, c, st] H (upd H1 l (.lst [.int 0, .int 0, .int 0, .int 0, .int 0, .int 0, .int 1, .int (-1)])) := (k1.mono sub3).trans (Kp.new hl)
  have hR2 := (Kp.new (S := []) (o := .lst [.int 0, .int 0, .int 0, .int 0, .int 0, .int 0, .int 1, .int (-1)]) hl).lst hR1 (fun m => nomatch m)
  refine ⟨_, rfl, p, a, 8, rfl, En2.pen, (by decide), (by decide), fun y H3 k3 pen3 y0 y1 => ?_⟩
  have En3 := En2.same k3 pen3
  have hl3 := k3.lst hl2 (fun m => nl (sub3 _ m))
  have hR3 := k3.lst hR2 (fun m => En2.room hR2 (sub3 _ m))
  have k3' := k2.trans (k3.mono sub3)
  obtain ⟨e, he, he0, he1⟩ : ∃ e : Int, ([.int 0, .int 0, .int 0, .int 0, .int 0, .int 0, .int 1, .int (-1)] : List V)[y.toNat]? = some (.int e) ∧ -1 ≤ e ∧ e ≤ 1 := by
    have h0 : y.toNat < 8 := by omega
    generalize y.toNat = j at h0
    match j, h0 with
    | 0, _ => exact ⟨0, rfl, by omega⟩
    | 1, _ => exact ⟨0, rfl, by omega⟩
    | 2, _ => exact ⟨0, rfl, by omega⟩
    | 3, _ => exact ⟨0, rfl, by omega⟩
    | 4, _ => exact ⟨0, rfl, by omega⟩
    | 5, _ => exact ⟨0, rfl, by omega⟩
    | 6, _ => exact ⟨1, rfl, by omega⟩
    | 7, _ => exact ⟨-1, rfl, by omega⟩
  refine ⟨l, _, _, _, rfl, rfl, SqL.of hl3, at_of (j := y.toNat) (by omega) he, _, _, rfl, rfl, _, _, rfl, ?_⟩
  obtain ⟨m, hm, hm5⟩ : ∃ m : Nat, (if wn + e > 0 then wn + e else 0) = (m : Int) ∧ m ≤ 5 := ⟨(if wn + e > 0 then wn + e else 0).toNat, by split <;> omega, by split <;> omega⟩
  show tSeq _ _ _ [some (.ref p), some (.ref wl), some (.ref sl), some (.ref r), some (.str want), some (.str fn), some (.int wn), some (.int (if wn + e > 0 then wn + e else 0)), none, none, none] H3
  rw [hm]
  clear k1 k2 hR1 hR2 hl2 hl3 En1 En2
  -- does it fit
  refine ⟨_, rfl, _, rfl, _, _, rfl, rfl, .inl ⟨by decide, by decide⟩, r, c, _, _, n, _, rfl, hR3, En3.cnt, fun hlt => ?_, fun hle => ?_⟩
  · refine ⟨false, rfl, ?_⟩
    refine ⟨_, rfl, _, rfl, _, rfl, _, rfl, ?_⟩
    exact leaf_of (E := C8.E0) (dp := dp + 1) En3 fun v d H' n' ss' kk => D v d H' n' ss' (k3'.trans kk)
  · refine ⟨true, rfl, ?_⟩
    have En4 := En3.less (m := n - 2 * m)
    have k4 : Kp [p, c, st] H (upd H3 c (.lst [.int (n - 2 * m)])) := k3'.trans (Kp.put En3.cnt mem3.2.1)
    have hR4 : (upd H3 c (.lst [.int (n - 2 * m)])) r = some (.lst [.int dp, .ref c, .ref st]) := by
      rw [upd_ne (fun e => En3.room hR3 (by rw [e]; exact mem3.2.1))]
      exact hR3
    generalize upd H3 c (.lst [.int (n - 2 * m)]) = H4 at En4 k4 hR4 ⊢
    -- the function, the room within
    refine ⟨_, rfl, (by show 2 ≤ sizeLine; decide), fun q0 hq0 => ?_⟩
    have En5 := En4.new (o := .tup [.str "fun", .str fn]) hq0
    have k5 : Kp [p, c, st] H (upd H4 q0 (.tup [.str "fun", .str fn])) := k4.trans (Kp.new hq0)
    have hR5 : (upd H4 q0 (.tup [.str "fun", .str fn])) r = some (.lst [.int dp, .ref c, .ref st]) := by rw [upd_ne (ne_of_none hR4 hq0)]; exact hR4
    have hd5 : Dp K (upd H4 q0 (.tup [.str "fun", .str fn])) (.ref q0) (Lz.P.fn fn).data := Dp.newT hq0 (.cons (.str _) (.cons (.str _) .nil)) rfl
    generalize upd H4 q0 (.tup [.str "fun", .str fn]) = H5 at En5 k5 hR5 hd5 ⊢
    refine ⟨_, rfl, r, _, _, _, rfl, rfl, SqL.of hR5, at_of (j := 0) rfl rfl, _, rfl, _, _, rfl, rfl, _, rfl, r, _, _, _, rfl, rfl, SqL.of hR5, at_of (j := 1) rfl rfl, _, rfl, r, _, _, _, rfl, rfl, SqL.of hR5, at_of (j := 2) rfl rfl, (by show 3 ≤ sizeLine; decide), fun r2 hr2 => ?_⟩
    have En6 := En5.new (o := .lst [.int (dp - m), .ref c, .ref st]) hr2
    have k6 : Kp [p, c, st] H (upd H5 r2 (.lst [.int (dp - m), .ref c, .ref st])) := k5.trans (Kp.new hr2)
    have hR6 : (upd H5 r2 (.lst [.int (dp - m), .ref c, .ref st])) r2 = some (.lst [.int (dp - m), .ref c, .ref st]) := upd_same
    have hd6 : Dp K (upd H5 r2 (.lst [.int (dp - m), .ref c, .ref st])) (.ref q0) (gives (.fn fn) []).data := Dp.keep (S := []) (Kp.new hr2) _ _ (data_fz _) hd5
    generalize upd H5 r2 (.lst [.int (dp - m), .ref c, .ref st]) = H6 at En6 k6 hR6 hd6 ⊢
    clear En0 En3 En4 En5 hR hR3 hR4 hR5 hd5 k3 k4 k5
    -- the things
    refine ⟨_, rfl, _, rfl, (by omega), (by omega), for_range (lo := 0) (n := (m : Int).toNat) (fun i σ H' => ∃ (v : V) (n' : Int) (ss' : List Str) (as : List Lz.P) (v10 : Option V),
        σ = [some (.ref p), some (.ref wl), some (.ref sl), some (.ref r), some (.str want), some (.str fn), some (.int wn), some (.int m), some v, some (.ref r2), v10] ∧ as.length = i ∧ Kp [p, c, st] H H' ∧ En K H' W sc p a wl sl c st n' ss' ∧
          H' r2 = some (.lst [.int (dp - m), .ref c, .ref st]) ∧ Dp K H' v (gives (.fn fn) as).data ∧ Dr W sc (dp - m) (n - 2 * m) ss n' ss' as)
      ⟨.ref q0, n - 2 * m, ss, [], none, rfl, rfl, k6, En6, hR6, hd6, .nil⟩ ?_ ?_⟩
    · rintro i σ H7 hi ⟨v, n', ss', as, v10, rfl, hlen, k7, En7, hR7, hd7, hdr⟩
      refine ⟨_, rfl, _, rfl, _, rfl, _, rfl, _, rfl, (by show 2 ≤ sizeLine; decide), fun l hl => ?_⟩
      have En8 := En7.new (o := .lst [.str "number", .str "any"]) hl
      have nl := En7.fresh hl
      have hl8 : (upd H7 l (.lst [.str "number", .str "any"])) l = some (.lst [.str "number", .str "any"]) := upd_same
      have hR8 : (upd H7 l (.lst [.str "number", .str "any"])) r2 = some (.lst [.int (dp - m), .ref c, .ref st]) := by rw [upd_ne (ne_of_none hR7 hl)]; exact hR7
      have k8 : Kp [p, c, st] H7 (upd H7 l (.lst [.str "number", .str "any"])) := Kp.new hl
      refine ⟨_, rfl, p, a, 3, rfl, En8.pen, (by decide), (by decide), fun g H9 k9 pen9 g0 g1 => ?_⟩
      have En9 := En8.same k9 pen9
      have hl9 := k9.lst hl8 (fun m => nl (sub3 _ m))
      have hR9 := k9.lst hR8 (fun m => En8.room hR8 (sub3 _ m))
      have k9' := k8.trans (k9.mono sub3)
      obtain ⟨wt, hwt, hwt'⟩ : ∃ wt : Str, ([.str "number", .str "any"] : List V)[(g / 2).toNat]? = some (.str wt) ∧ wantOk wt := by
        have h0 : (g / 2).toNat < 2 := by omega
        generalize (g / 2).toNat = j at h0
        match j, h0 with
        | 0, _ => exact ⟨_, rfl, .inl rfl⟩
        | 1, _ => exact ⟨_, rfl, .inr (.inr rfl)⟩
      refine ⟨_, _, rfl, rfl, ⟨by decide, by decide⟩, l, _, _, _, rfl, rfl, SqL.of hl9, at_of (j := (g / 2).toNat) (by show g / 2 = _; omega) hwt, ?_⟩
      refine ⟨p, a, wl, sl, r2, c, st, wt, W, sc, ss', dp - m, n', rfl, En9, hR9, (by omega), (by omega), hwt', fun u d H10 n2 ss2 k10 pen10 hc10 hs10 hd10 hdr10 => ?_⟩
      have En10 := En9.step k10 pen10 hc10 hs10 hdr10.sub hdr10.len
      have hR10 := k10.lst hR9 (En9.room hR9)
      have kk := k9'.trans k10
      have hd11 := Dp.keep kk _ _ (data_fz _) hd7
      refine ⟨(by show 3 ≤ sizeLine; decide), fun q hq => ?_⟩
      refine ⟨_, n2, ss2, as ++ [d], _, rfl, by rw [List.length_append, hlen]; rfl, k7.trans (kk.trans (Kp.new hq)), En10.new hq, by rw [upd_ne (ne_of_none hR10 hq)]; exact hR10, ?_, hdr.append hdr10⟩
      rw [gives_snoc]
      refine Dp.newT hq (.cons (.str _) (.cons hd11 (.cons hd10 .nil))) ?_
      show (true && (fz _ && (fz _ && true))) = true
      rw [data_fz, data_fz]
      rfl
    · rintro σ H7 ⟨v, n', ss', as, v10, rfl, hlen, k7, En7, hR7, hd7, hdr⟩
      refine ⟨_, rfl, D v _ H7 n' ss' k7 En7.pen En7.cnt En7.stk hd7 ?_⟩
      have hl : (as.length : Int) = m := by omega
      refine .call hmem (by omega) (by omega) (by omega) ?_ .nil
      have e1 : dp + 1 - 1 - (as.length : Int) = dp - m := by omega
      have e2 : n - 2 * (as.length : Int) = n - 2 * m := by omega
      rw [e1, e2]
      exact hdr
end
end Lz

set_option Elab.async false
set_option linter.all false
set_option maxRecDepth 100000
set_option maxHeartbeats 4000000
namespace Lz
open PySem PySem.Spec PyProof.Rows L2
theorem En.scope {K : PySem.W.Frag} {H : Hp} {W : List (Str × Int)} {sc sc' : List Str} {p a wl sl c st q : Addr} {n : Int} {ss : List Str} (E : En K H W sc p a wl sl c st n ss) (hq : H q = some (.lst (sc'.map V.str))) (nq : ¬ q ∈ [p, c, st]) (nc : ∀ x, x ∈ sc' → nmOk x) (ls : sc'.length + ss.length ≤ 100) : En K H W sc' p a wl q c st n ss :=
  ⟨E.pen, E.wld, hq, E.cnt, E.stk, E.dw, nq, E.da, E.pc, E.ps, E.cs, E.nw, nc, E.ns, E.lw, ls⟩
theorem En.mut {K : PySem.W.Frag} {H : Hp} {W : List (Str × Int)} {sc : List Str} {p a wl sl c st D : Addr} {n : Int} {ss : List Str} {xs : List V} {o : HO} (E : En K H W sc p a wl sl c st n ss) (h : H D = some (.lst xs)) (nS : ¬ D ∈ [p, c, st]) (na : D ≠ a) (nw : D ≠ wl) (nl : D ≠ sl) : En K (upd H D o) W sc p a wl sl c st n ss :=
  ⟨E.pen.mut (fun e => nS (by rw [e]; exact mem3.1)) na, E.wld.keep (Kp.put h List.mem_cons_self) (not1 nw.symm), by rw [upd_ne nl.symm]; exact E.scp, by rw [upd_ne (fun e => nS (by rw [← e]; exact mem3.2.1))]; exact E.cnt, by rw [upd_ne (fun e => nS (by rw [← e]; exact mem3.2.2))]; exact E.stk,
    E.dw, E.ds, E.da, E.pc, E.ps, E.cs, E.nw, E.nc, E.ns, E.lw, E.ls⟩
/-- an address that is new is none of what is there -/
theorem En.apart {K : PySem.W.Frag} {H : Hp} {W : List (Str × Int)} {sc : List Str} {p a wl sl c st D : Addr} {n : Int} {ss : List Str} (E : En K H W sc p a wl sl c st n ss) (h : H D = none) : ¬ D ∈ [p, c, st] ∧ D ≠ a ∧ D ≠ wl ∧ D ≠ sl := by
  obtain ⟨ws, h1, _⟩ := E.wld
  exact ⟨E.fresh h, (E.pen.apart h).2, (ne_of_none h1 h).symm, (ne_of_none E.scp h).symm⟩
theorem drop_rev {ss : List Str} {k : Nat} (h : k < ss.length) : (ss.drop k).reverse = (ss.drop (k + 1)).reverse ++ [ss[k]] := by
  rw [List.drop_eq_getElem_cons h, List.reverse_cons]
theorem zip_snoc {nm : List Str} {as : List Lz.P} {d : Lz.P} {x : Str} (h : nm[as.length]? = some x) : List.zipWith rowD (nm.take (as.length + 1)) (Lz.P.datas (as ++ [d])) = List.zipWith rowD (nm.take as.length) (Lz.P.datas as) ++ [rowD x d.data] := by
  obtain ⟨hl, hx⟩ := List.getElem?_eq_some_iff.mp h
  rw [datas_map, datas_map, List.map_append, List.take_add_one, h]
  show List.zipWith rowD (nm.take as.length ++ [x]) (as.map Lz.P.data ++ [d.data]) = _
  rw [List.zipWith_append (by rw [List.length_take, List.length_map]; omega)]
  rfl
section
variable {P : Program} {w : World} {K : PySem.W.Frag} {mg : Str → Option Value} {base : Heap} {f : Addr} {fd : FuncData}
abbrev sLLet : Stmt := topS 39
theorem scLLet : FnScope ["_law_pen_here", "_law_world", "_law_scope", "_law_room", "_law_want", "_law_many", "_law_names_here", "_law_rows", "_law_name", "_law_kind", "_law_k"] ["_law_pen_here", "_law_world", "_law_scope", "_law_room", "_law_want"] (defScope sLLet) := ⟨rfl, rfl, rfl, by decide +kernel, rfl, by decide +kernel, by decide +kernel⟩
theorem ok_let {k j : Nat} (hj : 3 ≤ j) (F : Fun K "_law_let" "_law_let" sLLet f fd) (B : Bt mg) (CLDraw : C8.Cal P w K mg base 1 "_law_draw" (spDraw K) []) (CLLeaf : C8.Cal P w K mg base 3 "_law_leaf" (spLeaf K) []) (CLFits : C8.Cal P w K mg base 1 "_law_fits" (spFits K) [])
    (CLPart : C8.Cal P w K mg base j "_law_part" (spPart K k) []) : FnOk P w K mg base CX0 (j + 1) f fd ["_law_pen_here", "_law_world", "_law_scope", "_law_room", "_law_want"] (spLet K k) := by
  have ml := B.len
  have mtup := B.tuple
  have mrange := B.range
  refine F.ok scLLet (fun vs H Q E h => ?_) (fun cdv A outer s H vs Q E hr h => ?_)
  · obtain ⟨p, a, wl, sl, r, c, st, want, W, sc, ss, dp, n, rfl, _⟩ := h
    rfl
  obtain ⟨p, a, wl, sl, r, c, st, want, W, sc, ss, dp, n, rfl, En0, hR, hdp0, hdpk, hwant, D⟩ := h
  refine ⟨_, (pss_cons (ps_set (i := 5) scLLet.nd rfl (.inl rfl) (pe_ix (ix_listK (K := K) rfl) (pe_lst (pa_cons pe_int (pa_cons pe_int (pa_cons pe_int (pa_cons pe_int (pa_cons pe_int (pa_cons pe_int (pa_cons pe_int pa_nil)))))))) (C8.pe_c CLDraw hr (by first | decide | omega) (by rfl) (pa_cons (pv 0) (pa_cons pe_int pa_nil))) (fun _ _ => rfl)))
    (pss_cons (ps_if (PW.pt (pw_or (pt_cmpR op_lt (pe_callB (call_lenK (K := K) rfl) (by rfl) ml PySem.boot_len (pa_cons (pe_ix (ix_listK (K := K) rfl) (pv 3) pe_int (fun _ _ => rfl)) pa_nil)) (pv 5) (nomark _)) (pw_or1 (pt_not (pt_truthK (K := K) rfl (C8.pe_c CLFits hr (by first | decide | omega) (by rfl) (pa_cons (pv 3) (pa_cons (pe_op op_add (pv 5) pe_int) pa_nil))) (fun _ => rfl)))))) (pss_one (ps_ret (C8.pe_c CLLeaf hr (by first | decide | omega) (by rfl) (pa_cons (pv 0) (pa_cons (pv 1) (pa_cons (pv 2) (pa_cons (pv 4) pa_nil))))))) pss_nil)
    (pss_cons (ps_setLc (i := 6) (own := [("_law_k", 10)]) rfl scLLet.nd rfl rfl (sw_true rfl rfl rfl (by decide +kernel)) (pi_range1 (by rfl) mrange (pa_cons (pv 5) pa_nil)) (blkOk_by (N := ["_law_pen_here", "_law_world", "_law_scope", "_law_room", "_law_want", "_law_many", "_law_names_here", "_law_rows", "_law_name", "_law_kind", "_law_k"]) (sc := defScope sLLet) (by decide +kernel)) (fun _ _ _ _ _ => (pg_name (i := 10) scLLet.nd rfl (.inl rfl))) (fun _ _ _ _ _ => pts_nil) (fun _ _ _ _ _ => (pe_bm0K (K := K) rfl PySem.F.plainAttrs_list PySem.F.slot_list_pop PySem.F.type_list_pop mt_pop (pe_ix (ix_listK (K := K) rfl) (pv 3) pe_int (fun _ _ => rfl)))))
    (pss_cons (ps_set (i := 7) scLLet.nd rfl (.inl rfl) (pe_lst pa_nil))
    (pss_cons (ps_for PassesOwn.never rfl (pi_listK (K := K) rfl (pv 6)) (pg_name (i := 8) scLLet.nd rfl (.inl rfl)) (pss_cons (ps_set (i := 9) scLLet.nd rfl (.inl rfl) (pe_ix (ix_listK (K := K) rfl) (pe_lst (pa_cons pe_str (pa_cons pe_str (pa_cons pe_str pa_nil)))) (C8.pe_c CLDraw hr (by first | decide | omega) (by rfl) (pa_cons (pv 0) (pa_cons pe_int pa_nil))) (fun _ _ => rfl)))
    (pss_one (ps_expr (pe_bmK (K := K) rfl PySem.F.plainAttrs_list PySem.F.slot_list_append PySem.F.type_list_append mt_append (pv 7) (pa_cons (pe_tup (pa_cons (pv 8) (pa_cons (C8.pe_c CLPart hr (by first | decide | omega) (by rfl) (pa_cons (pv 0) (pa_cons (pv 1) (pa_cons (pe_op op_cat (pv 2) (pv 6)) (pa_cons (pv 3) (pa_cons (pv 9) pa_nil)))))) pa_nil))) pa_nil))))))
    (pss_one (ps_ret (pe_tup (pa_cons pe_str (pa_cons (pe_callTy (call_tupleK (K := K) rfl) (by rfl) mtup (by decide +kernel) (pa_cons (pv 7) pa_nil)) (pa_cons (C8.pe_c CLPart hr (by first | decide | omega) (by rfl) (pa_cons (pv 0) (pa_cons (pv 1) (pa_cons (pe_op op_cat (pv 2) (pv 6)) (pa_cons (pv 3) (pa_cons (pv 4) pa_nil)))))) pa_nil))))))))))), ?_⟩
  -- many
  refine ⟨(by show 7 ≤ sizeLine; decide), fun l hl => ?_⟩
  have En1 := En0.new (o := .lst [.int 1, .int 1, .int 2, .int 1, .int 2, .int 3, .int 4]) hl
  have nl := En0.fresh hl
  have hl1 : (upd H l (.lst [.int 1, .int 1, .int 2, .int 1, .int 2, .int 3, .int 4])) l = some (.lst [.int 1, .int 1, .int 2, .int 1, .int 2, .int 3, .int 4]) := upd_same
  have hR1 : (upd H l (.lst [.int 1, .int 1, .int 2, .int 1, .int 2, .int 3, .int 4])) r = some (.lst [.int dp, .ref c, .ref st]) := by rw [upd_ne (ne_of_none hR hl)]; exact hR
  have k1 : Kp [p, c, st] H (upd H l (.lst [.int 1, .int 1, .int 2, .int 1, .int 2, .int 3, .int 4])) := Kp.new hl
  refine ⟨_, rfl, p, a, 7, rfl, En1.pen, (by decide), (by decide), fun y H2 k2 pen2 y0 y1 => ?_⟩
  have En2 := En1.same k2 pen2
  have hl2 := k2.lst hl1 (fun m => nl (sub3 _ m))
  have hR2 := k2.lst hR1 (fun m => En1.room hR1 (sub3 _ m))
  have k2' := k1.trans (k2.mono sub3)
  obtain ⟨m, hm, hm1, hm4⟩ : ∃ m : Nat, ([.int 1, .int 1, .int 2, .int 1, .int 2, .int 3, .int 4] : List V)[y.toNat]? = some (.int (m : Int)) ∧ 1 ≤ m ∧ m ≤ 4 := by
    have h0 : y.toNat < 7 := by omega
    generalize y.toNat = j at h0
    match j, h0 with
    | 0, _ => exact ⟨1, rfl, by omega, by omega⟩
    | 1, _ => exact ⟨1, rfl, by omega, by omega⟩
    | 2, _ => exact ⟨2, rfl, by omega, by omega⟩
    | 3, _ => exact ⟨1, rfl, by omega, by omega⟩
    | 4, _ => exact ⟨2, rfl, by omega, by omega⟩
    | 5, _ => exact ⟨3, rfl, by omega, by omega⟩
    | 6, _ => exact ⟨4, rfl, by omega, by omega⟩
  refine ⟨l, _, _, _, rfl, rfl, SqL.of hl2, at_of (j := y.toNat) (by omega) hm, ?_⟩
  clear k1 k2 hR1 hl1 hl2 En1 nl
  -- names enough, does it fit
  have hls : (ss.map V.str).length = ss.length := List.length_map _
  refine ⟨_, rfl, r, _, _, _, rfl, rfl, SqL.of hR2, at_of (j := 2) rfl rfl, st, _, rfl, .inl (SqL.of En2.stk), _, rfl, _, _, rfl, rfl, _, rfl, ?_⟩
  refine ite2 (fun c1 => ?_) (fun c1 => ?_)
  · refine ⟨_, rfl, _, rfl, _, rfl, _, rfl, ?_⟩
    exact leaf_of (E := C8.E0) (dp := dp + 1) En2 fun v d H' n' ss' kk => D v d H' n' ss' (k2'.trans kk)
  have hms : m ≤ ss.length := by
    have c1' : ¬ (((ss.map V.str).length : Nat) : Int) < (m : Int) := of_decide_eq_false (Bool.eq_false_iff.mpr c1)
    rw [hls] at c1'
    omega
  refine ⟨_, rfl, _, rfl, _, _, rfl, rfl, r, c, _, _, n, _, rfl, hR2, En2.cnt, fun hlt => ?_, fun hle => ?_⟩
  · refine ⟨false, rfl, ?_⟩
    refine ⟨_, rfl, _, rfl, _, rfl, _, rfl, ?_⟩
    exact leaf_of (E := C8.E0) (dp := dp + 1) En2 fun v d H' n' ss' kk => D v d H' n' ss' (k2'.trans kk)
  refine ⟨true, rfl, ?_⟩
  have En3 := En2.less (m := n - (m + 1))
  have k3 : Kp [p, c, st] H (upd H2 c (.lst [.int (n - (m + 1))])) := k2'.trans (Kp.put En2.cnt mem3.2.1)
  have hR3 : (upd H2 c (.lst [.int (n - (m + 1))])) r = some (.lst [.int dp, .ref c, .ref st]) := by
    rw [upd_ne (fun e => En2.room hR2 (by rw [e]; exact mem3.2.1))]
    exact hR2
  generalize upd H2 c (.lst [.int (n - (m + 1))]) = H3 at En3 k3 hR3 ⊢
  clear En2 hR2 k2'
  -- the names
  refine ⟨_, rfl, _, rfl, (by omega), (by omega), fun nl hnl => ?_⟩
  have nnl := En3.fresh hnl
  have hnl3 : H nl = none := k3.free hnl nnl
  have nst : nl ≠ st := fun e => nnl (by rw [e]; exact mem3.2.2)
  have nrl : r ≠ nl := ne_of_none hR3 hnl
  have hmt : (m : Int).toNat = m := by omega
  refine lc_range (lo := 0) (n := (m : Int).toNat) (fun i H' => Kp [p, c, st] H3 H' ∧ PenAt H' p a ∧ H' c = some (.lst [.int (n - (m + 1))]) ∧ H' st = some (.lst ((ss.take (ss.length - i)).map V.str)) ∧ H' nl = some (.lst ((ss.drop (ss.length - i)).reverse.map V.str)) ∧ H' r = some (.lst [.int dp, .ref c, .ref st]))
    ⟨Kp.new hnl, (En3.new hnl).pen, (En3.new hnl).cnt, ?_, ?_, ?_⟩ (fun i H4 hi ⟨k4, pen4, hc4, hs4, hn4, hR4⟩ => ?_) (fun H4 ⟨k4, pen4, hc4, hs4, hn4, hR4⟩ => ?_)
  · rw [upd_ne nst.symm, En3.stk, Nat.sub_zero, List.take_length]
  · rw [upd_same, Nat.sub_zero, List.drop_length]
    rfl
  · rw [upd_ne nrl]
    exact hR3
  · have hi' : i < m := by omega
    have hk : ss.length - i - 1 < ss.length := by omega
    have e1 : ss.length - (i + 1) = ss.length - i - 1 := by omega
    have e2 : ss.length - i = (ss.length - i - 1) + 1 := by omega
    refine ⟨rfl, ?_⟩
    refine ⟨_, rfl, r, _, _, _, rfl, rfl, SqL.of hR4, at_of (j := 2) rfl rfl, .inl ⟨rfl, _, SqL.of hs4⟩, st, _, .str ss[ss.length - i - 1], rfl, rfl, hs4, ?_, ?_⟩
    · rw [List.length_map, List.length_take, List.getElem?_map, Nat.min_eq_left (by omega), List.getElem?_take_of_lt (by omega), List.getElem?_eq_getElem hk]
      rfl
    · refine ⟨_, (by rw [upd_ne nst]; exact hn4), (by rw [List.length_map, List.length_reverse, List.length_drop]; exact small1000 (by omega)), ?_⟩
      have nsr : r ≠ st := fun e => En3.room hR3 (by rw [e]; exact mem3.2.2)
      refine ⟨(k4.trans (Kp.put hs4 mem3.2.2)).mut hnl, (pen4.mut (fun e => En3.ps e.symm) (fun e => En3.da (by rw [← e]; exact mem3.2.2))).mut (fun e => nnl (by rw [e]; exact mem3.1)) (En3.apart hnl).2.1, ?_, ?_, ?_, ?_⟩
      · rw [upd_ne (fun e => nnl (by rw [← e]; exact mem3.2.1)), upd_ne En3.cs]
        exact hc4
      · rw [upd_ne nst.symm, upd_same, e1, List.map_take, List.map_take, List.dropLast_eq_take, List.take_take, List.length_take, List.length_map]
        congr 3
        omega
      · rw [upd_same, e1, drop_rev hk, ← e2, List.map_append]
        rfl
      · rw [upd_ne nrl, upd_ne nsr]
        exact hR4
  rw [hmt] at hs4 hn4
  generalize hkk : ss.length - m = kk at hs4 hn4
  obtain ⟨nm, hnm⟩ : ∃ nm : List Str, nm = (ss.drop kk).reverse := ⟨_, rfl⟩
  rw [← hnm] at hn4
  have hnml : nm.length = m := by rw [hnm, List.length_reverse, List.length_drop]; omega
  have hnms : ∀ x, x ∈ nm → nmOk x := fun x hx => En3.ns x (by
    rw [hnm] at hx
    exact List.mem_of_mem_drop (List.mem_reverse.mp hx))
  have En4 := En3.step k4 pen4 hc4 hs4 (fun x hx => List.mem_of_mem_take hx) (by rw [List.length_take]; omega)
  have k4' := k3.trans k4
  -- rows
  refine ⟨Nat.zero_le _, fun lr hlr => ?_⟩
  have En5 := En4.new (o := .lst []) hlr
  obtain ⟨nlr, nlra, nlrw, nlrs⟩ := En4.apart hlr
  have hlr0 : H lr = none := k4'.free hlr nlr
  have k5 : Kp [p, c, st] H (upd H4 lr (.lst [])) := k4'.mut hlr0
  have hn5 : (upd H4 lr (.lst [])) nl = some (.lst (nm.map V.str)) := by rw [upd_ne (ne_of_none hn4 hlr)]; exact hn4
  have hR5 : (upd H4 lr (.lst [])) r = some (.lst [.int dp, .ref c, .ref st]) := by rw [upd_ne (ne_of_none hR4 hlr)]; exact hR4
  have hr5 : (upd H4 lr (.lst [])) lr = some (.lst []) := upd_same
  have nlrn : nl ≠ lr := ne_of_none hn4 hlr
  have nlrr : r ≠ lr := ne_of_none hR4 hlr
  generalize upd H4 lr (.lst []) = H5 at En5 k5 hn5 hR5 hr5 ⊢
  clear En4 En3 k4 k3 hR3 hR4 hs4 hn4 hc4 pen4
  have hls' : sc.length + nm.length + kk ≤ 100 := by have := En0.ls; omega
  refine ⟨_, rfl, nl, rfl, ⟨_, SqL.of hn5⟩, for_list (K := K) (a := nl) (xs := nm.map V.str) (fun i σ H' => ∃ (n' : Int) (ss' : List Str) (as : List Lz.P) (rs : List V) (v8 v9 : Option V),
      σ = [some (.ref p), some (.ref wl), some (.ref sl), some (.ref r), some (.str want), some (.int m), some (.ref nl), some (.ref lr), v8, v9, none] ∧ as.length = i ∧ Kp [p, c, st] H H' ∧ En K H' W sc p a wl sl c st n' ss' ∧ ss'.length ≤ kk ∧
      H' nl = some (.lst (nm.map V.str)) ∧ H' r = some (.lst [.int dp, .ref c, .ref st]) ∧ H' lr = some (.lst rs) ∧ DpAll K H' rs (List.zipWith rowD (nm.take i) (Lz.P.datas as)) ∧ Dr W (sc ++ nm) dp (n - (m + 1)) (ss.take kk) n' ss' as)
    ⟨n - (m + 1), ss.take kk, [], [], none, none, rfl, rfl, k5, En5, by rw [List.length_take]; omega, hn5, hR5, hr5, .nil, .nil⟩ (fun i σ H' _ ⟨_, _, _, _, _, _, _, _, _, _, _, h, _⟩ => SqL.of h) ?_ ?_⟩
  · rintro i x σ H6 hi ⟨n', ss', as, rs, v8, v9, rfl, hlen, k6, En6, hss, hn6, hR6, hr6, hrows, hdr⟩
    obtain ⟨nx, hnx, rfl⟩ : ∃ nx, nm[i]? = some nx ∧ x = V.str nx := by
      rw [List.getElem?_map] at hi
      cases e : nm[i]? with
      | none => rw [e] at hi; cases hi
      | some y => rw [e] at hi; exact ⟨y, rfl, (Option.some.inj hi).symm⟩
    have hil : i < nm.length := (List.getElem?_eq_some_iff.mp hnx).1
    have hrl : rs.length ≤ 4 := by
      rw [hrows.length, List.length_zipWith, List.length_take]
      omega
    -- the kind
    refine ⟨(by show 3 ≤ sizeLine; decide), fun l hl => ?_⟩
    have k7 : Kp [p, c, st] H6 (upd H6 l (.lst [.str "number", .str "pair", .str "any"])) := Kp.new hl
    have En7 := En6.new (o := .lst [.str "number", .str "pair", .str "any"]) hl
    have hl7 : (upd H6 l (.lst [.str "number", .str "pair", .str "any"])) l = some (.lst [.str "number", .str "pair", .str "any"]) := upd_same
    have nl7 := En6.fresh hl
    have hn7 := k7.lst hn6 nnl
    have hR7 := k7.lst hR6 (En6.room hR6)
    have hr7 := k7.lst hr6 nlr
    refine ⟨_, rfl, p, a, 3, rfl, En7.pen, (by decide), (by decide), fun g H8 k8 pen8 g0 g1 => ?_⟩
    have k8' := k8.mono (T := [p, c, st]) sub3
    have En8 := En7.same k8 pen8
    have hl8 := k8'.lst hl7 nl7
    have hn8 := k8'.lst hn7 nnl
    have hR8 := k8'.lst hR7 (En7.room hR7)
    have hr8 := k8'.lst hr7 nlr
    obtain ⟨wt, hwt, hwt'⟩ : ∃ wt : Str, ([.str "number", .str "pair", .str "any"] : List V)[g.toNat]? = some (.str wt) ∧ wantOk wt := by
      have h0 : g.toNat < 3 := by omega
      generalize g.toNat = j at h0
      match j, h0 with
      | 0, _ => exact ⟨_, rfl, .inl rfl⟩
      | 1, _ => exact ⟨_, rfl, .inr (.inl rfl)⟩
      | 2, _ => exact ⟨_, rfl, .inr (.inr rfl)⟩
    refine ⟨l, _, _, _, rfl, rfl, SqL.of hl8, at_of (j := g.toNat) (by omega) hwt, ?_⟩
    -- the row
    refine ⟨_, rfl, .inl ⟨rfl, _, SqL.of hr8⟩, _, rfl, _, rfl, _, rfl, _, rfl, _, rfl, sl, nl, _, _, rfl, rfl, En8.scp, hn8, (by rw [List.length_map, List.length_map]; exact Nat.le_of_lt (small1000 (by omega))), fun q hq => ?_⟩
    have k9 : Kp [p, c, st] H8 (upd H8 q (.lst (sc.map V.str ++ nm.map V.str))) := Kp.new hq
    have En9 := (En8.new (o := .lst (sc.map V.str ++ nm.map V.str)) hq).scope (sc' := sc ++ nm) (q := q) (by rw [upd_same, List.map_append]) (En8.fresh hq) (fun x hx => (List.mem_append.mp hx).elim (En8.nc x) (hnms x)) (by rw [List.length_append]; omega)
    have hR9 := k9.lst hR8 (En8.room hR8)
    have hn9 := k9.lst hn8 nnl
    have hr9 := k9.lst hr8 nlr
    have hs9 := k9.lst En8.scp En8.ds
    refine ⟨_, rfl, _, rfl, p, a, wl, q, r, c, st, wt, W, sc ++ nm, ss', dp, n', rfl, En9, hR9, hdp0, hdpk, hwt', fun u d H10 n2 ss2 k10 pen10 hc10 hs10 hd10 hdr10 => ?_⟩
    have hlen2 := hdr10.len
    have kk10 := k7.trans (k8'.trans (k9.trans k10))
    have En10 := En6.step kk10 pen10 hc10 hs10 hdr10.sub hlen2
    have hR10 := kk10.lst hR6 (En6.room hR6)
    have hn10 := kk10.lst hn6 nnl
    have hr10 := kk10.lst hr6 nlr
    have hrows10 := Dp.keepAll kk10 _ _ rows_fz hrows
    refine ⟨(by show 2 ≤ sizeLine; decide), fun t ht => ?_⟩
    have k11 : Kp [p, c, st] H10 (upd H10 t (.tup [.str nx, u])) := Kp.new ht
    have En11 := En10.new (o := .tup [.str nx, u]) ht
    have hr11 := k11.lst hr10 nlr
    have hn11 := k11.lst hn10 nnl
    have hR11 := k11.lst hR10 (En10.room hR10)
    have hrows11 := Dp.keepAll k11 _ _ rows_fz hrows10
    have hrow : Dp K (upd H10 t (.tup [.str nx, u])) (.ref t) (rowD nx d.data) := Dp.newT ht (.cons (.str _) (.cons hd10 .nil)) (by
      show (true && (fz _ && true)) = true
      rw [data_fz]
      rfl)
    refine ⟨lr, _, _, rfl, rfl, hr11, small1000 (by omega), ?_⟩
    have kput : Kp [lr] (upd H10 t (.tup [.str nx, u])) (upd (upd H10 t (.tup [.str nx, u])) lr (.lst (rs ++ [.ref t]))) := Kp.put hr11 List.mem_cons_self
    subst hlen
    refine ⟨n2, ss2, as ++ [d], rs ++ [.ref t], _, _, rfl, by rw [List.length_append]; rfl, (k6.trans (kk10.trans k11)).mut hlr0, En11.mut hr11 nlr nlra nlrw nlrs, by omega, kput.lst hn11 (not1 nlrn), kput.lst hR11 (not1 nlrr), upd_same, ?_, hdr.append hdr10⟩
    rw [zip_snoc hnx]
    exact (Dp.keepAll kput _ _ rows_fz hrows11).append (.one (Dp.keep kput _ _ (by show (true && (fz _ && true)) = true; rw [data_fz]; rfl) hrow))
  · rintro σ H6 ⟨n', ss', as, rs, v8, v9, rfl, hlen, k6, En6, hss, hn6, hR6, hr6, hrows, hdr⟩
    rw [List.length_map] at hlen hrows
    rw [List.take_length] at hrows
    -- the tuple of rows
    refine ⟨_, rfl, lr, _, rfl, .inl ⟨SqL.of hr6, fun t ht => ?_⟩⟩
    have k7 : Kp [p, c, st] H6 (upd H6 t (.tup rs)) := Kp.new ht
    have En7 := En6.new (o := .tup rs) ht
    have hd7 : Dp K (upd H6 t (.tup rs)) (.ref t) (.tuple (List.zipWith rowD nm (Lz.P.datas as))) := Dp.newT ht hrows rows_fz
    have hn7 := k7.lst hn6 nnl
    have hR7 := k7.lst hR6 (En6.room hR6)
    -- the inner part
    refine ⟨_, rfl, _, rfl, _, rfl, _, rfl, sl, nl, _, _, rfl, rfl, En7.scp, hn7, (by rw [List.length_map, List.length_map]; exact Nat.le_of_lt (small1000 (by omega))), fun q hq => ?_⟩
    have k9 : Kp [p, c, st] (upd H6 t (.tup rs)) (upd (upd H6 t (.tup rs)) q (.lst (sc.map V.str ++ nm.map V.str))) := Kp.new hq
    have En9 := (En7.new (o := .lst (sc.map V.str ++ nm.map V.str)) hq).scope (sc' := sc ++ nm) (q := q) (by rw [upd_same, List.map_append]) (En7.fresh hq) (fun x hx => (List.mem_append.mp hx).elim (En7.nc x) (hnms x)) (by rw [List.length_append]; omega)
    have hR9 := k9.lst hR7 (En7.room hR7)
    refine ⟨_, rfl, _, rfl, p, a, wl, q, r, c, st, want, W, sc ++ nm, ss', dp, n', rfl, En9, hR9, hdp0, hdpk, hwant, fun u d H10 n2 ss2 k10 pen10 hc10 hs10 hd10 hdr10 => ?_⟩
    have kk10 := k7.trans (k9.trans k10)
    have hd11 := Dp.keep (k9.trans k10) _ _ (by show fzAll _ = true; exact rows_fz) hd7
    refine ⟨(by show 3 ≤ sizeLine; decide), fun q2 hq2 => ?_⟩
    refine D _ (.lt nm as d) _ n2 ss2 ((k6.trans kk10).trans (Kp.new hq2)) (pen10.new hq2) (by rw [upd_ne (ne_of_none hc10 hq2)]; exact hc10) (by rw [upd_ne (ne_of_none hs10 hq2)]; exact hs10) ?_ ?_
    · refine Dp.newT hq2 (.cons (.str _) (.cons hd11 (.cons hd10 .nil))) ?_
      show (true && (fzAll _ && (fz _ && true))) = true
      rw [rows_fz, data_fz]
      rfl
    · have e1 : dp + 1 - 1 = dp := by omega
      refine .lt (k := kk) (by omega) (by omega) (by omega) (by rw [hnm, List.reverse_reverse]) (by omega) (by omega) (by omega) ?_ .nil
      rw [e1, hnml]
      exact hdr.append hdr10
end
end Lz

set_option Elab.async false
set_option linter.all false
set_option maxRecDepth 100000
set_option maxHeartbeats 8000000
namespace Lz
open PySem PySem.Spec PyProof.Rows L2
def wkv : List (Key × V) := putK (putK (mergeK [] [(Sum.inr "number", .str "op op op op op op when when side let call call call call leaf leaf")]) (Sum.inr "pair") (.str "pair pair pair pair when when side side let let call call call op leaf pair")) (Sum.inr "any") (.str "op op pair pair pair when when side side let let call call call leaf leaf")
def wordOk (x : Str) : Prop := x = "op" ∨ x = "when" ∨ x = "side" ∨ x = "let" ∨ x = "call" ∨ x = "leaf" ∨ x = "pair"
instance (x : Str) : Decidable (wordOk x) := by unfold wordOk; infer_instance
theorem want_text {x : Str} (h : wantOk x) : ∃ z : Str, valV wkv (Sum.inr x) = some (.str z) ∧ z.length + 2 ≤ sizeLine ∧ (Txt.split z " ").length = 16 ∧ ∀ x, x ∈ Txt.split z " " → wordOk x := by
  rcases h with rfl | rfl | rfl
  · exact ⟨"op op op op op op when when side let call call call call leaf leaf", by decide +kernel, by decide +kernel, by decide +kernel, by decide +kernel⟩
  · exact ⟨"pair pair pair pair when when side side let let call call call op leaf pair", by decide +kernel, by decide +kernel, by decide +kernel, by decide +kernel⟩
  · exact ⟨"op op pair pair pair when when side side let let call call call leaf leaf", by decide +kernel, by decide +kernel, by decide +kernel, by decide +kernel⟩
abbrev ckv : List (Key × V) := mergeK [] [(Sum.inr "side", .int 1), (Sum.inr "pair", .int 2), (Sum.inr "when", .int 3), (Sum.inr "op", .int 2)]
def costOf (x : Str) (m : Nat) : Prop := (x = "side" ∧ m = 1) ∨ (x = "pair" ∧ m = 2) ∨ (x = "when" ∧ m = 3) ∨ (x = "op" ∧ m = 2)
theorem cost_of {x : Str} {m : Nat} (h : costOf x m) : valV ckv (Sum.inr x) = some (.int m) := by
  rcases h with ⟨rfl, rfl⟩ | ⟨rfl, rfl⟩ | ⟨rfl, rfl⟩ | ⟨rfl, rfl⟩ <;> decide +kernel
abbrev okv (want : Str) : List (Key × V) := mergeK [] [(Sum.inr "pair", .str "any"), (Sum.inr "when", .str want), (Sum.inr "op", .str "number")]
theorem other_of {x want : Str} (h : wantOk want) (hx : x = "pair" ∨ x = "when" ∨ x = "op") : ∃ wt : Str, valV (okv want) (Sum.inr x) = some (.str wt) ∧ wantOk wt := by
  rcases h with rfl | rfl | rfl <;> rcases hx with rfl | rfl | rfl
  · exact ⟨"any", by decide +kernel, .inr (.inr rfl)⟩
  · exact ⟨"number", by decide +kernel, .inl rfl⟩
  · exact ⟨"number", by decide +kernel, .inl rfl⟩
  · exact ⟨"any", by decide +kernel, .inr (.inr rfl)⟩
  · exact ⟨"pair", by decide +kernel, .inr (.inl rfl)⟩
  · exact ⟨"number", by decide +kernel, .inl rfl⟩
  · exact ⟨"any", by decide +kernel, .inr (.inr rfl)⟩
  · exact ⟨"any", by decide +kernel, .inr (.inr rfl)⟩
  · exact ⟨"number", by decide +kernel, .inl rfl⟩
theorem str_of_decide {x y : Str} (c : decide (V.str x = V.str y) = true) : x = y := V.str.inj (of_decide_eq_true c)
theorem str_no_decide {x y : Str} (c : ¬ decide (V.str x = V.str y) = true) : x ≠ y := fun e => c (decide_eq_true (by rw [e]))
/-- a part of a kind -/
theorem op_dp {K : PySem.W.Frag} {H : Hp} {k : Str} {q : Addr} {vs : List V} {as : List Lz.P} (hq : H q = none) (h : DpAll K H vs (Lz.P.datas as)) : Dp K (upd H q (.tup (.str k :: vs))) (.ref q) (Lz.P.op k as).data := by
  refine Dp.newT hq (.cons (.str k) h) ?_
  show (true && fzAll (Lz.P.datas as)) = true
  rw [datas_fz]
  rfl
section
variable {P : Program} {w : World} {K : PySem.W.Frag} {mg : Str → Option Value} {base : Heap} {f : Addr} {fd : FuncData}
abbrev sLPart : Stmt := topS 40
theorem scLPart : FnScope ["_law_pen_here", "_law_world", "_law_scope", "_law_room", "_law_want", "_law_words", "_law_word", "_law_inner", "_law_one", "_law_other"] ["_law_pen_here", "_law_world", "_law_scope", "_law_room", "_law_want"] (defScope sLPart) := ⟨rfl, rfl, rfl, by decide +kernel, rfl, by decide +kernel, by decide +kernel⟩
theorem ok_part {k j : Nat} (hj : 3 ≤ j) (F : Fun K "_law_part" "_law_part" sLPart f fd) (B : Bt mg) (CLDraw : C8.Cal P w K mg base 1 "_law_draw" (spDraw K) []) (CLLeaf : C8.Cal P w K mg base 3 "_law_leaf" (spLeaf K) []) (CLFits : C8.Cal P w K mg base 1 "_law_fits" (spFits K) [])
    (CLPart : C8.Cal P w K mg base j "_law_part" (spPart K k) []) (CLCall : C8.Cal P w K mg base (j + 1) "_law_call" (spCall K k) []) (CLLet : C8.Cal P w K mg base (j + 1) "_law_let" (spLet K k) []) : FnOk P w K mg base CX0 (j + 2) f fd ["_law_pen_here", "_law_world", "_law_scope", "_law_room", "_law_want"] (spPart K (k + 1)) := by
  have mint := B.int
  refine F.ok scLPart (fun vs H Q E h => ?_) (fun cdv A outer s H vs Q E hr h => ?_)
  · obtain ⟨p, a, wl, sl, r, c, st, want, W, sc, ss, dp, n, rfl, _⟩ := h
    rfl
  have hu := hu_of hr
  have hu64 := hr.units
  obtain ⟨p, a, wl, sl, r, c, st, want, W, sc, ss, dp, n, rfl, En0, hR, hdp0, hdpk, hwant, D⟩ := h
  refine ⟨_, (pss_cons (ps_set (i := 5) scLPart.nd rfl (.inl rfl) (pe_disp (pps_cons pe_str pe_str pps_nil) rfl rfl (by intro q; cases q) (by decide)))
    (pss_cons (ps_dput hu (pv 5) pe_str pe_str rfl)
    (pss_cons (ps_dput hu (pv 5) pe_str pe_str rfl)
    (pss_cons (ps_set (i := 6) scLPart.nd rfl (.inl rfl) (pe_ix (ix_listK (K := K) rfl) (pe_split (pe_dget hu (pv 5) (pv 4) (fun _ _ => rfl)) pe_str) (C8.pe_c CLDraw hr (by first | decide | omega) (by rfl) (pa_cons (pv 0) (pa_cons pe_int pa_nil))) (fun _ _ => rfl)))
    (pss_cons (ps_set (i := 7) scLPart.nd rfl (.inl rfl) (pe_lst (pa_cons (pe_op op_sub (pe_ix (ix_listK (K := K) rfl) (pv 3) pe_int (fun _ _ => rfl)) pe_int) (pa_cons (pe_ix (ix_listK (K := K) rfl) (pv 3) pe_int (fun _ _ => rfl)) (pa_cons (pe_ix (ix_listK (K := K) rfl) (pv 3) pe_int (fun _ _ => rfl)) pa_nil)))))
    (pss_cons (ps_if (PW.pt (pw_or (pt_cmpR op_lt (pe_ix (ix_listK (K := K) rfl) (pv 3) pe_int (fun _ _ => rfl)) pe_int (nomark _)) (pw_or (pt_cmpR op_eq (pv 6) pe_str (nomark _)) (pw_or1 (PW.pt (pw_and (pt_cmpR op_eq (pv 6) pe_str (nomark _)) (pw_and1 (PW.pt (pw_or (pt_cmpR (op_eqDK (K := K) rfl hu64) (pv 1) (pe_lst pa_nil) (nomark _)) (pw_or1 (pt_cmpR op_lt (pe_ix (ix_listK (K := K) rfl) (pv 3) pe_int (fun _ _ => rfl)) pe_int (nomark _)))))))))))) (pss_one (ps_ret (C8.pe_c CLLeaf hr (by first | decide | omega) (by rfl) (pa_cons (pv 0) (pa_cons (pv 1) (pa_cons (pv 2) (pa_cons (pv 4) pa_nil))))))) pss_nil)
    (pss_cons (ps_if (pt_cmpR op_eq (pv 6) pe_str (nomark _)) (pss_one (ps_ret (C8.pe_c CLCall hr (by first | decide | omega) (by rfl) (pa_cons (pv 0) (pa_cons (pv 1) (pa_cons (pv 2) (pa_cons (pv 7) (pa_cons (pv 4) pa_nil)))))))) pss_nil)
    (pss_cons (ps_if (pt_cmpR op_eq (pv 6) pe_str (nomark _)) (pss_one (ps_ret (C8.pe_c CLLet hr (by first | decide | omega) (by rfl) (pa_cons (pv 0) (pa_cons (pv 1) (pa_cons (pv 2) (pa_cons (pv 7) (pa_cons (pv 4) pa_nil)))))))) pss_nil)
    (pss_cons (ps_if (pt_not (pt_truthK (K := K) rfl (C8.pe_c CLFits hr (by first | decide | omega) (by rfl) (pa_cons (pv 3) (pa_cons (pe_dget hu (pe_disp (pps_cons pe_str pe_int (pps_cons pe_str pe_int (pps_cons pe_str pe_int (pps_cons pe_str pe_int pps_nil)))) rfl rfl (by intro q; cases q) (by decide)) (pv 6) (fun _ _ => rfl)) pa_nil))) (fun _ => rfl))) (pss_one (ps_ret (C8.pe_c CLLeaf hr (by first | decide | omega) (by rfl) (pa_cons (pv 0) (pa_cons (pv 1) (pa_cons (pv 2) (pa_cons (pv 4) pa_nil))))))) pss_nil)
    (pss_cons (ps_if (pt_cmpR op_eq (pv 6) pe_str (nomark _)) (pss_one (ps_ret (pe_tup (pa_cons (pe_ix (ix_listK (K := K) rfl) (pe_lst (pa_cons pe_str (pa_cons pe_str pa_nil))) (C8.pe_c CLDraw hr (by first | decide | omega) (by rfl) (pa_cons (pv 0) (pa_cons pe_int pa_nil))) (fun _ _ => rfl)) (pa_cons (C8.pe_c CLPart hr (by first | decide | omega) (by rfl) (pa_cons (pv 0) (pa_cons (pv 1) (pa_cons (pv 2) (pa_cons (pv 7) (pa_cons pe_str pa_nil)))))) pa_nil))))) pss_nil)
    (pss_cons (ps_set (i := 8) scLPart.nd rfl (.inl rfl) (C8.pe_c CLPart hr (by first | decide | omega) (by rfl) (pa_cons (pv 0) (pa_cons (pv 1) (pa_cons (pv 2) (pa_cons (pv 7) (pa_cons (pe_ix (ix_listK (K := K) rfl) (pe_lst (pa_cons pe_str (pa_cons pe_str pa_nil))) (pe_callTy call_int1 (by rfl) mint (by decide +kernel) (pa_cons (pe_cmpR op_eq (pv 6) pe_str (nomark _)) pa_nil)) (fun _ _ => rfl)) pa_nil)))))))
    (pss_cons (ps_set (i := 9) scLPart.nd rfl (.inl rfl) (C8.pe_c CLPart hr (by first | decide | omega) (by rfl) (pa_cons (pv 0) (pa_cons (pv 1) (pa_cons (pv 2) (pa_cons (pv 7) (pa_cons (pe_dget hu (pe_disp (pps_cons pe_str pe_str (pps_cons pe_str (pv 4) (pps_cons pe_str pe_str pps_nil))) rfl rfl (by intro q; cases q) (by decide)) (pv 6) (fun _ _ => rfl)) pa_nil)))))))
    (pss_cons (ps_if (pt_cmpR op_eq (pv 6) pe_str (nomark _)) (pss_one (ps_ret (pe_tup (pa_cons pe_str (pa_cons (pv 8) (pa_cons (pv 9) pa_nil)))))) pss_nil)
    (pss_cons (ps_if (pt_cmpR op_eq (pv 6) pe_str (nomark _)) (pss_one (ps_ret (pe_tup (pa_cons pe_str (pa_cons (pv 8) (pa_cons (pv 9) (pa_cons (C8.pe_c CLPart hr (by first | decide | omega) (by rfl) (pa_cons (pv 0) (pa_cons (pv 1) (pa_cons (pv 2) (pa_cons (pv 7) (pa_cons (pv 4) pa_nil)))))) pa_nil))))))) pss_nil)
    (pss_one (ps_ret (pe_tup (pa_cons (pe_ix (ix_listK (K := K) rfl) (pe_lst (pa_cons pe_str (pa_cons pe_str (pa_cons pe_str (pa_cons pe_str pa_nil))))) (C8.pe_c CLDraw hr (by first | decide | omega) (by rfl) (pa_cons (pv 0) (pa_cons pe_int pa_nil))) (fun _ _ => rfl)) (pa_cons (pv 8) (pa_cons (pv 9) pa_nil)))))))))))))))))))), ?_⟩
  -- the words
  refine fun d hd => ⟨upd_same, [(Sum.inr _, .str _)], rfl, by decide, ?_⟩
  refine ⟨_, rfl, d, _, rfl, DPut.k (k := Sum.inr _) upd_same (by decide +kernel), ?_⟩
  refine ⟨_, rfl, d, _, rfl, DPut.k (k := Sum.inr _) upd_same (by decide +kernel), ?_⟩
  have ew : upd (upd (upd (upd H d (.dK [])) d (.dK (mergeK [] [(Sum.inr "number", .str "op op op op op op when when side let call call call call leaf leaf")]))) d (.dK (putK (mergeK [] [(Sum.inr "number", .str "op op op op op op when when side let call call call call leaf leaf")]) (Sum.inr "pair") (.str "pair pair pair pair when when side side let let call call call op leaf pair")))) d (.dK wkv) = upd H d (.dK wkv) := by
    rw [upd_upd, upd_upd, upd_upd]
  show tSeq _ _ _ _ (upd (upd (upd (upd H d (.dK [])) d (.dK (mergeK [] [(Sum.inr "number", .str "op op op op op op when when side let call call call call leaf leaf")]))) d (.dK (putK (mergeK [] [(Sum.inr "number", .str "op op op op op op when when side let call call call call leaf leaf")]) (Sum.inr "pair") (.str "pair pair pair pair when when side side let let call call call op leaf pair")))) d (.dK wkv))
  rw [ew]
  have En1 := En0.new (o := .dK wkv) hd
  have k1 : Kp [p, c, st] H (upd H d (.dK wkv)) := Kp.new hd
  have hR1 : (upd H d (.dK wkv)) r = some (.lst [.int dp, .ref c, .ref st]) := by rw [upd_ne (ne_of_none hR hd)]; exact hR
  have hd1 : (upd H d (.dK wkv)) d = some (.dK wkv) := upd_same
  generalize upd H d (.dK wkv) = H1 at En1 k1 hR1 hd1 ⊢
  -- the word
  obtain ⟨z, hz, hzl, hz16, hzw⟩ := want_text hwant
  refine ⟨_, rfl, _, rfl, d, _, rfl, (by have := DGet.k (k := Sum.inr want) hd1; rw [hz] at this; exact this), ⟨_, rfl⟩, _, _, rfl, rfl, (by decide +kernel), hzl, fun l hl => ?_⟩
  have En2 := En1.new (o := .lst ((Txt.split z " ").map V.str)) hl
  have nl2 := En1.fresh hl
  have k2 : Kp [p, c, st] H1 (upd H1 l (.lst ((Txt.split z " ").map V.str))) := Kp.new hl
  have hl2 : (upd H1 l (.lst ((Txt.split z " ").map V.str))) l = some (.lst ((Txt.split z " ").map V.str)) := upd_same
  have hR2 := k2.lst hR1 (En1.room hR1)
  refine ⟨_, rfl, p, a, 16, rfl, En2.pen, (by decide), (by decide), fun g H3 k3 pen3 g0 g1 => ?_⟩
  have k3' := k3.mono (T := [p, c, st]) sub3
  have En3 := En2.same k3 pen3
  have hl3 := k3'.lst hl2 nl2
  have hR3 := k3'.lst hR2 (En2.room hR2)
  have hg : g.toNat < (Txt.split z " ").length := by rw [hz16]; omega
  obtain ⟨x, hx, hxw⟩ : ∃ x : Str, ((Txt.split z " ").map V.str)[g.toNat]? = some (.str x) ∧ wordOk x :=
    ⟨(Txt.split z " ")[g.toNat], by rw [List.getElem?_map, List.getElem?_eq_getElem hg]; rfl, hzw _ (List.getElem_mem hg)⟩
  refine ⟨l, _, _, _, rfl, rfl, SqL.of hl3, at_of (j := g.toNat) (by omega) hx, ?_⟩
  have kk3 := k1.trans (k2.trans k3')
  clear k1 k2 k3 k3' En1 En2 hd1 hl2 hl3 hR1 hR2 nl2 pen3 hd hl
  -- the room within
  refine ⟨_, rfl, r, _, _, _, rfl, rfl, SqL.of hR3, at_of (j := 0) rfl rfl, _, _, rfl, rfl, _, rfl, r, _, _, _, rfl, rfl, SqL.of hR3, at_of (j := 1) rfl rfl, _, rfl, r, _, _, _, rfl, rfl, SqL.of hR3, at_of (j := 2) rfl rfl, (by show 3 ≤ sizeLine; decide), fun r2 hr2 => ?_⟩
  have En4 := En3.new (o := .lst [.int (dp - 1), .ref c, .ref st]) hr2
  have kk4 : Kp [p, c, st] H (upd H3 r2 (.lst [.int (dp - 1), .ref c, .ref st])) := kk3.trans (Kp.new hr2)
  have hRR : (upd H3 r2 (.lst [.int (dp - 1), .ref c, .ref st])) r2 = some (.lst [.int (dp - 1), .ref c, .ref st]) := upd_same
  have hR4 : (upd H3 r2 (.lst [.int (dp - 1), .ref c, .ref st])) r = some (.lst [.int dp, .ref c, .ref st]) := by rw [upd_ne (ne_of_none hR3 hr2)]; exact hR3
  generalize upd H3 r2 (.lst [.int (dp - 1), .ref c, .ref st]) = H4 at En4 kk4 hRR hR4 ⊢
  clear kk3 En3 hR3 hr2 En0 hR
  have leaf : ∀ H5 : Hp, Kp [p, c, st] H4 H5 → En K H5 W sc p a wl sl c st n ss → spLeaf K [.ref p, .ref wl, .ref sl, .str want] H5 Q C8.E0 := fun H5 k5 En5 =>
    leaf_of (dp := dp) En5 fun v d H' n' ss' kk => D v d H' n' ss' (kk4.trans (k5.trans kk))
  -- a leaf?
  refine ⟨_, rfl, r, _, _, _, rfl, rfl, SqL.of hR4, at_of (j := 0) rfl rfl, _, _, rfl, rfl, _, rfl, ?_⟩
  refine ite2 (fun c1 => ⟨_, rfl, _, rfl, _, rfl, _, rfl, leaf _ (Kp.refl _ _) En4⟩) (fun c1 => ?_)
  have hdp1 : 1 ≤ dp := by
    have : ¬ dp < 1 := of_decide_eq_false (Bool.eq_false_iff.mpr c1)
    omega
  refine ⟨_, rfl, rfl, _, rfl, ?_⟩
  refine ite2 (fun c2 => ⟨_, rfl, _, rfl, _, rfl, _, rfl, leaf _ (Kp.refl _ _) En4⟩) (fun c2 => ?_)
  have ne2 := str_no_decide c2
  refine ⟨_, rfl, rfl, _, rfl, ?_⟩
  refine ite2 (fun c3 => ?_) (fun c3 => ?_)
  · -- a call
    obtain rfl := str_of_decide c3
    refine ⟨_, rfl, Nat.zero_le _, fun l hl => ?_⟩
    have En5 := En4.new (o := .lst []) hl
    have k5 : Kp [p, c, st] H4 (upd H4 l (.lst [])) := Kp.new hl
    have hR5 := k5.lst hR4 (En4.room hR4)
    have hRR5 := k5.lst hRR (En4.room hRR)
    refine ⟨_, _, En5.wld.dp, nil_dp, wds_shaped (fun f m => (En5.nw f m).1), nil_shaped, _, rfl, ?_⟩
    rw [eqv_nil]
    generalize upd H4 l (.lst []) = H5 at En5 k5 hR5 hRR5 ⊢
    refine ite2 (fun c4 => ⟨_, rfl, _, rfl, _, rfl, _, rfl, leaf _ k5 En5⟩) (fun c4 => ?_)
    have hW0 : W ≠ [] := fun e => c4 (by rw [e]; rfl)
    refine ⟨_, rfl, r, _, _, _, rfl, rfl, SqL.of hR5, at_of (j := 0) rfl rfl, _, _, rfl, rfl, _, rfl, ?_⟩
    refine ite2 (fun c5 => ⟨_, rfl, _, rfl, _, rfl, _, rfl, leaf _ k5 En5⟩) (fun c5 => ?_)
    have hdp6 : 6 ≤ dp := by
      have : ¬ dp < 6 := of_decide_eq_false (Bool.eq_false_iff.mpr c5)
      omega
    refine ⟨_, rfl, rfl, _, rfl, ?_⟩
    refine ite2 (fun _ => ?_) (fun c6 => absurd (decide_eq_true rfl) c6)
    refine ⟨_, rfl, _, rfl, _, rfl, _, rfl, _, rfl, p, a, wl, sl, r2, c, st, want, W, sc, ss, dp - 1, n, rfl, En5, hRR5, (by omega), (by omega), hW0, hwant, fun v d H' n' ss' kk pen hc hs hd hdr => ?_⟩
    rw [show dp - 1 + 1 = dp by omega] at hdr
    exact D v d H' n' ss' (kk4.trans (k5.trans kk)) pen hc hs hd hdr
  have n3 := str_no_decide c3
  refine ⟨_, rfl, rfl, _, rfl, ?_⟩
  refine ite2 (fun c4 => absurd c4 c3) (fun _ => ?_)
  refine ⟨_, rfl, rfl, _, rfl, ?_⟩
  refine ite2 (fun c4 => ?_) (fun c4 => ?_)
  · refine ⟨_, rfl, _, rfl, _, rfl, _, rfl, _, rfl, p, a, wl, sl, r2, c, st, want, W, sc, ss, dp - 1, n, rfl, En4, hRR, (by omega), (by omega), hwant, fun v d H' n' ss' kk pen hc hs hd hdr => ?_⟩
    rw [show dp - 1 + 1 = dp by omega] at hdr
    exact D v d H' n' ss' (kk4.trans kk) pen hc hs hd hdr
  have n4 := str_no_decide c4
  obtain ⟨m, hm⟩ : ∃ m, costOf x m := by
    rcases hxw with e | e | e | e | e | e | e
    · exact ⟨2, .inr (.inr (.inr ⟨e, rfl⟩))⟩
    · exact ⟨3, .inr (.inr (.inl ⟨e, rfl⟩))⟩
    · exact ⟨1, .inl ⟨e, rfl⟩⟩
    · exact absurd e n4
    · exact absurd e n3
    · exact absurd e ne2
    · exact ⟨2, .inr (.inl ⟨e, rfl⟩)⟩
  -- does it fit
  refine ⟨_, rfl, fun dd hdd => ⟨upd_same, [(Sum.inr _, .int _), (Sum.inr _, .int _), (Sum.inr _, .int _), (Sum.inr _, .int _)], rfl, by decide, ?_⟩⟩
  have En5 : En K (upd (upd H4 dd (.dK [])) dd (.dK ckv)) W sc p a wl sl c st n ss := by rw [upd_upd]; exact En4.new hdd
  have kk5 : Kp [p, c, st] H4 (upd (upd H4 dd (.dK [])) dd (.dK ckv)) := by rw [upd_upd]; exact Kp.new hdd
  have hR5 := kk5.lst hR4 (En4.room hR4)
  have hRR5 := kk5.lst hRR (En4.room hRR)
  refine ⟨_, rfl, dd, _, rfl, (by have := DGet.k (H := upd (upd H4 dd (.dK [])) dd (.dK ckv)) (k := Sum.inr x) upd_same; rw [cost_of hm] at this; exact this), ?_⟩
  generalize upd (upd H4 dd (.dK [])) dd (.dK ckv) = H5 at En5 kk5 hR5 hRR5 ⊢
  refine ⟨r, c, _, _, n, _, rfl, hR5, En5.cnt, fun hlt => ⟨false, rfl, ⟨_, rfl, _, rfl, _, rfl, _, rfl, leaf _ kk5 En5⟩⟩, fun hle => ⟨true, rfl, ?_⟩⟩
  have En6 := En5.less (m := n - m)
  have k6 : Kp [p, c, st] H (upd H5 c (.lst [.int (n - m)])) := kk4.trans (kk5.trans (Kp.put En5.cnt mem3.2.1))
  have hRR6 : (upd H5 c (.lst [.int (n - m)])) r2 = some (.lst [.int (dp - 1), .ref c, .ref st]) := by
    rw [upd_ne (fun e => En5.room hRR5 (by rw [e]; exact mem3.2.1))]
    exact hRR5
  generalize upd H5 c (.lst [.int (n - m)]) = H6 at En6 k6 hRR6 ⊢
  clear En5 kk5 hR5 hRR5 leaf En4 kk4 hRR hR4
  -- a side
  refine ⟨_, rfl, rfl, _, rfl, ?_⟩
  refine ite2 (fun c5 => ?_) (fun c5 => ?_)
  · obtain rfl := str_of_decide c5
    obtain rfl : m = 1 := by
      rcases hm with h | h | h | h
      · exact h.2
      · exact absurd h.1 (by decide +kernel)
      · exact absurd h.1 (by decide +kernel)
      · exact absurd h.1 (by decide +kernel)
    refine ⟨(by show 2 ≤ sizeLine; decide), fun l hl => ?_⟩
    have En7 := En6.new (o := .lst [.str "left", .str "right"]) hl
    have nl := En6.fresh hl
    have k7 : Kp [p, c, st] H6 (upd H6 l (.lst [.str "left", .str "right"])) := Kp.new hl
    have hl7 : (upd H6 l (.lst [.str "left", .str "right"])) l = some (.lst [.str "left", .str "right"]) := upd_same
    have hRR7 := k7.lst hRR6 (En6.room hRR6)
    refine ⟨_, rfl, p, a, 2, rfl, En7.pen, (by decide), (by decide), fun g H8 k8 pen8 g0 g1 => ?_⟩
    have k8' := k8.mono (T := [p, c, st]) sub3
    have En8 := En7.same k8 pen8
    have hl8 := k8'.lst hl7 nl
    have hRR8 := k8'.lst hRR7 (En7.room hRR7)
    obtain ⟨kd, hkd, hkd'⟩ : ∃ kd : Str, ([.str "left", .str "right"] : List V)[g.toNat]? = some (.str kd) ∧ (kd, 1) ∈ kinds := by
      have h0 : g.toNat < 2 := by omega
      generalize g.toNat = j at h0
      match j, h0 with
      | 0, _ => exact ⟨_, rfl, by decide +kernel⟩
      | 1, _ => exact ⟨_, rfl, by decide +kernel⟩
    refine ⟨l, _, _, _, rfl, rfl, SqL.of hl8, at_of (j := g.toNat) (by omega) hkd, ?_⟩
    refine ⟨_, rfl, _, rfl, _, rfl, _, rfl, p, a, wl, sl, r2, c, st, "pair", W, sc, ss, dp - 1, n - 1, rfl, En8, hRR8, (by omega), (by omega), .inr (.inl rfl), fun u d H9 n' ss' k9 pen9 hc9 hs9 hd9 hdr9 => ?_⟩
    refine ⟨(by show 2 ≤ sizeLine; decide), fun q hq => ?_⟩
    exact D _ (.op kd [d]) _ n' ss' ((k6.trans (k7.trans (k8'.trans k9))).trans (Kp.new hq)) (pen9.new hq) (by rw [upd_ne (ne_of_none hc9 hq)]; exact hc9) (by rw [upd_ne (ne_of_none hs9 hq)]; exact hs9) (op_dp hq (.cons hd9 .nil))
      (.op hkd' hdp1 hle hdr9 .nil)
  have n5 := str_no_decide c5
  have hx3 : x = "pair" ∨ x = "when" ∨ x = "op" := by
    rcases hm with h | h | h | h
    · exact absurd h.1 n5
    · exact .inl h.1
    · exact .inr (.inl h.1)
    · exact .inr (.inr h.1)
  -- one
  refine ⟨_, rfl, _, rfl, _, rfl, _, rfl, (by show 2 ≤ sizeLine; decide), fun l hl => ?_⟩
  have En7 := En6.new (o := .lst [.str "number", .str "any"]) hl
  have k7 : Kp [p, c, st] H6 (upd H6 l (.lst [.str "number", .str "any"])) := Kp.new hl
  have hl7 : (upd H6 l (.lst [.str "number", .str "any"])) l = some (.lst [.str "number", .str "any"]) := upd_same
  have hRR7 := k7.lst hRR6 (En6.room hRR6)
  refine ⟨_, rfl, rfl, .inr ⟨_, rfl, ?_⟩⟩
  obtain ⟨wt, hwt, hwt'⟩ : ∃ wt : Str, atI ([.str "number", .str "any"] : List V) (if decide (V.str x = V.str "pair") = true then 1 else 0) = some (.str wt) ∧ wantOk wt := by
    by_cases e : decide (V.str x = V.str "pair") = true
    · rw [if_pos e]
      exact ⟨_, rfl, .inr (.inr rfl)⟩
    · rw [if_neg e]
      exact ⟨_, rfl, .inl rfl⟩
  refine ⟨l, _, _, _, rfl, rfl, SqL.of hl7, hwt, ?_⟩
  refine ⟨p, a, wl, sl, r2, c, st, wt, W, sc, ss, dp - 1, n - m, rfl, En7, hRR7, (by omega), (by omega), hwt', fun u d H8 n1 ss1 k8 pen8 hc8 hs8 hd8 hdr8 => ?_⟩
  have En8 := En7.step k8 pen8 hc8 hs8 hdr8.sub hdr8.len
  have hRR8 := k8.lst hRR7 (En7.room hRR7)
  have kk8 := k6.trans (k7.trans k8)
  clear k7 k8 En6 En7 hl7 hl hRR6 hRR7 k6
  -- other
  refine ⟨_, rfl, _, rfl, _, rfl, _, rfl, fun d2 hd2 => ⟨_, rfl, upd_same, [(Sum.inr _, .str _), (Sum.inr _, .str _), (Sum.inr _, .str _)], rfl, (by show 3 ≤ 15; decide), ?_⟩⟩
  obtain ⟨wu, hwu, hwu'⟩ := other_of hwant hx3
  have En9 : En K (upd (upd H8 d2 (.dK [])) d2 (.dK (okv want))) W sc p a wl sl c st n1 ss1 := by rw [upd_upd]; exact En8.new hd2
  have k9 : Kp [p, c, st] H8 (upd (upd H8 d2 (.dK [])) d2 (.dK (okv want))) := by rw [upd_upd]; exact Kp.new hd2
  have hRR9 := k9.lst hRR8 (En8.room hRR8)
  have hd9 := Dp.keep k9 _ _ (data_fz _) hd8
  refine ⟨_, rfl, d2, _, rfl, (by have := DGet.k (H := upd (upd H8 d2 (.dK [])) d2 (.dK (okv want))) (k := Sum.inr x) upd_same; rw [hwu] at this; exact this), ?_⟩
  generalize upd (upd H8 d2 (.dK [])) d2 (.dK (okv want)) = H9 at En9 k9 hRR9 hd9 ⊢
  refine ⟨p, a, wl, sl, r2, c, st, wu, W, sc, ss1, dp - 1, n1, rfl, En9, hRR9, (by omega), (by omega), hwu', fun u2 e H10 n2 ss2 k10 pen10 hc10 hs10 hd10 hdr10 => ?_⟩
  have En10 := En9.step k10 pen10 hc10 hs10 hdr10.sub hdr10.len
  have hRR10 := k10.lst hRR9 (En9.room hRR9)
  have kk10 := kk8.trans (k9.trans k10)
  have hd11 := Dp.keep k10 _ _ (data_fz _) hd9
  have hdr := hdr8.append hdr10
  clear k9 k10 En8 En9 hRR8 hRR9 hd8 hd9 kk8 hd2
  -- a pair
  refine ⟨_, rfl, rfl, _, rfl, ?_⟩
  refine ite2 (fun c6 => ?_) (fun c6 => ?_)
  · obtain rfl := str_of_decide c6
    obtain rfl : m = 2 := by
      rcases hm with h | h | h | h
      · exact absurd h.1 (by decide +kernel)
      · exact h.2
      · exact absurd h.1 (by decide +kernel)
      · exact absurd h.1 (by decide +kernel)
    refine ⟨_, rfl, _, rfl, (by show 3 ≤ sizeLine; decide), fun q hq => ?_⟩
    exact D _ (.op "pair" [d, e]) _ n2 ss2 (kk10.trans (Kp.new hq)) (pen10.new hq) (by rw [upd_ne (ne_of_none hc10 hq)]; exact hc10) (by rw [upd_ne (ne_of_none hs10 hq)]; exact hs10) (op_dp hq (.cons hd11 (.cons hd10 .nil)))
      (.op (by show (("pair" : Str), 2) ∈ kinds; decide +kernel) hdp1 hle hdr .nil)
  have n6 := str_no_decide c6
  refine ⟨_, rfl, rfl, _, rfl, ?_⟩
  refine ite2 (fun c7 => ?_) (fun c7 => ?_)
  · obtain rfl := str_of_decide c7
    obtain rfl : m = 3 := by
      rcases hm with h | h | h | h
      · exact absurd h.1 (by decide +kernel)
      · exact absurd h.1 (by decide +kernel)
      · exact h.2
      · exact absurd h.1 (by decide +kernel)
    refine ⟨_, rfl, _, rfl, _, rfl, _, rfl, _, rfl, _, rfl, _, rfl, p, a, wl, sl, r2, c, st, want, W, sc, ss2, dp - 1, n2, rfl, En10, hRR10, (by omega), (by omega), hwant, fun u3 g H11 n3 ss3 k11 pen11 hc11 hs11 hd12 hdr12 => ?_⟩
    refine ⟨(by show 4 ≤ sizeLine; decide), fun q hq => ?_⟩
    have hda := Dp.keep k11 _ _ (data_fz _) hd11
    have hdb := Dp.keep k11 _ _ (data_fz _) hd10
    exact D _ (.op "when" [d, e, g]) _ n3 ss3 ((kk10.trans k11).trans (Kp.new hq)) (pen11.new hq) (by rw [upd_ne (ne_of_none hc11 hq)]; exact hc11) (by rw [upd_ne (ne_of_none hs11 hq)]; exact hs11) (op_dp hq (.cons hda (.cons hdb (.cons hd12 .nil))))
      (.op (by show (("when" : Str), 3) ∈ kinds; decide +kernel) hdp1 hle (hdr.append hdr12) .nil)
  have n7 := str_no_decide c7
  obtain rfl : m = 2 := by
    rcases hm with h | h | h | h
    · exact absurd h.1 n5
    · exact absurd h.1 n6
    · exact absurd h.1 n7
    · exact h.2
  -- an operation
  refine ⟨(by show 4 ≤ sizeLine; decide), fun l hl => ?_⟩
  have En11 := En10.new (o := .lst [.str "plus", .str "less", .str "times", .str "below"]) hl
  have nl := En10.fresh hl
  have k11 : Kp [p, c, st] H10 (upd H10 l (.lst [.str "plus", .str "less", .str "times", .str "below"])) := Kp.new hl
  have hl11 : (upd H10 l (.lst [.str "plus", .str "less", .str "times", .str "below"])) l = some (.lst [.str "plus", .str "less", .str "times", .str "below"]) := upd_same
  refine ⟨_, rfl, p, a, 4, rfl, En11.pen, (by decide), (by decide), fun g H12 k12 pen12 g0 g1 => ?_⟩
  have k12' := k12.mono (T := [p, c, st]) sub3
  have En12 := En11.same k12 pen12
  have hl12 := k12'.lst hl11 nl
  obtain ⟨kd, hkd, hkd'⟩ : ∃ kd : Str, ([.str "plus", .str "less", .str "times", .str "below"] : List V)[g.toNat]? = some (.str kd) ∧ (kd, 2) ∈ kinds := by
    have h0 : g.toNat < 4 := by omega
    generalize g.toNat = j at h0
    match j, h0 with
    | 0, _ => exact ⟨_, rfl, by decide +kernel⟩
    | 1, _ => exact ⟨_, rfl, by decide +kernel⟩
    | 2, _ => exact ⟨_, rfl, by decide +kernel⟩
    | 3, _ => exact ⟨_, rfl, by decide +kernel⟩
  refine ⟨l, _, _, _, rfl, rfl, SqL.of hl12, at_of (j := g.toNat) (by omega) hkd, _, rfl, _, rfl, (by show 3 ≤ sizeLine; decide), fun q hq => ?_⟩
  have k13 := k11.trans k12'
  have hda := Dp.keep k13 _ _ (data_fz _) hd11
  have hdb := Dp.keep k13 _ _ (data_fz _) hd10
  have hc12 := En12.cnt
  have hs12 := En12.stk
  exact D _ (.op kd [d, e]) _ n2 ss2 ((kk10.trans k13).trans (Kp.new hq)) (En12.pen.new hq) (by rw [upd_ne (ne_of_none hc12 hq)]; exact hc12) (by rw [upd_ne (ne_of_none hs12 hq)]; exact hs12) (op_dp hq (.cons hda (.cons hdb .nil)))
    (.op hkd' hdp1 hle hdr .nil)
end
end Lz

set_option Elab.async false
set_option linter.all false
set_option maxRecDepth 100000
set_option maxHeartbeats 8000000
namespace Lz
open PySem PySem.Spec PyProof.Rows L2
theorem cut_1 (x : V) (xs : List V) : cutV (x :: xs) (some 1) none = xs := by
  unfold cutV
  rw [HT.sIx_none, show HT.sIx (x :: xs).length 0 (some 1) = min 1 (x :: xs).length from HT.sIx_nat _ _ 1]
  have e : min 1 (x :: xs).length = 1 := by rw [List.length_cons]; omega
  rw [e]
  exact List.take_of_length_le (by show xs.length ≤ (x :: xs).length - 1; rw [List.length_cons]; omega)
def spLoop (K : PySem.W.Frag) : Sp := fun vs H Q _ => ∃ (p a wl tl r c st : Addr) (me t0 : Str) (W : List (Str × Int)) (ts ss : List Str) (dp n : Int), vs = [.ref p, .ref wl, .str me, .ref tl, .ref r] ∧
  En K H W (t0 :: ts) p a wl tl c st n ss ∧ H r = some (.lst [.int dp, .ref c, .ref st]) ∧ ts.length ≤ 3 ∧
  ∀ (v : V) (d : Lz.P) (H' : Hp), Kp [p, c, st] H H' → PenAt H' p a → Dp K H' v d.data → Lp W me t0 ts n ss d → Q v H'
section
variable {P : Program} {w : World} {K : PySem.W.Frag} {mg : Str → Option Value} {base : Heap} {f : Addr} {fd : FuncData}
abbrev sLLoop : Stmt := topS 41
theorem scLLoop : FnScope ["_law_pen_here", "_law_world", "_law_me", "_law_things", "_law_room", "_law_call_here", "_law_name", "_law_other", "_law_one", "_law_more"] ["_law_pen_here", "_law_world", "_law_me", "_law_things", "_law_room"] (defScope sLLoop) := ⟨rfl, rfl, rfl, by decide +kernel, rfl, by decide +kernel, by decide +kernel⟩
theorem ok_loop {k j : Nat} (hk : 4 ≤ k) (hj : 3 ≤ j) (F : Fun K "_law_loop" "_law_loop" sLLoop f fd) (B : Bt mg) (CLDraw : C8.Cal P w K mg base 1 "_law_draw" (spDraw K) [])
    (CLPart : C8.Cal P w K mg base j "_law_part" (spPart K k) []) : FnOk P w K mg base CX0 (j + 1) f fd ["_law_pen_here", "_law_world", "_law_me", "_law_things", "_law_room"] (spLoop K) := by
  refine F.ok scLLoop (fun vs H Q E h => ?_) (fun cdv A outer s H vs Q E hr h => ?_)
  · obtain ⟨p, a, wl, tl, r, c, st, me, t0, W, ts, ss, dp, n, rfl, _⟩ := h
    rfl
  obtain ⟨p, a, wl, tl, r, c, st, me, t0, W, ts, ss, dp, n, rfl, En0, hR, hts, D⟩ := h
  refine ⟨_, (pss_cons (ps_set (i := 5) scLLoop.nd rfl (.inl rfl) (pe_tup (pa_cons pe_str (pa_cons (pe_tup (pa_cons pe_str (pa_cons (pv 2) pa_nil))) (pa_cons (pe_tup (pa_cons pe_str (pa_cons (pe_tup (pa_cons pe_str (pa_cons (pe_ix (ix_listK (K := K) rfl) (pv 3) pe_int (fun _ _ => rfl)) pa_nil))) (pa_cons (pe_tup (pa_cons pe_str (pa_cons pe_int pa_nil))) pa_nil)))) pa_nil)))))
    (pss_cons (ps_for PassesOwn.never rfl (pi_listK (K := K) rfl (pe_slice (sl_listK (K := K) rfl) (pv 3) (po_some pe_int) po_none)) (pg_name (i := 6) scLLoop.nd rfl (.inl rfl)) (pss_cons (ps_set (i := 7) scLLoop.nd rfl (.inl rfl) (C8.pe_c CLPart hr (by first | decide | omega) (by rfl) (pa_cons (pv 0) (pa_cons (pv 1) (pa_cons (pv 3) (pa_cons (pe_lst (pa_cons pe_int (pa_cons (pe_ix (ix_listK (K := K) rfl) (pv 4) pe_int (fun _ _ => rfl)) (pa_cons (pe_ix (ix_listK (K := K) rfl) (pv 4) pe_int (fun _ _ => rfl)) pa_nil)))) (pa_cons pe_str pa_nil)))))))
    (pss_one (ps_set (i := 5) scLLoop.nd rfl (.inl rfl) (pe_tup (pa_cons pe_str (pa_cons (pv 5) (pa_cons (pe_ix (ix_listK (K := K) rfl) (pe_lst (pa_cons (pe_tup (pa_cons pe_str (pa_cons (pv 6) pa_nil))) (pa_cons (pv 7) pa_nil))) (C8.pe_c CLDraw hr (by first | decide | omega) (by rfl) (pa_cons (pv 0) (pa_cons pe_int pa_nil))) (fun _ _ => rfl)) pa_nil))))))))
    (pss_cons (ps_set (i := 8) scLLoop.nd rfl (.inl rfl) (C8.pe_c CLPart hr (by first | decide | omega) (by rfl) (pa_cons (pv 0) (pa_cons (pv 1) (pa_cons (pv 3) (pa_cons (pe_lst (pa_cons pe_int (pa_cons (pe_ix (ix_listK (K := K) rfl) (pv 4) pe_int (fun _ _ => rfl)) (pa_cons (pe_ix (ix_listK (K := K) rfl) (pv 4) pe_int (fun _ _ => rfl)) pa_nil)))) (pa_cons pe_str pa_nil)))))))
    (pss_cons (ps_set (i := 9) scLLoop.nd rfl (.inl rfl) (pe_ix (ix_listK (K := K) rfl) (pe_lst (pa_cons (pv 5) (pa_cons (pe_tup (pa_cons pe_str (pa_cons (pv 8) (pa_cons (pv 5) pa_nil)))) (pa_cons (pe_tup (pa_cons pe_str (pa_cons (pv 8) (pa_cons (pv 5) pa_nil)))) (pa_cons (pe_tup (pa_cons pe_str (pa_cons (pv 5) (pa_cons (pv 8) pa_nil)))) pa_nil))))) (C8.pe_c CLDraw hr (by first | decide | omega) (by rfl) (pa_cons (pv 0) (pa_cons pe_int pa_nil))) (fun _ _ => rfl)))
    (pss_one (ps_ret (pe_tup (pa_cons pe_str (pa_cons (pe_tup (pa_cons pe_str (pa_cons (pe_ix (ix_listK (K := K) rfl) (pv 3) pe_int (fun _ _ => rfl)) pa_nil))) (pa_cons (pv 9) (pa_cons (C8.pe_c CLPart hr (by first | decide | omega) (by rfl) (pa_cons (pv 0) (pa_cons (pv 1) (pa_cons (pv 3) (pa_cons (pe_lst (pa_cons pe_int (pa_cons (pe_ix (ix_listK (K := K) rfl) (pv 4) pe_int (fun _ _ => rfl)) (pa_cons (pe_ix (ix_listK (K := K) rfl) (pv 4) pe_int (fun _ _ => rfl)) pa_nil)))) (pa_cons pe_str pa_nil)))))) pa_nil))))))))))), ?_⟩
  -- the call, its first thing
  refine ⟨_, rfl, (by show 2 ≤ sizeLine; decide), fun q1 hq1 => ?_⟩
  have En1 := En0.new (o := .tup [.str "fun", .str me]) hq1
  have hd1 : Dp K (upd H q1 (.tup [.str "fun", .str me])) (.ref q1) (Lz.P.fn me).data := Dp.newT hq1 (.cons (.str _) (.cons (.str _) .nil)) rfl
  have k1 : Kp [p, c, st] H (upd H q1 (.tup [.str "fun", .str me])) := Kp.new hq1
  generalize upd H q1 (.tup [.str "fun", .str me]) = H1 at En1 hd1 k1 ⊢
  refine ⟨_, rfl, tl, _, _, _, rfl, rfl, SqL.of En1.scp, at_of (j := 0) rfl rfl, (by show 2 ≤ sizeLine; decide), fun q2 hq2 => ?_⟩
  have En2 := En1.new (o := .tup [.str "name", .str t0]) hq2
  have hd2 : Dp K (upd H1 q2 (.tup [.str "name", .str t0])) (.ref q2) (Lz.P.nam t0).data := Dp.newT hq2 (.cons (.str _) (.cons (.str _) .nil)) rfl
  have k2 : Kp [p, c, st] H1 (upd H1 q2 (.tup [.str "name", .str t0])) := Kp.new hq2
  have hd1 := Dp.keep k2 _ _ (data_fz _) hd1
  show _
  generalize upd H1 q2 (.tup [.str "name", .str t0]) = H2 at En2 hd1 hd2 k2 ⊢
  refine ⟨(by show 2 ≤ sizeLine; decide), fun q3 hq3 => ?_⟩
  have En3 := En2.new (o := .tup [.str "number", .int 1]) hq3
  have hd3 : Dp K (upd H2 q3 (.tup [.str "number", .int 1])) (.ref q3) (Lz.P.num 1).data := Dp.newT hq3 (.cons (.str _) (.cons (.int _) .nil)) rfl
  have k3 : Kp [p, c, st] H2 (upd H2 q3 (.tup [.str "number", .int 1])) := Kp.new hq3
  have hd1 := Dp.keep k3 _ _ (data_fz _) hd1
  have hd2 := Dp.keep k3 _ _ (data_fz _) hd2
  generalize upd H2 q3 (.tup [.str "number", .int 1]) = H3 at En3 hd1 hd2 hd3 k3 ⊢
  refine ⟨(by show 3 ≤ sizeLine; decide), fun q4 hq4 => ?_⟩
  have En4 := En3.new (o := .tup [.str "less", .ref q2, .ref q3]) hq4
  have hd4 : Dp K (upd H3 q4 (.tup [.str "less", .ref q2, .ref q3])) (.ref q4) (Lz.P.op "less" [.nam t0, .num 1]).data := op_dp hq4 (.cons hd2 (.cons hd3 .nil))
  have k4 : Kp [p, c, st] H3 (upd H3 q4 (.tup [.str "less", .ref q2, .ref q3])) := Kp.new hq4
  have hd1 := Dp.keep k4 _ _ (data_fz _) hd1
  generalize upd H3 q4 (.tup [.str "less", .ref q2, .ref q3]) = H4 at En4 hd1 hd4 k4 ⊢
  refine ⟨(by show 3 ≤ sizeLine; decide), fun q5 hq5 => ?_⟩
  have En5 := En4.new (o := .tup [.str "give", .ref q1, .ref q4]) hq5
  have hd5 : Dp K (upd H4 q5 (.tup [.str "give", .ref q1, .ref q4])) (.ref q5) (again me t0 []).data := op_dp hq5 (.cons hd1 (.cons hd4 .nil))
  have k5 : Kp [p, c, st] H (upd H4 q5 (.tup [.str "give", .ref q1, .ref q4])) := k1.trans (k2.trans (k3.trans (k4.trans (Kp.new hq5))))
  generalize upd H4 q5 (.tup [.str "give", .ref q1, .ref q4]) = H5 at En5 hd5 k5 ⊢
  have hR5 := k5.lst hR (En0.room hR)
  clear hd4 hd3 hd2 hd1 k4 k3 k2 k1 En1 En2 En3 En4
  -- the further things
  refine ⟨_, rfl, _, rfl, tl, _, rfl, SqL.of En5.scp, fun lp hlp => ?_⟩
  have ecut : cutV (List.map V.str (t0 :: ts)) (some 1) none = ts.map V.str := cut_1 _ _
  rw [ecut]
  have En6 := En5.new (o := .lst (ts.map V.str)) hlp
  have nlp := En5.fresh hlp
  have k6 : Kp [p, c, st] H5 (upd H5 lp (.lst (ts.map V.str))) := Kp.new hlp
  have hp6 : (upd H5 lp (.lst (ts.map V.str))) lp = some (.lst (ts.map V.str)) := upd_same
  have hR6 := k6.lst hR5 (En5.room hR5)
  have hd6 := Dp.keep k6 _ _ (data_fz _) hd5
  have k6 := k5.trans k6
  generalize upd H5 lp (.lst (ts.map V.str)) = H6 at En6 hp6 hR6 hd6 k6 ⊢
  clear k5 hd5 hR5 En5 ecut
  refine ⟨lp, rfl, ⟨_, SqL.of hp6⟩, for_list (K := K) (a := lp) (xs := ts.map V.str) (fun i σ H' => ∃ (v5 : V) (n' : Int) (ss' : List Str) (os as : List Lz.P) (v6 v7 : Option V),
      σ = [some (.ref p), some (.ref wl), some (.str me), some (.ref tl), some (.ref r), some v5, v6, v7, none, none] ∧ Kp [p, c, st] H H' ∧ En K H' W (t0 :: ts) p a wl tl c st n' ss' ∧ H' r = some (.lst [.int dp, .ref c, .ref st]) ∧ H' lp = some (.lst (ts.map V.str)) ∧
      Dp K H' v5 (again me t0 as).data ∧ Dr W (t0 :: ts) 2 n ss n' ss' os ∧ Args (ts.take i) os as)
    ⟨.ref q5, n, ss, [], [], none, none, rfl, k6, En6, hR6, hp6, hd6, .nil, .nil⟩ (fun i σ H' _ ⟨_, _, _, _, _, _, _, _, _, _, _, h, _⟩ => SqL.of h) ?_ ?_⟩
  · rintro i x σ H7 hi ⟨v5, n', ss', os, as, v6, v7, rfl, k7, En7, hR7, hp7, hd7, hdr, har⟩
    obtain ⟨t, ht, rfl⟩ : ∃ t, ts[i]? = some t ∧ x = V.str t := by
      rw [List.getElem?_map] at hi
      cases e : ts[i]? with
      | none => rw [e] at hi; cases hi
      | some y => rw [e] at hi; exact ⟨y, rfl, (Option.some.inj hi).symm⟩
    -- other
    refine ⟨_, rfl, _, rfl, _, rfl, _, rfl, r, _, _, _, rfl, rfl, SqL.of hR7, at_of (j := 1) rfl rfl, _, rfl, r, _, _, _, rfl, rfl, SqL.of hR7, at_of (j := 2) rfl rfl, (by show 3 ≤ sizeLine; decide), fun r2 hr2 => ?_⟩
    have En8 := En7.new (o := .lst [.int 2, .ref c, .ref st]) hr2
    have k8 : Kp [p, c, st] H7 (upd H7 r2 (.lst [.int 2, .ref c, .ref st])) := Kp.new hr2
    refine ⟨p, a, wl, tl, r2, c, st, "any", W, t0 :: ts, ss', 2, n', rfl, En8, upd_same, (by omega), (by omega), .inr (.inr rfl), fun u d H9 n2 ss2 k9 pen9 hc9 hs9 hd9 hdr9 => ?_⟩
    have En9 := En8.step k9 pen9 hc9 hs9 hdr9.sub hdr9.len
    have k9 := k8.trans k9
    have hR9 := k9.lst hR7 (En7.room hR7)
    have hp9 := k9.lst hp7 nlp
    have hd10 := Dp.keep k9 _ _ (data_fz _) hd7
    -- the name or other
    refine ⟨_, rfl, _, rfl, (by show 2 ≤ sizeLine; decide), fun q1 hq1 => ?_⟩
    have En10 := En9.new (o := .tup [.str "name", .str t]) hq1
    have k10 : Kp [p, c, st] H9 (upd H9 q1 (.tup [.str "name", .str t])) := Kp.new hq1
    have hdn : Dp K (upd H9 q1 (.tup [.str "name", .str t])) (.ref q1) (Lz.P.nam t).data := Dp.newT hq1 (.cons (.str _) (.cons (.str _) .nil)) rfl
    have hdo := Dp.keep k10 _ _ (data_fz _) hd9
    have hd10 := Dp.keep k10 _ _ (data_fz _) hd10
    have hR10 := k10.lst hR9 (En9.room hR9)
    have hp10 := k10.lst hp9 nlp
    have k10 := k9.trans k10
    generalize upd H9 q1 (.tup [.str "name", .str t]) = H10 at En10 k10 hdn hdo hd10 hR10 hp10 ⊢
    refine ⟨_, rfl, (by show 2 ≤ sizeLine; decide), fun l hl => ?_⟩
    have En11 := En10.new (o := .lst [.ref q1, u]) hl
    have nl := En10.fresh hl
    have k11 : Kp [p, c, st] H10 (upd H10 l (.lst [.ref q1, u])) := Kp.new hl
    have hl11 : (upd H10 l (.lst [.ref q1, u])) l = some (.lst [.ref q1, u]) := upd_same
    refine ⟨_, rfl, p, a, 2, rfl, En11.pen, (by decide), (by decide), fun g H12 k12 pen12 g0 g1 => ?_⟩
    have En12 := En11.same k12 pen12
    have k12' := k12.mono (T := [p, c, st]) sub3
    have hl12 := k12'.lst hl11 nl
    have k12 := k11.trans k12'
    have hdn := Dp.keep k12 _ _ (data_fz _) hdn
    have hdo := Dp.keep k12 _ _ (data_fz _) hdo
    have hd12 := Dp.keep k12 _ _ (data_fz _) hd10
    have hR12 := k12.lst hR10 (En10.room hR10)
    have hp12 := k12.lst hp10 nlp
    obtain ⟨va, b, hva, hb, hab⟩ : ∃ (va : V) (b : Lz.P), ([.ref q1, u] : List V)[g.toNat]? = some va ∧ Dp K H12 va b.data ∧ argOf t d b := by
      have h0 : g.toNat < 2 := by omega
      generalize g.toNat = j at h0
      match j, h0 with
      | 0, _ => exact ⟨_, _, rfl, hdn, .inl rfl⟩
      | 1, _ => exact ⟨_, _, rfl, hdo, .inr rfl⟩
    refine ⟨l, _, _, _, rfl, rfl, SqL.of hl12, at_of (j := g.toNat) (by omega) hva, (by show 3 ≤ sizeLine; decide), fun q hq => ?_⟩
    have k13 : Kp [p, c, st] H12 (upd H12 q (.tup [.str "give", v5, va])) := Kp.new hq
    refine ⟨_, n2, ss2, os ++ [d], as ++ [b], _, _, rfl, k7.trans (k10.trans (k12.trans k13)), En12.new hq, k13.lst hR12 (En12.room hR12), k13.lst hp12 nlp, ?_, hdr.append hdr9, ?_⟩
    · show Dp K _ _ (gives (.fn me) ((.op "less" [.nam t0, .num 1] :: as) ++ [b])).data
      rw [gives_snoc]
      exact op_dp hq (.cons hd12 (.cons hb .nil))
    · rw [List.take_add_one, ht]
      exact .snoc har hab
  · rintro σ H7 ⟨v5, n', ss', os, as, v6, v7, rfl, k7, En7, hR7, hp7, hd7, hdr, har⟩
    rw [List.length_map, List.take_length] at har
    -- one
    refine ⟨_, rfl, _, rfl, _, rfl, _, rfl, r, _, _, _, rfl, rfl, SqL.of hR7, at_of (j := 1) rfl rfl, _, rfl, r, _, _, _, rfl, rfl, SqL.of hR7, at_of (j := 2) rfl rfl, (by show 3 ≤ sizeLine; decide), fun r2 hr2 => ?_⟩
    have En8 := En7.new (o := .lst [.int 3, .ref c, .ref st]) hr2
    have k8 : Kp [p, c, st] H7 (upd H7 r2 (.lst [.int 3, .ref c, .ref st])) := Kp.new hr2
    refine ⟨p, a, wl, tl, r2, c, st, "number", W, t0 :: ts, ss', 3, n', rfl, En8, upd_same, (by omega), (by omega), .inl rfl, fun u d H9 n2 ss2 k9 pen9 hc9 hs9 hd9 hdr9 => ?_⟩
    have En9 := En8.step k9 pen9 hc9 hs9 hdr9.sub hdr9.len
    have k9 := k8.trans k9
    have hR9 := k9.lst hR7 (En7.room hR7)
    have hc := Dp.keep k9 _ _ (data_fz _) hd7
    have ho := hd9
    clear En8 k8 hd7 hd9 hp7
    -- more
    refine ⟨_, rfl, _, rfl, _, rfl, (by show 3 ≤ sizeLine; decide), fun q1 hq1 => ?_⟩
    have k10 : Kp [p, c, st] H9 (upd H9 q1 (.tup [.str "plus", u, v5])) := Kp.new hq1
    have En10 := En9.new (o := .tup [.str "plus", u, v5]) hq1
    have h1 : Dp K (upd H9 q1 (.tup [.str "plus", u, v5])) (.ref q1) (Lz.P.op "plus" [d, again me t0 as]).data := op_dp hq1 (.cons ho (.cons hc .nil))
    have hc := Dp.keep k10 _ _ (data_fz _) hc
    have ho := Dp.keep k10 _ _ (data_fz _) ho
    have k10 := k9.trans k10
    generalize upd H9 q1 (.tup [.str "plus", u, v5]) = H10 at En10 k10 h1 hc ho ⊢
    refine ⟨_, rfl, _, rfl, (by show 3 ≤ sizeLine; decide), fun q2 hq2 => ?_⟩
    have k11 : Kp [p, c, st] H10 (upd H10 q2 (.tup [.str "pair", u, v5])) := Kp.new hq2
    have En11 := En10.new (o := .tup [.str "pair", u, v5]) hq2
    have h2 : Dp K (upd H10 q2 (.tup [.str "pair", u, v5])) (.ref q2) (Lz.P.op "pair" [d, again me t0 as]).data := op_dp hq2 (.cons ho (.cons hc .nil))
    have hc := Dp.keep k11 _ _ (data_fz _) hc
    have ho := Dp.keep k11 _ _ (data_fz _) ho
    have h1 := Dp.keep k11 _ _ (data_fz _) h1
    have k11 := k10.trans k11
    generalize upd H10 q2 (.tup [.str "pair", u, v5]) = H11 at En11 k11 h1 h2 hc ho ⊢
    refine ⟨_, rfl, _, rfl, (by show 3 ≤ sizeLine; decide), fun q3 hq3 => ?_⟩
    have k12 : Kp [p, c, st] H11 (upd H11 q3 (.tup [.str "plus", v5, u])) := Kp.new hq3
    have En12 := En11.new (o := .tup [.str "plus", v5, u]) hq3
    have h3 : Dp K (upd H11 q3 (.tup [.str "plus", v5, u])) (.ref q3) (Lz.P.op "plus" [again me t0 as, d]).data := op_dp hq3 (.cons hc (.cons ho .nil))
    have hc := Dp.keep k12 _ _ (data_fz _) hc
    have h1 := Dp.keep k12 _ _ (data_fz _) h1
    have h2 := Dp.keep k12 _ _ (data_fz _) h2
    have k12 := k11.trans k12
    generalize upd H11 q3 (.tup [.str "plus", v5, u]) = H12 at En12 k12 h1 h2 h3 hc ⊢
    refine ⟨(by show 4 ≤ sizeLine; decide), fun l hl => ?_⟩
    have En13 := En12.new (o := .lst [v5, .ref q1, .ref q2, .ref q3]) hl
    have nl := En12.fresh hl
    have k13 : Kp [p, c, st] H12 (upd H12 l (.lst [v5, .ref q1, .ref q2, .ref q3])) := Kp.new hl
    have hl13 : (upd H12 l (.lst [v5, .ref q1, .ref q2, .ref q3])) l = some (.lst [v5, .ref q1, .ref q2, .ref q3]) := upd_same
    refine ⟨_, rfl, p, a, 4, rfl, En13.pen, (by decide), (by decide), fun g H14 k14 pen14 g0 g1 => ?_⟩
    have En14 := En13.same k14 pen14
    have k14' := k14.mono (T := [p, c, st]) sub3
    have hl14 := k14'.lst hl13 nl
    have k14 := k13.trans k14'
    obtain ⟨va, b, hva, hb, hab⟩ : ∃ (va : V) (b : Lz.P), ([v5, .ref q1, .ref q2, .ref q3] : List V)[g.toNat]? = some va ∧ Dp K H14 va b.data ∧ More d (again me t0 as) b := by
      have h0 : g.toNat < 4 := by omega
      generalize g.toNat = j at h0
      match j, h0 with
      | 0, _ => exact ⟨_, _, rfl, Dp.keep k14 _ _ (data_fz _) hc, .call⟩
      | 1, _ => exact ⟨_, _, rfl, Dp.keep k14 _ _ (data_fz _) h1, .plus⟩
      | 2, _ => exact ⟨_, _, rfl, Dp.keep k14 _ _ (data_fz _) h2, .pair⟩
      | 3, _ => exact ⟨_, _, rfl, Dp.keep k14 _ _ (data_fz _) h3, .turn⟩
    have k14 := k12.trans k14
    have hR14 := k14.lst hR7 (En7.room hR7)
    refine ⟨l, _, _, _, rfl, rfl, SqL.of hl14, at_of (j := g.toNat) (by omega) hva, ?_⟩
    -- when
    refine ⟨_, rfl, tl, _, _, _, rfl, rfl, SqL.of En14.scp, at_of (j := 0) rfl rfl, (by show 2 ≤ sizeLine; decide), fun q4 hq4 => ?_⟩
    have k15 : Kp [p, c, st] H14 (upd H14 q4 (.tup [.str "name", .str t0])) := Kp.new hq4
    have En15 := En14.new (o := .tup [.str "name", .str t0]) hq4
    have hn : Dp K (upd H14 q4 (.tup [.str "name", .str t0])) (.ref q4) (Lz.P.nam t0).data := Dp.newT hq4 (.cons (.str _) (.cons (.str _) .nil)) rfl
    have hb := Dp.keep k15 _ _ (data_fz _) hb
    have hR15 := k15.lst hR14 (En14.room hR14)
    have k15 := k14.trans k15
    generalize upd H14 q4 (.tup [.str "name", .str t0]) = H15 at En15 k15 hn hb hR15 ⊢
    refine ⟨_, rfl, _, rfl, _, rfl, _, rfl, _, rfl, r, _, _, _, rfl, rfl, SqL.of hR15, at_of (j := 1) rfl rfl, _, rfl, r, _, _, _, rfl, rfl, SqL.of hR15, at_of (j := 2) rfl rfl, (by show 3 ≤ sizeLine; decide), fun r3 hr3 => ?_⟩
    have En16 := En15.new (o := .lst [.int 3, .ref c, .ref st]) hr3
    have k16 : Kp [p, c, st] H15 (upd H15 r3 (.lst [.int 3, .ref c, .ref st])) := Kp.new hr3
    refine ⟨p, a, wl, tl, r3, c, st, "number", W, t0 :: ts, ss2, 3, n2, rfl, En16, upd_same, (by omega), (by omega), .inl rfl, fun u3 e H17 n3 ss3 k17 pen17 hc17 hs17 hd17 hdr17 => ?_⟩
    have k17 := k16.trans k17
    have hn := Dp.keep k17 _ _ (data_fz _) hn
    have hb := Dp.keep k17 _ _ (data_fz _) hb
    refine ⟨(by show 4 ≤ sizeLine; decide), fun q hq => ?_⟩
    exact D _ (.op "when" [.nam t0, b, e]) _ (k7.trans (k15.trans (k17.trans (Kp.new hq)))) (pen17.new hq) (op_dp hq (.cons hn (.cons hb (.cons hd17 .nil)))) ⟨os, as, d, b, e, n', n2, n3, ss', ss2, ss3, hdr, har, hdr9, hab, hdr17, rfl⟩
end
end Lz

set_option Elab.async false
set_option linter.all false
set_option maxRecDepth 100000
set_option maxHeartbeats 8000000
namespace Lz
open PySem PySem.Spec PyProof.Rows L2
theorem Kp.drop {S T : List Addr} {H H1 H' : Hp} {c : Addr} (h : Kp S H H1) (hc : H c = none) (k : Kp T H1 H') (m : ∀ x, x ∈ T → x ∈ S ∨ x = c) : Kp S H H' := fun b o e n => k b o (h b o e n) fun i => by
  rcases m b i with q | q
  · exact n q
  · rw [q, hc] at e
    cases e
theorem not2 {p st x : Addr} (h1 : x ≠ p) (h2 : x ≠ st) : ¬ x ∈ [p, st] := fun m => by
  rcases List.mem_cons.mp m with e | m
  · exact h1 e
  · exact h2 (List.mem_singleton.mp m)
theorem sub2 {p st : Addr} : ∀ x, x ∈ [p] → x ∈ [p, st] := fun x h => by rw [List.mem_singleton.mp h]; exact List.mem_cons_self
/-- what the drawing of a body finds -/
structure Eb (K : PySem.W.Frag) (H : Hp) (W : List (Str × Int)) (things : List Str) (p a wl tl st : Addr) (ss : List Str) : Prop where
  pen : PenAt H p a
  wld : WAt K H wl W
  scp : H tl = some (.lst (things.map V.str))
  stk : H st = some (.lst (ss.map V.str))
  dw : ¬ wl ∈ [p, st]
  ds : ¬ tl ∈ [p, st]
  as : a ≠ st
  ps : p ≠ st
  nw : ∀ f, f ∈ W → nmOk f.1 ∧ 0 ≤ f.2 ∧ f.2 ≤ 4
  nc : ∀ x, x ∈ things → nmOk x
  ns : ∀ x, x ∈ ss → nmOk x
  lw : W.length ≤ 8
  lt : things.length ≤ 4
  ls : ss.length ≤ 26
section
variable {K : PySem.W.Frag} {H H' : Hp} {W : List (Str × Int)} {things : List Str} {p a wl tl st : Addr} {ss : List Str}
theorem Eb.keep (E : Eb K H W things p a wl tl st ss) (k : Kp [p] H H') (pen : PenAt H' p a) : Eb K H' W things p a wl tl st ss :=
  ⟨pen, E.wld.keep k (fun m => E.dw (sub2 _ m)), k.lst E.scp (fun m => E.ds (sub2 _ m)), k.lst E.stk (not1 E.ps.symm), E.dw, E.ds, E.as, E.ps, E.nw, E.nc, E.ns, E.lw, E.lt, E.ls⟩
theorem Eb.new {q : Addr} {o : HO} (E : Eb K H W things p a wl tl st ss) (h : H q = none) : Eb K (upd H q o) W things p a wl tl st ss := E.keep (Kp.new h) (E.pen.new h)
theorem Eb.en {c : Addr} {n : Int} (E : Eb K H W things p a wl tl st ss) (h : H c = none) : En K (upd H c (.lst [.int n])) W things p a wl tl c st n ss := by
  have E' := E.new (o := .lst [.int n]) h
  obtain ⟨ws, h1, _⟩ := E.wld
  obtain ⟨cp, ca⟩ := E.pen.apart h
  have cw := (ne_of_none h1 h).symm
  have ct := (ne_of_none E.scp h).symm
  have cs := (ne_of_none E.stk h).symm
  refine ⟨E'.pen, E'.wld, E'.scp, upd_same, E'.stk, ?_, ?_, ?_, cp.symm, E.ps, cs, E.nw, E.nc, E.ns, E.lw, by have := E.lt; have := E.ls; omega⟩
  · exact not3 (fun e => E.dw (by rw [e]; exact List.mem_cons_self)) cw.symm (fun e => E.dw (by rw [e]; exact List.mem_cons_of_mem _ List.mem_cons_self))
  · exact not3 (fun e => E.ds (by rw [e]; exact List.mem_cons_self)) ct.symm (fun e => E.ds (by rw [e]; exact List.mem_cons_of_mem _ List.mem_cons_self))
  · exact not3 E.pen.ne ca.symm E.as
end
def spBody (K : PySem.W.Frag) : Sp := fun vs H Q _ => ∃ (p a wl tl st : Addr) (me : Str) (W : List (Str × Int)) (things ss : List Str), vs = [.ref p, .ref wl, .str me, .ref tl, .ref st] ∧
  Eb K H W things p a wl tl st ss ∧ ∀ (v : V) (d : Lz.P) (H' : Hp), Kp [p, st] H H' → PenAt H' p a → Dp K H' v d.data → Bd W me things ss d → Q v H'
theorem emp_ne {x : Str} (c : (!decide (V.str x = V.str "")) = true) : x ≠ "" := fun e => by
  rw [e, decide_eq_true rfl] at c
  cases c
section
variable {P : Program} {w : World} {K : PySem.W.Frag} {mg : Str → Option Value} {base : Heap} {f : Addr} {fd : FuncData}
abbrev sLBody : Stmt := topS 42
theorem scLBody : FnScope ["_law_pen_here", "_law_world", "_law_me", "_law_things", "_law_stock", "_law_deep", "_law_left", "_law_part_here", "_law_k"] ["_law_pen_here", "_law_world", "_law_me", "_law_things", "_law_stock"] (defScope sLBody) := ⟨rfl, rfl, rfl, by decide +kernel, rfl, by decide +kernel, by decide +kernel⟩
theorem ok_body {j : Nat} (hj : 3 ≤ j) (F : Fun K "_law_body" "_law_body" sLBody f fd) (B : Bt mg) (CLDraw : C8.Cal P w K mg base 1 "_law_draw" (spDraw K) [])
    (CLPart : C8.Cal P w K mg base j "_law_part" (spPart K 12) []) (CLLoop : C8.Cal P w K mg base (j + 1) "_law_loop" (spLoop K) []) : FnOk P w K mg base CX0 (j + 2) f fd ["_law_pen_here", "_law_world", "_law_me", "_law_things", "_law_stock"] (spBody K) := by
  have mmin := B.min
  have mrange := B.range
  refine F.ok scLBody (fun vs H Q E h => ?_) (fun cdv A outer s H vs Q E hr h => ?_)
  · obtain ⟨p, a, wl, tl, st, me, W, things, ss, rfl, _⟩ := h
    rfl
  have hu64 := hr.units
  obtain ⟨p, a, wl, tl, st, me, W, things, ss, rfl, Eb0, D⟩ := h
  refine ⟨_, (pss_cons (ps_set (i := 5) scLBody.nd rfl (.inl rfl) (pe_ix (ix_listK (K := K) rfl) (pe_lst (pa_cons pe_int (pa_cons pe_int (pa_cons pe_int (pa_cons pe_int pa_nil))))) (C8.pe_c CLDraw hr (by first | decide | omega) (by rfl) (pa_cons (pv 0) (pa_cons pe_int pa_nil))) (fun _ _ => rfl)))
    (pss_cons (ps_set (i := 6) scLBody.nd rfl (.inl rfl) (pe_ix (ix_listK (K := K) rfl) (pe_lst (pa_cons pe_int (pa_cons pe_int (pa_cons pe_int (pa_cons pe_int (pa_cons pe_int (pa_cons pe_int pa_nil))))))) (C8.pe_c CLDraw hr (by first | decide | omega) (by rfl) (pa_cons (pv 0) (pa_cons pe_int pa_nil))) (fun _ _ => rfl)))
    (C8.pss_cut (ps_if (PW.pt (pw_and (pt_cmpR op_ne (pv 2) pe_str (nomark _)) (pw_and (pt_cmpR (op_neDK (K := K) rfl hu64) (pv 3) (pe_lst pa_nil) (nomark _)) (pw_and1 (pt_cmpR op_eq (C8.pe_c CLDraw hr (by first | decide | omega) (by rfl) (pa_cons (pv 0) (pa_cons pe_int pa_nil))) pe_int (nomark _)))))) (pss_one (ps_ret (C8.pe_c CLLoop hr (by first | decide | omega) (by rfl) (pa_cons (pv 0) (pa_cons (pv 1) (pa_cons (pv 2) (pa_cons (pv 3) (pa_cons (pe_lst (pa_cons (pv 5) (pa_cons (pe_lst (pa_cons (pe_callB (call_min2 rfl) (by rfl) mmin (by decide +kernel) (pa_cons (pv 6) (pa_cons pe_int pa_nil))) pa_nil)) (pa_cons (pv 4) pa_nil)))) pa_nil)))))))) pss_nil)
    (C8.pss_cut (ps_if (PW.pt (pw_and (pt_cmpR op_eq (pv 2) pe_str (nomark _)) (pw_and (pt_cmpR (op_neDK (K := K) rfl hu64) (pv 1) (pe_lst pa_nil) (nomark _)) (pw_and1 (pt_cmpR op_eq (C8.pe_c CLDraw hr (by first | decide | omega) (by rfl) (pa_cons (pv 0) (pa_cons pe_int pa_nil))) pe_int (nomark _)))))) (pss_cons (ps_set (i := 7) scLBody.nd rfl (.inl rfl) (pe_tup (pa_cons pe_str (pa_cons (pe_ix (ix_tupK (K := K) rfl) (pe_ix (ix_listK (K := K) rfl) (pv 1) pe_int (fun _ _ => rfl)) pe_int (fun _ _ => rfl)) pa_nil))))
    (pss_cons (ps_for PassesOwn.never rfl (pi_range1 (by rfl) mrange (pa_cons (pe_ix (ix_tupK (K := K) rfl) (pe_ix (ix_listK (K := K) rfl) (pv 1) pe_int (fun _ _ => rfl)) pe_int (fun _ _ => rfl)) pa_nil)) (pg_name (i := 8) scLBody.nd rfl (.inl rfl)) (pss_one (ps_set (i := 7) scLBody.nd rfl (.inl rfl) (pe_tup (pa_cons pe_str (pa_cons (pv 7) (pa_cons (pe_tup (pa_cons pe_str (pa_cons (C8.pe_c CLDraw hr (by first | decide | omega) (by rfl) (pa_cons (pv 0) (pa_cons pe_int pa_nil))) pa_nil))) pa_nil)))))))
    (pss_one (ps_ret (pv 7))))) pss_nil)
    (pss_one (ps_ret (C8.pe_c CLPart hr (by first | decide | omega) (by rfl) (pa_cons (pv 0) (pa_cons (pv 1) (pa_cons (pv 3) (pa_cons (pe_lst (pa_cons (pv 5) (pa_cons (pe_lst (pa_cons (pv 6) pa_nil)) (pa_cons (pv 4) pa_nil)))) (pa_cons pe_str pa_nil)))))))))))), ?_⟩
  -- how deep, how many
  refine ⟨(by show 4 ≤ sizeLine; decide), fun l hl => ?_⟩
  have Eb1 := Eb0.new (o := .lst [.int 2, .int 7, .int 9, .int 11]) hl
  have hl1 : (upd H l (.lst [.int 2, .int 7, .int 9, .int 11])) l = some (.lst [.int 2, .int 7, .int 9, .int 11]) := upd_same
  have k1 : Kp [p] H (upd H l (.lst [.int 2, .int 7, .int 9, .int 11])) := Kp.new hl
  refine ⟨_, rfl, p, a, 4, rfl, Eb1.pen, (by decide), (by decide), fun g H2 k2 pen2 g0 g1 => ?_⟩
  have Eb2 := Eb1.keep k2 pen2
  have hl2 := k2.lst hl1 (not1 (Eb0.pen.apart hl).1)
  have k2 := k1.trans k2
  obtain ⟨dp, hdp, dp0, dp1⟩ : ∃ z : Int, ([.int 2, .int 7, .int 9, .int 11] : List V)[g.toNat]? = some (.int z) ∧ 0 ≤ z ∧ z ≤ 11 := by
    have h0 : g.toNat < 4 := by omega
    generalize g.toNat = j at h0
    match j, h0 with
    | 0, _ => exact ⟨_, rfl, by decide, by decide⟩
    | 1, _ => exact ⟨_, rfl, by decide, by decide⟩
    | 2, _ => exact ⟨_, rfl, by decide, by decide⟩
    | 3, _ => exact ⟨_, rfl, by decide, by decide⟩
  refine ⟨l, _, _, _, rfl, rfl, SqL.of hl2, at_of (j := g.toNat) (by omega) hdp, ?_⟩
  refine ⟨(by show 6 ≤ sizeLine; decide), fun l3 hl3 => ?_⟩
  have Eb3 := Eb2.new (o := .lst [.int 2, .int 7, .int 14, .int 24, .int 40, .int 59]) hl3
  have hl4 : (upd H2 l3 (.lst [.int 2, .int 7, .int 14, .int 24, .int 40, .int 59])) l3 = some (.lst [.int 2, .int 7, .int 14, .int 24, .int 40, .int 59]) := upd_same
  have k3 : Kp [p] H2 (upd H2 l3 (.lst [.int 2, .int 7, .int 14, .int 24, .int 40, .int 59])) := Kp.new hl3
  refine ⟨_, rfl, p, a, 6, rfl, Eb3.pen, (by decide), (by decide), fun y H4 k4 pen4 y0 y1 => ?_⟩
  have Eb4 := Eb3.keep k4 pen4
  have hl5 := k4.lst hl4 (not1 (Eb2.pen.apart hl3).1)
  have k4 := k2.trans (k3.trans k4)
  obtain ⟨n, hn, n0, n1⟩ : ∃ z : Int, ([.int 2, .int 7, .int 14, .int 24, .int 40, .int 59] : List V)[y.toNat]? = some (.int z) ∧ 0 ≤ z ∧ z ≤ 59 := by
    have h0 : y.toNat < 6 := by omega
    generalize y.toNat = j at h0
    match j, h0 with
    | 0, _ => exact ⟨_, rfl, by decide, by decide⟩
    | 1, _ => exact ⟨_, rfl, by decide, by decide⟩
    | 2, _ => exact ⟨_, rfl, by decide, by decide⟩
    | 3, _ => exact ⟨_, rfl, by decide, by decide⟩
    | 4, _ => exact ⟨_, rfl, by decide, by decide⟩
    | 5, _ => exact ⟨_, rfl, by decide, by decide⟩
  refine ⟨l3, _, _, _, rfl, rfl, SqL.of hl5, at_of (j := y.toNat) (by omega) hn, ?_⟩
  clear Eb0 Eb1 Eb2 Eb3 k1 k2 k3 hl1 hl2 hl4 hl5 pen2 pen4
  -- a loop?
  refine ⟨fun σ' H' => σ' = [some (.ref p), some (.ref wl), some (.str me), some (.ref tl), some (.ref st), some (.int dp), some (.int n), none, none] ∧ Kp [p] H H' ∧ Eb K H' W things p a wl tl st ss, ?_, ?_⟩
  · refine ⟨_, rfl, rfl, _, rfl, ?_⟩
    refine ite2 (fun c1 => ?_) (fun c1 => ⟨rfl, k4, Eb4⟩)
    have hme := emp_ne c1
    refine ⟨_, rfl, Nat.zero_le _, fun l hl => ?_⟩
    have k5 : Kp [p] H (upd H4 l (.lst [])) := k4.trans (Kp.new hl)
    have Eb5 := Eb4.new (o := .lst []) hl
    refine ⟨_, _, scope_dp Eb5.scp, nil_dp, strs_shaped Eb5.nc, nil_shaped, _, rfl, ?_⟩
    rw [eqv_nil]
    generalize upd H4 l (.lst []) = H5 at Eb5 k5 ⊢
    refine ite2 (fun c2 => ?_) (fun c2 => ⟨rfl, k5, Eb5⟩)
    obtain ⟨t0, ts, rfl⟩ : ∃ t0 ts, things = t0 :: ts := by
      cases things with
      | nil => cases c2
      | cons t ts => exact ⟨t, ts, rfl⟩
    refine ⟨_, rfl, p, a, 3, rfl, Eb5.pen, (by decide), (by decide), fun z H6 k6 pen6 z0 z1 => ?_⟩
    have Eb6 := Eb5.keep k6 pen6
    have k6 := k5.trans k6
    refine ⟨rfl, _, rfl, ?_⟩
    refine ite2 (fun c3 => ?_) (fun c3 => ⟨rfl, k6, Eb6⟩)
    refine ⟨_, rfl, _, rfl, _, rfl, _, rfl, _, rfl, _, rfl, _, _, rfl, (by show 1 ≤ sizeLine; decide), fun c hc => ?_⟩
    have hmin : (if (40 : Int) < n then (40 : Int) else n) = min n 40 := by omega
    have En7 := Eb6.en (n := if (40 : Int) < n then (40 : Int) else n) hc
    have k7 : Kp [p] H6 (upd H6 c (.lst [.int (if (40 : Int) < n then (40 : Int) else n)])) := Kp.new hc
    have k7 := k6.trans k7
    have hc0 : H c = none := k6.free hc (not1 (Eb6.pen.apart hc).1)
    refine ⟨_, rfl, (by show 3 ≤ sizeLine; decide), fun r hr2 => ?_⟩
    have En8 := En7.new (o := .lst [.int dp, .ref c, .ref st]) hr2
    have k8 : Kp [p] H _ := k7.trans (Kp.new (o := .lst [.int dp, .ref c, .ref st]) hr2)
    have l4 := Eb6.lt
    rw [List.length_cons] at l4
    refine ⟨p, a, wl, tl, r, c, st, me, t0, W, ts, ss, dp, _, rfl, En8, upd_same, (by omega), fun v d H9 k9 pen9 hd9 hL => ?_⟩
    refine D v d H9 (Kp.drop (k8.mono sub2) hc0 k9 fun x m => ?_) pen9 hd9 (.loop hme rfl ?_ ?_ hL)
    · rcases List.mem_cons.mp m with e | m
      · exact .inl (by rw [e]; exact List.mem_cons_self)
      · rcases List.mem_cons.mp m with e | m
        · exact .inr e
        · exact .inl (by rw [List.mem_singleton.mp m]; exact List.mem_cons_of_mem _ List.mem_cons_self)
    · rw [hmin]; omega
    · rw [hmin]; omega
  rintro _ H5 ⟨rfl, k5, Eb5⟩
  clear Eb4 k4
  -- the first function, asked?
  refine ⟨fun σ' H' => (∃ v7 v8, σ' = [some (.ref p), some (.ref wl), some (.str me), some (.ref tl), some (.ref st), some (.int dp), some (.int n), v7, v8]) ∧ Kp [p] H H' ∧ Eb K H' W things p a wl tl st ss, ?_, ?_⟩
  · refine ⟨_, rfl, rfl, _, rfl, ?_⟩
    refine ite2 (fun c1 => ?_) (fun c1 => ⟨⟨_, _, rfl⟩, k5, Eb5⟩)
    have hme := str_of_decide c1
    refine ⟨_, rfl, Nat.zero_le _, fun l hl => ?_⟩
    have k6 : Kp [p] H (upd H5 l (.lst [])) := k5.trans (Kp.new hl)
    have Eb6 := Eb5.new (o := .lst []) hl
    refine ⟨_, _, Eb6.wld.dp, nil_dp, wds_shaped (fun f m => (Eb6.nw f m).1), nil_shaped, _, rfl, ?_⟩
    rw [eqv_nil]
    generalize upd H5 l (.lst []) = H6 at Eb6 k6 ⊢
    refine ite2 (fun c2 => ?_) (fun c2 => ⟨⟨_, _, rfl⟩, k6, Eb6⟩)
    obtain ⟨⟨fn, wn⟩, rest, rfl⟩ : ∃ fw rest, W = fw :: rest := by
      cases W with
      | nil => cases c2
      | cons t ts => exact ⟨t, ts, rfl⟩
    refine ⟨_, rfl, p, a, 2, rfl, Eb6.pen, (by decide), (by decide), fun z H7 k7 pen7 z0 z1 => ?_⟩
    have Eb7 := Eb6.keep k7 pen7
    have k7 := k6.trans k7
    refine ⟨rfl, _, rfl, ?_⟩
    refine ite2 (fun c3 => ?_) (fun c3 => ⟨⟨_, _, rfl⟩, k7, Eb7⟩)
    obtain ⟨ws, hws, hdw⟩ := id Eb7.wld
    obtain ⟨t, wr, rfl, hT⟩ : ∃ t wr, ws = .ref t :: wr ∧ SqT K H7 t [.str fn, .int wn] := by
      cases hdw with
      | cons h1 h2 =>
        obtain ⟨t, xs, rfl, ht, hxs⟩ := h1.tup_of
        cases hxs with
        | cons h3 h4 =>
          cases h3
          cases h4 with
          | cons h5 h6 =>
            cases h5
            cases h6
            exact ⟨t, _, rfl, ht⟩
    have hw4 := (Eb7.nw _ List.mem_cons_self).2
    refine ⟨_, rfl, wl, _, _, _, rfl, rfl, SqL.of hws, at_of (j := 0) rfl rfl, t, _, _, _, rfl, rfl, hT, at_of (j := 0) rfl rfl, (by show 2 ≤ sizeLine; decide), fun q hq => ?_⟩
    have Eb8 := Eb7.new (o := .tup [.str "fun", .str fn]) hq
    have k8 : Kp [p] H7 (upd H7 q (.tup [.str "fun", .str fn])) := Kp.new hq
    have hd8 : Dp K (upd H7 q (.tup [.str "fun", .str fn])) (.ref q) (Lz.P.fn fn).data := Dp.newT hq (.cons (.str _) (.cons (.str _) .nil)) rfl
    have hws8 := k8.lst hws (fun m => Eb7.dw (sub2 _ m))
    have hT8 := k8.sqT hT
    have k8 := k7.trans k8
    generalize upd H7 q (.tup [.str "fun", .str fn]) = H8 at Eb8 k8 hd8 hws8 hT8 ⊢
    refine ⟨_, rfl, wl, _, _, _, rfl, rfl, SqL.of hws8, at_of (j := 0) rfl rfl, t, _, _, _, rfl, rfl, hT8, at_of (j := 1) rfl rfl, _, rfl, (by omega), (by omega), for_range (lo := 0) (n := wn.toNat) (fun i σ H' => ∃ (v7 : V) (ks : List Int) (v8 : Option V),
        σ = [some (.ref p), some (.ref wl), some (.str me), some (.ref tl), some (.ref st), some (.int dp), some (.int n), some v7, v8] ∧ ks.length = i ∧ (∀ k, k ∈ ks → 0 ≤ k ∧ k < 8) ∧ Kp [p] H H' ∧ PenAt H' p a ∧ Dp K H' v7 (gives (.fn fn) (ks.map .num)).data)
      ⟨.ref q, [], none, rfl, rfl, (fun k m => nomatch m), k8, Eb8.pen, hd8⟩ ?_ ?_⟩
    · rintro i σ H9 hi ⟨v7, ks, v8, rfl, hks, hk8, k9, pen9, hd9⟩
      refine ⟨_, rfl, _, rfl, p, a, 8, rfl, pen9, (by decide), (by decide), fun g H10 k10 pen10 g0 g1 => ?_⟩
      refine ⟨(by show 2 ≤ sizeLine; decide), fun q1 hq1 => ?_⟩
      have hdn : Dp K (upd H10 q1 (.tup [.str "number", .int g])) (.ref q1) (Lz.P.num g).data := Dp.newT hq1 (.cons (.str _) (.cons (.int _) .nil)) rfl
      have k11 : Kp [p] H9 (upd H10 q1 (.tup [.str "number", .int g])) := k10.trans (Kp.new hq1)
      have pen11 := pen10.new (o := .tup [.str "number", .int g]) hq1
      have hd11 := Dp.keep k11 _ _ (data_fz _) hd9
      generalize upd H10 q1 (.tup [.str "number", .int g]) = H11 at hdn k11 pen11 hd11 ⊢
      refine ⟨(by show 3 ≤ sizeLine; decide), fun q2 hq2 => ?_⟩
      refine ⟨_, ks ++ [g], _, rfl, by rw [List.length_append, hks]; rfl, ?_, k9.trans (k11.trans (Kp.new hq2)), pen11.new hq2, ?_⟩
      · intro k m
        rcases List.mem_append.mp m with m | m
        · exact hk8 k m
        · rw [List.mem_singleton.mp m]
          exact ⟨g0, g1⟩
      · rw [List.map_append]
        show Dp K _ _ (gives (.fn fn) (ks.map Lz.P.num ++ [.num g])).data
        rw [gives_snoc]
        exact op_dp hq2 (.cons hd11 (.cons hdn .nil))
    · rintro σ H9 ⟨v7, ks, v8, rfl, hks, hk8, k9, pen9, hd9⟩
      refine ⟨_, rfl, D v7 _ H9 (k9.mono sub2) pen9 hd9 (.first hme rfl (by omega) hk8)⟩
  · rintro _ H6 ⟨⟨v7, v8, rfl⟩, k6, Eb6⟩
    refine ⟨_, rfl, _, rfl, _, rfl, _, rfl, _, rfl, (by show 1 ≤ sizeLine; decide), fun c hc => ?_⟩
    have En7 := Eb6.en (n := n) hc
    have k7 : Kp [p] H6 (upd H6 c (.lst [.int n])) := Kp.new hc
    have k7 := k6.trans k7
    have hc0 : H c = none := k6.free hc (not1 (Eb6.pen.apart hc).1)
    refine ⟨_, rfl, (by show 3 ≤ sizeLine; decide), fun r hr2 => ?_⟩
    have En8 := En7.new (o := .lst [.int dp, .ref c, .ref st]) hr2
    have k8 : Kp [p] H _ := k7.trans (Kp.new (o := .lst [.int dp, .ref c, .ref st]) hr2)
    refine ⟨p, a, wl, tl, r, c, st, "any", W, things, ss, dp, n, rfl, En8, upd_same, (by omega), (by omega), .inr (.inr rfl), fun v d H9 n' ss' k9 pen9 _ _ hd9 hdr => ?_⟩
    refine D v d H9 (Kp.drop (k8.mono sub2) hc0 k9 fun x m => ?_) pen9 hd9 (.part dp0 dp1 n0 n1 hdr)
    rcases List.mem_cons.mp m with e | m
    · exact .inl (by rw [e]; exact List.mem_cons_self)
    · rcases List.mem_cons.mp m with e | m
      · exact .inr e
      · exact .inl (by rw [List.mem_singleton.mp m]; exact List.mem_cons_of_mem _ List.mem_cons_self)
end
end Lz

set_option Elab.async false
set_option linter.all false
set_option maxRecDepth 100000
set_option maxHeartbeats 4000000
namespace Lz
open PySem PySem.Spec PyProof.Rows L2
def spNames (K : PySem.W.Frag) : Sp := fun vs H Q _ => ∃ (p a : Addr) (m : Nat), vs = [.ref p, .int m] ∧ PenAt H p a ∧ m ≤ 26 ∧
  ∀ (l : Addr) (xs : List Str) (H' : Hp), Kp [p] H H' → PenAt H' p a → H l = none → H' l = some (.lst (xs.map V.str)) → xs.length = m → (∀ x, x ∈ xs → nmOk x) → xs.Nodup → Q (.ref l) H'
section
variable {P : Program} {w : World} {K : PySem.W.Frag} {mg : Str → Option Value} {base : Heap} {f : Addr} {fd : FuncData}
abbrev sLNames : Stmt := topS 34
theorem scLNames : FnScope ["_law_pen_here", "_law_many", "_law_letters", "_law_word", "_law_at", "_law_first", "_law_by", "_law_k"] ["_law_pen_here", "_law_many"] (defScope sLNames) := ⟨rfl, rfl, rfl, by decide +kernel, rfl, by decide +kernel, by decide +kernel⟩
theorem ok_names (F : Fun K "_law_names" "_law_names" sLNames f fd) (B : Bt mg) (CLDraw : C8.Cal P w K mg base 1 "_law_draw" (spDraw K) []) : FnOk P w K mg base CX0 2 f fd ["_law_pen_here", "_law_many"] (spNames K) := by
  have ml := B.len
  have mrange := B.range
  refine F.ok scLNames (fun vs H Q E h => ?_) (fun cdv A outer s H vs Q E hr h => ?_)
  · obtain ⟨p, a, m, rfl, _⟩ := h
    rfl
  obtain ⟨p, a, m, rfl, hpen, hm, k⟩ := h
  refine ⟨_, (pss_cons (ps_set (i := 2) scLNames.nd rfl (.inr rfl) pe_str)
    (pss_cons (ps_set (i := 3) scLNames.nd rfl (.inr rfl) (pe_join pe_str (pe_lc (own := [("_law_k", 7)]) rfl scLNames.nd (pi_range1 (by rfl) mrange (pa_cons (pe_op op_add pe_int (C8.pe_c CLDraw hr (by first | decide | omega) (by rfl) (pa_cons (pv 0) (pa_cons pe_int pa_nil)))) pa_nil)) (blkOk_by (N := ["_law_pen_here", "_law_many", "_law_letters", "_law_word", "_law_at", "_law_first", "_law_by", "_law_k"]) (sc := defScope sLNames) (by decide +kernel)) (fun _ _ _ _ _ => (pg_name (i := 7) scLNames.nd rfl (.inl rfl))) (fun _ _ _ _ _ => pts_nil) (fun _ _ _ _ _ => (pe_ix ix_str (pv 2) (C8.pe_c CLDraw hr (by first | decide | omega) (by rfl) (pa_cons (pv 0) (pa_cons pe_int pa_nil))) (fun _ _ => rfl))))))
    (pss_cons (ps_set (i := 4) scLNames.nd rfl (.inr rfl) (C8.pe_c CLDraw hr (by first | decide | omega) (by rfl) (pa_cons (pv 0) (pa_cons (pe_callB call_len_str (by rfl) ml PySem.boot_len (pa_cons (pv 3) pa_nil)) pa_nil))))
    (pss_cons (ps_set (i := 5) scLNames.nd rfl (.inr rfl) (C8.pe_c CLDraw hr (by first | decide | omega) (by rfl) (pa_cons (pv 0) (pa_cons pe_int pa_nil))))
    (pss_cons (ps_set (i := 6) scLNames.nd rfl (.inr rfl) (pe_ix (ix_listK (K := K) rfl) (pe_lst (pa_cons pe_int (pa_cons pe_int (pa_cons pe_int (pa_cons pe_int (pa_cons pe_int (pa_cons pe_int pa_nil))))))) (C8.pe_c CLDraw hr (by first | decide | omega) (by rfl) (pa_cons (pv 0) (pa_cons pe_int pa_nil))) (fun _ _ => rfl)))
    (pss_one (ps_ret (pe_lc (own := [("_law_k", 7)]) rfl scLNames.nd (pi_range1 (by rfl) mrange (pa_cons (pv 1) pa_nil)) (blkOk_by (N := ["_law_pen_here", "_law_many", "_law_letters", "_law_word", "_law_at", "_law_first", "_law_by", "_law_k"]) (sc := defScope sLNames) (by decide +kernel)) (fun _ _ _ _ _ => (pg_name (i := 7) scLNames.nd rfl (.inl rfl))) (fun _ _ _ _ _ => pts_nil) (fun _ _ _ _ _ => (pe_op op_add_str (pe_op op_add_str (pe_slice sl_str (pv 3) po_none (po_some (pv 4))) (pe_ix ix_str (pv 2) (pe_op op_mod (pe_op op_add (pv 5) (pe_op op_mul (pv 6) (pv 7))) pe_int) (fun _ _ => rfl))) (pe_slice sl_str (pv 3) (po_some (pe_op op_add (pv 4) pe_int)) po_none))))))))))), ?_⟩
  -- letters; the word
  refine ⟨⟨_, rfl⟩, ⟨_, rfl, p, a, 8, rfl, hpen, by decide, by decide, fun r H1 k1 pen1 r0 r1 => ?_⟩⟩
  refine ⟨_, _, rfl, rfl, _, rfl, (by omega), (by omega), fun D hD => ?_⟩
  obtain ⟨hDp, hDa⟩ := pen1.apart hD
  have hD0 : H D = none := k1.free hD (not1 hDp)
  refine lc_range (lo := 0) (n := (1 + r).toNat) (fun i H' => Kp [p] H H' ∧ PenAt H' p a ∧ ∃ cs : List Nat, H' D = some (.lst ((cs.map one).map V.str)) ∧ cs.length = i ∧ ∀ c, c ∈ cs → 97 ≤ c ∧ c ≤ 122)
    ⟨k1.mut hD0, pen1.new hD, [], upd_same, rfl, fun c h => nomatch h⟩ (fun i H2 hi ⟨kk, pn, cs, hc, hl, hcs⟩ => ?_) (fun H2 ⟨kk, pn, cs, hc, hl, hcs⟩ => ?_)
  · refine ⟨rfl, ?_⟩
    refine ⟨_, rfl, _, rfl, p, a, 26, rfl, pn, by decide, by decide, fun r2 H3 k3 pen3 r20 r21 => ?_⟩
    refine ⟨_, _, _, rfl, rfl, letters_len, letters_at r20 r21, ?_⟩
    have hc3 : H3 D = some (.lst ((cs.map one).map V.str)) := k3.lst hc (not1 hDp)
    have hc4 : (cs.map one).map V.str ++ [V.str (one (97 + r2.toNat))] = ((cs ++ [97 + r2.toNat]).map one).map V.str := by
      rw [List.map_append, List.map_append]
      rfl
    refine ⟨_, hc3, (by rw [List.length_map, List.length_map]; exact small1000 (by omega)), (kk.trans k3).mut hD0, pen3.mut hDp hDa, cs ++ [97 + r2.toNat], Eq.trans upd_same (congrArg (fun z => some (HO.lst z)) hc4), by rw [List.length_append, List.length_singleton, hl], fun c hcm => ?_⟩
    rcases List.mem_append.mp hcm with q | q
    · exact hcs c q
    · rw [List.mem_singleton.mp q]
      omega
  · have hz := join_ones cs
    have hlen : cs.length = (1 + r).toNat := hl
    refine ⟨_, D, _, rfl, rfl, .inl (SqL.of hc), (by rw [sum_ones, List.length_map]; show cs.length + cs.length * 0 ≤ _; omega), ?_⟩
    generalize hword : Txt.join ("" : Str) (cs.map one) = word at hz
    have hwl : word.length = cs.length := by rw [str_len, hz]
    have hws : word.length ≤ sizeLine := by rw [hwl]; exact Nat.le_of_lt (small1000 (by omega))
    -- at, first, by
    refine ⟨_, rfl, _, rfl, _, rfl, hws, p, a, _, rfl, pn, (by omega), (by omega), fun kat H3 k3 pen3 q0 q1 => ?_⟩
    refine ⟨_, rfl, p, a, 26, rfl, pen3, (by omega), (by decide), fun fi H4 k4 pen4 f0 f1 => ?_⟩
    refine ⟨(by show 6 ≤ sizeLine; decide), fun lb hlb => ?_⟩
    have hl5 : (upd H4 lb (.lst [.int 1, .int 3, .int 5, .int 7, .int 9, .int 11])) lb = some (.lst [.int 1, .int 3, .int 5, .int 7, .int 9, .int 11]) := upd_same
    have k5 := ((kk.trans k3).trans k4).trans (Kp.new (S := [p]) (o := .lst [.int 1, .int 3, .int 5, .int 7, .int 9, .int 11]) hlb)
    refine ⟨_, rfl, p, a, 6, rfl, pen4.new hlb, (by omega), (by decide), fun bi H6 k6 pen6 b0 b1 => ?_⟩
    have hl6 := k6.lst hl5 (not1 (pen4.apart hlb).1)
    obtain ⟨b, hb, hb6⟩ : ∃ b : Nat, ([.int 1, .int 3, .int 5, .int 7, .int 9, .int 11] : List V)[bi.toNat]? = some (.int (b : Int)) ∧ (b = 1 ∨ b = 3 ∨ b = 5 ∨ b = 7 ∨ b = 9 ∨ b = 11) := by
      have h0 : bi.toNat < 6 := by omega
      generalize bi.toNat = j at h0
      match j, h0 with
      | 0, _ => exact ⟨1, rfl, by omega⟩
      | 1, _ => exact ⟨3, rfl, by omega⟩
      | 2, _ => exact ⟨5, rfl, by omega⟩
      | 3, _ => exact ⟨7, rfl, by omega⟩
      | 4, _ => exact ⟨9, rfl, by omega⟩
      | 5, _ => exact ⟨11, rfl, by omega⟩
    refine ⟨lb, _, _, _, rfl, rfl, SqL.of hl6, at_of (j := bi.toNat) (by omega) hb, ?_⟩
    have k7 := k5.trans k6
    -- the names
    refine ⟨_, rfl, _, rfl, (by omega), (by omega), fun E1 hE => ?_⟩
    obtain ⟨hEp, hEa⟩ := pen6.apart hE
    have hE0 : H E1 = none := k7.free hE (not1 hEp)
    obtain ⟨ka, rfl⟩ : ∃ n : Nat, kat = (n : Int) := ⟨kat.toNat, by omega⟩
    obtain ⟨f, rfl⟩ : ∃ n : Nat, fi = (n : Int) := ⟨fi.toNat, by omega⟩
    refine lc_range (lo := 0) (n := (m : Int).toNat) (fun i H' => Kp [p] H H' ∧ PenAt H' p a ∧ H' E1 = some (.lst ((namesOf cs ka f b i).map V.str)))
      ⟨k7.mut hE0, pen6.new hE, upd_same⟩ (fun i H2 hi ⟨kk, pn, hc⟩ => ?_) (fun H2 ⟨kk, pn, hc⟩ => ?_)
    · refine ⟨rfl, ?_⟩
      refine ⟨_, rfl, _, rfl, _, rfl, _, rfl, hws, _, rfl, _, rfl, _, rfl, _, rfl, _, _, rfl, rfl, .inl ⟨by omega, by omega⟩, _, _, rfl, rfl, _, _, rfl, rfl, (by show (0 : Int) < 26; decide), ?_⟩
      have g0 : 0 ≤ ((f : Int) + (b : Int) * (0 + (i : Int))) % 26 := Int.emod_nonneg _ (by omega)
      have g1 : ((f : Int) + (b : Int) * (0 + (i : Int))) % 26 < 26 := Int.emod_lt_of_pos _ (by omega)
      have gz : (97 + (((f : Int) + (b : Int) * (0 + (i : Int))) % 26).toNat) = 97 + (f + b * i) % 26 := by
        have e : ((f : Int) + (b : Int) * (0 + (i : Int))) % 26 = (((f + b * i) % 26 : Nat) : Int) := by
          rw [Int.zero_add]
          norm_cast
        rw [e]
        omega
      have hw8 : word.length ≤ 8 := by omega
      have c1 := cutS_length word none (some (ka : Int))
      have c2 := cutS_length word (some ((ka : Int) + 1)) none
      have o1 : (⟨#[97 + (((f : Int) + (b : Int) * (0 + (i : Int))) % 26).toNat]⟩ : Str).length = 1 := rfl
      refine ⟨_, _, _, rfl, rfl, letters_len, letters_at g0 g1, _, _, rfl, rfl, (by rw [o1]; exact Nat.le_of_lt (small1000 (by omega))), ?_⟩
      refine ⟨_, rfl, _, rfl, _, _, rfl, rfl, _, rfl, _, rfl, hws, _, _, rfl, rfl, ?_, ?_⟩
      · rw [Str.length_append, o1]
        exact Nat.le_of_lt (small1000 (by omega))
      · refine ⟨_, hc, (by rw [List.length_map, namesOf_len]; exact small1000 (by omega)), kk.mut hE0, pn.mut hEp hEa, ?_⟩
        rw [upd_same, nameOf_eq hz, gz]
        show some (HO.lst (_ ++ [V.str _])) = _
        unfold namesOf
        rw [List.range_succ, List.map_append, List.map_append]
        rfl
    · have e : (m : Int).toNat = m := by omega
      rw [e] at hc
      have hcs1 : 1 ≤ cs.length := by omega
      exact k E1 _ H2 kk pn hE0 hc (namesOf_len _ _ _ _ _) (namesOf_ok hcs1 (by omega) (by omega) hcs) (namesOf_nodup hm hb6)
end
end Lz

set_option Elab.async false
set_option linter.all false
set_option maxRecDepth 100000
set_option maxHeartbeats 8000000
namespace Lz
open PySem PySem.Spec PyProof.Rows L2
theorem cutV_to (xs : List V) (k : Nat) : cutV xs none (some (k : Int)) = xs.take k := by
  unfold cutV
  rw [HT.sIx_none, HT.sIx_nat, List.drop_zero, Nat.sub_zero]
  by_cases h : k ≤ xs.length
  · rw [Nat.min_eq_left h]
  · rw [Nat.min_eq_right (by omega), List.take_of_length_le (Nat.le_refl _), List.take_of_length_le (by omega)]
theorem cutV_from (xs : List V) (k : Nat) : cutV xs (some (k : Int)) none = xs.drop k := by
  unfold cutV
  rw [HT.sIx_none, HT.sIx_nat]
  by_cases h : k ≤ xs.length
  · rw [Nat.min_eq_left h]
    exact List.take_of_length_le (by rw [List.length_drop]; exact Nat.le_refl _)
  · rw [Nat.min_eq_right (by omega), List.drop_eq_nil_of_le (Nat.le_refl _), List.drop_eq_nil_of_le (by omega)]
    exact List.take_nil
def spPen (K : PySem.W.Frag) : Sp := fun vs H Q _ => ∃ (s : Addr) (ns : List Int), vs = [.ref s] ∧ SqL K H s (ns.map V.int) ∧ ns.length ≤ 63 ∧ ∀ (p a : Addr) (H' : Hp), Same H H' → H p = none → H a = none → PenAt H' p a → Q (.ref p) H'
def spProgram (K : PySem.W.Frag) : Sp := fun vs H Q _ => ∃ (p a : Addr), vs = [.ref p] ∧ PenAt H p a ∧ ∀ (v : V) (fs : List Fn) (d : Lz.P) (H' : Hp), Kp [p] H H' → PenAt H' p a → Dp K H' v (progD fs d) → Prog fs d → Q v H'
theorem fd_fz : ∀ fs : List Fn, fzAll (fs.map fD) = true
  | [] => rfl
  | f :: r => by
    show ((true && (fzAll (f.2.1.map .str) && (fz f.2.2.data && true))) && fzAll (r.map fD)) = true
    rw [fd_fz r, strs_fz, data_fz]
    rfl
section
variable {P : Program} {w : World} {K : PySem.W.Frag} {mg : Str → Option Value} {base : Heap} {f : Addr} {fd : FuncData}
abbrev sLPen : Stmt := topS 32
theorem scLPen : FnScope ["_law_script"] ["_law_script"] (defScope sLPen) := ⟨rfl, rfl, rfl, by decide +kernel, rfl, by decide +kernel, by decide +kernel⟩
theorem ok_pen (F : Fun K "_law_pen" "_law_pen" sLPen f fd) (B : Bt mg) : FnOk P w K mg base CX0 1 f fd ["_law_script"] (spPen K) := by
  have mlist := B.list
  refine F.ok scLPen (fun vs H Q E h => ?_) (fun cdv A outer s H vs Q E hr h => ?_)
  · obtain ⟨s, ns, rfl, _⟩ := h
    rfl
  obtain ⟨s0, ns, rfl, hS, hlen, k⟩ := h
  refine ⟨_, (pss_one (ps_ret (pe_lst (pa_cons (pe_callTy (call_listK (K := K) rfl) (by rfl) mlist (by decide +kernel) (pa_cons (pe_slice (sl_listK (K := K) rfl) (pv 0) po_none (po_some pe_int)) pa_nil)) (pa_cons pe_int (pa_cons pe_int pa_nil)))))), ?_⟩
  refine ⟨_, rfl, _, rfl, s0, _, rfl, hS, fun l hl => ?_⟩
  have s1 : Same H (upd H l (.lst (cutV (ns.map V.int) none (some 63)))) := same_new hl
  have ec : cutV (ns.map V.int) none (some 63) = ns.map V.int := by
    have := cutV_to (ns.map V.int) 63
    rw [List.take_of_length_le (by rw [List.length_map]; exact hlen)] at this
    exact this
  refine ⟨l, _, rfl, .inl (SqL.of upd_same), fun a ha => ?_⟩
  have s2 := same_new (o := .lst (cutV (ns.map V.int) none (some 63))) ha
  refine ⟨(by show 3 ≤ sizeLine; decide), fun p hp => ?_⟩
  have s3 := same_new (o := .lst [.ref a, .int 0, .int 0]) hp
  have hap : a ≠ p := fun e => by
    rw [← e, upd_same] at hp
    cases hp
  refine k p a _ (s1.trans (s2.trans s3)) ((s1.trans s2).free hp) (s1.free ha) ⟨ns, 0, 0, upd_same, ?_, hlen, by omega, by omega⟩
  rw [upd_ne hap, upd_same, ec]
abbrev sLProgram : Stmt := topS 43
theorem scLProgram : FnScope ["_law_pen_here", "_law_names_here", "_law_world", "_law_functions", "_law_name", "_law_wanted", "_law_stock", "_law_things"] ["_law_pen_here"] (defScope sLProgram) := ⟨rfl, rfl, rfl, by decide +kernel, rfl, by decide +kernel, by decide +kernel⟩
theorem ok_program {j : Nat} (hj : 3 ≤ j) (F : Fun K "_law_program" "_law_program" sLProgram f fd) (B : Bt mg) (CLDraw : C8.Cal P w K mg base 1 "_law_draw" (spDraw K) []) (CLNames : C8.Cal P w K mg base 2 "_law_names" (spNames K) [])
    (CLBody : C8.Cal P w K mg base j "_law_body" (spBody K) []) : FnOk P w K mg base CX0 (j + 1) f fd ["_law_pen_here"] (spProgram K) := by
  have mtup := B.tuple
  refine F.ok scLProgram (fun vs H Q E h => ?_) (fun cdv A outer s H vs Q E hr h => ?_)
  · obtain ⟨p, a, rfl, _⟩ := h
    rfl
  obtain ⟨p, a, rfl, pen0, D⟩ := h
  refine ⟨_, (pss_cons (ps_set (i := 1) scLProgram.nd rfl (.inl rfl) (C8.pe_c CLNames hr (by first | decide | omega) (by rfl) (pa_cons (pv 0) (pa_cons (pe_ix (ix_listK (K := K) rfl) (pe_lst (pa_cons pe_int (pa_cons pe_int (pa_cons pe_int (pa_cons pe_int (pa_cons pe_int (pa_cons pe_int (pa_cons pe_int (pa_cons pe_int pa_nil))))))))) (C8.pe_c CLDraw hr (by first | decide | omega) (by rfl) (pa_cons (pv 0) (pa_cons pe_int pa_nil))) (fun _ _ => rfl)) pa_nil))))
    (pss_cons (ps_setLc (i := 2) (own := [("_law_name", 4)]) rfl scLProgram.nd rfl rfl (sw_true rfl rfl rfl (by decide +kernel)) (pi_listK (K := K) rfl (pv 1)) (blkOk_by (N := ["_law_pen_here", "_law_names_here", "_law_world", "_law_functions", "_law_name", "_law_wanted", "_law_stock", "_law_things"]) (sc := defScope sLProgram) (by decide +kernel)) (fun _ _ _ _ _ => (pg_name (i := 4) scLProgram.nd rfl (.inl rfl))) (fun _ _ _ _ _ => pts_nil) (fun _ _ _ _ _ => (pe_tup (pa_cons (pv 4) (pa_cons (pe_ix (ix_listK (K := K) rfl) (pe_lst (pa_cons pe_int (pa_cons pe_int (pa_cons pe_int (pa_cons pe_int (pa_cons pe_int (pa_cons pe_int (pa_cons pe_int pa_nil)))))))) (C8.pe_c CLDraw hr (by first | decide | omega) (by rfl) (pa_cons (pv 0) (pa_cons pe_int pa_nil))) (fun _ _ => rfl)) pa_nil)))))
    (pss_cons (ps_set (i := 3) scLProgram.nd rfl (.inl rfl) (pe_lst pa_nil))
    (pss_cons (ps_for PassesOwn.never rfl (pi_listK (K := K) rfl (pv 2)) (pg_tupK (K := K) (n := 2) rfl rfl (pgs_cons (pg_name (i := 4) scLProgram.nd rfl (.inl rfl)) (pgs_cons (pg_name (i := 5) scLProgram.nd rfl (.inl rfl)) pgs_nil))) (pss_cons (ps_set (i := 6) scLProgram.nd rfl (.inl rfl) (C8.pe_c CLNames hr (by first | decide | omega) (by rfl) (pa_cons (pv 0) (pa_cons pe_int pa_nil))))
    (pss_cons (ps_set (i := 7) scLProgram.nd rfl (.inl rfl) (pe_slice (sl_listK (K := K) rfl) (pv 6) po_none (po_some (pv 5))))
    (pss_one (ps_expr (pe_bmK (K := K) rfl PySem.F.plainAttrs_list PySem.F.slot_list_append PySem.F.type_list_append mt_append (pv 3) (pa_cons (pe_tup (pa_cons (pv 4) (pa_cons (pe_callTy (call_tupleK (K := K) rfl) (by rfl) mtup (by decide +kernel) (pa_cons (pv 7) pa_nil)) (pa_cons (C8.pe_c CLBody hr (by first | decide | omega) (by rfl) (pa_cons (pv 0) (pa_cons (pv 2) (pa_cons (pv 4) (pa_cons (pv 7) (pa_cons (pe_slice (sl_listK (K := K) rfl) (pv 6) (po_some (pv 5)) po_none) pa_nil)))))) pa_nil)))) pa_nil)))))))
    (pss_one (ps_ret (pe_tup (pa_cons (pe_callTy (call_tupleK (K := K) rfl) (by rfl) mtup (by decide +kernel) (pa_cons (pv 3) pa_nil)) (pa_cons (C8.pe_c CLBody hr (by first | decide | omega) (by rfl) (pa_cons (pv 0) (pa_cons (pv 2) (pa_cons pe_str (pa_cons (pe_lst pa_nil) (pa_cons (C8.pe_c CLNames hr (by first | decide | omega) (by rfl) (pa_cons (pv 0) (pa_cons pe_int pa_nil))) pa_nil)))))) pa_nil))))))))), ?_⟩
  -- the functions' names
  refine ⟨_, rfl, (by show 8 ≤ sizeLine; decide), fun l hl => ?_⟩
  have pen1 := pen0.new (o := .lst [.int 0, .int 1, .int 2, .int 3, .int 4, .int 2, .int 3, .int 8]) hl
  have hl1 : (upd H l (.lst [.int 0, .int 1, .int 2, .int 3, .int 4, .int 2, .int 3, .int 8])) l = some (.lst [.int 0, .int 1, .int 2, .int 3, .int 4, .int 2, .int 3, .int 8]) := upd_same
  have k1 : Kp [p] H (upd H l (.lst [.int 0, .int 1, .int 2, .int 3, .int 4, .int 2, .int 3, .int 8])) := Kp.new hl
  refine ⟨_, rfl, p, a, 8, rfl, pen1, (by decide), (by decide), fun g H2 k2 pen2 g0 g1 => ?_⟩
  have hl2 := k2.lst hl1 (not1 (pen0.apart hl).1)
  have k2 := k1.trans k2
  obtain ⟨m, hm, hm8⟩ : ∃ m : Nat, ([.int 0, .int 1, .int 2, .int 3, .int 4, .int 2, .int 3, .int 8] : List V)[g.toNat]? = some (.int (m : Int)) ∧ m ≤ 8 := by
    have h0 : g.toNat < 8 := by omega
    generalize g.toNat = j at h0
    match j, h0 with
    | 0, _ => exact ⟨0, rfl, by decide⟩
    | 1, _ => exact ⟨1, rfl, by decide⟩
    | 2, _ => exact ⟨2, rfl, by decide⟩
    | 3, _ => exact ⟨3, rfl, by decide⟩
    | 4, _ => exact ⟨4, rfl, by decide⟩
    | 5, _ => exact ⟨2, rfl, by decide⟩
    | 6, _ => exact ⟨3, rfl, by decide⟩
    | 7, _ => exact ⟨8, rfl, by decide⟩
  refine ⟨l, _, _, _, rfl, rfl, SqL.of hl2, at_of (j := g.toNat) (by omega) hm, ?_⟩
  refine ⟨p, a, m, rfl, pen2, (by omega), fun ln xs H3 k3 pen3 hln0 hln3 hxl hxo hxn => ?_⟩
  have hlnH : H ln = none := k2.free hln0 (not1 (pen2.apart hln0).1)
  have k3 := k2.trans k3
  have nlnp := (pen2.apart hln0).1
  have nlna := (pen2.apart hln0).2
  clear hl1 hl2 k1 k2 pen1 pen2 hl hln0
  -- the world
  refine ⟨_, rfl, ln, rfl, ⟨_, SqL.of hln3⟩, fun wl hwl => ?_⟩
  have nwp := (pen3.apart hwl).1
  have nwa := (pen3.apart hwl).2
  have nwl : ln ≠ wl := ne_of_none hln3 hwl
  have hwlH : H wl = none := k3.free hwl (not1 nwp)
  refine lc_list (K := K) (a := ln) (xs := xs.map V.str) (fun i H' => Kp [p] H H' ∧ PenAt H' p a ∧ H' ln = some (.lst (xs.map V.str)) ∧ ∃ (ws : List V) (ks : List Int), H' wl = some (.lst ws) ∧ ks.length = i ∧ (∀ k, k ∈ ks → 0 ≤ k ∧ k ≤ 4) ∧ DpAll K H' ws (((xs.take i).zip ks).map wD))
    ⟨k3.mut hwlH, pen3.new hwl, by rw [upd_ne nwl]; exact hln3, [], [], upd_same, rfl, (fun k m => nomatch m), .nil⟩ (fun i H' _ ⟨_, _, h, _⟩ => SqL.of h) ?_ ?_
  · rintro i x H4 hi ⟨k4, pen4, hln4, ws, ks, hws, hks, hk4, hdw⟩
    obtain ⟨nx, hnx, rfl⟩ : ∃ nx, xs[i]? = some nx ∧ x = V.str nx := by
      rw [List.getElem?_map] at hi
      cases e : xs[i]? with
      | none => rw [e] at hi; cases hi
      | some y => rw [e] at hi; exact ⟨y, rfl, (Option.some.inj hi).symm⟩
    have hil := (List.getElem?_eq_some_iff.mp hnx).1
    refine ⟨rfl, ?_⟩
    refine ⟨_, rfl, (by show 7 ≤ sizeLine; decide), fun l hl => ?_⟩
    have pen5 := pen4.new (o := .lst [.int 1, .int 0, .int 1, .int 2, .int 2, .int 3, .int 4]) hl
    have hl5 : (upd H4 l (.lst [.int 1, .int 0, .int 1, .int 2, .int 2, .int 3, .int 4])) l = some (.lst [.int 1, .int 0, .int 1, .int 2, .int 2, .int 3, .int 4]) := upd_same
    have k5 : Kp [p] H4 (upd H4 l (.lst [.int 1, .int 0, .int 1, .int 2, .int 2, .int 3, .int 4])) := Kp.new hl
    refine ⟨_, rfl, p, a, 7, rfl, pen5, (by decide), (by decide), fun g H6 k6 pen6 g0 g1 => ?_⟩
    have hl6 := k6.lst hl5 (not1 (pen4.apart hl).1)
    have k6 := k5.trans k6
    obtain ⟨z, hz, hz4⟩ : ∃ z : Int, ([.int 1, .int 0, .int 1, .int 2, .int 2, .int 3, .int 4] : List V)[g.toNat]? = some (.int z) ∧ 0 ≤ z ∧ z ≤ 4 := by
      have h0 : g.toNat < 7 := by omega
      generalize g.toNat = j at h0
      match j, h0 with
      | 0, _ => exact ⟨_, rfl, by decide⟩
      | 1, _ => exact ⟨_, rfl, by decide⟩
      | 2, _ => exact ⟨_, rfl, by decide⟩
      | 3, _ => exact ⟨_, rfl, by decide⟩
      | 4, _ => exact ⟨_, rfl, by decide⟩
      | 5, _ => exact ⟨_, rfl, by decide⟩
      | 6, _ => exact ⟨_, rfl, by decide⟩
    refine ⟨l, _, _, _, rfl, rfl, SqL.of hl6, at_of (j := g.toNat) (by omega) hz, (by show 2 ≤ sizeLine; decide), fun q hq => ?_⟩
    have k7 := k6.trans (Kp.new (S := [p]) (o := .tup [.str nx, .int z]) hq)
    have hws7 := k7.lst hws (not1 nwp)
    have hln7 := k7.lst hln4 (not1 nlnp)
    have hdw7 := Dp.keepAll k7 _ _ (wds_fz _) hdw
    have hr : Dp K (upd H6 q (.tup [.str nx, .int z])) (.ref q) (wD (nx, z)) := .tup (.inl (.inl upd_same)) (.cons (.str _) (.cons (.int _) .nil))
    have pen7 := pen6.new (o := .tup [.str nx, .int z]) hq
    generalize upd H6 q (.tup [.str nx, .int z]) = H7 at k7 hws7 hln7 hdw7 hr pen7 ⊢
    have hwl8 : ws.length ≤ 8 := by
      rw [hdw.length, List.length_map, List.length_zip, List.length_take]
      omega
    have kput : Kp [wl] H7 (upd H7 wl (.lst (ws ++ [.ref q]))) := Kp.put hws7 List.mem_cons_self
    refine ⟨_, hws7, small1000 (by omega), (k4.trans k7).mut hwlH, pen7.mut nwp nwa, by rw [upd_ne nwl]; exact hln7, ws ++ [.ref q], ks ++ [z], upd_same, by rw [List.length_append, hks]; rfl, ?_, ?_⟩
    · intro k m
      rcases List.mem_append.mp m with m | m
      · exact hk4 k m
      · rw [List.mem_singleton.mp m]
        exact hz4
    · have e : ((xs.take (i + 1)).zip (ks ++ [z])).map wD = ((xs.take i).zip ks).map wD ++ [wD (nx, z)] := by
        rw [List.take_add_one, hnx]
        show ((xs.take i ++ [nx]).zip (ks ++ [z])).map wD = _
        rw [List.zip_append (by rw [List.length_take]; omega), List.map_append]
        rfl
      rw [e]
      exact (Dp.keepAll kput _ _ (wds_fz _) hdw7).append (.one (Dp.keep kput _ _ rfl hr))
  · rintro H4 ⟨k4, pen4, hln4, ws, ks, hws, hks, hk4, hdw⟩
    rw [List.length_map] at hks hdw
    rw [List.take_length] at hdw
    obtain ⟨W, hW⟩ : ∃ W, W = xs.zip ks := ⟨_, rfl⟩
    rw [← hW] at hdw
    have hWm : W.map (·.1) = xs := by rw [hW]; exact List.map_fst_zip (by omega)
    have hWl : W.length = xs.length := by have := congrArg List.length hWm; rw [List.length_map] at this; exact this
    have hWo : ∀ f, f ∈ W → nmOk f.1 ∧ 0 ≤ f.2 ∧ f.2 ≤ 4 := fun f m => by
      rw [hW] at m
      exact ⟨hxo _ (List.of_mem_zip m).1, hk4 _ (List.of_mem_zip m).2⟩
    have hwt : WAt K H4 wl W := ⟨ws, hws, hdw⟩
    clear hln4 k3 pen3 hln3 hwl nwl
    -- the functions
    refine ⟨Nat.zero_le _, fun lf hlf => ?_⟩
    have pen5 := pen4.new (o := .lst []) hlf
    have nfp := (pen4.apart hlf).1
    have nfa := (pen4.apart hlf).2
    have nfw : wl ≠ lf := ne_of_none hws hlf
    have hlfH : H lf = none := k4.free hlf (not1 nfp)
    have k5 : Kp [p] H (upd H4 lf (.lst [])) := k4.mut hlfH
    have hwt5 : WAt K (upd H4 lf (.lst [])) wl W := hwt.keep (Kp.new (S := []) hlf) (fun m => nomatch m)
    have hf5 : (upd H4 lf (.lst [])) lf = some (.lst []) := upd_same
    have hws5 : (upd H4 lf (.lst [])) wl = some (.lst ws) := by rw [upd_ne nfw]; exact hws
    generalize upd H4 lf (.lst []) = H5 at pen5 k5 hwt5 hf5 hws5 ⊢
    refine ⟨_, rfl, wl, rfl, ⟨_, SqL.of hws5⟩, for_list (K := K) (a := wl) (xs := ws) (fun i σ H' => ∃ (fs : List Fn) (rs : List V) (v4 v5 v6 v7 : Option V), σ = [some (.ref p), some (.ref ln), some (.ref wl), some (.ref lf), v4, v5, v6, v7] ∧ Kp [p] H H' ∧ PenAt H' p a ∧ WAt K H' wl W ∧ H' wl = some (.lst ws) ∧
        H' lf = some (.lst rs) ∧ DpAll K H' rs (fs.map fD) ∧ fs.map (·.1) = (W.take i).map (·.1) ∧ ∀ f, f ∈ fs → FnDr W f)
      ⟨[], [], none, none, none, none, rfl, k5, pen5, hwt5, hws5, hf5, .nil, rfl, (fun f m => nomatch m)⟩ (fun i σ H' _ ⟨_, _, _, _, _, _, _, _, _, _, h, _⟩ => SqL.of h) ?_ ?_⟩
    · rintro i x σ H6 hi ⟨fs, rs, v4, v5, v6, v7, rfl, k6, pen6, hwt6, hws6, hf6, hd6, hfs, hfd⟩
      obtain ⟨ws', hws', hdw'⟩ := id hwt6
      obtain rfl : ws' = ws := by
        have := hws'.symm.trans hws6
        injection this with e
        exact HO.lst.inj e
      obtain ⟨dd, hdd, hdx⟩ := hdw'.at hi
      rw [List.getElem?_map] at hdd
      obtain ⟨⟨fn, wz⟩, hfw, rfl⟩ : ∃ fw, W[i]? = some fw ∧ dd = wD fw := by
        cases e : W[i]? with
        | none => rw [e] at hdd; cases hdd
        | some y => rw [e] at hdd; exact ⟨y, rfl, (Option.some.inj hdd).symm⟩
      have hmem : (fn, wz) ∈ W := List.mem_of_getElem? hfw
      obtain ⟨hfn, hz0, hz4⟩ := hWo _ hmem
      obtain ⟨n, rfl⟩ : ∃ n : Nat, wz = (n : Int) := ⟨wz.toNat, by have : 0 ≤ wz := hz0; omega⟩
      have hn4 : n ≤ 4 := by have : (n : Int) ≤ 4 := hz4; omega
      obtain ⟨t, xs', rfl, ht, hxs⟩ := hdx.tup_of
      obtain rfl : xs' = [.str fn, .int n] := by
        cases hxs with
        | cons h1 h2 =>
          cases h1
          cases h2 with
          | cons h3 h4 =>
            cases h3
            cases h4
            rfl
      refine ⟨t, _, rfl, ht, rfl, _, _, rfl, _, _, rfl, rfl, ?_⟩
      -- the stock, the things
      refine ⟨_, rfl, p, a, 26, rfl, pen6, (by decide), fun ls stk H7 k7 pen7 hls0 hls7 hsl hso hsn => ?_⟩
      have hstk : Stock stk := ⟨hsl, hsn, hso⟩
      have nlsp := (pen6.apart hls0).1
      have nlsa := (pen6.apart hls0).2
      have nlsw : wl ≠ ls := ne_of_none hws6 hls0
      have nlsf : lf ≠ ls := ne_of_none hf6 hls0
      refine ⟨_, rfl, _, rfl, _, rfl, ls, _, rfl, SqL.of hls7, fun lt hlt => ?_⟩
      rw [cutV_to, ← List.map_take]
      have pen8 := pen7.new (o := .lst ((stk.take n).map V.str)) hlt
      have k8 : Kp [p] H6 (upd H7 lt (.lst ((stk.take n).map V.str))) := k7.trans (Kp.new hlt)
      have hls8 : (upd H7 lt (.lst ((stk.take n).map V.str))) ls = some (.lst (stk.map V.str)) := by rw [upd_ne (ne_of_none hls7 hlt)]; exact hls7
      have hlt8 : (upd H7 lt (.lst ((stk.take n).map V.str))) lt = some (.lst ((stk.take n).map V.str)) := upd_same
      have nltp := (pen7.apart hlt).1
      generalize upd H7 lt (.lst ((stk.take n).map V.str)) = H8 at pen8 k8 hls8 hlt8 ⊢
      have hwt8 := hwt6.keep k8 (not1 (fun e => nwp e))
      have hws8 := k8.lst hws6 (not1 nwp)
      have hf8 := k8.lst hf6 (not1 nfp)
      have hd8 := Dp.keepAll k8 _ _ (fd_fz _) hd6
      have hfl : rs.length ≤ 8 := by
        have e := congrArg List.length hfs
        rw [List.length_map, List.length_map, List.length_take] at e
        rw [hd6.length, List.length_map]
        omega
      -- the function
      refine ⟨_, rfl, .inl ⟨rfl, _, SqL.of hf8⟩, _, rfl, _, rfl, lt, _, rfl, .inl ⟨SqL.of hlt8, fun tt htt => ?_⟩⟩
      have pen9 := pen8.new (o := .tup ((stk.take n).map V.str)) htt
      have k9 : Kp [p] H8 (upd H8 tt (.tup ((stk.take n).map V.str))) := Kp.new htt
      have hdt : Dp K (upd H8 tt (.tup ((stk.take n).map V.str))) (.ref tt) (.tuple ((stk.take n).map .str)) := .tup (.inl (.inl upd_same)) (DpAll.strs _)
      refine ⟨_, rfl, _, rfl, _, rfl, _, rfl, _, rfl, _, rfl, _, rfl, ls, _, rfl, SqL.of (k9.lst hls8 (not1 nlsp)), fun st hst => ?_⟩
      rw [cutV_from, ← List.map_drop]
      have pen10 := pen9.new (o := .lst ((stk.drop n).map V.str)) hst
      have k10 : Kp [p] H8 (upd (upd H8 tt (.tup ((stk.take n).map V.str))) st (.lst ((stk.drop n).map V.str))) := k9.trans (Kp.new hst)
      have hst10 : (upd (upd H8 tt (.tup ((stk.take n).map V.str))) st (.lst ((stk.drop n).map V.str))) st = some (.lst ((stk.drop n).map V.str)) := upd_same
      have hst8 : H8 st = none := (Kp.new (S := []) (o := .tup ((stk.take n).map V.str)) htt).free hst (fun m => nomatch m)
      have hdt10 := Dp.keep (Kp.new (S := []) (o := .lst ((stk.drop n).map V.str)) hst) _ _ (by show fzAll _ = true; exact strs_fz _) hdt
      have nst := pen9.apart hst
      have wst : wl ≠ st := ne_of_none hws8 hst8
      have tst : lt ≠ st := ne_of_none hlt8 hst8
      have fst' : lf ≠ st := ne_of_none hf8 hst8
      generalize upd (upd H8 tt (.tup ((stk.take n).map V.str))) st (.lst ((stk.drop n).map V.str)) = H10 at pen10 k10 hst10 hdt10 ⊢
      have Eb0 : Eb K H10 W (stk.take n) p a wl lt st (stk.drop n) :=
        ⟨pen10, hwt8.keep k10 (not1 nwp), k10.lst hlt8 (not1 nltp), hst10, not2 nwp wst, not2 nltp tst, nst.2.symm, nst.1.symm, hWo, hstk.take n, hstk.drop n, by omega, by rw [List.length_take]; omega, by rw [List.length_drop]; omega⟩
      refine ⟨p, a, wl, lt, st, fn, W, stk.take n, stk.drop n, rfl, Eb0, fun v d H11 k11 pen11 hd11 hb => ?_⟩
      have hk11 : Kp [p] H8 H11 := Kp.drop k10 hst8 k11 fun x m => by
        rcases List.mem_cons.mp m with e | m
        · exact .inl (by rw [e]; exact List.mem_cons_self)
        · exact .inr (List.mem_singleton.mp m)
      have hdt11 := Dp.keep k11 _ _ (by show fzAll _ = true; exact strs_fz _) hdt10
      refine ⟨(by show 3 ≤ sizeLine; decide), fun q hq => ?_⟩
      have k12 : Kp [p] H8 (upd H11 q (.tup [.str fn, .ref tt, v])) := hk11.trans (Kp.new hq)
      have hrow : Dp K (upd H11 q (.tup [.str fn, .ref tt, v])) (.ref q) (fD (fn, stk.take n, d)) := Dp.newT hq (.cons (.str _) (.cons hdt11 (.cons hd11 .nil))) (by
        show (true && (fzAll _ && (fz _ && true))) = true
        rw [strs_fz, data_fz]
        rfl)
      have pen12 := pen11.new (o := .tup [.str fn, .ref tt, v]) hq
      have hf12 := k12.lst hf8 (not1 nfp)
      have hws12 := k12.lst hws8 (not1 nwp)
      have hwt12 := hwt8.keep k12 (not1 nwp)
      have hd12 := Dp.keepAll k12 _ _ (fd_fz _) hd8
      generalize upd H11 q (.tup [.str fn, .ref tt, v]) = H12 at k12 hrow pen12 hf12 hws12 hwt12 hd12 ⊢
      refine ⟨lf, _, _, rfl, rfl, hf12, small1000 (by omega), ?_⟩
      have kput : Kp [lf] H12 (upd H12 lf (.lst (rs ++ [.ref q]))) := Kp.put hf12 List.mem_cons_self
      refine ⟨fs ++ [(fn, stk.take n, d)], rs ++ [.ref q], _, _, _, _, rfl, (k6.trans (k8.trans k12)).mut hlfH, pen12.mut nfp nfa, hwt12.keep kput (not1 nfw), by rw [upd_ne nfw]; exact hws12, upd_same, ?_, ?_, ?_⟩
      · rw [List.map_append]
        exact (Dp.keepAll kput _ _ (fd_fz _) hd12).append (.one (Dp.keep kput _ _ (by
          have := fd_fz [(fn, stk.take n, d)]
          show fz (fD (fn, stk.take n, d)) = true
          exact fzAll_iff.mp this _ List.mem_cons_self) hrow))
      · rw [List.map_append, hfs, List.take_add_one, hfw, List.map_append]
        rfl
      · intro f m
        rcases List.mem_append.mp m with m | m
        · exact hfd f m
        · rw [List.mem_singleton.mp m]
          exact ⟨n, stk, hmem, hn4, hstk, rfl, hb⟩
    · rintro σ H6 ⟨fs, rs, v4, v5, v6, v7, rfl, k6, pen6, hwt6, hws6, hf6, hd6, hfs, hfd⟩
      have hwlen : ws.length = W.length := by rw [hdw.length, List.length_map]
      rw [hwlen, List.take_length] at hfs
      -- the tuple of functions
      refine ⟨_, rfl, lf, _, rfl, .inl ⟨SqL.of hf6, fun tt htt => ?_⟩⟩
      have k7 : Kp [p] H6 (upd H6 tt (.tup rs)) := Kp.new htt
      have hdt : Dp K (upd H6 tt (.tup rs)) (.ref tt) (.tuple (fs.map fD)) := Dp.newT htt hd6 (fd_fz _)
      have pen7 := pen6.new (o := .tup rs) htt
      have hwt7 := hwt6.keep k7 (not1 nwp)
      have k7 := k6.trans k7
      generalize upd H6 tt (.tup rs) = H7 at k7 hdt pen7 hwt7 ⊢
      -- asked
      refine ⟨_, rfl, _, rfl, Nat.zero_le _, fun lt hlt => ?_⟩
      have k8 : Kp [p] H7 (upd H7 lt (.lst [])) := Kp.new hlt
      have pen8 := pen7.new (o := .lst []) hlt
      have hlt8 : (upd H7 lt (.lst [])) lt = some (.lst []) := upd_same
      have hwt8 := hwt7.keep k8 (not1 nwp)
      have hdt8 := Dp.keep k8 _ _ (by show fzAll _ = true; exact fd_fz _) hdt
      have nlt := pen7.apart hlt
      have k8 := k7.trans k8
      generalize upd H7 lt (.lst []) = H8 at k8 pen8 hlt8 hwt8 hdt8 ⊢
      refine ⟨_, rfl, p, a, 26, rfl, pen8, (by decide), fun st stk H9 k9 pen9 hst0 hst9 hsl hso hsn => ?_⟩
      have hstk : Stock stk := ⟨hsl, hsn, hso⟩
      have nst := pen8.apart hst0
      obtain ⟨ws8, hws8, _⟩ := id hwt8
      have wst : wl ≠ st := ne_of_none hws8 hst0
      have tst : lt ≠ st := ne_of_none hlt8 hst0
      have hstH : H st = none := k8.free hst0 (not1 nst.1)
      have Eb0 : Eb K H9 W [] p a wl lt st stk :=
        ⟨pen9, hwt8.keep k9 (not1 nwp), k9.lst hlt8 (not1 nlt.1), hst9, not2 nwp wst, not2 nlt.1 tst, nst.2.symm, nst.1.symm, hWo, (fun x m => nomatch m), hso, by omega, Nat.zero_le _, by omega⟩
      refine ⟨p, a, wl, lt, st, "", W, [], stk, rfl, Eb0, fun v d H10 k10 pen10 hd10 hb => ?_⟩
      have hk10 : Kp [p] H H10 := Kp.drop (k8.trans k9) hstH k10 fun x m => by
        rcases List.mem_cons.mp m with e | m
        · exact .inl (by rw [e]; exact List.mem_cons_self)
        · exact .inr (List.mem_singleton.mp m)
      have hdt10 := Dp.keep k10 _ _ (by show fzAll _ = true; exact fd_fz _) (Dp.keep k9 _ _ (by show fzAll _ = true; exact fd_fz _) hdt8)
      refine ⟨(by show 2 ≤ sizeLine; decide), fun q hq => ?_⟩
      refine D _ fs d _ (hk10.trans (Kp.new hq)) (pen10.new hq) (Dp.newT hq (.cons hdt10 (.cons hd10 .nil)) ?_) ⟨W, ?_, ?_, by omega, hWo, hfd, stk, hstk, hb⟩
      · show (fzAll _ && (fz _ && true)) = true
        rw [fd_fz, data_fz]
        rfl
      · rw [hfs]
      · rw [hWm]
        exact hxn
end
end Lz

set_option Elab.async false
set_option linter.all false
set_option maxRecDepth 100000
set_option maxHeartbeats 8000000
namespace Lz
open PySem PySem.Spec PyProof.Rows L2
/-- as deep as six hundred -/
def huge (d : PyData) : Bool := d.canLay0 && decide (d.depth ≤ 600)
def rNeHuge (K : PySem.W.Frag) : R2 := fun x y H Q => ∃ d e, Dp K H x d ∧ Dp K H y e ∧ huge d = true ∧ huge e = true ∧ Q (.bl (!PyData.eqv d e)) H
theorem op_neHuge {X : Cx} {K : PySem.W.Frag} (h : X.K = K) (hu : X.A.units + 600 < cLine) : OpR X (compareOp .NotEq) (rNeHuge K) := by
  subst h
  intro pins s σ H x y v u Q I rx ry h
  obtain ⟨d, e, hd, he, sd, se, q⟩ := h
  obtain ⟨as, r1⟩ := Dp.reads I d x v hd rx
  obtain ⟨bs, r2⟩ := Dp.reads I e y u he ry
  have h1 : d.depth ≤ 600 := of_decide_eq_true (Bool.and_eq_true_iff.mp sd).2
  have h2 : min d.depth e.depth ≤ d.depth := Nat.min_le_left _ _
  exact SeqAt.compareNe_reads r1 r2 (Bool.and_eq_true_iff.mp sd).1 (Bool.and_eq_true_iff.mp se).1 (by omega) ⟨.bl _, H, I, rfl, q⟩
theorem word_ok {x : Str} (h : x = "open" ∨ x = "let" ∨ x = "call" ∨ x = "number" ∨ x = "turn" ∨ x = "side") : PyData.strOk x = true := by
  rcases h with rfl | rfl | rfl | rfl | rfl | rfl <;> decide +kernel
theorem fault_ok {x : Str} (h : x = "function" ∨ x = "number" ∨ x = "great" ∨ x = "pair") : PyData.strOk x = true := by
  rcases h with rfl | rfl | rfl | rfl <;> decide +kernel
theorem due_w {fs : List Fn} {d t u : Lz.P} {x : Str} (q : Due fs d t (.s x u)) : PyData.strOk x = true := by
  cases q <;> exact word_ok (by simp)
theorem due_f {fs : List Fn} {d t : Lz.P} {x : Str} (q : Due fs d t (.f x)) : PyData.strOk x = true := by
  cases q <;> exact fault_ok (by simp)
theorem step_lay {fs : List Fn} {d t : Lz.P} {o : Out} (h : StepR fs d t o) : (∀ x, o = .f x → PyData.strOk x = true) ∧ ∀ x u, o = .s x u → PyData.strOk x = true := by
  induction h with
  | here _ hd => exact ⟨fun x e => (nomatch e), fun x u e => by cases e; exact due_w hd⟩
  | fault _ hd => exact ⟨fun x e => (by cases e; exact due_f hd), fun x u e => (nomatch e)⟩
  | @inn k as a j o _ _ _ _ ih =>
    refine ⟨fun x e => ?_, fun x u e => ?_⟩
    · cases o with
      | f y => exact ih.1 x e
      | s y t => cases e
      | w t => cases e
      | inn n => cases e
    · cases o with
      | f y => cases e
      | s y t => cases e; exact ih.2 _ _ rfl
      | w t => cases e
      | inn n => cases e
theorem out_same {o : Out} (h : o.data.canLay0 = true) : PyData.eqv o.data o.data = true := SeqAt.eqv_refl _ h
def spLaw (K : PySem.W.Frag) : Sp := fun vs H Q _ => ∃ (s : Addr) (ns : List Int), vs = [.ref s] ∧ SqL K H s (ns.map V.int) ∧ ns.length ≤ 63 ∧ ∀ H', Q (.bl true) H'
theorem lay_out {F : List Str} {x : Str} {u : Lz.P} (hx : PyData.strOk x = true) (hu : u.okS F) : (Out.s x u).data.canLay0 = true := by
  show (PyData.tuple [.str x, u.data]).canLay0 = true
  rw [lay_tup, lay_cons, lay_cons, lay_nil, lay_str, hx, data_layS u hu]
  rfl
theorem huge_s {F : List Str} {x : Str} {u : Lz.P} (hx : PyData.strOk x = true) (hu : u.okS F) (hd : u.deep ≤ 190) : huge (Out.s x u).data = true := by
  unfold huge
  rw [lay_out hx hu, Bool.true_and]
  have h1 := data_depth u
  have e : (Out.s x u).data.depth ≤ 3 * u.deep + 1 := by
    show (PyData.tuple [.str x, u.data]).depth ≤ _
    have h5 := depth_str x
    rw [depth_tup, depthAll_cons, depthAll_cons]
    simp only [PyData.depthAll]
    omega
  exact decide_eq_true (by omega)
theorem lay_f {x : Str} (hx : PyData.strOk x = true) : (Out.f x).data.canLay0 = true := by
  show (PyData.tuple [.str "fault", .str x]).canLay0 = true
  rw [lay_tup, lay_cons, lay_cons, lay_nil, lay_str, lay_str, hx]
  decide +kernel
theorem huge_f {x : Str} (hx : PyData.strOk x = true) : huge (Out.f x).data = true := by
  unfold huge
  rw [lay_f hx, Bool.true_and]
  have e : (Out.f x).data.depth ≤ 1 := by
    show (PyData.tuple [.str "fault", .str x]).depth ≤ 1
    have h5 := depth_str x
    have h6 := depth_str "fault"
    rw [depth_tup, depthAll_cons, depthAll_cons]
    simp only [PyData.depthAll]
    omega
  exact decide_eq_true (by omega)
theorem Row0.of_sh {fs : List Fn} {d : Lz.P} {g : Fn} {t' : Lz.P} (hf : Fits fs d) (m : g ∈ fnsOf fs d) (ho : t'.okS (fs.map (·.1))) (hs : Lz.P.sh [] g.2.2 t') (hd : t'.deep ≤ g.2.2.deep + 2) : Row0 fs t' := by
  have pr := hf.pr10
  have hb := hf.bd g m
  have hdd := hb.deep
  have h1 := sh_size g.2.2 t' hb.ok hs
  have h2 := sh_more (M := 60) (D := 12) (by decide) g.2.2 t' [] hb.ok hs (pr.nums g m) (pr.mw g m) (Nat.le_trans (dw_deep _) hdd)
  exact ⟨⟨ho, h2.1, h2.2.1, h2.2.2⟩, by rw [h1.1]; exact pr.mw g m, by omega⟩
theorem Row0.asked {fs : List Fn} {d : Lz.P} (hf : Fits fs d) : Row0 fs d := by
  have pr := hf.pr10
  have m : askedFn d ∈ fnsOf fs d := List.mem_append_right _ List.mem_cons_self
  have hd : d.deep ≤ 12 := (hf.bd _ m).deep
  exact ⟨⟨pr.ok _ m, pr.cl _ m, pr.nums _ m, pr.iv _ m⟩, pr.mw _ m, by omega⟩
theorem Fits.prS {fs : List Fn} {d : Lz.P} (h : Fits fs d) (ok : PrOk fs d) : PrS fs d := ⟨ok, h.pr10.ok⟩
theorem out_fz {o : Out} {Q : Str → Lz.P → Prop} (ho : (∃ x, o = .f x) ∨ ∃ x u, o = .s x u ∧ Q x u) : fz o.data = true := by
  rcases ho with ⟨x, rfl⟩ | ⟨x, u, rfl, _⟩
  · rfl
  · show (true && (fz u.data && true)) = true
    rw [data_fz]
    rfl
section
variable {P : Program} {w : World} {K : PySem.W.Frag} {mg : Str → Option Value} {base : Heap} {f : Addr} {fd : FuncData}
abbrev sLaw : Stmt := topS 54
theorem scLaw : FnScope ["_law_script", "_law_pen_here", "_law_program_here", "_law_rows", "_law_k", "_law_one", "_law_other", "_law_part_here", "_law_worth", "_law_due", "_law_name", "_law_names_here", "_law_body_here"] ["_law_script"] (defScope sLaw) := ⟨rfl, rfl, rfl, by decide +kernel, rfl, by decide +kernel, by decide +kernel⟩
theorem ok_law {j : Nat} (hj : 222 ≤ j) (F : Fun K "law" "law" sLaw f fd) (B : Bt mg) (CLPen : C8.Cal P w K mg base 1 "_law_pen" (spPen K) []) (CLDraw : C8.Cal P w K mg base 1 "_law_draw" (spDraw K) []) (CLProgram : C8.Cal P w K mg base j "_law_program" (spProgram K) [])
    (CLShut : C8.Cal P w K mg base 13 "_law_shut" (spShut K 12) []) (CLAround : C8.Cal P w K mg base 2 "_law_around" (spAround K) []) (CIsWorth : C8.Cal P w K mg base 5 "is_worth" (spIsW K) []) (CLIsWorth : C8.Cal P w K mg base 2 "_law_is_worth" (spLIsW K) []) (CLStep : C8.Cal P w K mg base 222 "_law_step" (spLStep K 104) []) (CStep : C8.Cal P w K mg base 9 "step" (spStep K) []) : FnOk P w K mg base CX0 (j + 1) f fd ["_law_script"] (spLaw K) := by
  have mrange := B.range
  have ml := B.len
  refine F.ok scLaw (fun vs H Q E h => ?_) (fun cdv A outer s H vs Q E hr h => ?_)
  · obtain ⟨s0, ns, rfl, _⟩ := h
    rfl
  have hu5 : (A.deeper (envOfC (Str.ofString "law") (defScope sLaw) s.heap.objs.size f cdv)).units + 600 < cLine := by
    have := hr.un
    omega
  obtain ⟨s0, ns, rfl, hS, hlen, q⟩ := h
  refine ⟨_, (pss_cons (ps_set (i := 1) scLaw.nd rfl (.inr rfl) (C8.pe_c CLPen hr (by first | decide | omega) (by rfl) (pa_cons (pv 0) pa_nil)))
    (pss_cons (ps_set (i := 2) scLaw.nd rfl (.inl rfl) (C8.pe_c CLProgram hr (by first | decide | omega) (by rfl) (pa_cons (pv 1) pa_nil)))
    (pss_cons (ps_set (i := 3) scLaw.nd rfl (.inl rfl) (pe_op op_cat (pe_lc (own := [("_law_name", 10), ("_law_names_here", 11), ("_law_body_here", 12)]) rfl scLaw.nd (pi_tupK (K := K) rfl (pe_ix (ix_tupK (K := K) rfl) (pv 2) pe_int (fun _ _ => rfl))) (blkOk_by (N := ["_law_script", "_law_pen_here", "_law_program_here", "_law_rows", "_law_k", "_law_one", "_law_other", "_law_part_here", "_law_worth", "_law_due", "_law_name", "_law_names_here", "_law_body_here"]) (sc := defScope sLaw) (by decide +kernel)) (fun _ _ _ _ _ => (pg_tupK (K := K) (n := 3) rfl rfl (pgs_cons (pg_name (i := 10) scLaw.nd rfl (.inl rfl)) (pgs_cons (pg_name (i := 11) scLaw.nd rfl (.inl rfl)) (pgs_cons (pg_name (i := 12) scLaw.nd rfl (.inl rfl)) pgs_nil))))) (fun _ _ _ _ _ => pts_nil) (fun _ _ _ _ _ => (C8.pe_c CLShut hr (by first | decide | omega) (by rfl) (pa_cons (pv 1) (pa_cons (pv 12) (pa_cons (pe_lst pa_nil) pa_nil)))))) (pe_lst (pa_cons (pe_ix (ix_tupK (K := K) rfl) (pv 2) pe_int (fun _ _ => rfl)) pa_nil))))
    (pss_cons (ps_for PassesOwn.never rfl (pi_range1 (by rfl) mrange (pa_cons pe_int pa_nil)) (pg_name (i := 4) scLaw.nd rfl (.inl rfl)) (pss_cons (ps_par (i := 5) (j := 6) rfl scLaw.nd rfl rfl (by decide) rfl rfl (pa_cons (pe_ix (ix_listK (K := K) rfl) (pv 3) (C8.pe_c CLDraw hr (by first | decide | omega) (by rfl) (pa_cons (pv 1) (pa_cons (pe_op op_sub (pe_callB (call_lenK (K := K) rfl) (by rfl) ml PySem.boot_len (pa_cons (pv 3) pa_nil)) (pv 4)) pa_nil))) (fun _ _ => rfl)) (pa_cons (pe_ix (ix_listK (K := K) rfl) (pv 3) (C8.pe_c CLDraw hr (by first | decide | omega) (by rfl) (pa_cons (pv 1) (pa_cons (pe_op op_sub (pe_callB (call_lenK (K := K) rfl) (by rfl) ml PySem.boot_len (pa_cons (pv 3) pa_nil)) (pv 4)) pa_nil))) (fun _ _ => rfl)) pa_nil)) (by rfl))
    (pss_one (ps_expr (pe_bmK (K := K) rfl PySem.F.plainAttrs_list PySem.F.slot_list_append PySem.F.type_list_append mt_append (pv 3) (pa_cons (C8.pe_c CLAround hr (by first | decide | omega) (by rfl) (pa_cons (pv 1) (pa_cons (pv 5) (pa_cons (pv 6) pa_nil)))) pa_nil))))))
    (pss_cons (ps_for PassesOwn.never rfl (pi_listK (K := K) rfl (pv 3)) (pg_name (i := 7) scLaw.nd rfl (.inl rfl)) (pss_one (ps_for PassesOwn.never rfl (pi_range1 (by rfl) mrange (pa_cons pe_int pa_nil)) (pg_name (i := 4) scLaw.nd rfl (.inl rfl)) (pss_cons (ps_set (i := 8) scLaw.nd rfl (.inl rfl) (C8.pe_c CIsWorth hr (by first | decide | omega) (by rfl) (pa_cons (pv 2) (pa_cons (pv 7) pa_nil))))
    (pss_cons (ps_if (pt_cmpR op_ne (pv 8) (C8.pe_c CLIsWorth hr (by first | decide | omega) (by rfl) (pa_cons (pv 2) (pa_cons (pv 7) pa_nil))) (nomark _)) (pss_one (ps_ret pe_bl)) pss_nil)
    (pss_one (ps_if (pt_not (pt_truthK (K := K) rfl (pv 8) (fun _ => rfl))) (pss_cons (ps_set (i := 9) scLaw.nd rfl (.inl rfl) (C8.pe_c CLStep hr (by first | decide | omega) (by rfl) (pa_cons (pv 2) (pa_cons (pv 7) pa_nil))))
    (pss_cons (ps_if (PW.pt (pw_or (pt_cmpR (op_neHuge (K := K) rfl hu5) (C8.pe_c CStep hr (by first | decide | omega) (by rfl) (pa_cons (pv 2) (pa_cons (pv 7) pa_nil))) (pv 9) (nomark _)) (pw_or1 (pt_cmpR (op_neHuge (K := K) rfl hu5) (C8.pe_c CStep hr (by first | decide | omega) (by rfl) (pa_cons (pv 2) (pa_cons (pv 7) pa_nil))) (pv 9) (nomark _))))) (pss_one (ps_ret pe_bl)) pss_nil)
    (pss_one (ps_set (i := 7) scLaw.nd rfl (.inl rfl) (pe_ifExp (pt_cmpR op_ne (pe_ix (ix_tupK (K := K) rfl) (pv 9) pe_int (fun _ _ => rfl)) pe_str (nomark _)) (pe_ix (ix_tupK (K := K) rfl) (pv 9) pe_int (fun _ _ => rfl)) (pe_tup (pa_cons pe_str (pa_cons pe_int pa_nil)))))))) pss_nil)))))))
    (pss_one (ps_ret pe_bl))))))), ?_⟩
  refine ⟨_, rfl, s0, ns, rfl, hS, hlen, fun p a H1 s1 hp ha pen1 => ?_⟩
  refine ⟨_, rfl, p, a, rfl, pen1, fun v fs d H2 k2 pen2 hd2 hprog => ?_⟩
  have hok := hprog.prOk
  have hfit := hprog.fits
  have h8 := hok.len
  obtain ⟨pr, ft, rs, vd, rfl, hpr, hft, hrs, hvd⟩ := prog_at hd2
  have hrl : rs.length = fs.length := by rw [hrs.length, List.length_map]
  -- the bodies, shut
  refine ⟨_, rfl, pr, _, _, _, rfl, rfl, hpr, at_of (j := 0) rfl rfl, ft, rfl, ⟨_, hft⟩, fun D hD => ?_⟩
  obtain ⟨nDp, nDa⟩ := pen2.apart hD
  refine lc_tup (K := K) (a := ft) (xs := rs) (fun i H' => Kp [p] H2 H' ∧ PenAt H' p a ∧ ∃ (ws : List V) (bs : List Lz.P), H' D = some (.lst ws) ∧ DpAll K H' ws (Lz.P.datas bs) ∧ bs.length = i ∧ ∀ b, b ∈ bs → Row0 fs b)
    ⟨Kp.new hD, pen2.new hD, [], [], upd_same, .nil, rfl, fun b m => (nomatch m)⟩ (fun i H' _ ⟨k, _⟩ => k.sqT hft) ?_ ?_
  · rintro i x H3 hi ⟨k3, pen3, ws, bs, hws, hdw, hbl, hbm⟩
    obtain ⟨g, t, r, u, hg, rfl, ht, hr3, hu⟩ := fn_atU (Dp.keepAll k3 _ _ (fdU_fz _) hrs) hi
    have hgm : g ∈ fnsOf fs d := List.mem_append_left _ (List.mem_of_getElem? hg)
    have hbd := (hok.bd g hgm).1
    have hgo : g.2.2.okS (fs.map (·.1)) := okS_of _ _ hbd.ok (hprog.fits.ft g hgm)
    have hil := (List.getElem?_eq_some_iff.mp hg).1
    refine ⟨t, _, rfl, ht, rfl, _, _, rfl, _, _, rfl, _, _, rfl, rfl, ?_⟩
    refine ⟨rfl, ?_⟩
    refine ⟨_, rfl, _, rfl, Nat.zero_le _, fun le hle => ?_⟩
    have k4 : Kp [p] H3 (upd H3 le (.lst [])) := Kp.new hle
    have pen4 := pen3.new (o := .lst []) hle
    have hle4 : (upd H3 le (.lst [])) le = some (.lst (([] : List Str).map V.str)) := upd_same
    have hu4 := Dp.keep k4 _ _ (data_fz _) hu
    have nlep := (pen3.apart hle).1
    generalize upd H3 le (.lst []) = H4 at k4 pen4 hle4 hu4 ⊢
    refine ⟨fs.map (·.1), p, a, le, u, g.2.2, [], rfl, pen4, hu4, hgo, hle4, nlep, ?_, hbd.deep, fun v' t' H5 k5 pen5 hd5 ok5 m5 d5 s5 => ?_⟩
    · have := hbd.many
      show 0 + g.2.2.many ≤ 9000
      omega
    have k45 := k4.trans k5
    have hws5 := k45.lst hws (not1 nDp)
    have hdw5 := Dp.keepAll k45 _ _ (datas_fz _) hdw
    have hwl : ws.length = i := by rw [hdw.length, datas_len, hbl]
    have kput : Kp [D] H5 (upd H5 D (.lst (ws ++ [v']))) := Kp.put hws5 List.mem_cons_self
    refine ⟨ws, hws5, small9000 (by omega), (k3.trans k45).mut hD, pen5.mut nDp nDa, ws ++ [v'], bs ++ [t'], upd_same, ?_, by rw [List.length_append, hbl]; rfl, fun b m => ?_⟩
    · have e1 : Lz.P.datas (bs ++ [t']) = Lz.P.datas bs ++ [t'.data] := by rw [datas_map, datas_map, List.map_append]; rfl
      rw [e1]
      exact (Dp.keepAll kput _ _ (datas_fz _) hdw5).append (.one (Dp.keep kput _ _ (data_fz _) hd5))
    · rcases List.mem_append.mp m with m | m
      · exact hbm b m
      · rw [List.mem_singleton.mp m]
        exact Row0.of_sh hfit hgm ok5 s5 d5
  rintro H3 ⟨k3, pen3, ws, bs, hws, hdw, hbl, hbm⟩
  rw [hrl] at hbl
  have hwl : ws.length = fs.length := by rw [hdw.length, datas_len, hbl]
  -- and what is asked
  refine ⟨_, rfl, pr, _, _, _, rfl, rfl, k3.sqT hpr, at_of (j := 1) rfl rfl, (by show 1 ≤ sizeLine; decide), fun l hl => ?_⟩
  have kl : Kp [p] H3 (upd H3 l (.lst [vd])) := Kp.new hl
  have hl4 : (upd H3 l (.lst [vd])) l = some (.lst [vd]) := upd_same
  have hws4 : (upd H3 l (.lst [vd])) D = some (.lst ws) := kl.lst hws (not1 nDp)
  have pen4 := pen3.new (o := .lst [vd]) hl
  have hdw4 := Dp.keepAll kl _ _ (datas_fz _) hdw
  have k4 := k3.trans kl
  generalize upd H3 l (.lst [vd]) = H4 at hl4 hws4 pen4 hdw4 k4 ⊢
  refine ⟨D, l, _, _, rfl, rfl, hws4, hl4, (by rw [List.length_singleton]; exact Nat.le_of_lt (small9000 (by omega))), fun lr hlr => ?_⟩
  obtain ⟨nrp, nra⟩ := pen4.apart hlr
  have kr : Kp [p] H4 (upd H4 lr (.lst (ws ++ [vd]))) := Kp.new hlr
  have hrows : DpAll K (upd H4 lr (.lst (ws ++ [vd]))) (ws ++ [vd]) (Lz.P.datas (bs ++ [d])) := by
    have e1 : Lz.P.datas (bs ++ [d]) = Lz.P.datas bs ++ [d.data] := by rw [datas_map, datas_map, List.map_append]; rfl
    rw [e1]
    exact (Dp.keepAll kr _ _ (datas_fz _) hdw4).append (.one (Dp.keep (k4.trans kr) _ _ (data_fz _) hvd))
  have hbm' : ∀ b, b ∈ bs ++ [d] → Row0 fs b := fun b m => by
    rcases List.mem_append.mp m with m | m
    · exact hbm b m
    · rw [List.mem_singleton.mp m]
      exact Row0.asked hfit
  have hbl' : (bs ++ [d]).length = fs.length + 1 := by rw [List.length_append, hbl]; rfl
  have hr5 : (upd H4 lr (.lst (ws ++ [vd]))) lr = some (.lst (ws ++ [vd])) := upd_same
  have pen5 := pen4.new (o := .lst (ws ++ [vd])) hlr
  have k25 : Kp [p] H2 H4 := k4
  have k5 : Kp [p] H4 (upd H4 lr (.lst (ws ++ [vd]))) := kr
  generalize upd H4 lr (.lst (ws ++ [vd])) = H5 at hrows hr5 pen5 k5 ⊢
  generalize bs ++ [d] = bs0 at hrows hbm' hbl'
  generalize ws ++ [vd] = ws0 at hrows hr5
  clear kr kl hdw4 hws4 hl4 hdw hws hbm hbl hwl pen3 k3 k4 pen4
  -- three around two
  refine ⟨_, rfl, (by decide), (by decide), for_range (lo := 0) (n := (3 : Int).toNat) (fun i σ H' => ∃ (v4 v5 v6 v7 v8 v9 : Option V) (ys : List V) (more : List Lz.P), σ = [some (.ref s0), some (.ref p), some (.ref pr), some (.ref lr), v4, v5, v6, v7, v8, v9, none, none, none] ∧ Kp [p] H4 H' ∧ PenAt H' p a ∧ H' lr = some (.lst ys) ∧ DpAll K H' ys (Lz.P.datas (bs0 ++ more)) ∧ more.length = i ∧ ∀ b, b ∈ more → Row1 fs b)
      ⟨none, none, none, none, none, none, ws0, [], rfl, k5, pen5, hr5, by rw [List.append_nil]; exact hrows, rfl, fun b m => (nomatch m)⟩ ?_ ?_⟩
  · rintro i σ H6 hi ⟨v4, v5, v6, v7, v8, v9, ys, more, rfl, k6, pen6, hr6, hd6, hml, hm1⟩
    have hyl : ys.length = bs0.length + i := by rw [hd6.length, datas_len, List.length_append, hml]
    have hb1 : 1 ≤ bs0.length := by omega
    have pick : ∀ (H' : Hp) (r : Int), Kp [p] H6 H' → 0 ≤ r → r < (ys.length : Int) - (0 + (i : Int)) → ∃ (v : V) (t : Lz.P), ys[r.toNat]? = some v ∧ Dp K H' v t.data ∧ Row0 fs t := fun H' r k r0 r1 => by
      have hr : r.toNat < bs0.length := by omega
      obtain ⟨v, hv, hvd⟩ := (Dp.keepAll k _ _ (datas_fz _) hd6).get (i := r.toNat) (d := (bs0[r.toNat]).data) (by rw [datas_map, List.getElem?_map, List.getElem?_append_left hr, List.getElem?_eq_getElem hr]; rfl)
      exact ⟨v, _, hv, hvd, hbm' _ (List.getElem_mem hr)⟩
    have hbig : ∀ z : Int, 0 ≤ z → z ≤ 100 → z.natAbs < 2 ^ 250 := fun z h0 h1 => by
      have h2 : (101 : Nat) ≤ 2 ^ 250 := by decide +kernel
      exact Nat.lt_of_lt_of_le (by omega) h2
    refine ⟨_, rfl, _, rfl, _, rfl, lr, _, rfl, .inl (SqL.of hr6), _, rfl, _, _, rfl, rfl, p, a, _, rfl, pen6, (by omega), hbig _ (by omega) (by omega), fun r H7 k7 pen7 r0 r1 => ?_⟩
    obtain ⟨v1, t1, hv1, hd1, hw1⟩ := pick H7 r k7 r0 r1
    have hr7 := k7.lst hr6 (not1 nrp)
    refine ⟨lr, _, _, _, rfl, rfl, SqL.of hr7, at_of (j := r.toNat) (by omega) hv1, ?_⟩
    refine ⟨_, rfl, _, rfl, _, rfl, lr, _, rfl, .inl (SqL.of hr7), _, rfl, _, _, rfl, rfl, p, a, _, rfl, pen7, (by omega), hbig _ (by omega) (by omega), fun r' H8 k8 pen8 r0' r1' => ?_⟩
    obtain ⟨v2, t2, hv2, hd2', hw2⟩ := pick H8 r' (k7.trans k8) r0' r1'
    have hr8 := k8.lst hr7 (not1 nrp)
    refine ⟨lr, _, _, _, rfl, rfl, SqL.of hr8, at_of (j := r'.toNat) (by omega) hv2, ?_⟩
    refine ⟨_, _, rfl, ?_⟩
    refine ⟨_, rfl, .inl ⟨rfl, _, SqL.of hr8⟩, _, rfl, _, rfl, _, rfl, p, a, v1, v2, t1, t2, rfl, pen8, Dp.keep k8 _ _ (data_fz _) hd1, hd2', fun v' t' H9 k9 pen9 hd9 har => ?_⟩
    have k69 := k7.trans (k8.trans k9)
    have hr9 := k69.lst hr6 (not1 nrp)
    refine ⟨lr, _, _, rfl, rfl, hr9, small9000 (by omega), ?_⟩
    have kput : Kp [lr] H9 (upd H9 lr (.lst (ys ++ [v']))) := Kp.put hr9 List.mem_cons_self
    have hlrH : H4 lr = none := hlr
    refine ⟨_, _, _, _, _, _, ys ++ [v'], more ++ [t'], rfl, (k6.trans k69).mut hlrH, pen9.mut nrp nra, upd_same, ?_, by rw [List.length_append, hml]; rfl, fun b m => ?_⟩
    · rw [← List.append_assoc, datas_map, List.map_append, ← datas_map]
      exact (Dp.keepAll kput _ _ (datas_fz _) (Dp.keepAll k69 _ _ (datas_fz _) hd6)).append (.one (Dp.keep kput _ _ (data_fz _) hd9))
    · rcases List.mem_append.mp m with m | m
      · exact hm1 b m
      · rw [List.mem_singleton.mp m]
        exact har.row hw1 hw2
  · rintro σ H6 ⟨v4, v5, v6, v7, v8, v9, ys, more, rfl, k6, pen6, hr6, hd6, hml, hm1⟩
    have hyl : ys.length = bs0.length + 3 := by rw [hd6.length, datas_len, List.length_append, hml]; rfl
    have hall : ∀ b, b ∈ bs0 ++ more → Row1 fs b := fun b m => by
      rcases List.mem_append.mp m with m | m
      · exact (hbm' b m).one
      · exact hm1 b m
    generalize bs0 ++ more = ts at hd6 hall
    have hpr6 : Dp K H6 (.ref pr) (progD fs d) := Dp.keep (k25.trans k6) _ _ (progU_fz _ _) hd2
    have hps : PrS fs d := hfit.prS hok
    have hpt := hfit.pr10
    have hnd := hfit.nd
    refine ⟨_, rfl, lr, rfl, ⟨_, SqL.of hr6⟩, for_list (K := K) (a := lr) (xs := ys) (fun z σ H' => ∃ (v4 v5 v6 v7 v8 v9 : Option V), σ = [some (.ref s0), some (.ref p), some (.ref pr), some (.ref lr), v4, v5, v6, v7, v8, v9, none, none, none] ∧ Kp [] H6 H')
      ⟨_, _, _, _, _, _, rfl, Kp.refl _ _⟩ (fun z σ H' _ ⟨_, _, _, _, _, _, _, k⟩ => SqL.of (k.lst hr6 (fun m => nomatch m))) ?_ ?_⟩
    · rintro z x σ H7 hz ⟨v4, v5, v6, v7, v8, v9, rfl, k7⟩
      obtain ⟨t0, htm, hdt0⟩ := part_atU (Dp.keepAll k7 _ _ (datas_fz _) hd6) hz
      have hr1 := hall t0 (List.mem_of_getElem? htm)
      refine ⟨_, rfl, (by decide), (by decide), for_range (lo := 0) (n := (9 : Int).toNat) (fun jj σ H' => ∃ (v4 v8 v9 : Option V) (v : V) (t : Lz.P), σ = [some (.ref s0), some (.ref p), some (.ref pr), some (.ref lr), v4, v5, v6, some v, v8, v9, none, none, none] ∧ Kp [] H6 H' ∧ Dp K H' v t.data ∧ Ok10 fs 60 12 t ∧ t.mw ≤ 181 + 121 * jj ∧ t.deep ≤ 15 + 11 * jj)
        ⟨v4, v8, v9, x, t0, rfl, k7, hdt0, hr1.ok, hr1.mw, hr1.dp⟩ ?_ ?_⟩
      · rintro jj σ H8 hjj ⟨v4, v8, v9, v, t, rfl, k8, hdt, hto, htm8, htd8⟩
        have hj8 : jj ≤ 8 := by
          have : jj < 9 := hjj
          omega
        have hd900 : t.deep ≤ 900 := by omega
        have hgvn : ∀ h ts, Gv t h ts → ts.length ≤ 900 := fun h ts g => by
          have := (gv_deep g).2
          omega
        refine ⟨_, rfl, _, rfl, .ref pr, v, fs, d, t, rfl, Dp.keep k8 _ _ (progU_fz _ _) hpr6, hps, hdt, hto.ok, fun H9 k9 => ?_⟩
        have k89 := k8.trans k9
        refine ⟨_, rfl, _, rfl, _, rfl, .ref pr, v, fs, d, t, rfl, Dp.keep k89 _ _ (progU_fz _ _) hpr6, hps, Dp.keep k9 _ _ (data_fz _) hdt, hto.ok, hgvn, fun H10 k10 => ?_⟩
        have k810 := k89.trans k10
        have hdt10 := Dp.keep (k9.trans k10) _ _ (data_fz _) hdt
        refine ⟨rfl, _, rfl, ?_⟩
        refine ite2 (fun c => absurd c (by simp)) (fun _ => ?_)
        refine ⟨_, rfl, Lz.wb fs t, rfl, ?_⟩
        cases hw : Lz.wb fs t with
        | true =>
          refine ite2 (fun c => absurd c (by simp)) (fun _ => ?_)
          exact ⟨_, _, _, v, t, rfl, k810, hdt10, hto, by omega, by omega⟩
        | false =>
          refine ite2 (fun _ => ?_) (fun c => absurd rfl c)
          obtain ⟨o, hs, ho⟩ := step_ex hpt hnd t.deep t (Nat.le_refl _) hto hw
          have hlw : Lw fs d t 104 := ⟨hto, by omega, by omega, hd900⟩
          have hgood := hto.good (by omega) (by decide)
          have hsl := step_lay hs
          refine ⟨_, rfl, _, rfl, .ref pr, v, fs, d, t, o, rfl, Dp.keep k810 _ _ (progU_fz _ _) hpr6, hps, hpt, hdt10, hs, hlw, fun v' H11 k11 hv' => ?_⟩
          have k811 := k810.trans k11
          have hlay : o.data.canLay0 = true ∧ huge o.data = true := by
            rcases ho with ⟨x, rfl⟩ | ⟨x, u, rfl, hx, hu, hum, hud⟩
            · exact ⟨lay_f (hsl.1 x rfl), huge_f (hsl.1 x rfl)⟩
            · exact ⟨lay_out (hsl.2 x u rfl) hu.ok, huge_s (hsl.2 x u rfl) hu.ok (by omega)⟩
          refine ⟨_, rfl, _, rfl, .ref pr, v, fs, d, t, o, rfl, Dp.keep k811 _ _ (progU_fz _ _) hpr6, hps, Dp.keep k11 _ _ (data_fz _) hdt10, hs, hd900, hgood, fun w2 H12 k12 hw2 => ?_⟩
          have hofz : fz o.data = true := out_fz ho
          refine ⟨_, rfl, _, _, hw2, Dp.keep k12 _ _ hofz hv', hlay.2, hlay.2, _, rfl, ?_⟩
          rw [out_same hlay.1]
          have k812 := k811.trans k12
          refine ⟨_, rfl, _, rfl, .ref pr, v, fs, d, t, o, rfl, Dp.keep k812 _ _ (progU_fz _ _) hpr6, hps, Dp.keep (k11.trans k12) _ _ (data_fz _) hdt10, hs, hd900, hgood, fun w3 H13 k13 hw3 => ?_⟩
          refine ⟨_, rfl, _, _, hw3, Dp.keep (k12.trans k13) _ _ hofz hv', hlay.2, hlay.2, _, rfl, ?_⟩
          rw [out_same hlay.1]
          have k813 := k812.trans k13
          have hv13 := Dp.keep (k12.trans k13) _ _ hofz hv'
          rcases ho with ⟨x, rfl⟩ | ⟨x, u, rfl, hx, hu, hum, hud⟩
          · obtain ⟨pt, zs, rfl, hptt, hzs⟩ := Dp.tup_of (ds := [.str "fault", .str x]) hv13
            obtain ⟨z1, r1, rfl, hz1, hz2⟩ := DpAll.unconsE hzs
            cases hz1
            refine ⟨_, rfl, pt, _, _, _, rfl, rfl, hptt, at_of (j := 0) rfl rfl, rfl, _, rfl, ?_⟩
            refine ite2 (fun c => absurd c (by simp)) (fun _ => ?_)
            refine ⟨(by show 2 ≤ sizeLine; decide), fun T hT => ?_⟩
            refine ⟨_, _, _, .ref T, .num 0, rfl, k813.trans (Kp.new hT), Dp.newT hT (.cons (.str _) (.cons (.int _) .nil)) rfl, ⟨True.intro, True.intro, (by show (0 : Int).natAbs < 10 ^ 60; decide +kernel), True.intro⟩, ?_, ?_⟩
            · show 1 ≤ _
              omega
            · show 1 ≤ _
              omega
          · obtain ⟨pt, zs, rfl, hptt, hzs⟩ := Dp.tup_of (ds := [.str x, u.data]) hv13
            obtain ⟨z1, r1, rfl, hz1, hz2⟩ := DpAll.unconsE hzs
            obtain ⟨z2, r2, rfl, hz3, hz4⟩ := DpAll.unconsE hz2
            cases hz1
            cases hz4
            refine ⟨_, rfl, pt, _, _, _, rfl, rfl, hptt, at_of (j := 0) rfl rfl, rfl, _, rfl, ?_⟩
            refine ite2 (fun _ => ?_) (fun c => absurd (by simpa using hx) c)
            refine ⟨_, rfl, pt, _, _, _, rfl, rfl, hptt, at_of (j := 1) rfl rfl, ?_⟩
            exact ⟨_, _, _, z2, u, rfl, k813, hz3, hu, by omega, by omega⟩
      · rintro σ H8 ⟨v4, v8, v9, v, t, rfl, k8, hdt, hto, htm8, htd8⟩
        exact ⟨_, _, _, _, _, _, rfl, k8⟩
    · rintro σ H7 ⟨v4, v5, v6, v7, v8, v9, rfl, k7⟩
      exact q _
end
end Lz

set_option Elab.async false
set_option linter.all false
set_option maxRecDepth 100000
set_option maxHeartbeats 8000000
namespace Lz
open PySem PySem.Spec PyProof.Rows L2
theorem no_part {P : Program} {w : World} {K : PySem.W.Frag} {mg : Str → Option Value} {base : Heap} {f : Addr} {fd : FuncData} {j : Nat} {ps : List Str} : FnOk P w K mg base CX0 j f fd ps (spPart K 0) := by
  have no : ∀ vs H Q E, ¬ spPart K 0 vs H Q E := fun vs H Q E h => by
    obtain ⟨_, _, _, _, _, _, _, _, _, _, _, _, _, _, _, _, h1, h2, _⟩ := h
    omega
  exact ⟨fun vs H Q E h => absurd h (no vs H Q E), fun A outer s H args us vs Q E _ _ _ _ h => absurd h (no vs H Q E)⟩
theorem no_shut {P : Program} {w : World} {K : PySem.W.Frag} {mg : Str → Option Value} {base : Heap} {f : Addr} {fd : FuncData} {j : Nat} {ps : List Str} : FnOk P w K mg base CX0 j f fd ps (spShut K 0) := by
  have no : ∀ vs H Q E, ¬ spShut K 0 vs H Q E := fun vs H Q E h => by
    obtain ⟨_, _, _, _, _, t, _, _, _, _, _, _, _, _, h1, _⟩ := h
    have := deep_pos t
    omega
  exact ⟨fun vs H Q E h => absurd h (no vs H Q E), fun A outer s H args us vs Q E _ _ _ _ h => absurd h (no vs H Q E)⟩
/-- PARTS_OF as the top leaves it -/
theorem po_mk {K : PySem.W.Frag} {pd : Addr} {u1 u2 u3 u4 u5 u6 u7 u8 u9 : Value} (h1 : PySem.W.nsIn K pd "give" = some (some u1)) (h2 : PySem.W.nsIn K pd "plus" = some (some u2)) (h3 : PySem.W.nsIn K pd "less" = some (some u3)) (h4 : PySem.W.nsIn K pd "times" = some (some u4)) (h5 : PySem.W.nsIn K pd "below" = some (some u5))
    (h6 : PySem.W.nsIn K pd "when" = some (some u6)) (h7 : PySem.W.nsIn K pd "pair" = some (some u7)) (h8 : PySem.W.nsIn K pd "left" = some (some u8)) (h9 : PySem.W.nsIn K pd "right" = some (some u9)) (n1 : PySem.W.nsIn K pd "number" = some none) (n2 : PySem.W.nsIn K pd "name" = some none) (n3 : PySem.W.nsIn K pd "fun" = some none) : PO K pd := by
  refine ⟨fun k n h => ?_, n1, n2, n3⟩
  have hk : k = "give" ∨ k = "plus" ∨ k = "less" ∨ k = "times" ∨ k = "below" ∨ k = "when" ∨ k = "pair" ∨ k = "left" ∨ k = "right" := by
    unfold kinds at h
    simp only [List.mem_cons, Prod.mk.injEq, List.not_mem_nil, or_false] at h
    rcases h with h | h | h | h | h | h | h | h | h
    · exact .inl h.1
    · exact .inr (.inl h.1)
    · exact .inr (.inr (.inl h.1))
    · exact .inr (.inr (.inr (.inl h.1)))
    · exact .inr (.inr (.inr (.inr (.inl h.1))))
    · exact .inr (.inr (.inr (.inr (.inr (.inl h.1)))))
    · exact .inr (.inr (.inr (.inr (.inr (.inr (.inl h.1))))))
    · exact .inr (.inr (.inr (.inr (.inr (.inr (.inr (.inl h.1)))))))
    · exact .inr (.inr (.inr (.inr (.inr (.inr (.inr (.inr h.1)))))))
  rcases hk with rfl | rfl | rfl | rfl | rfl | rfl | rfl | rfl | rfl
  · exact ⟨_, h1⟩
  · exact ⟨_, h2⟩
  · exact ⟨_, h3⟩
  · exact ⟨_, h4⟩
  · exact ⟨_, h5⟩
  · exact ⟨_, h6⟩
  · exact ⟨_, h7⟩
  · exact ⟨_, h8⟩
  · exact ⟨_, h9⟩
theorem no_lstep {P : Program} {w : World} {K : PySem.W.Frag} {mg : Str → Option Value} {base : Heap} {f : Addr} {fd : FuncData} {j : Nat} {ps : List Str} : FnOk P w K mg base CX0 j f fd ps (spLStep K 0) := by
  have no : ∀ vs H Q E, ¬ spLStep K 0 vs H Q E := fun vs H Q E h => by
    obtain ⟨_, _, _, _, t, _, _, _, _, _, _, _, hl, _⟩ := h
    have := deep_pos t
    have := hl.dn
    omega
  exact ⟨fun vs H Q E h => absurd h (no vs H Q E), fun A outer s H args us vs Q E _ _ _ _ h => absurd h (no vs H Q E)⟩
/-- of a fun part, by the same rule as of gives -/
theorem rule_fun {K : PySem.W.Frag} {vs : List V} {H : Hp} {Q : VK} {E : XK} (h : spRule K ["fun"] vs H Q E) : spDueCall K vs H Q E := by
  obtain ⟨vp, v, fs, d, t, o, rfl, hp, hok, hd, hto, hk, hm, hm2, hm3, hdue, q⟩ := h
  obtain ⟨x, rfl, _⟩ := hd_fun hto (List.mem_singleton.mp hk)
  obtain ⟨ts, g, i, hgx, hgv, hgi, hgl, rfl⟩ := due_fn hdue
  have hgm := List.mem_of_getElem? hgi
  have hb := hok.ok.bd g hgm
  have hbm := hb.1.many
  have hmw := mw_many g.2.2
  exact ⟨vp, v, fs, d, _, ts, i, g, _, rfl, hp, hok.ok, hd, hgv, hgi, hgl, by omega, hok.bo g hgm, by omega, q⟩
noncomputable def tabS (K : PySem.W.Frag) (a1 a2 a3 a4 a5 a6 a7 : Addr) (f : Addr) : Option Sp :=
  if f = a1 then some (spRule K ["fun"]) else if f = a2 then some (spRule K ["give"]) else if f = a3 then some (spRule K ["let"]) else if f = a4 then some (spRule K ["shut"]) else if f = a5 then some (spRule K fours) else if f = a6 then some (spRule K ["when"]) else if f = a7 then some (spRule K ["left", "right"]) else none
theorem rules_mk {P : Program} {w : World} {K : PySem.W.Frag} {mg : Str → Option Value} {base : Heap} {dd a1 a2 a3 a4 a5 a6 a7 : Addr} (h1 : Held P w K mg base 6 a1 (spRule K ["fun"])) (h2 : Held P w K mg base 6 a2 (spRule K ["give"])) (h3 : Held P w K mg base 6 a3 (spRule K ["let"])) (h4 : Held P w K mg base 6 a4 (spRule K ["shut"])) (h5 : Held P w K mg base 6 a5 (spRule K fours)) (h6 : Held P w K mg base 6 a6 (spRule K ["when"])) (h7 : Held P w K mg base 6 a7 (spRule K ["left", "right"]))
    (nd : [a1, a2, a3, a4, a5, a6, a7].Nodup)
    (r1 : PySem.W.nsIn K dd "fun" = some (some (.ref a1))) (r2 : PySem.W.nsIn K dd "give" = some (some (.ref a2))) (r3 : PySem.W.nsIn K dd "let" = some (some (.ref a3))) (r4 : PySem.W.nsIn K dd "shut" = some (some (.ref a4))) (r5 : PySem.W.nsIn K dd "plus" = some (some (.ref a5))) (r6 : PySem.W.nsIn K dd "less" = some (some (.ref a5))) (r7 : PySem.W.nsIn K dd "times" = some (some (.ref a5))) (r8 : PySem.W.nsIn K dd "below" = some (some (.ref a5))) (r9 : PySem.W.nsIn K dd "when" = some (some (.ref a6))) (r10 : PySem.W.nsIn K dd "left" = some (some (.ref a7))) (r11 : PySem.W.nsIn K dd "right" = some (some (.ref a7))) :
    Rules P w K mg base dd (tabS K a1 a2 a3 a4 a5 a6 a7) := by
  simp only [List.nodup_cons, List.mem_cons, List.not_mem_nil, or_false, not_or, not_false_eq_true, List.nodup_nil, and_true] at nd
  obtain ⟨⟨n12, n13, n14, n15, n16, n17⟩, ⟨n23, n24, n25, n26, n27⟩, ⟨n34, n35, n36, n37⟩, ⟨n45, n46, n47⟩, ⟨n56, n57⟩, n67⟩ := nd
  have e1 : tabS K a1 a2 a3 a4 a5 a6 a7 a1 = some (spRule K ["fun"]) := by unfold tabS; rw [if_pos rfl]
  have e2 : tabS K a1 a2 a3 a4 a5 a6 a7 a2 = some (spRule K ["give"]) := by unfold tabS; rw [if_neg (Ne.symm n12), if_pos rfl]
  have e3 : tabS K a1 a2 a3 a4 a5 a6 a7 a3 = some (spRule K ["let"]) := by unfold tabS; rw [if_neg (Ne.symm n13), if_neg (Ne.symm n23), if_pos rfl]
  have e4 : tabS K a1 a2 a3 a4 a5 a6 a7 a4 = some (spRule K ["shut"]) := by unfold tabS; rw [if_neg (Ne.symm n14), if_neg (Ne.symm n24), if_neg (Ne.symm n34), if_pos rfl]
  have e5 : tabS K a1 a2 a3 a4 a5 a6 a7 a5 = some (spRule K fours) := by unfold tabS; rw [if_neg (Ne.symm n15), if_neg (Ne.symm n25), if_neg (Ne.symm n35), if_neg (Ne.symm n45), if_pos rfl]
  have e6 : tabS K a1 a2 a3 a4 a5 a6 a7 a6 = some (spRule K ["when"]) := by unfold tabS; rw [if_neg (Ne.symm n16), if_neg (Ne.symm n26), if_neg (Ne.symm n36), if_neg (Ne.symm n46), if_neg (Ne.symm n56), if_pos rfl]
  have e7 : tabS K a1 a2 a3 a4 a5 a6 a7 a7 = some (spRule K ["left", "right"]) := by unfold tabS; rw [if_neg (Ne.symm n17), if_neg (Ne.symm n27), if_neg (Ne.symm n37), if_neg (Ne.symm n47), if_neg (Ne.symm n57), if_neg (Ne.symm n67), if_pos rfl]
  refine ⟨fun f sp h => ?_, fun k m => ?_⟩
  · unfold tabS at h
    split at h
    · cases h; subst f; exact h1
    split at h
    · cases h; subst f; exact h2
    split at h
    · cases h; subst f; exact h3
    split at h
    · cases h; subst f; exact h4
    split at h
    · cases h; subst f; exact h5
    split at h
    · cases h; subst f; exact h6
    split at h
    · cases h; subst f; exact h7
    · cases h
  · simp only [List.mem_cons, List.not_mem_nil, or_false] at m
    rcases m with rfl | rfl | rfl | rfl | rfl | rfl | rfl | rfl | rfl | rfl | rfl
    · exact ⟨a1, _, r1, e1, by decide +kernel⟩
    · exact ⟨a2, _, r2, e2, by decide +kernel⟩
    · exact ⟨a3, _, r3, e3, by decide +kernel⟩
    · exact ⟨a4, _, r4, e4, by decide +kernel⟩
    · exact ⟨a5, _, r5, e5, by decide +kernel⟩
    · exact ⟨a5, _, r6, e5, by decide +kernel⟩
    · exact ⟨a5, _, r7, e5, by decide +kernel⟩
    · exact ⟨a5, _, r8, e5, by decide +kernel⟩
    · exact ⟨a6, _, r9, e6, by decide +kernel⟩
    · exact ⟨a7, _, r10, e7, by decide +kernel⟩
    · exact ⟨a7, _, r11, e7, by decide +kernel⟩
theorem apart_fn {K : PySem.W.Frag} {a b : Addr} {oa ob : Value} {da db : Option Addr} {fa fb : FuncData} {sa sb : Array (Option Value)} (ha : K.lookup a = some ⟨oa, da, .func fa, sa⟩) (hb : K.lookup b = some ⟨ob, db, .func fb, sb⟩) (n : fa.name ≠ fb.name) : a ≠ b := fun e => by
  subst e
  rw [ha] at hb
  cases hb
  exact n rfl
theorem all_mk {l : PySem.W.OpenLaw} {w : World} {K : PySem.W.Frag} {h : Heap} {mg : Str → Option Value} {fa : Addr} (X : K.In h) (G : h.Ns mainGlobals mg) (hfa : mg "law" = some (.ref fa))
    {pd : Addr} {es : Array DictEntry} {n : Nat} {u1 u2 u3 u4 u5 u6 u7 u8 u9 : Value}
    {fFits : Addr} {odFits anFits : Option Addr} {slFits : Array (Option Value)} {ocFits kVFits dcFits pmFits cdFits ctFits : Value}
    (aFits : PySem.W.nsIn K mainGlobals "fits" = some (some (.ref fFits))) (lFits : K.lookup fFits = some ⟨ocFits, odFits, .func (PySem.W.fnOf "fits" "fits" (defArgs sFits) (defBody sFits) (defScope sFits) .none kVFits dcFits pmFits anFits cdFits ctFits), slFits⟩) (cFits : PySem.W.codeIn K cdFits "fits" = true) (kFits : PySem.W.keepIn K (.ref fFits) = true)
    {fComeOf : Addr} {odComeOf anComeOf : Option Addr} {slComeOf : Array (Option Value)} {ocComeOf kVComeOf dcComeOf pmComeOf cdComeOf ctComeOf : Value}
    (aComeOf : PySem.W.nsIn K mainGlobals "come_of" = some (some (.ref fComeOf))) (lComeOf : K.lookup fComeOf = some ⟨ocComeOf, odComeOf, .func (PySem.W.fnOf "come_of" "come_of" (defArgs sComeOf) (defBody sComeOf) (defScope sComeOf) .none kVComeOf dcComeOf pmComeOf anComeOf cdComeOf ctComeOf), slComeOf⟩) (cComeOf : PySem.W.codeIn K cdComeOf "come_of" = true) (kComeOf : PySem.W.keepIn K (.ref fComeOf) = true)
    {fWithin : Addr} {odWithin anWithin : Option Addr} {slWithin : Array (Option Value)} {ocWithin kVWithin dcWithin pmWithin cdWithin ctWithin : Value}
    (aWithin : PySem.W.nsIn K mainGlobals "within" = some (some (.ref fWithin))) (lWithin : K.lookup fWithin = some ⟨ocWithin, odWithin, .func (PySem.W.fnOf "within" "within" (defArgs sWithin) (defBody sWithin) (defScope sWithin) .none kVWithin dcWithin pmWithin anWithin cdWithin ctWithin), slWithin⟩) (cWithin : PySem.W.codeIn K cdWithin "within" = true) (kWithin : PySem.W.keepIn K (.ref fWithin) = true)
    {fAllIn : Addr} {odAllIn anAllIn : Option Addr} {slAllIn : Array (Option Value)} {ocAllIn kVAllIn dcAllIn pmAllIn cdAllIn ctAllIn : Value}
    (aAllIn : PySem.W.nsIn K mainGlobals "all_in" = some (some (.ref fAllIn))) (lAllIn : K.lookup fAllIn = some ⟨ocAllIn, odAllIn, .func (PySem.W.fnOf "all_in" "all_in" (defArgs sAllIn) (defBody sAllIn) (defScope sAllIn) .none kVAllIn dcAllIn pmAllIn anAllIn cdAllIn ctAllIn), slAllIn⟩) (cAllIn : PySem.W.codeIn K cdAllIn "all_in" = true) (kAllIn : PySem.W.keepIn K (.ref fAllIn) = true)
    {fAllFunctions : Addr} {odAllFunctions anAllFunctions : Option Addr} {slAllFunctions : Array (Option Value)} {ocAllFunctions kVAllFunctions dcAllFunctions pmAllFunctions cdAllFunctions ctAllFunctions : Value}
    (aAllFunctions : PySem.W.nsIn K mainGlobals "all_functions" = some (some (.ref fAllFunctions))) (lAllFunctions : K.lookup fAllFunctions = some ⟨ocAllFunctions, odAllFunctions, .func (PySem.W.fnOf "all_functions" "all_functions" (defArgs sAllFunctions) (defBody sAllFunctions) (defScope sAllFunctions) .none kVAllFunctions dcAllFunctions pmAllFunctions anAllFunctions cdAllFunctions ctAllFunctions), slAllFunctions⟩) (cAllFunctions : PySem.W.codeIn K cdAllFunctions "all_functions" = true) (kAllFunctions : PySem.W.keepIn K (.ref fAllFunctions) = true)
    {fNumberOf : Addr} {odNumberOf anNumberOf : Option Addr} {slNumberOf : Array (Option Value)} {ocNumberOf kVNumberOf dcNumberOf pmNumberOf cdNumberOf ctNumberOf : Value}
    (aNumberOf : PySem.W.nsIn K mainGlobals "number_of" = some (some (.ref fNumberOf))) (lNumberOf : K.lookup fNumberOf = some ⟨ocNumberOf, odNumberOf, .func (PySem.W.fnOf "number_of" "number_of" (defArgs sNumberOf) (defBody sNumberOf) (defScope sNumberOf) .none kVNumberOf dcNumberOf pmNumberOf anNumberOf cdNumberOf ctNumberOf), slNumberOf⟩) (cNumberOf : PySem.W.codeIn K cdNumberOf "number_of" = true) (kNumberOf : PySem.W.keepIn K (.ref fNumberOf) = true)
    {fFunctionOf : Addr} {odFunctionOf anFunctionOf : Option Addr} {slFunctionOf : Array (Option Value)} {ocFunctionOf kVFunctionOf dcFunctionOf pmFunctionOf cdFunctionOf ctFunctionOf : Value}
    (aFunctionOf : PySem.W.nsIn K mainGlobals "function_of" = some (some (.ref fFunctionOf))) (lFunctionOf : K.lookup fFunctionOf = some ⟨ocFunctionOf, odFunctionOf, .func (PySem.W.fnOf "function_of" "function_of" (defArgs sFunctionOf) (defBody sFunctionOf) (defScope sFunctionOf) .none kVFunctionOf dcFunctionOf pmFunctionOf anFunctionOf cdFunctionOf ctFunctionOf), slFunctionOf⟩) (cFunctionOf : PySem.W.codeIn K cdFunctionOf "function_of" = true) (kFunctionOf : PySem.W.keepIn K (.ref fFunctionOf) = true)
    {fWants : Addr} {odWants anWants : Option Addr} {slWants : Array (Option Value)} {ocWants kVWants dcWants pmWants cdWants ctWants : Value}
    (aWants : PySem.W.nsIn K mainGlobals "wants" = some (some (.ref fWants))) (lWants : K.lookup fWants = some ⟨ocWants, odWants, .func (PySem.W.fnOf "wants" "wants" (defArgs sWants) (defBody sWants) (defScope sWants) .none kVWants dcWants pmWants anWants cdWants ctWants), slWants⟩) (cWants : PySem.W.codeIn K cdWants "wants" = true) (kWants : PySem.W.keepIn K (.ref fWants) = true)
    {fMostWanted : Addr} {odMostWanted anMostWanted : Option Addr} {slMostWanted : Array (Option Value)} {ocMostWanted kVMostWanted dcMostWanted pmMostWanted cdMostWanted ctMostWanted : Value}
    (aMostWanted : PySem.W.nsIn K mainGlobals "most_wanted" = some (some (.ref fMostWanted))) (lMostWanted : K.lookup fMostWanted = some ⟨ocMostWanted, odMostWanted, .func (PySem.W.fnOf "most_wanted" "most_wanted" (defArgs sMostWanted) (defBody sMostWanted) (defScope sMostWanted) .none kVMostWanted dcMostWanted pmMostWanted anMostWanted cdMostWanted ctMostWanted), slMostWanted⟩) (cMostWanted : PySem.W.codeIn K cdMostWanted "most_wanted" = true) (kMostWanted : PySem.W.keepIn K (.ref fMostWanted) = true)
    {fMadeOf : Addr} {odMadeOf anMadeOf : Option Addr} {slMadeOf : Array (Option Value)} {ocMadeOf kVMadeOf dcMadeOf pmMadeOf cdMadeOf ctMadeOf : Value}
    (aMadeOf : PySem.W.nsIn K mainGlobals "made_of" = some (some (.ref fMadeOf))) (lMadeOf : K.lookup fMadeOf = some ⟨ocMadeOf, odMadeOf, .func (PySem.W.fnOf "made_of" "made_of" (defArgs sMadeOf) (defBody sMadeOf) (defScope sMadeOf) .none kVMadeOf dcMadeOf pmMadeOf anMadeOf cdMadeOf ctMadeOf), slMadeOf⟩) (cMadeOf : PySem.W.codeIn K cdMadeOf "made_of" = true) (kMadeOf : PySem.W.keepIn K (.ref fMadeOf) = true)
    {fPutIn : Addr} {odPutIn anPutIn : Option Addr} {slPutIn : Array (Option Value)} {ocPutIn kVPutIn dcPutIn pmPutIn cdPutIn ctPutIn : Value}
    (aPutIn : PySem.W.nsIn K mainGlobals "put_in" = some (some (.ref fPutIn))) (lPutIn : K.lookup fPutIn = some ⟨ocPutIn, odPutIn, .func (PySem.W.fnOf "put_in" "put_in" (defArgs sPutIn) (defBody sPutIn) (defScope sPutIn) .none kVPutIn dcPutIn pmPutIn anPutIn cdPutIn ctPutIn), slPutIn⟩) (cPutIn : PySem.W.codeIn K cdPutIn "put_in" = true) (kPutIn : PySem.W.keepIn K (.ref fPutIn) = true)
    {fGiven : Addr} {odGiven anGiven : Option Addr} {slGiven : Array (Option Value)} {ocGiven kVGiven dcGiven pmGiven cdGiven ctGiven : Value}
    (aGiven : PySem.W.nsIn K mainGlobals "given" = some (some (.ref fGiven))) (lGiven : K.lookup fGiven = some ⟨ocGiven, odGiven, .func (PySem.W.fnOf "given" "given" (defArgs sGiven) (defBody sGiven) (defScope sGiven) .none kVGiven dcGiven pmGiven anGiven cdGiven ctGiven), slGiven⟩) (cGiven : PySem.W.codeIn K cdGiven "given" = true) (kGiven : PySem.W.keepIn K (.ref fGiven) = true)
    {fIsWorth : Addr} {odIsWorth anIsWorth : Option Addr} {slIsWorth : Array (Option Value)} {ocIsWorth kVIsWorth dcIsWorth pmIsWorth cdIsWorth ctIsWorth : Value}
    (aIsWorth : PySem.W.nsIn K mainGlobals "is_worth" = some (some (.ref fIsWorth))) (lIsWorth : K.lookup fIsWorth = some ⟨ocIsWorth, odIsWorth, .func (PySem.W.fnOf "is_worth" "is_worth" (defArgs sIsWorth) (defBody sIsWorth) (defScope sIsWorth) .none kVIsWorth dcIsWorth pmIsWorth anIsWorth cdIsWorth ctIsWorth), slIsWorth⟩) (cIsWorth : PySem.W.codeIn K cdIsWorth "is_worth" = true) (kIsWorth : PySem.W.keepIn K (.ref fIsWorth) = true)
    {fDueOfCall : Addr} {odDueOfCall anDueOfCall : Option Addr} {slDueOfCall : Array (Option Value)} {ocDueOfCall kVDueOfCall dcDueOfCall pmDueOfCall cdDueOfCall ctDueOfCall : Value}
    (aDueOfCall : PySem.W.nsIn K mainGlobals "due_of_call" = some (some (.ref fDueOfCall))) (lDueOfCall : K.lookup fDueOfCall = some ⟨ocDueOfCall, odDueOfCall, .func (PySem.W.fnOf "due_of_call" "due_of_call" (defArgs sDueOfCall) (defBody sDueOfCall) (defScope sDueOfCall) .none kVDueOfCall dcDueOfCall pmDueOfCall anDueOfCall cdDueOfCall ctDueOfCall), slDueOfCall⟩) (cDueOfCall : PySem.W.codeIn K cdDueOfCall "due_of_call" = true) (kDueOfCall : PySem.W.keepIn K (.ref fDueOfCall) = true)
    {fDueOfGive : Addr} {odDueOfGive anDueOfGive : Option Addr} {slDueOfGive : Array (Option Value)} {ocDueOfGive kVDueOfGive dcDueOfGive pmDueOfGive cdDueOfGive ctDueOfGive : Value}
    (aDueOfGive : PySem.W.nsIn K mainGlobals "due_of_give" = some (some (.ref fDueOfGive))) (lDueOfGive : K.lookup fDueOfGive = some ⟨ocDueOfGive, odDueOfGive, .func (PySem.W.fnOf "due_of_give" "due_of_give" (defArgs sDueOfGive) (defBody sDueOfGive) (defScope sDueOfGive) .none kVDueOfGive dcDueOfGive pmDueOfGive anDueOfGive cdDueOfGive ctDueOfGive), slDueOfGive⟩) (cDueOfGive : PySem.W.codeIn K cdDueOfGive "due_of_give" = true) (kDueOfGive : PySem.W.keepIn K (.ref fDueOfGive) = true)
    {fDueOfLet : Addr} {odDueOfLet anDueOfLet : Option Addr} {slDueOfLet : Array (Option Value)} {ocDueOfLet kVDueOfLet dcDueOfLet pmDueOfLet cdDueOfLet ctDueOfLet : Value}
    (aDueOfLet : PySem.W.nsIn K mainGlobals "due_of_let" = some (some (.ref fDueOfLet))) (lDueOfLet : K.lookup fDueOfLet = some ⟨ocDueOfLet, odDueOfLet, .func (PySem.W.fnOf "due_of_let" "due_of_let" (defArgs sDueOfLet) (defBody sDueOfLet) (defScope sDueOfLet) .none kVDueOfLet dcDueOfLet pmDueOfLet anDueOfLet cdDueOfLet ctDueOfLet), slDueOfLet⟩) (cDueOfLet : PySem.W.codeIn K cdDueOfLet "due_of_let" = true) (kDueOfLet : PySem.W.keepIn K (.ref fDueOfLet) = true)
    {fDueOfShut : Addr} {odDueOfShut anDueOfShut : Option Addr} {slDueOfShut : Array (Option Value)} {ocDueOfShut kVDueOfShut dcDueOfShut pmDueOfShut cdDueOfShut ctDueOfShut : Value}
    (aDueOfShut : PySem.W.nsIn K mainGlobals "due_of_shut" = some (some (.ref fDueOfShut))) (lDueOfShut : K.lookup fDueOfShut = some ⟨ocDueOfShut, odDueOfShut, .func (PySem.W.fnOf "due_of_shut" "due_of_shut" (defArgs sDueOfShut) (defBody sDueOfShut) (defScope sDueOfShut) .none kVDueOfShut dcDueOfShut pmDueOfShut anDueOfShut cdDueOfShut ctDueOfShut), slDueOfShut⟩) (cDueOfShut : PySem.W.codeIn K cdDueOfShut "due_of_shut" = true) (kDueOfShut : PySem.W.keepIn K (.ref fDueOfShut) = true)
    {fDueOfTwo : Addr} {odDueOfTwo anDueOfTwo : Option Addr} {slDueOfTwo : Array (Option Value)} {ocDueOfTwo kVDueOfTwo dcDueOfTwo pmDueOfTwo cdDueOfTwo ctDueOfTwo : Value}
    (aDueOfTwo : PySem.W.nsIn K mainGlobals "due_of_two" = some (some (.ref fDueOfTwo))) (lDueOfTwo : K.lookup fDueOfTwo = some ⟨ocDueOfTwo, odDueOfTwo, .func (PySem.W.fnOf "due_of_two" "due_of_two" (defArgs sDueOfTwo) (defBody sDueOfTwo) (defScope sDueOfTwo) .none kVDueOfTwo dcDueOfTwo pmDueOfTwo anDueOfTwo cdDueOfTwo ctDueOfTwo), slDueOfTwo⟩) (cDueOfTwo : PySem.W.codeIn K cdDueOfTwo "due_of_two" = true) (kDueOfTwo : PySem.W.keepIn K (.ref fDueOfTwo) = true)
    {fDueOfWhen : Addr} {odDueOfWhen anDueOfWhen : Option Addr} {slDueOfWhen : Array (Option Value)} {ocDueOfWhen kVDueOfWhen dcDueOfWhen pmDueOfWhen cdDueOfWhen ctDueOfWhen : Value}
    (aDueOfWhen : PySem.W.nsIn K mainGlobals "due_of_when" = some (some (.ref fDueOfWhen))) (lDueOfWhen : K.lookup fDueOfWhen = some ⟨ocDueOfWhen, odDueOfWhen, .func (PySem.W.fnOf "due_of_when" "due_of_when" (defArgs sDueOfWhen) (defBody sDueOfWhen) (defScope sDueOfWhen) .none kVDueOfWhen dcDueOfWhen pmDueOfWhen anDueOfWhen cdDueOfWhen ctDueOfWhen), slDueOfWhen⟩) (cDueOfWhen : PySem.W.codeIn K cdDueOfWhen "due_of_when" = true) (kDueOfWhen : PySem.W.keepIn K (.ref fDueOfWhen) = true)
    {fDueOfSide : Addr} {odDueOfSide anDueOfSide : Option Addr} {slDueOfSide : Array (Option Value)} {ocDueOfSide kVDueOfSide dcDueOfSide pmDueOfSide cdDueOfSide ctDueOfSide : Value}
    (aDueOfSide : PySem.W.nsIn K mainGlobals "due_of_side" = some (some (.ref fDueOfSide))) (lDueOfSide : K.lookup fDueOfSide = some ⟨ocDueOfSide, odDueOfSide, .func (PySem.W.fnOf "due_of_side" "due_of_side" (defArgs sDueOfSide) (defBody sDueOfSide) (defScope sDueOfSide) .none kVDueOfSide dcDueOfSide pmDueOfSide anDueOfSide cdDueOfSide ctDueOfSide), slDueOfSide⟩) (cDueOfSide : PySem.W.codeIn K cdDueOfSide "due_of_side" = true) (kDueOfSide : PySem.W.keepIn K (.ref fDueOfSide) = true)
    {fDue : Addr} {odDue anDue : Option Addr} {slDue : Array (Option Value)} {ocDue kVDue dcDue pmDue cdDue ctDue : Value}
    (aDue : PySem.W.nsIn K mainGlobals "due" = some (some (.ref fDue))) (lDue : K.lookup fDue = some ⟨ocDue, odDue, .func (PySem.W.fnOf "due" "due" (defArgs sDue) (defBody sDue) (defScope sDue) .none kVDue dcDue pmDue anDue cdDue ctDue), slDue⟩) (cDue : PySem.W.codeIn K cdDue "due" = true) (kDue : PySem.W.keepIn K (.ref fDue) = true)
    {fPutBack : Addr} {odPutBack anPutBack : Option Addr} {slPutBack : Array (Option Value)} {ocPutBack kVPutBack dcPutBack pmPutBack cdPutBack ctPutBack : Value}
    (aPutBack : PySem.W.nsIn K mainGlobals "put_back" = some (some (.ref fPutBack))) (lPutBack : K.lookup fPutBack = some ⟨ocPutBack, odPutBack, .func (PySem.W.fnOf "put_back" "put_back" (defArgs sPutBack) (defBody sPutBack) (defScope sPutBack) .none kVPutBack dcPutBack pmPutBack anPutBack cdPutBack ctPutBack), slPutBack⟩) (cPutBack : PySem.W.codeIn K cdPutBack "put_back" = true) (kPutBack : PySem.W.keepIn K (.ref fPutBack) = true)
    {fGoToStep : Addr} {odGoToStep anGoToStep : Option Addr} {slGoToStep : Array (Option Value)} {ocGoToStep kVGoToStep dcGoToStep pmGoToStep cdGoToStep ctGoToStep : Value}
    (aGoToStep : PySem.W.nsIn K mainGlobals "go_to_step" = some (some (.ref fGoToStep))) (lGoToStep : K.lookup fGoToStep = some ⟨ocGoToStep, odGoToStep, .func (PySem.W.fnOf "go_to_step" "go_to_step" (defArgs sGoToStep) (defBody sGoToStep) (defScope sGoToStep) .none kVGoToStep dcGoToStep pmGoToStep anGoToStep cdGoToStep ctGoToStep), slGoToStep⟩) (cGoToStep : PySem.W.codeIn K cdGoToStep "go_to_step" = true) (kGoToStep : PySem.W.keepIn K (.ref fGoToStep) = true)
    {fStep : Addr} {odStep anStep : Option Addr} {slStep : Array (Option Value)} {ocStep kVStep dcStep pmStep cdStep ctStep : Value}
    (aStep : PySem.W.nsIn K mainGlobals "step" = some (some (.ref fStep))) (lStep : K.lookup fStep = some ⟨ocStep, odStep, .func (PySem.W.fnOf "step" "step" (defArgs sStep) (defBody sStep) (defScope sStep) .none kVStep dcStep pmStep anStep cdStep ctStep), slStep⟩) (cStep : PySem.W.codeIn K cdStep "step" = true) (kStep : PySem.W.keepIn K (.ref fStep) = true)
    {fLPen : Addr} {odLPen anLPen : Option Addr} {slLPen : Array (Option Value)} {ocLPen kVLPen dcLPen pmLPen cdLPen ctLPen : Value}
    (aLPen : PySem.W.nsIn K mainGlobals "_law_pen" = some (some (.ref fLPen))) (lLPen : K.lookup fLPen = some ⟨ocLPen, odLPen, .func (PySem.W.fnOf "_law_pen" "_law_pen" (defArgs sLPen) (defBody sLPen) (defScope sLPen) .none kVLPen dcLPen pmLPen anLPen cdLPen ctLPen), slLPen⟩) (cLPen : PySem.W.codeIn K cdLPen "_law_pen" = true) (kLPen : PySem.W.keepIn K (.ref fLPen) = true)
    {fLDraw : Addr} {odLDraw anLDraw : Option Addr} {slLDraw : Array (Option Value)} {ocLDraw kVLDraw dcLDraw pmLDraw cdLDraw ctLDraw : Value}
    (aLDraw : PySem.W.nsIn K mainGlobals "_law_draw" = some (some (.ref fLDraw))) (lLDraw : K.lookup fLDraw = some ⟨ocLDraw, odLDraw, .func (PySem.W.fnOf "_law_draw" "_law_draw" (defArgs sLDraw) (defBody sLDraw) (defScope sLDraw) .none kVLDraw dcLDraw pmLDraw anLDraw cdLDraw ctLDraw), slLDraw⟩) (cLDraw : PySem.W.codeIn K cdLDraw "_law_draw" = true) (kLDraw : PySem.W.keepIn K (.ref fLDraw) = true)
    {fLNames : Addr} {odLNames anLNames : Option Addr} {slLNames : Array (Option Value)} {ocLNames kVLNames dcLNames pmLNames cdLNames ctLNames : Value}
    (aLNames : PySem.W.nsIn K mainGlobals "_law_names" = some (some (.ref fLNames))) (lLNames : K.lookup fLNames = some ⟨ocLNames, odLNames, .func (PySem.W.fnOf "_law_names" "_law_names" (defArgs sLNames) (defBody sLNames) (defScope sLNames) .none kVLNames dcLNames pmLNames anLNames cdLNames ctLNames), slLNames⟩) (cLNames : PySem.W.codeIn K cdLNames "_law_names" = true) (kLNames : PySem.W.keepIn K (.ref fLNames) = true)
    {fLNumber : Addr} {odLNumber anLNumber : Option Addr} {slLNumber : Array (Option Value)} {ocLNumber kVLNumber dcLNumber pmLNumber cdLNumber ctLNumber : Value}
    (aLNumber : PySem.W.nsIn K mainGlobals "_law_number" = some (some (.ref fLNumber))) (lLNumber : K.lookup fLNumber = some ⟨ocLNumber, odLNumber, .func (PySem.W.fnOf "_law_number" "_law_number" (defArgs sLNumber) (defBody sLNumber) (defScope sLNumber) .none kVLNumber dcLNumber pmLNumber anLNumber cdLNumber ctLNumber), slLNumber⟩) (cLNumber : PySem.W.codeIn K cdLNumber "_law_number" = true) (kLNumber : PySem.W.keepIn K (.ref fLNumber) = true)
    {fLLeaf : Addr} {odLLeaf anLLeaf : Option Addr} {slLLeaf : Array (Option Value)} {ocLLeaf kVLLeaf dcLLeaf pmLLeaf cdLLeaf ctLLeaf : Value}
    (aLLeaf : PySem.W.nsIn K mainGlobals "_law_leaf" = some (some (.ref fLLeaf))) (lLLeaf : K.lookup fLLeaf = some ⟨ocLLeaf, odLLeaf, .func (PySem.W.fnOf "_law_leaf" "_law_leaf" (defArgs sLLeaf) (defBody sLLeaf) (defScope sLLeaf) .none kVLLeaf dcLLeaf pmLLeaf anLLeaf cdLLeaf ctLLeaf), slLLeaf⟩) (cLLeaf : PySem.W.codeIn K cdLLeaf "_law_leaf" = true) (kLLeaf : PySem.W.keepIn K (.ref fLLeaf) = true)
    {fLFits : Addr} {odLFits anLFits : Option Addr} {slLFits : Array (Option Value)} {ocLFits kVLFits dcLFits pmLFits cdLFits ctLFits : Value}
    (aLFits : PySem.W.nsIn K mainGlobals "_law_fits" = some (some (.ref fLFits))) (lLFits : K.lookup fLFits = some ⟨ocLFits, odLFits, .func (PySem.W.fnOf "_law_fits" "_law_fits" (defArgs sLFits) (defBody sLFits) (defScope sLFits) .none kVLFits dcLFits pmLFits anLFits cdLFits ctLFits), slLFits⟩) (cLFits : PySem.W.codeIn K cdLFits "_law_fits" = true) (kLFits : PySem.W.keepIn K (.ref fLFits) = true)
    {fLCall : Addr} {odLCall anLCall : Option Addr} {slLCall : Array (Option Value)} {ocLCall kVLCall dcLCall pmLCall cdLCall ctLCall : Value}
    (aLCall : PySem.W.nsIn K mainGlobals "_law_call" = some (some (.ref fLCall))) (lLCall : K.lookup fLCall = some ⟨ocLCall, odLCall, .func (PySem.W.fnOf "_law_call" "_law_call" (defArgs sLCall) (defBody sLCall) (defScope sLCall) .none kVLCall dcLCall pmLCall anLCall cdLCall ctLCall), slLCall⟩) (cLCall : PySem.W.codeIn K cdLCall "_law_call" = true) (kLCall : PySem.W.keepIn K (.ref fLCall) = true)
    {fLLet : Addr} {odLLet anLLet : Option Addr} {slLLet : Array (Option Value)} {ocLLet kVLLet dcLLet pmLLet cdLLet ctLLet : Value}
    (aLLet : PySem.W.nsIn K mainGlobals "_law_let" = some (some (.ref fLLet))) (lLLet : K.lookup fLLet = some ⟨ocLLet, odLLet, .func (PySem.W.fnOf "_law_let" "_law_let" (defArgs sLLet) (defBody sLLet) (defScope sLLet) .none kVLLet dcLLet pmLLet anLLet cdLLet ctLLet), slLLet⟩) (cLLet : PySem.W.codeIn K cdLLet "_law_let" = true) (kLLet : PySem.W.keepIn K (.ref fLLet) = true)
    {fLPart : Addr} {odLPart anLPart : Option Addr} {slLPart : Array (Option Value)} {ocLPart kVLPart dcLPart pmLPart cdLPart ctLPart : Value}
    (aLPart : PySem.W.nsIn K mainGlobals "_law_part" = some (some (.ref fLPart))) (lLPart : K.lookup fLPart = some ⟨ocLPart, odLPart, .func (PySem.W.fnOf "_law_part" "_law_part" (defArgs sLPart) (defBody sLPart) (defScope sLPart) .none kVLPart dcLPart pmLPart anLPart cdLPart ctLPart), slLPart⟩) (cLPart : PySem.W.codeIn K cdLPart "_law_part" = true) (kLPart : PySem.W.keepIn K (.ref fLPart) = true)
    {fLLoop : Addr} {odLLoop anLLoop : Option Addr} {slLLoop : Array (Option Value)} {ocLLoop kVLLoop dcLLoop pmLLoop cdLLoop ctLLoop : Value}
    (aLLoop : PySem.W.nsIn K mainGlobals "_law_loop" = some (some (.ref fLLoop))) (lLLoop : K.lookup fLLoop = some ⟨ocLLoop, odLLoop, .func (PySem.W.fnOf "_law_loop" "_law_loop" (defArgs sLLoop) (defBody sLLoop) (defScope sLLoop) .none kVLLoop dcLLoop pmLLoop anLLoop cdLLoop ctLLoop), slLLoop⟩) (cLLoop : PySem.W.codeIn K cdLLoop "_law_loop" = true) (kLLoop : PySem.W.keepIn K (.ref fLLoop) = true)
    {fLBody : Addr} {odLBody anLBody : Option Addr} {slLBody : Array (Option Value)} {ocLBody kVLBody dcLBody pmLBody cdLBody ctLBody : Value}
    (aLBody : PySem.W.nsIn K mainGlobals "_law_body" = some (some (.ref fLBody))) (lLBody : K.lookup fLBody = some ⟨ocLBody, odLBody, .func (PySem.W.fnOf "_law_body" "_law_body" (defArgs sLBody) (defBody sLBody) (defScope sLBody) .none kVLBody dcLBody pmLBody anLBody cdLBody ctLBody), slLBody⟩) (cLBody : PySem.W.codeIn K cdLBody "_law_body" = true) (kLBody : PySem.W.keepIn K (.ref fLBody) = true)
    {fLProgram : Addr} {odLProgram anLProgram : Option Addr} {slLProgram : Array (Option Value)} {ocLProgram kVLProgram dcLProgram pmLProgram cdLProgram ctLProgram : Value}
    (aLProgram : PySem.W.nsIn K mainGlobals "_law_program" = some (some (.ref fLProgram))) (lLProgram : K.lookup fLProgram = some ⟨ocLProgram, odLProgram, .func (PySem.W.fnOf "_law_program" "_law_program" (defArgs sLProgram) (defBody sLProgram) (defScope sLProgram) .none kVLProgram dcLProgram pmLProgram anLProgram cdLProgram ctLProgram), slLProgram⟩) (cLProgram : PySem.W.codeIn K cdLProgram "_law_program" = true) (kLProgram : PySem.W.keepIn K (.ref fLProgram) = true)
    {fLWants : Addr} {odLWants anLWants : Option Addr} {slLWants : Array (Option Value)} {ocLWants kVLWants dcLWants pmLWants cdLWants ctLWants : Value}
    (aLWants : PySem.W.nsIn K mainGlobals "_law_wants" = some (some (.ref fLWants))) (lLWants : K.lookup fLWants = some ⟨ocLWants, odLWants, .func (PySem.W.fnOf "_law_wants" "_law_wants" (defArgs sLWants) (defBody sLWants) (defScope sLWants) .none kVLWants dcLWants pmLWants anLWants cdLWants ctLWants), slLWants⟩) (cLWants : PySem.W.codeIn K cdLWants "_law_wants" = true) (kLWants : PySem.W.keepIn K (.ref fLWants) = true)
    {fLShut : Addr} {odLShut anLShut : Option Addr} {slLShut : Array (Option Value)} {ocLShut kVLShut dcLShut pmLShut cdLShut ctLShut : Value}
    (aLShut : PySem.W.nsIn K mainGlobals "_law_shut" = some (some (.ref fLShut))) (lLShut : K.lookup fLShut = some ⟨ocLShut, odLShut, .func (PySem.W.fnOf "_law_shut" "_law_shut" (defArgs sLShut) (defBody sLShut) (defScope sLShut) .none kVLShut dcLShut pmLShut anLShut cdLShut ctLShut), slLShut⟩) (cLShut : PySem.W.codeIn K cdLShut "_law_shut" = true) (kLShut : PySem.W.keepIn K (.ref fLShut) = true)
    {fLPut : Addr} {odLPut anLPut : Option Addr} {slLPut : Array (Option Value)} {ocLPut kVLPut dcLPut pmLPut cdLPut ctLPut : Value}
    (aLPut : PySem.W.nsIn K mainGlobals "_law_put" = some (some (.ref fLPut))) (lLPut : K.lookup fLPut = some ⟨ocLPut, odLPut, .func (PySem.W.fnOf "_law_put" "_law_put" (defArgs sLPut) (defBody sLPut) (defScope sLPut) .none kVLPut dcLPut pmLPut anLPut cdLPut ctLPut), slLPut⟩) (cLPut : PySem.W.codeIn K cdLPut "_law_put" = true) (kLPut : PySem.W.keepIn K (.ref fLPut) = true)
    {fLSpine : Addr} {odLSpine anLSpine : Option Addr} {slLSpine : Array (Option Value)} {ocLSpine kVLSpine dcLSpine pmLSpine cdLSpine ctLSpine : Value}
    (aLSpine : PySem.W.nsIn K mainGlobals "_law_spine" = some (some (.ref fLSpine))) (lLSpine : K.lookup fLSpine = some ⟨ocLSpine, odLSpine, .func (PySem.W.fnOf "_law_spine" "_law_spine" (defArgs sLSpine) (defBody sLSpine) (defScope sLSpine) .none kVLSpine dcLSpine pmLSpine anLSpine cdLSpine ctLSpine), slLSpine⟩) (cLSpine : PySem.W.codeIn K cdLSpine "_law_spine" = true) (kLSpine : PySem.W.keepIn K (.ref fLSpine) = true)
    {fLIsWorth : Addr} {odLIsWorth anLIsWorth : Option Addr} {slLIsWorth : Array (Option Value)} {ocLIsWorth kVLIsWorth dcLIsWorth pmLIsWorth cdLIsWorth ctLIsWorth : Value}
    (aLIsWorth : PySem.W.nsIn K mainGlobals "_law_is_worth" = some (some (.ref fLIsWorth))) (lLIsWorth : K.lookup fLIsWorth = some ⟨ocLIsWorth, odLIsWorth, .func (PySem.W.fnOf "_law_is_worth" "_law_is_worth" (defArgs sLIsWorth) (defBody sLIsWorth) (defScope sLIsWorth) .none kVLIsWorth dcLIsWorth pmLIsWorth anLIsWorth cdLIsWorth ctLIsWorth), slLIsWorth⟩) (cLIsWorth : PySem.W.codeIn K cdLIsWorth "_law_is_worth" = true) (kLIsWorth : PySem.W.keepIn K (.ref fLIsWorth) = true)
    {fLWithin : Addr} {odLWithin anLWithin : Option Addr} {slLWithin : Array (Option Value)} {ocLWithin kVLWithin dcLWithin pmLWithin cdLWithin ctLWithin : Value}
    (aLWithin : PySem.W.nsIn K mainGlobals "_law_within" = some (some (.ref fLWithin))) (lLWithin : K.lookup fLWithin = some ⟨ocLWithin, odLWithin, .func (PySem.W.fnOf "_law_within" "_law_within" (defArgs sLWithin) (defBody sLWithin) (defScope sLWithin) .none kVLWithin dcLWithin pmLWithin anLWithin cdLWithin ctLWithin), slLWithin⟩) (cLWithin : PySem.W.codeIn K cdLWithin "_law_within" = true) (kLWithin : PySem.W.keepIn K (.ref fLWithin) = true)
    {fLCallOf : Addr} {odLCallOf anLCallOf : Option Addr} {slLCallOf : Array (Option Value)} {ocLCallOf kVLCallOf dcLCallOf pmLCallOf cdLCallOf ctLCallOf : Value}
    (aLCallOf : PySem.W.nsIn K mainGlobals "_law_call_of" = some (some (.ref fLCallOf))) (lLCallOf : K.lookup fLCallOf = some ⟨ocLCallOf, odLCallOf, .func (PySem.W.fnOf "_law_call_of" "_law_call_of" (defArgs sLCallOf) (defBody sLCallOf) (defScope sLCallOf) .none kVLCallOf dcLCallOf pmLCallOf anLCallOf cdLCallOf ctLCallOf), slLCallOf⟩) (cLCallOf : PySem.W.codeIn K cdLCallOf "_law_call_of" = true) (kLCallOf : PySem.W.keepIn K (.ref fLCallOf) = true)
    {fLOfTwo : Addr} {odLOfTwo anLOfTwo : Option Addr} {slLOfTwo : Array (Option Value)} {ocLOfTwo kVLOfTwo dcLOfTwo pmLOfTwo cdLOfTwo ctLOfTwo : Value}
    (aLOfTwo : PySem.W.nsIn K mainGlobals "_law_of_two" = some (some (.ref fLOfTwo))) (lLOfTwo : K.lookup fLOfTwo = some ⟨ocLOfTwo, odLOfTwo, .func (PySem.W.fnOf "_law_of_two" "_law_of_two" (defArgs sLOfTwo) (defBody sLOfTwo) (defScope sLOfTwo) .none kVLOfTwo dcLOfTwo pmLOfTwo anLOfTwo cdLOfTwo ctLOfTwo), slLOfTwo⟩) (cLOfTwo : PySem.W.codeIn K cdLOfTwo "_law_of_two" = true) (kLOfTwo : PySem.W.keepIn K (.ref fLOfTwo) = true)
    {fLStep : Addr} {odLStep anLStep : Option Addr} {slLStep : Array (Option Value)} {ocLStep kVLStep dcLStep pmLStep cdLStep ctLStep : Value}
    (aLStep : PySem.W.nsIn K mainGlobals "_law_step" = some (some (.ref fLStep))) (lLStep : K.lookup fLStep = some ⟨ocLStep, odLStep, .func (PySem.W.fnOf "_law_step" "_law_step" (defArgs sLStep) (defBody sLStep) (defScope sLStep) .none kVLStep dcLStep pmLStep anLStep cdLStep ctLStep), slLStep⟩) (cLStep : PySem.W.codeIn K cdLStep "_law_step" = true) (kLStep : PySem.W.keepIn K (.ref fLStep) = true)
    {fLAround : Addr} {odLAround anLAround : Option Addr} {slLAround : Array (Option Value)} {ocLAround kVLAround dcLAround pmLAround cdLAround ctLAround : Value}
    (aLAround : PySem.W.nsIn K mainGlobals "_law_around" = some (some (.ref fLAround))) (lLAround : K.lookup fLAround = some ⟨ocLAround, odLAround, .func (PySem.W.fnOf "_law_around" "_law_around" (defArgs sLAround) (defBody sLAround) (defScope sLAround) .none kVLAround dcLAround pmLAround anLAround cdLAround ctLAround), slLAround⟩) (cLAround : PySem.W.codeIn K cdLAround "_law_around" = true) (kLAround : PySem.W.keepIn K (.ref fLAround) = true)
    {fLaw : Addr} {odLaw anLaw : Option Addr} {slLaw : Array (Option Value)} {ocLaw kVLaw dcLaw pmLaw cdLaw ctLaw : Value}
    (aLaw : PySem.W.nsIn K mainGlobals "law" = some (some (.ref fLaw))) (lLaw : K.lookup fLaw = some ⟨ocLaw, odLaw, .func (PySem.W.fnOf "law" "law" (defArgs sLaw) (defBody sLaw) (defScope sLaw) .none kVLaw dcLaw pmLaw anLaw cdLaw ctLaw), slLaw⟩) (cLaw : PySem.W.codeIn K cdLaw "law" = true) (kLaw : PySem.W.keepIn K (.ref fLaw) = true)
    (zlen : PySem.W.nsIn K mainGlobals "len" = some none)
    (zmax : PySem.W.nsIn K mainGlobals "max" = some none)
    (zmin : PySem.W.nsIn K mainGlobals "min" = some none)
    (zabs : PySem.W.nsIn K mainGlobals "abs" = some none)
    (zrange : PySem.W.nsIn K mainGlobals "range" = some none)
    (zint : PySem.W.nsIn K mainGlobals "int" = some none)
    (zlist : PySem.W.nsIn K mainGlobals "list" = some none)
    (ztuple : PySem.W.nsIn K mainGlobals "tuple" = some none)
    (zsum : PySem.W.nsIn K mainGlobals "sum" = some none)
    (zisinstance : PySem.W.nsIn K mainGlobals "isinstance" = some none)
    (zbool : PySem.W.nsIn K mainGlobals "bool" = some none)
    (zdict : PySem.W.nsIn K mainGlobals "dict" = some none)
    (zzip : PySem.W.nsIn K mainGlobals "zip" = some none)
    (zreversed : PySem.W.nsIn K mainGlobals "reversed" = some none)
    (aP : PySem.W.nsIn K mainGlobals "PARTS_OF" = some (some (.ref pd))) (lP : K.lookup pd = some ⟨.type "dict", none, .dict es n, #[]⟩) (tP : PySem.W.KeysLit w.params es.toList) (wP : (pd == sysModules) = false)
    (h1 : PySem.W.nsIn K pd "give" = some (some u1)) (h2 : PySem.W.nsIn K pd "plus" = some (some u2)) (h3 : PySem.W.nsIn K pd "less" = some (some u3)) (h4 : PySem.W.nsIn K pd "times" = some (some u4)) (h5 : PySem.W.nsIn K pd "below" = some (some u5))
    (h6 : PySem.W.nsIn K pd "when" = some (some u6)) (h7 : PySem.W.nsIn K pd "pair" = some (some u7)) (h8 : PySem.W.nsIn K pd "left" = some (some u8)) (h9 : PySem.W.nsIn K pd "right" = some (some u9)) (n1 : PySem.W.nsIn K pd "number" = some none) (n2 : PySem.W.nsIn K pd "name" = some none) (n3 : PySem.W.nsIn K pd "fun" = some none) (n4 : PySem.W.nsIn K pd "shut" = some none)
    {dd : Addr} {esd : Array DictEntry} {ndd : Nat} {q7 : Tok} (aD : PySem.W.nsIn K mainGlobals "DUES" = some (some (.ref dd))) (lD : K.lookup dd = some ⟨.type "dict", none, .dict esd ndd, #[]⟩) (tD : PySem.W.KeysLit w.params esd.toList) (wD : (dd == sysModules) = false)
    (r1 : PySem.W.nsIn K dd "fun" = some (some (.ref fDueOfCall))) (r2 : PySem.W.nsIn K dd "give" = some (some (.ref fDueOfGive))) (r3 : PySem.W.nsIn K dd "let" = some (some (.ref fDueOfLet))) (r4 : PySem.W.nsIn K dd "shut" = some (some (.ref fDueOfShut))) (r5 : PySem.W.nsIn K dd "plus" = some (some (.ref fDueOfTwo))) (r6 : PySem.W.nsIn K dd "less" = some (some (.ref fDueOfTwo))) (r7 : PySem.W.nsIn K dd "times" = some (some (.ref fDueOfTwo))) (r8 : PySem.W.nsIn K dd "below" = some (some (.ref fDueOfTwo))) (r9 : PySem.W.nsIn K dd "when" = some (some (.ref fDueOfWhen))) (r10 : PySem.W.nsIn K dd "left" = some (some (.ref fDueOfSide))) (r11 : PySem.W.nsIn K dd "right" = some (some (.ref fDueOfSide)))
    (gBEYOND : PySem.W.nsIn K mainGlobals "BEYOND" = some (some (.int beyond q7))) :
    ∃ fd : FuncData, (∀ (s : Shared) (v : Value), BindsTo s fd ⟨[v], []⟩ [("_law_script", v)]) ∧ ∀ base : Heap, K.In base → base.Ns mainGlobals mg → FnOk l.prog w K mg base CX0 231 fa fd ["_law_script"] (spLaw K) := by
  have e := hfa.symm.trans (PySem.W.mg_of X G aLaw)
  cases e
  have FFits := fun_mk (st := sFits) lFits cFits kFits
  have bFits := FFits.binds (ps := ["n"]) fun _ _ _ _ _ _ us hl => match us, hl with | [_], _ => rfl
  have mFits := PySem.W.mg_of X G aFits
  have FComeOf := fun_mk (st := sComeOf) lComeOf cComeOf kComeOf
  have bComeOf := FComeOf.binds (ps := ["kind", "a", "b"]) fun _ _ _ _ _ _ us hl => match us, hl with | [_, _, _], _ => rfl
  have mComeOf := PySem.W.mg_of X G aComeOf
  have FWithin := fun_mk (st := sWithin) lWithin cWithin kWithin
  have bWithin := FWithin.binds (ps := ["part"]) fun _ _ _ _ _ _ us hl => match us, hl with | [_], _ => rfl
  have mWithin := PySem.W.mg_of X G aWithin
  have FAllIn := fun_mk (st := sAllIn) lAllIn cAllIn kAllIn
  have bAllIn := FAllIn.binds (ps := ["part"]) fun _ _ _ _ _ _ us hl => match us, hl with | [_], _ => rfl
  have mAllIn := PySem.W.mg_of X G aAllIn
  have FAllFunctions := fun_mk (st := sAllFunctions) lAllFunctions cAllFunctions kAllFunctions
  have bAllFunctions := FAllFunctions.binds (ps := ["program"]) fun _ _ _ _ _ _ us hl => match us, hl with | [_], _ => rfl
  have mAllFunctions := PySem.W.mg_of X G aAllFunctions
  have FNumberOf := fun_mk (st := sNumberOf) lNumberOf cNumberOf kNumberOf
  have bNumberOf := FNumberOf.binds (ps := ["program", "f"]) fun _ _ _ _ _ _ us hl => match us, hl with | [_, _], _ => rfl
  have mNumberOf := PySem.W.mg_of X G aNumberOf
  have FFunctionOf := fun_mk (st := sFunctionOf) lFunctionOf cFunctionOf kFunctionOf
  have bFunctionOf := FFunctionOf.binds (ps := ["program", "f"]) fun _ _ _ _ _ _ us hl => match us, hl with | [_, _], _ => rfl
  have mFunctionOf := PySem.W.mg_of X G aFunctionOf
  have FWants := fun_mk (st := sWants) lWants cWants kWants
  have bWants := FWants.binds (ps := ["program", "f"]) fun _ _ _ _ _ _ us hl => match us, hl with | [_, _], _ => rfl
  have mWants := PySem.W.mg_of X G aWants
  have FMostWanted := fun_mk (st := sMostWanted) lMostWanted cMostWanted kMostWanted
  have bMostWanted := FMostWanted.binds (ps := ["program"]) fun _ _ _ _ _ _ us hl => match us, hl with | [_], _ => rfl
  have mMostWanted := PySem.W.mg_of X G aMostWanted
  have FMadeOf := fun_mk (st := sMadeOf) lMadeOf cMadeOf kMadeOf
  have bMadeOf := FMadeOf.binds (ps := ["part", "inner", "things"]) fun _ _ _ _ _ _ us hl => match us, hl with | [_, _, _], _ => rfl
  have mMadeOf := PySem.W.mg_of X G aMadeOf
  have FPutIn := fun_mk (st := sPutIn) lPutIn cPutIn kPutIn
  have bPutIn := FPutIn.binds (ps := ["part", "things"]) fun _ _ _ _ _ _ us hl => match us, hl with | [_, _], _ => rfl
  have mPutIn := PySem.W.mg_of X G aPutIn
  have FGiven := fun_mk (st := sGiven) lGiven cGiven kGiven
  have bGiven := FGiven.binds (ps := ["part"]) fun _ _ _ _ _ _ us hl => match us, hl with | [_], _ => rfl
  have mGiven := PySem.W.mg_of X G aGiven
  have FIsWorth := fun_mk (st := sIsWorth) lIsWorth cIsWorth kIsWorth
  have bIsWorth := FIsWorth.binds (ps := ["program", "part"]) fun _ _ _ _ _ _ us hl => match us, hl with | [_, _], _ => rfl
  have mIsWorth := PySem.W.mg_of X G aIsWorth
  have FDueOfCall := fun_mk (st := sDueOfCall) lDueOfCall cDueOfCall kDueOfCall
  have bDueOfCall := FDueOfCall.binds (ps := ["program", "part"]) fun _ _ _ _ _ _ us hl => match us, hl with | [_, _], _ => rfl
  have mDueOfCall := PySem.W.mg_of X G aDueOfCall
  have FDueOfGive := fun_mk (st := sDueOfGive) lDueOfGive cDueOfGive kDueOfGive
  have bDueOfGive := FDueOfGive.binds (ps := ["program", "part"]) fun _ _ _ _ _ _ us hl => match us, hl with | [_, _], _ => rfl
  have mDueOfGive := PySem.W.mg_of X G aDueOfGive
  have FDueOfLet := fun_mk (st := sDueOfLet) lDueOfLet cDueOfLet kDueOfLet
  have bDueOfLet := FDueOfLet.binds (ps := ["program", "part"]) fun _ _ _ _ _ _ us hl => match us, hl with | [_, _], _ => rfl
  have mDueOfLet := PySem.W.mg_of X G aDueOfLet
  have FDueOfShut := fun_mk (st := sDueOfShut) lDueOfShut cDueOfShut kDueOfShut
  have bDueOfShut := FDueOfShut.binds (ps := ["program", "part"]) fun _ _ _ _ _ _ us hl => match us, hl with | [_, _], _ => rfl
  have mDueOfShut := PySem.W.mg_of X G aDueOfShut
  have FDueOfTwo := fun_mk (st := sDueOfTwo) lDueOfTwo cDueOfTwo kDueOfTwo
  have bDueOfTwo := FDueOfTwo.binds (ps := ["program", "part"]) fun _ _ _ _ _ _ us hl => match us, hl with | [_, _], _ => rfl
  have mDueOfTwo := PySem.W.mg_of X G aDueOfTwo
  have FDueOfWhen := fun_mk (st := sDueOfWhen) lDueOfWhen cDueOfWhen kDueOfWhen
  have bDueOfWhen := FDueOfWhen.binds (ps := ["program", "part"]) fun _ _ _ _ _ _ us hl => match us, hl with | [_, _], _ => rfl
  have mDueOfWhen := PySem.W.mg_of X G aDueOfWhen
  have FDueOfSide := fun_mk (st := sDueOfSide) lDueOfSide cDueOfSide kDueOfSide
  have bDueOfSide := FDueOfSide.binds (ps := ["program", "part"]) fun _ _ _ _ _ _ us hl => match us, hl with | [_, _], _ => rfl
  have mDueOfSide := PySem.W.mg_of X G aDueOfSide
  have FDue := fun_mk (st := sDue) lDue cDue kDue
  have bDue := FDue.binds (ps := ["program", "part"]) fun _ _ _ _ _ _ us hl => match us, hl with | [_, _], _ => rfl
  have mDue := PySem.W.mg_of X G aDue
  have FPutBack := fun_mk (st := sPutBack) lPutBack cPutBack kPutBack
  have bPutBack := FPutBack.binds (ps := ["part", "outer", "at"]) fun _ _ _ _ _ _ us hl => match us, hl with | [_, _, _], _ => rfl
  have mPutBack := PySem.W.mg_of X G aPutBack
  have FGoToStep := fun_mk (st := sGoToStep) lGoToStep cGoToStep kGoToStep
  have bGoToStep := FGoToStep.binds (ps := ["program", "part", "around"]) fun _ _ _ _ _ _ us hl => match us, hl with | [_, _, _], _ => rfl
  have mGoToStep := PySem.W.mg_of X G aGoToStep
  have FStep := fun_mk (st := sStep) lStep cStep kStep
  have bStep := FStep.binds (ps := ["program", "part"]) fun _ _ _ _ _ _ us hl => match us, hl with | [_, _], _ => rfl
  have mStep := PySem.W.mg_of X G aStep
  have FLPen := fun_mk (st := sLPen) lLPen cLPen kLPen
  have bLPen := FLPen.binds (ps := ["_law_script"]) fun _ _ _ _ _ _ us hl => match us, hl with | [_], _ => rfl
  have mLPen := PySem.W.mg_of X G aLPen
  have FLDraw := fun_mk (st := sLDraw) lLDraw cLDraw kLDraw
  have bLDraw := FLDraw.binds (ps := ["_law_pen_here", "_law_many"]) fun _ _ _ _ _ _ us hl => match us, hl with | [_, _], _ => rfl
  have mLDraw := PySem.W.mg_of X G aLDraw
  have FLNames := fun_mk (st := sLNames) lLNames cLNames kLNames
  have bLNames := FLNames.binds (ps := ["_law_pen_here", "_law_many"]) fun _ _ _ _ _ _ us hl => match us, hl with | [_, _], _ => rfl
  have mLNames := PySem.W.mg_of X G aLNames
  have FLNumber := fun_mk (st := sLNumber) lLNumber cLNumber kLNumber
  have bLNumber := FLNumber.binds (ps := ["_law_pen_here"]) fun _ _ _ _ _ _ us hl => match us, hl with | [_], _ => rfl
  have mLNumber := PySem.W.mg_of X G aLNumber
  have FLLeaf := fun_mk (st := sLLeaf) lLLeaf cLLeaf kLLeaf
  have bLLeaf := FLLeaf.binds (ps := ["_law_pen_here", "_law_world", "_law_scope", "_law_want"]) fun _ _ _ _ _ _ us hl => match us, hl with | [_, _, _, _], _ => rfl
  have mLLeaf := PySem.W.mg_of X G aLLeaf
  have FLFits := fun_mk (st := sLFits) lLFits cLFits kLFits
  have bLFits := FLFits.binds (ps := ["_law_room", "_law_many"]) fun _ _ _ _ _ _ us hl => match us, hl with | [_, _], _ => rfl
  have mLFits := PySem.W.mg_of X G aLFits
  have FLCall := fun_mk (st := sLCall) lLCall cLCall kLCall
  have bLCall := FLCall.binds (ps := ["_law_pen_here", "_law_world", "_law_scope", "_law_room", "_law_want"]) fun _ _ _ _ _ _ us hl => match us, hl with | [_, _, _, _, _], _ => rfl
  have mLCall := PySem.W.mg_of X G aLCall
  have FLLet := fun_mk (st := sLLet) lLLet cLLet kLLet
  have bLLet := FLLet.binds (ps := ["_law_pen_here", "_law_world", "_law_scope", "_law_room", "_law_want"]) fun _ _ _ _ _ _ us hl => match us, hl with | [_, _, _, _, _], _ => rfl
  have mLLet := PySem.W.mg_of X G aLLet
  have FLPart := fun_mk (st := sLPart) lLPart cLPart kLPart
  have bLPart := FLPart.binds (ps := ["_law_pen_here", "_law_world", "_law_scope", "_law_room", "_law_want"]) fun _ _ _ _ _ _ us hl => match us, hl with | [_, _, _, _, _], _ => rfl
  have mLPart := PySem.W.mg_of X G aLPart
  have FLLoop := fun_mk (st := sLLoop) lLLoop cLLoop kLLoop
  have bLLoop := FLLoop.binds (ps := ["_law_pen_here", "_law_world", "_law_me", "_law_things", "_law_room"]) fun _ _ _ _ _ _ us hl => match us, hl with | [_, _, _, _, _], _ => rfl
  have mLLoop := PySem.W.mg_of X G aLLoop
  have FLBody := fun_mk (st := sLBody) lLBody cLBody kLBody
  have bLBody := FLBody.binds (ps := ["_law_pen_here", "_law_world", "_law_me", "_law_things", "_law_stock"]) fun _ _ _ _ _ _ us hl => match us, hl with | [_, _, _, _, _], _ => rfl
  have mLBody := PySem.W.mg_of X G aLBody
  have FLProgram := fun_mk (st := sLProgram) lLProgram cLProgram kLProgram
  have bLProgram := FLProgram.binds (ps := ["_law_pen_here"]) fun _ _ _ _ _ _ us hl => match us, hl with | [_], _ => rfl
  have mLProgram := PySem.W.mg_of X G aLProgram
  have FLWants := fun_mk (st := sLWants) lLWants cLWants kLWants
  have bLWants := FLWants.binds (ps := ["_law_program_here", "_law_f"]) fun _ _ _ _ _ _ us hl => match us, hl with | [_, _], _ => rfl
  have mLWants := PySem.W.mg_of X G aLWants
  have FLShut := fun_mk (st := sLShut) lLShut cLShut kLShut
  have bLShut := FLShut.binds (ps := ["_law_pen_here", "_law_part_here", "_law_scope"]) fun _ _ _ _ _ _ us hl => match us, hl with | [_, _, _], _ => rfl
  have mLShut := PySem.W.mg_of X G aLShut
  have FLPut := fun_mk (st := sLPut) lLPut cLPut kLPut
  have bLPut := FLPut.binds (ps := ["_law_part_here", "_law_things"]) fun _ _ _ _ _ _ us hl => match us, hl with | [_, _], _ => rfl
  have mLPut := PySem.W.mg_of X G aLPut
  have FLSpine := fun_mk (st := sLSpine) lLSpine cLSpine kLSpine
  have bLSpine := FLSpine.binds (ps := ["_law_part_here"]) fun _ _ _ _ _ _ us hl => match us, hl with | [_], _ => rfl
  have mLSpine := PySem.W.mg_of X G aLSpine
  have FLIsWorth := fun_mk (st := sLIsWorth) lLIsWorth cLIsWorth kLIsWorth
  have bLIsWorth := FLIsWorth.binds (ps := ["_law_program_here", "_law_part_here"]) fun _ _ _ _ _ _ us hl => match us, hl with | [_, _], _ => rfl
  have mLIsWorth := PySem.W.mg_of X G aLIsWorth
  have FLWithin := fun_mk (st := sLWithin) lLWithin cLWithin kLWithin
  have bLWithin := FLWithin.binds (ps := ["_law_program_here", "_law_part_here", "_law_at"]) fun _ _ _ _ _ _ us hl => match us, hl with | [_, _, _], _ => rfl
  have mLWithin := PySem.W.mg_of X G aLWithin
  have FLCallOf := fun_mk (st := sLCallOf) lLCallOf cLCallOf kLCallOf
  have bLCallOf := FLCallOf.binds (ps := ["_law_program_here", "_law_part_here"]) fun _ _ _ _ _ _ us hl => match us, hl with | [_, _], _ => rfl
  have mLCallOf := PySem.W.mg_of X G aLCallOf
  have FLOfTwo := fun_mk (st := sLOfTwo) lLOfTwo cLOfTwo kLOfTwo
  have bLOfTwo := FLOfTwo.binds (ps := ["_law_kind", "_law_one", "_law_other"]) fun _ _ _ _ _ _ us hl => match us, hl with | [_, _, _], _ => rfl
  have mLOfTwo := PySem.W.mg_of X G aLOfTwo
  have FLStep := fun_mk (st := sLStep) lLStep cLStep kLStep
  have bLStep := FLStep.binds (ps := ["_law_program_here", "_law_part_here"]) fun _ _ _ _ _ _ us hl => match us, hl with | [_, _], _ => rfl
  have mLStep := PySem.W.mg_of X G aLStep
  have FLAround := fun_mk (st := sLAround) lLAround cLAround kLAround
  have bLAround := FLAround.binds (ps := ["_law_pen_here", "_law_one", "_law_other"]) fun _ _ _ _ _ _ us hl => match us, hl with | [_, _, _], _ => rfl
  have mLAround := PySem.W.mg_of X G aLAround
  have FLaw := fun_mk (st := sLaw) lLaw cLaw kLaw
  have bLaw := FLaw.binds (ps := ["_law_script"]) fun _ _ _ _ _ _ us hl => match us, hl with | [_], _ => rfl
  have mLaw := PySem.W.mg_of X G aLaw
  have B : Bt mg := ⟨PySem.W.mg_none_of X G zlen, PySem.W.mg_none_of X G zmax, PySem.W.mg_none_of X G zmin, PySem.W.mg_none_of X G zabs, PySem.W.mg_none_of X G zrange, PySem.W.mg_none_of X G zint, PySem.W.mg_none_of X G zlist, PySem.W.mg_none_of X G ztuple, PySem.W.mg_none_of X G zsum, PySem.W.mg_none_of X G zisinstance⟩
  refine ⟨PySem.W.fnOf "law" "law" (defArgs sLaw) (defBody sLaw) (defScope sLaw) .none kVLaw dcLaw pmLaw anLaw cdLaw ctLaw, fun s v => .of_eq rfl, fun base _ _ => ?_⟩
  have DK : KDict K w pd es n := ⟨lP, tP, wP⟩
  have O := po_mk h1 h2 h3 h4 h5 h6 h7 h8 h9 n1 n2 n3
  have CLDraw := cal_mk (P := l.prog) (w := w) (base := base) FLDraw (ok_draw FLDraw B) mLDraw bLDraw
  have CLNames := cal_mk (P := l.prog) (w := w) (base := base) FLNames (ok_names FLNames B CLDraw) mLNames bLNames
  have CLNumber := cal_mk (P := l.prog) (w := w) (base := base) FLNumber (ok_number FLNumber B CLDraw) mLNumber bLNumber
  have CLLeaf := cal_mk (P := l.prog) (w := w) (base := base) FLLeaf (ok_leaf FLLeaf B CLDraw CLNumber) mLLeaf bLLeaf
  have CLFits := cal_mk (P := l.prog) (w := w) (base := base) FLFits (ok_fits FLFits) mLFits bLFits
  have parts : ∀ k, C8.Cal l.prog w K mg base (2 * k + 4) "_law_part" (spPart K k) [] := fun k => by
    induction k with
    | zero => exact cal_mk FLPart no_part mLPart bLPart
    | succ k ih =>
      have c1 := cal_mk FLCall (ok_call (by omega) FLCall B CLDraw CLLeaf CLFits ih) mLCall bLCall
      have c2 := cal_mk FLLet (ok_let (by omega) FLLet B CLDraw CLLeaf CLFits ih) mLLet bLLet
      exact cal_mk FLPart (ok_part (by omega) FLPart B CLDraw CLLeaf CLFits ih c1 c2) mLPart bLPart
  have CLPart := parts 12
  have CLLoop := cal_mk FLLoop (ok_loop (by omega) (by omega) FLLoop B CLDraw CLPart) mLLoop bLLoop
  have CLBody := cal_mk FLBody (ok_body (by omega) FLBody B CLDraw CLPart CLLoop) mLBody bLBody
  have CLProgram := cal_mk FLProgram ((ok_program (by omega) FLProgram B CLDraw CLNames CLBody).mono (k := 230) (by omega)) mLProgram bLProgram
  have CLPen := cal_mk (P := l.prog) (w := w) (base := base) FLPen (ok_pen FLPen B) mLPen bLPen
  have CWithin := cal_mk (P := l.prog) (w := w) (base := base) FWithin (ok_win FWithin B (PySem.W.mg_of X G aP) DK ⟨O, n4⟩) mWithin bWithin
  have CAllIn := cal_mk (P := l.prog) (w := w) (K := K) (base := base) FAllIn (ok_alw FAllIn CWithin) mAllIn bAllIn
  have CMadeOf := cal_mk (P := l.prog) (w := w) (K := K) (base := base) FMadeOf (ok_made FMadeOf B (PySem.W.mg_none_of X G zzip)) mMadeOf bMadeOf
  have CPutIn := cal_mk (P := l.prog) (w := w) (K := K) (base := base) FPutIn (ok_putIn FPutIn (PySem.W.mg_none_of X G zreversed) CWithin CAllIn CMadeOf) mPutIn bPutIn
  have lputs : ∀ k, C8.Cal l.prog w K mg base (k + 1) "_law_put" (spLPut K k) [] := fun k => by
    induction k with
    | zero => exact cal_mk FLPut no_lput mLPut bLPut
    | succ k ih => exact cal_mk FLPut (ok_lput (by omega) FLPut B ih) mLPut bLPut
  have mzip := PySem.W.mg_none_of X G zzip
  have mdict := PySem.W.mg_none_of X G zdict
  have mBEYOND := PySem.W.mg_of X G gBEYOND
  have DD : KDict K w dd esd ndd := ⟨lD, tD, wD⟩
  have CAllFunctions := cal_mk (P := l.prog) (w := w) (K := K) (base := base) FAllFunctions (ok_funs FAllFunctions) mAllFunctions bAllFunctions
  have CNumberOf := cal_mk (P := l.prog) (w := w) (K := K) (base := base) FNumberOf (ok_numOf FNumberOf CAllFunctions) mNumberOf bNumberOf
  have CFunctionOf := cal_mk (P := l.prog) (w := w) (K := K) (base := base) FFunctionOf (ok_funOf FFunctionOf CAllFunctions CNumberOf) mFunctionOf bFunctionOf
  have CWants := cal_mk (P := l.prog) (w := w) (K := K) (base := base) FWants (ok_wants FWants B CFunctionOf) mWants bWants
  have CMostWanted := cal_mk (P := l.prog) (w := w) (K := K) (base := base) FMostWanted (ok_most FMostWanted B) mMostWanted bMostWanted
  have CIsWorth := cal_mk (P := l.prog) (w := w) (K := K) (base := base) FIsWorth ((ok_worth FIsWorth CMostWanted CWants).imp (sp' := spIsW K) fun _ _ _ _ h => isW_of h) mIsWorth bIsWorth
  have CGiven := cal_mk (P := l.prog) (w := w) (K := K) (base := base) FGiven (ok_given FGiven) mGiven bGiven
  have okCall := ok_dueCall (P := l.prog) (w := w) (K := K) (base := base) FDueOfCall mdict mzip CGiven CFunctionOf CPutIn
  have CDueOfCall := cal_mk FDueOfCall okCall mDueOfCall bDueOfCall
  have CFits := cal_mk (P := l.prog) (w := w) (K := K) (base := base) FFits (ok_fitP FFits B.abs mBEYOND) mFits bFits
  have CComeOf := cal_mk (P := l.prog) (w := w) (K := K) (base := base) FComeOf (ok_come FComeOf CFits) mComeOf bComeOf
  have R := rules_mk (P := l.prog) (w := w) (mg := mg) (base := base) ⟨_, _, (okCall.imp (sp' := spRule K ["fun"]) fun _ _ _ _ h => rule_fun h).mono (by omega), kDueOfCall, bDueOfCall⟩ ⟨_, _, ok_dueGive FDueOfGive CIsWorth CDueOfCall, kDueOfGive, bDueOfGive⟩ ⟨_, _, (ok_dueLet FDueOfLet CPutIn).mono (by omega), kDueOfLet, bDueOfLet⟩ ⟨_, _, (ok_dueShut FDueOfShut).mono (by omega), kDueOfShut, bDueOfShut⟩ ⟨_, _, ok_dueTwo FDueOfTwo CIsWorth CComeOf, kDueOfTwo, bDueOfTwo⟩ ⟨_, _, ok_dueWhen FDueOfWhen CIsWorth, kDueOfWhen, bDueOfWhen⟩ ⟨_, _, ok_dueSide FDueOfSide CIsWorth, kDueOfSide, bDueOfSide⟩
    (by
      simp only [List.nodup_cons, List.mem_cons, List.not_mem_nil, or_false, not_or, not_false_eq_true, List.nodup_nil, and_true]
      refine ⟨⟨?_, ?_, ?_, ?_, ?_, ?_⟩, ⟨?_, ?_, ?_, ?_, ?_⟩, ⟨?_, ?_, ?_, ?_⟩, ⟨?_, ?_, ?_⟩, ⟨?_, ?_⟩, ?_⟩
      · exact apart_fn lDueOfCall lDueOfGive (show ("due_of_call" : Str) ≠ "due_of_give" by decide +kernel)
      · exact apart_fn lDueOfCall lDueOfLet (show ("due_of_call" : Str) ≠ "due_of_let" by decide +kernel)
      · exact apart_fn lDueOfCall lDueOfShut (show ("due_of_call" : Str) ≠ "due_of_shut" by decide +kernel)
      · exact apart_fn lDueOfCall lDueOfTwo (show ("due_of_call" : Str) ≠ "due_of_two" by decide +kernel)
      · exact apart_fn lDueOfCall lDueOfWhen (show ("due_of_call" : Str) ≠ "due_of_when" by decide +kernel)
      · exact apart_fn lDueOfCall lDueOfSide (show ("due_of_call" : Str) ≠ "due_of_side" by decide +kernel)
      · exact apart_fn lDueOfGive lDueOfLet (show ("due_of_give" : Str) ≠ "due_of_let" by decide +kernel)
      · exact apart_fn lDueOfGive lDueOfShut (show ("due_of_give" : Str) ≠ "due_of_shut" by decide +kernel)
      · exact apart_fn lDueOfGive lDueOfTwo (show ("due_of_give" : Str) ≠ "due_of_two" by decide +kernel)
      · exact apart_fn lDueOfGive lDueOfWhen (show ("due_of_give" : Str) ≠ "due_of_when" by decide +kernel)
      · exact apart_fn lDueOfGive lDueOfSide (show ("due_of_give" : Str) ≠ "due_of_side" by decide +kernel)
      · exact apart_fn lDueOfLet lDueOfShut (show ("due_of_let" : Str) ≠ "due_of_shut" by decide +kernel)
      · exact apart_fn lDueOfLet lDueOfTwo (show ("due_of_let" : Str) ≠ "due_of_two" by decide +kernel)
      · exact apart_fn lDueOfLet lDueOfWhen (show ("due_of_let" : Str) ≠ "due_of_when" by decide +kernel)
      · exact apart_fn lDueOfLet lDueOfSide (show ("due_of_let" : Str) ≠ "due_of_side" by decide +kernel)
      · exact apart_fn lDueOfShut lDueOfTwo (show ("due_of_shut" : Str) ≠ "due_of_two" by decide +kernel)
      · exact apart_fn lDueOfShut lDueOfWhen (show ("due_of_shut" : Str) ≠ "due_of_when" by decide +kernel)
      · exact apart_fn lDueOfShut lDueOfSide (show ("due_of_shut" : Str) ≠ "due_of_side" by decide +kernel)
      · exact apart_fn lDueOfTwo lDueOfWhen (show ("due_of_two" : Str) ≠ "due_of_when" by decide +kernel)
      · exact apart_fn lDueOfTwo lDueOfSide (show ("due_of_two" : Str) ≠ "due_of_side" by decide +kernel)
      · exact apart_fn lDueOfWhen lDueOfSide (show ("due_of_when" : Str) ≠ "due_of_side" by decide +kernel))
    r1 r2 r3 r4 r5 r6 r7 r8 r9 r10 r11
  have CDue := cal_mk (P := l.prog) (w := w) (K := K) (base := base) FDue (ok_due FDue (PySem.W.mg_of X G aD) DD R CIsWorth) mDue bDue
  have CPutBack := cal_mk (P := l.prog) (w := w) (K := K) (base := base) FPutBack (ok_putBack FPutBack) mPutBack bPutBack
  have CGoToStep := cal_mk (P := l.prog) (w := w) (K := K) (base := base) FGoToStep (ok_go FGoToStep CDue CPutBack) mGoToStep bGoToStep
  have CStep := cal_mk (P := l.prog) (w := w) (K := K) (base := base) FStep (ok_step FStep CGoToStep CPutBack) mStep bStep
  have shuts : ∀ k, C8.Cal l.prog w K mg base (k + 1) "_law_shut" (spShut K k) [] := fun k => by
    induction k with
    | zero => exact cal_mk FLShut no_shut mLShut bLShut
    | succ k ih => exact cal_mk FLShut (ok_shut (by omega) FLShut B CLDraw ih) mLShut bLShut
  have CLSpine := cal_mk (P := l.prog) (w := w) (K := K) (base := base) FLSpine (ok_lspine FLSpine) mLSpine bLSpine
  have CLWants := cal_mk (P := l.prog) (w := w) (K := K) (base := base) FLWants (ok_lwants FLWants B) mLWants bLWants
  have CLIsWorth := cal_mk (P := l.prog) (w := w) (K := K) (base := base) FLIsWorth (ok_lworth FLIsWorth B CLSpine CLWants) mLIsWorth bLIsWorth
  have CLCallOf := cal_mk (P := l.prog) (w := w) (K := K) (base := base) FLCallOf (ok_lcall FLCallOf mzip CLSpine (lputs 12)) mLCallOf bLCallOf
  have CLOfTwo := cal_mk (P := l.prog) (w := w) (K := K) (base := base) FLOfTwo (ok_ltwo FLOfTwo B) mLOfTwo bLOfTwo
  have steps : ∀ k, C8.Cal l.prog w K mg base (2 * k + 14) "_law_step" (spLStep K k) [] := fun k => by
    induction k with
    | zero => exact cal_mk FLStep no_lstep mLStep bLStep
    | succ k ih =>
      have c1 := cal_mk FLWithin (ok_lwithin (by omega) FLWithin ih) mLWithin bLWithin
      exact cal_mk FLStep (ok_lstep (by omega) FLStep B CLCallOf (lputs 12) CLIsWorth CLOfTwo c1) mLStep bLStep
  have CLAround := cal_mk (P := l.prog) (w := w) (K := K) (base := base) FLAround (ok_around FLAround CLDraw) mLAround bLAround
  exact ok_law (j := 230) (by omega) FLaw B CLPen CLDraw CLProgram (shuts 12) CLAround CIsWorth CLIsWorth (steps 104) CStep
end Lz
open PySem PySem.W PyProof.Rows
set_option maxRecDepth 100000 in
set_option maxHeartbeats 0 in
theorem PySem.Challenge.cw_lazywebs_k10_steps_one_by_one_holds : PySem.Challenge.rw_lazywebs_k10_steps_one_by_one.Holds := by
  w_on; o_law; k_head; (case hw => w_witness2)
  k_fill
  refine L2.walk_of (l := PySem.Challenge.rw_lazywebs_k10_steps_one_by_one) (n := 63) (k := 231) (x := "_law_script") (CX := fun _ => L2.CX0) (sp := fun w => Lz.spLaw _) rfl (by decide) rfl ⟨rfl, by decide, by decide⟩ (fun w h Y => PySem.W.kIn_of Y) ?F (fun _ _ a ns hl _ hS => ⟨a, ns, rfl, hS, hl, fun _ => rfl⟩) (fun _ _ _ _ _ h => h)
  case F =>
    intro w mg fa h KX G hmg
    refine' Lz.all_mk KX G hmg ?aFits ?lFits ?cFits ?kFits ?aComeOf ?lComeOf ?cComeOf ?kComeOf ?aWithin ?lWithin ?cWithin ?kWithin ?aAllIn ?lAllIn ?cAllIn ?kAllIn ?aAllFunctions ?lAllFunctions ?cAllFunctions ?kAllFunctions ?aNumberOf ?lNumberOf ?cNumberOf ?kNumberOf ?aFunctionOf ?lFunctionOf ?cFunctionOf ?kFunctionOf ?aWants ?lWants ?cWants ?kWants ?aMostWanted ?lMostWanted ?cMostWanted ?kMostWanted ?aMadeOf ?lMadeOf ?cMadeOf ?kMadeOf ?aPutIn ?lPutIn ?cPutIn ?kPutIn ?aGiven ?lGiven ?cGiven ?kGiven ?aIsWorth ?lIsWorth ?cIsWorth ?kIsWorth ?aDueOfCall ?lDueOfCall ?cDueOfCall ?kDueOfCall ?aDueOfGive ?lDueOfGive ?cDueOfGive ?kDueOfGive ?aDueOfLet ?lDueOfLet ?cDueOfLet ?kDueOfLet ?aDueOfShut ?lDueOfShut ?cDueOfShut ?kDueOfShut ?aDueOfTwo ?lDueOfTwo ?cDueOfTwo ?kDueOfTwo ?aDueOfWhen ?lDueOfWhen ?cDueOfWhen ?kDueOfWhen ?aDueOfSide ?lDueOfSide ?cDueOfSide ?kDueOfSide ?aDue ?lDue ?cDue ?kDue ?aPutBack ?lPutBack ?cPutBack ?kPutBack ?aGoToStep ?lGoToStep ?cGoToStep ?kGoToStep ?aStep ?lStep ?cStep ?kStep ?aLPen ?lLPen ?cLPen ?kLPen ?aLDraw ?lLDraw ?cLDraw ?kLDraw ?aLNames ?lLNames ?cLNames ?kLNames ?aLNumber ?lLNumber ?cLNumber ?kLNumber ?aLLeaf ?lLLeaf ?cLLeaf ?kLLeaf ?aLFits ?lLFits ?cLFits ?kLFits ?aLCall ?lLCall ?cLCall ?kLCall ?aLLet ?lLLet ?cLLet ?kLLet ?aLPart ?lLPart ?cLPart ?kLPart ?aLLoop ?lLLoop ?cLLoop ?kLLoop ?aLBody ?lLBody ?cLBody ?kLBody ?aLProgram ?lLProgram ?cLProgram ?kLProgram ?aLWants ?lLWants ?cLWants ?kLWants ?aLShut ?lLShut ?cLShut ?kLShut ?aLPut ?lLPut ?cLPut ?kLPut ?aLSpine ?lLSpine ?cLSpine ?kLSpine ?aLIsWorth ?lLIsWorth ?cLIsWorth ?kLIsWorth ?aLWithin ?lLWithin ?cLWithin ?kLWithin ?aLCallOf ?lLCallOf ?cLCallOf ?kLCallOf ?aLOfTwo ?lLOfTwo ?cLOfTwo ?kLOfTwo ?aLStep ?lLStep ?cLStep ?kLStep ?aLAround ?lLAround ?cLAround ?kLAround ?aLaw ?lLaw ?cLaw ?kLaw ?zlen ?zmax ?zmin ?zabs ?zrange ?zint ?zlist ?ztuple ?zsum ?zisinstance ?zbool ?zdict ?zzip ?zreversed ?aP ?lP ?tP ?wP ?h1 ?h2 ?h3 ?h4 ?h5 ?h6 ?h7 ?h8 ?h9 ?n1 ?n2 ?n3 ?n4 ?aD ?lD ?tD ?wD ?r1 ?r2 ?r3 ?r4 ?r5 ?r6 ?r7 ?r8 ?r9 ?r10 ?r11 ?gBEYOND
    (case aFits => k_is); (case lFits => k_is); (case cFits => k_is); (case kFits => k_is)
    (case aComeOf => k_is); (case lComeOf => k_is); (case cComeOf => k_is); (case kComeOf => k_is)
    (case aWithin => k_is); (case lWithin => k_is); (case cWithin => k_is); (case kWithin => k_is)
    (case aAllIn => k_is); (case lAllIn => k_is); (case cAllIn => k_is); (case kAllIn => k_is)
    (case aAllFunctions => k_is); (case lAllFunctions => k_is); (case cAllFunctions => k_is); (case kAllFunctions => k_is)
    (case aNumberOf => k_is); (case lNumberOf => k_is); (case cNumberOf => k_is); (case kNumberOf => k_is)
    (case aFunctionOf => k_is); (case lFunctionOf => k_is); (case cFunctionOf => k_is); (case kFunctionOf => k_is)
    (case aWants => k_is); (case lWants => k_is); (case cWants => k_is); (case kWants => k_is)
    (case aMostWanted => k_is); (case lMostWanted => k_is); (case cMostWanted => k_is); (case kMostWanted => k_is)
    (case aMadeOf => k_is); (case lMadeOf => k_is); (case cMadeOf => k_is); (case kMadeOf => k_is)
    (case aPutIn => k_is); (case lPutIn => k_is); (case cPutIn => k_is); (case kPutIn => k_is)
    (case aGiven => k_is); (case lGiven => k_is); (case cGiven => k_is); (case kGiven => k_is)
    (case aIsWorth => k_is); (case lIsWorth => k_is); (case cIsWorth => k_is); (case kIsWorth => k_is)
    (case aDueOfCall => k_is); (case lDueOfCall => k_is); (case cDueOfCall => k_is); (case kDueOfCall => k_is)
    (case aDueOfGive => k_is); (case lDueOfGive => k_is); (case cDueOfGive => k_is); (case kDueOfGive => k_is)
    (case aDueOfLet => k_is); (case lDueOfLet => k_is); (case cDueOfLet => k_is); (case kDueOfLet => k_is)
    (case aDueOfShut => k_is); (case lDueOfShut => k_is); (case cDueOfShut => k_is); (case kDueOfShut => k_is)
    (case aDueOfTwo => k_is); (case lDueOfTwo => k_is); (case cDueOfTwo => k_is); (case kDueOfTwo => k_is)
    (case aDueOfWhen => k_is); (case lDueOfWhen => k_is); (case cDueOfWhen => k_is); (case kDueOfWhen => k_is)
    (case aDueOfSide => k_is); (case lDueOfSide => k_is); (case cDueOfSide => k_is); (case kDueOfSide => k_is)
    (case aDue => k_is); (case lDue => k_is); (case cDue => k_is); (case kDue => k_is)
    (case aPutBack => k_is); (case lPutBack => k_is); (case cPutBack => k_is); (case kPutBack => k_is)
    (case aGoToStep => k_is); (case lGoToStep => k_is); (case cGoToStep => k_is); (case kGoToStep => k_is)
    (case aStep => k_is); (case lStep => k_is); (case cStep => k_is); (case kStep => k_is)
    (case aLPen => k_is); (case lLPen => k_is); (case cLPen => k_is); (case kLPen => k_is)
    (case aLDraw => k_is); (case lLDraw => k_is); (case cLDraw => k_is); (case kLDraw => k_is)
    (case aLNames => k_is); (case lLNames => k_is); (case cLNames => k_is); (case kLNames => k_is)
    (case aLNumber => k_is); (case lLNumber => k_is); (case cLNumber => k_is); (case kLNumber => k_is)
    (case aLLeaf => k_is); (case lLLeaf => k_is); (case cLLeaf => k_is); (case kLLeaf => k_is)
    (case aLFits => k_is); (case lLFits => k_is); (case cLFits => k_is); (case kLFits => k_is)
    (case aLCall => k_is); (case lLCall => k_is); (case cLCall => k_is); (case kLCall => k_is)
    (case aLLet => k_is); (case lLLet => k_is); (case cLLet => k_is); (case kLLet => k_is)
    (case aLPart => k_is); (case lLPart => k_is); (case cLPart => k_is); (case kLPart => k_is)
    (case aLLoop => k_is); (case lLLoop => k_is); (case cLLoop => k_is); (case kLLoop => k_is)
    (case aLBody => k_is); (case lLBody => k_is); (case cLBody => k_is); (case kLBody => k_is)
    (case aLProgram => k_is); (case lLProgram => k_is); (case cLProgram => k_is); (case kLProgram => k_is)
    (case aLWants => k_is); (case lLWants => k_is); (case cLWants => k_is); (case kLWants => k_is)
    (case aLShut => k_is); (case lLShut => k_is); (case cLShut => k_is); (case kLShut => k_is)
    (case aLPut => k_is); (case lLPut => k_is); (case cLPut => k_is); (case kLPut => k_is)
    (case aLSpine => k_is); (case lLSpine => k_is); (case cLSpine => k_is); (case kLSpine => k_is)
    (case aLIsWorth => k_is); (case lLIsWorth => k_is); (case cLIsWorth => k_is); (case kLIsWorth => k_is)
    (case aLWithin => k_is); (case lLWithin => k_is); (case cLWithin => k_is); (case kLWithin => k_is)
    (case aLCallOf => k_is); (case lLCallOf => k_is); (case cLCallOf => k_is); (case kLCallOf => k_is)
    (case aLOfTwo => k_is); (case lLOfTwo => k_is); (case cLOfTwo => k_is); (case kLOfTwo => k_is)
    (case aLStep => k_is); (case lLStep => k_is); (case cLStep => k_is); (case kLStep => k_is)
    (case aLAround => k_is); (case lLAround => k_is); (case cLAround => k_is); (case kLAround => k_is)
    (case aLaw => k_is); (case lLaw => k_is); (case cLaw => k_is); (case kLaw => k_is)
    (case zlen => k_is)
    (case zmax => k_is)
    (case zmin => k_is)
    (case zabs => k_is)
    (case zrange => k_is)
    (case zint => k_is)
    (case zlist => k_is)
    (case ztuple => k_is)
    (case zsum => k_is)
    (case zisinstance => k_is)
    (case zbool => k_is)
    (case zdict => k_is)
    (case zzip => k_is)
    (case zreversed => k_is)
    (case aP => k_is); (case lP => k_is)
    (case tP => exact ⟨⟨_, _, rfl, rfl⟩, ⟨_, _, rfl, rfl⟩, ⟨_, _, rfl, rfl⟩, ⟨_, _, rfl, rfl⟩, ⟨_, _, rfl, rfl⟩, ⟨_, _, rfl, rfl⟩, ⟨_, _, rfl, rfl⟩, ⟨_, _, rfl, rfl⟩, ⟨_, _, rfl, rfl⟩, True.intro⟩)
    (case wP => rfl)
    (case h1 => k_is); (case h2 => k_is); (case h3 => k_is); (case h4 => k_is); (case h5 => k_is); (case h6 => k_is); (case h7 => k_is); (case h8 => k_is); (case h9 => k_is)
    (case aD => k_is); (case lD => k_is)
    (case tD => exact ⟨⟨_, _, rfl, rfl⟩, ⟨_, _, rfl, rfl⟩, ⟨_, _, rfl, rfl⟩, ⟨_, _, rfl, rfl⟩, ⟨_, _, rfl, rfl⟩, ⟨_, _, rfl, rfl⟩, ⟨_, _, rfl, rfl⟩, ⟨_, _, rfl, rfl⟩, ⟨_, _, rfl, rfl⟩, ⟨_, _, rfl, rfl⟩, ⟨_, _, rfl, rfl⟩, True.intro⟩)
    (case wD => rfl)
    (case r1 => k_is); (case r2 => k_is); (case r3 => k_is); (case r4 => k_is); (case r5 => k_is); (case r6 => k_is); (case r7 => k_is); (case r8 => k_is); (case r9 => k_is); (case r10 => k_is); (case r11 => k_is)
    (case gBEYOND => k_is)
    (case n1 => k_is); (case n2 => k_is); (case n3 => k_is); (case n4 => k_is)

